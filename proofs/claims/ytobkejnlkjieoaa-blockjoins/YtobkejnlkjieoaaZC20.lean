/- cuts. -/
import Derived.Test.YtobkejnlkjieoaaZC19
import Derived.BigRegion
namespace Go.Proofs.Ytobkejnlkjieoaa
open Go.RowKit Go.Sort
open Go
theorem BRow.put {w : World} {base g n : Nat} {f : Nat → Bool} (h : BRow w base g n f) (i : Nat) (b : Bool) : BRow (w.setCell ⟨g, i, none⟩ (.bool b)) base g n (upd f i b) := by
  have q := (World.ownsRow.stored h i (.bool b)).1
  unfold BRow
  rw [show ((List.range n).map fun x => Value.bool (upd f i b x)) = ((List.range n).map fun x => Value.bool (f x)).set i (.bool b) from ?_]
  · exact q
  · refine List.ext_getElem (by simp) ?_
    intro k h1 h2
    simp only [List.getElem_map, List.getElem_range, List.getElem_set]
    by_cases e : i = k
    · rw [if_pos e, e, upd_same]
    · rw [if_neg e, upd_other _ _ (fun h => e h.symm)]
theorem brow_other {w : World} {b g n : Nat} {f : Nat → Bool} (h : BRow w b g n f) {k i : Nat} (hne : k ≠ g) (v : Value) : BRow (w.setCell ⟨k, i, none⟩ v) b g n f := ownsRow_setCell_other (a := ⟨k, i, none⟩) h (by simp [Value.ownBlock]; exact fun e => hne e.symm) v
/-- One half-edge more. -/
theorem ct_step (es : List Pt) (of : Nat → Int) (h v : Nat) (hv : fN es h = v) : ctB es of (h + 1) = (if (ctB es of h).1 v < 0 then upd (ctB es of h).1 v (of (h / 2)) else (ctB es of h).1, upd (ctB es of h).2 v ((ctB es of h).2 v || decide ((if (ctB es of h).1 v < 0 then upd (ctB es of h).1 v (of (h / 2)) else (ctB es of h).1) v ≠ of (h / 2)))) := by
  rw [ctB, hv]
set_option maxRecDepth 100000 in
set_option maxHeartbeats 16000000 in
theorem cuts39 (n : Nat) (p q : Option Addr) (es : List Pt) (of : Nat → Int) (cp cq : Nat) (w : World) (h : Has w p es) (hq : IHas w q (fnL es.length of)) (hm : netB n es = true) : Calls Try.prog 39 #[nv n p es.length cp, .slice q es.length cq] w fun e w' => ∃ v, e = .returned v ∧ IOwns w' w.heap.size v (cutB n es of) ∧ Below w.heap.size w w' := by
  obtain ⟨W, hW, hb, a0⟩ := one_net w n p es.length cp
  obtain ⟨n0, n1, hes, hE⟩ := netB_is hm
  have HEE := hide hE
  have HH := hide (h.later hb)
  have HQ := hide (hq.later hb)
  have HB := hide hb
  have HA := hide a0
  have hws : w.heap.size < W.heap.size := block_lt_of_cell a0.1
  obtain ⟨q0, q1, _, _⟩ := a0
  clear h hq hb hE hm
  obtain ⟨j0, hj0, jz0, jz1, jz2⟩ := info_parts info4
  obtain ⟨kb, hkb⟩ : ∃ kb, w.heap.size = kb := ⟨_, rfl⟩
  have HS : Hid (∀ V, Below W.heap.size W V → V.cell? ⟨kb, 0, none⟩ = some (.int .i64 n) ∧ V.cell? ⟨kb, 1, none⟩ = some (.slice p es.length cp)) := fun V hV => by
    obtain ⟨r0, r1, _, _⟩ := HA.out.later hV
    rw [hkb] at r0 r1
    exact ⟨r0, r1⟩
  have HKB := hide hkb
  go_enter Try.func39, Try.ntmps39
  go_upto_region 1 with fail
  rw [← hW]
  try rw [hkb]
  clear hW hkb q0 q1
  have hbV : Below W.heap.size W (W.alloc (.cells #[.int .i64 (-1)] 3)) := by go_grown
  have CR := hide (repeat52 W.heap.size n (-1) (W.alloc (.cells #[.int .i64 (-1)] 3)) (by omega) (one_int _ _))
  have HBV := hide hbV
  obtain ⟨q0, q1⟩ := HS.out _ hbV
  clear hbV
  go_wp2_with fail
  refine CR.out.mono ?_
  rintro e w1 ⟨gf, rfl, hI, hb1⟩
  have hs1 := hI.lt
  have HB1 := hide (below_step HBV.out hb1)
  have HSZ : Hid (w.heap.size ≤ W.heap.size) := Nat.le_of_lt hws
  have HI1 : Hid (IRow w1 w.heap.size gf n (fnL n (ctB es of 0).1)) := by
    show IRow _ _ _ _ _
    rw [show fnL n (ctB es of 0).1 = List.replicate n (-1) from fnL_const _ _]
    exact hI.base (by simp; omega)
  have hgf : W.heap.size ≤ gf := by have := hs1.1; simp at this; omega
  clear hI hb1 CR HBV q0 q1
  obtain ⟨q0, q1⟩ := HS.out w1 HB1.out
  go_wp2_with (refine wpList_make_full _ rfl (.tmp 19) (.tmp 19) 55 rfl w1.heap.size 4 j0 (.bool false) 1 Try.underlying55 hj0 jz0 jz1 .i64 .i64 _ _ n rfl rfl rfl rfl ?c1 ?c2 ?c3 ?_)
  case c1 => rw [jz2]; omega
  case c2 => unfold maxLen; omega
  case c3 => exact Nat.le_refl _
  intro w2 hown hgrow
  obtain ⟨gs, hgs⟩ : ∃ g, w1.heap.size = g := ⟨_, rfl⟩
  have hb2 := below_made hgrow
  have hsw1 := HB1.out.size
  have HG2 : Hid (BRow w2 w.heap.size gs n (ctB es of 0).2) := by
    show BRow _ _ _ _ _
    rw [hgs] at hown
    exact owns_base (brow_made (by simpa using hown)) (by omega)
  have HF2 := hide (HI1.out.later hb2)
  have HB2 := hide (below_step HB1.out hb2)
  have HNE : Hid (gf ≠ gs) := by show _ ≠ _; omega
  have HGG : Hid (W.heap.size ≤ gf ∧ W.heap.size ≤ gs) := ⟨hgf, by omega⟩
  rw [hgs]
  clear hown hgrow hb2 hgs hs1 HI1 HB1 hgf hsw1 q0 q1
  obtain ⟨q0, q1⟩ := HS.out w2 HB2.out
  go_wp2_with fail
  go_loopw [24] (fun t wr => ∃ i : Nat, i ≤ es.length ∧ t = .int .i64 i ∧ Hid (Below W.heap.size W wr) ∧ Hid (IRow wr w.heap.size gf n (fnL n (ctB es of (2 * i)).1)) ∧ Hid (BRow wr w.heap.size gs n (ctB es of (2 * i)).2)) (fun t _ => es.length - (intOf t).toNat)
  case atStart => exact ⟨0, by omega, rfl, HB2.out, HF2.out, HG2.out⟩
  case round =>
    clear HB2 HF2 HG2 q0 q1
    obtain ⟨i, hi, rfl, HBr, HF, HG⟩ := hrel
    by_cases hlt : i < es.length
    · obtain ⟨f0, f1, f2, f3⟩ := HEE.out i hlt
      have hq : ∃ b off, p = some ⟨b, off, none⟩ ∧ Lies W b off es := by
        rcases HH.out with h0 | h0
        · subst h0; simp at hlt
        · exact h0
      obtain ⟨b', off', rfl, hLW⟩ := hq
      obtain ⟨c0, c1⟩ := hLW.later HBr.out i hlt
      have i1 : (i : Int) < es.length := by omega
      have i2 : (0 : Int) ≤ i := by omega
      have nb : b' < wr.heap.size := block_lt_of_cell c0
      go_upto_region 6 with fail
      obtain ⟨V, hV⟩ : ∃ V, V = wr.alloc (.cells #[.int .i64 (at' es i).x, .int .i64 (at' es i).y] 56) := ⟨_, rfl⟩
      have hbV : Below wr.heap.size wr V := by rw [hV]; go_grown
      have HBV := hide (below_step HBr.out hbV)
      have HFV := hide (HF.out.later hbV)
      have HGV := hide (HG.out.later hbV)
      obtain ⟨kv, hkv⟩ : ∃ kv, wr.heap.size = kv := ⟨_, rfl⟩
      have l0 : V.cell? ⟨kv, 0, none⟩ = some (.int .i64 (at' es i).x) := by rw [hV, ← hkv]; go_cell
      have l1 : V.cell? ⟨kv, 1, none⟩ = some (.int .i64 (at' es i).y) := by rw [hV, ← hkv]; go_cell
      rw [← hV]
      try rw [hkv]
      clear hkv nb hV hbV c0 c1 HF HG HBr
      obtain ⟨o, ho⟩ : ∃ o, of i = o := ⟨_, rfl⟩
      have HO := hide ho
      obtain ⟨b, off, rfl, _⟩ := HQ.out.at_ (j := i) (by rw [fnL_length]; exact hlt)
      clear ho
      go_wp2_with fail
      go_loopw [30] (fun t wr => ∃ s : Nat, s ≤ 2 ∧ t = .int .i64 s ∧ Hid (Below W.heap.size W wr) ∧ Hid (IRow wr w.heap.size gf n (fnL n (ctB es of (2 * i + s)).1)) ∧ Hid (BRow wr w.heap.size gs n (ctB es of (2 * i + s)).2)) (fun t _ => 2 - (intOf t).toNat)
      case atStart => exact ⟨0, by omega, rfl, HBV.out, HFV.out, HGV.out⟩
      case round =>
        clear HBV HFV HGV l0 l1
        obtain ⟨s, hs, rfl, HBi, HRi, HGi⟩ := hrel
        have hF := HRi.out
        have hG := HGi.out
        have ho := HO.out
        obtain ⟨b2, off2, hb2, o0⟩ := (HQ.out.later HBi.out).at_ (j := i) (by rw [fnL_length]; exact hlt)
        simp only [Option.some.injEq, Addr.mk.injEq, and_true] at hb2
        obtain ⟨rfl, rfl⟩ := hb2
        rw [fnL_at _ hlt, ho] at o0
        have hbg : b ≠ gf := by
          have h1 := HQ.out.at_ (j := i) (by rw [fnL_length]; exact hlt)
          obtain ⟨b3, off3, h3, h4⟩ := h1
          simp only [Option.some.injEq, Addr.mk.injEq, and_true] at h3
          have h5 := block_lt_of_cell h4
          have h6 := HGG.out.1
          simp at h5
          omega
        clear HGi
        rcases (by omega : s = 0 ∨ s = 1 ∨ s = 2) with rfl | rfl | rfl
        · rw [Nat.add_zero] at hF hG
          skip
          have hfx : fromL es (2 * i) = (at' es i).x := by unfold fromL; rw [if_pos (by omega), show 2 * i / 2 = i by omega]
          obtain ⟨x, hx⟩ : ∃ x : Nat, (at' es i).x = x := ⟨(at' es i).x.toNat, by omega⟩
          have hxn : x < n := by omega
          have hfN : fN es (2 * i) = x := by unfold fN; rw [hfx, hx]; simp
          have IX : ∀ V, (Instr.index 56 (pv (at' es i).x (at' es i).y) (.int .i64 0)).run Try.prog V = .ok (.int .i64 (at' es i).x) V := fun V => by kernel_rfl
          rw [hx] at IX ⊢
          have hst := ct_step es of (2 * i) x hfN
          rw [show (2 * i) / 2 = i by omega, ho] at hst
          obtain ⟨r0, r1⟩ := hF.cell hxn
          rw [fnL_at _ hxn] at r0
          obtain ⟨a, ha⟩ : ∃ a, (ctB es of (2 * i)).1 x = a := ⟨_, rfl⟩
          obtain ⟨sv, hsv⟩ : ∃ b, (ctB es of (2 * i)).2 x = b := ⟨_, rfl⟩
          have HSV := hide hsv
          rw [ha] at r0 hst
          have k1 : (x : Int) < n := by omega
          have k2 : (0 : Int) ≤ x := by omega
          obtain ⟨ab, hab⟩ : ∃ z, (at' es i).y = z := ⟨_, rfl⟩
          rw [hab] at IX ⊢
          clear hfx hfN hx hab hsv HRi
          by_cases hneg : a < 0
          · rw [if_pos hneg] at hst
            obtain ⟨F, hFe⟩ : ∃ F, upd (ctB es of (2 * i)).1 x o = F := ⟨_, rfl⟩
            obtain ⟨f1, hf1⟩ : ∃ z, F x = z := ⟨_, rfl⟩
            rw [hFe] at hst
            obtain ⟨U, hU⟩ : ∃ U, U = wr.setCell ⟨gf, x, none⟩ (.int .i64 o) := ⟨_, rfl⟩
            have HFU : Hid (IRow U w.heap.size gf n (fnL n F)) := by
              have := hF.set x o
              rw [fnL_set _ hxn, hFe] at this
              show IRow _ _ _ _ _
              rw [hU]; exact this
            have HSU : Hid (BRow U w.heap.size gs n (ctB es of (2 * i)).2) := by show BRow _ _ _ _ _; rw [hU]; exact brow_other hG HNE.out _
            have HBU : Hid (Below W.heap.size W U) := by show Below _ _ _; rw [hU]; exact HBi.out.setCell (p := ⟨gf, x, none⟩) HGG.out.1 _
            have HF1 := hide hf1
            have HST := hide hst
            have oU : U.cell? ⟨b, off + i, none⟩ = some (.int .i64 o) := by rw [hU]; exact other1' o0 hbg
            clear hst hf1 hFe ha hF hG HBi
            go_upto_region 11 with fail
            rw [← hU]
            clear hU r0 r1 o0 IX hneg
            have HSX : Hid (∀ z, z = (sv || decide (f1 ≠ o)) → BRow (U.setCell ⟨gs, x, none⟩ (.bool z)) w.heap.size gs n (ctB es of (2 * i + 1)).2) := fun z hz => by
              have := HSU.out.put x z
              rw [HST.out]
              show BRow _ _ _ _ (upd _ _ _)
              rw [HSV.out, HF1.out, ← hz]
              exact this
            have HB2 : Hid (∀ z : Bool, Below W.heap.size W ((U.setCell ⟨gs, x, none⟩ (.bool z)).drew)) := fun z => below_step (HBU.out.setCell (p := ⟨gs, x, none⟩) HGG.out.2 _) (below_drew _)
            have HF2 : Hid (∀ z : Bool, IRow ((U.setCell ⟨gs, x, none⟩ (.bool z)).drew) w.heap.size gf n (fnL n (ctB es of (2 * i + 1)).1)) := fun z => by
              rw [HST.out]
              exact (irow_other HFU.out (Ne.symm HNE.out) _).later (below_drew _)
            obtain ⟨s0, s1⟩ := HSU.out.cell hxn
            rw [HSV.out] at s0
            obtain ⟨g0, _⟩ := HFU.out.cell hxn
            rw [fnL_at _ hxn, HF1.out] at g0
            cases sv
            · by_cases hfo : f1 = o
              · have HB3 := hide (HB2.out false)
                have HF3 := hide (HF2.out false)
                have HS3 := hide ((HSX.out false (by simp [hfo])).later (below_drew _))
                rw [hfo] at g0
                clear HSX HB2 HF2 HST HSV HF1 HSU HFU HBU hfo
                go_region
                go_wp2
                go_roundw
                case rel => exact ⟨1, by omega, by go_num, HB3.out, HF3.out, HS3.out⟩
                case measure => simp [intOf]
              · have HB3 := hide (HB2.out (f1 != o))
                have HF3 := hide (HF2.out (f1 != o))
                have HS3 := hide ((HSX.out (f1 != o) (by simp [hfo])).later (below_drew _))
                clear HSX HB2 HF2 HST HSV HF1 HSU HFU HBU
                go_region
                go_wp2
                go_roundw
                case rel => exact ⟨1, by omega, by go_num, HB3.out, HF3.out, HS3.out⟩
                case measure => simp [intOf]
            · have HB3 := hide (HB2.out true)
              have HF3 := hide (HF2.out true)
              have HS3 := hide ((HSX.out true (by simp)).later (below_drew _))
              clear HSX HB2 HF2 HST HSV HF1 HSU HFU HBU
              go_region
              go_wp2
              go_roundw
              case rel => exact ⟨1, by omega, by go_num, HB3.out, HF3.out, HS3.out⟩
              case measure => simp [intOf]
          · rw [if_neg hneg] at hst
            have hpos : 0 ≤ a := by omega
            obtain ⟨F, hFe⟩ : ∃ F, (ctB es of (2 * i)).1 = F := ⟨_, rfl⟩
            obtain ⟨f1, hf1⟩ : ∃ z, F x = z := ⟨_, rfl⟩
            rw [hFe] at hst
            have HFU : Hid (IRow wr w.heap.size gf n (fnL n F)) := by rw [hFe] at hF; exact hF
            have HSU := hide hG
            have HBU := HBi
            have HF1 := hide hf1
            have HST := hide hst
            obtain ⟨U, hU⟩ : ∃ U, U = wr := ⟨_, rfl⟩
            clear hst hf1 hFe ha hF hG HBi hneg
            go_upto_region 11 with fail
            subst hU
            clear r0 r1 IX hpos
            have HSX : Hid (∀ z, z = (sv || decide (f1 ≠ o)) → BRow (U.setCell ⟨gs, x, none⟩ (.bool z)) w.heap.size gs n (ctB es of (2 * i + 1)).2) := fun z hz => by
              have := HSU.out.put x z
              rw [HST.out]
              show BRow _ _ _ _ (upd _ _ _)
              rw [HSV.out, HF1.out, ← hz]
              exact this
            have HB2 : Hid (∀ z : Bool, Below W.heap.size W ((U.setCell ⟨gs, x, none⟩ (.bool z)).drew)) := fun z => below_step (HBU.out.setCell (p := ⟨gs, x, none⟩) HGG.out.2 _) (below_drew _)
            have HF2 : Hid (∀ z : Bool, IRow ((U.setCell ⟨gs, x, none⟩ (.bool z)).drew) w.heap.size gf n (fnL n (ctB es of (2 * i + 1)).1)) := fun z => by
              rw [HST.out]
              exact (irow_other HFU.out (Ne.symm HNE.out) _).later (below_drew _)
            obtain ⟨s0, s1⟩ := HSU.out.cell hxn
            rw [HSV.out] at s0
            obtain ⟨g0, _⟩ := HFU.out.cell hxn
            rw [fnL_at _ hxn, HF1.out] at g0
            cases sv
            · by_cases hfo : f1 = o
              · have HB3 := hide (HB2.out false)
                have HF3 := hide (HF2.out false)
                have HS3 := hide ((HSX.out false (by simp [hfo])).later (below_drew _))
                rw [hfo] at g0
                clear HSX HB2 HF2 HST HSV HF1 HSU HFU HBU hfo
                go_region
                go_wp2
                go_roundw
                case rel => exact ⟨1, by omega, by go_num, HB3.out, HF3.out, HS3.out⟩
                case measure => simp [intOf]
              · have HB3 := hide (HB2.out (f1 != o))
                have HF3 := hide (HF2.out (f1 != o))
                have HS3 := hide ((HSX.out (f1 != o) (by simp [hfo])).later (below_drew _))
                clear HSX HB2 HF2 HST HSV HF1 HSU HFU HBU
                go_region
                go_wp2
                go_roundw
                case rel => exact ⟨1, by omega, by go_num, HB3.out, HF3.out, HS3.out⟩
                case measure => simp [intOf]
            · have HB3 := hide (HB2.out true)
              have HF3 := hide (HF2.out true)
              have HS3 := hide ((HSX.out true (by simp)).later (below_drew _))
              clear HSX HB2 HF2 HST HSV HF1 HSU HFU HBU
              go_region
              go_wp2
              go_roundw
              case rel => exact ⟨1, by omega, by go_num, HB3.out, HF3.out, HS3.out⟩
              case measure => simp [intOf]
        · skip
          have hfx : fromL es (2 * i + 1) = (at' es i).y := by unfold fromL; rw [if_neg (by omega), show (2 * i + 1) / 2 = i by omega]
          obtain ⟨x, hx⟩ : ∃ x : Nat, (at' es i).y = x := ⟨(at' es i).y.toNat, by omega⟩
          have hxn : x < n := by omega
          have hfN : fN es (2 * i + 1) = x := by unfold fN; rw [hfx, hx]; simp
          have IX : ∀ V, (Instr.index 56 (pv (at' es i).x (at' es i).y) (.int .i64 1)).run Try.prog V = .ok (.int .i64 (at' es i).y) V := fun V => by kernel_rfl
          rw [hx] at IX ⊢
          have hst := ct_step es of (2 * i + 1) x hfN
          rw [show (2 * i + 1) / 2 = i by omega, ho] at hst
          obtain ⟨r0, r1⟩ := hF.cell hxn
          rw [fnL_at _ hxn] at r0
          obtain ⟨a, ha⟩ : ∃ a, (ctB es of (2 * i + 1)).1 x = a := ⟨_, rfl⟩
          obtain ⟨sv, hsv⟩ : ∃ b, (ctB es of (2 * i + 1)).2 x = b := ⟨_, rfl⟩
          have HSV := hide hsv
          rw [ha] at r0 hst
          have k1 : (x : Int) < n := by omega
          have k2 : (0 : Int) ≤ x := by omega
          obtain ⟨ab, hab⟩ : ∃ z, (at' es i).x = z := ⟨_, rfl⟩
          rw [hab] at IX ⊢
          clear hfx hfN hx hab hsv HRi
          by_cases hneg : a < 0
          · rw [if_pos hneg] at hst
            obtain ⟨F, hFe⟩ : ∃ F, upd (ctB es of (2 * i + 1)).1 x o = F := ⟨_, rfl⟩
            obtain ⟨f1, hf1⟩ : ∃ z, F x = z := ⟨_, rfl⟩
            rw [hFe] at hst
            obtain ⟨U, hU⟩ : ∃ U, U = wr.setCell ⟨gf, x, none⟩ (.int .i64 o) := ⟨_, rfl⟩
            have HFU : Hid (IRow U w.heap.size gf n (fnL n F)) := by
              have := hF.set x o
              rw [fnL_set _ hxn, hFe] at this
              show IRow _ _ _ _ _
              rw [hU]; exact this
            have HSU : Hid (BRow U w.heap.size gs n (ctB es of (2 * i + 1)).2) := by show BRow _ _ _ _ _; rw [hU]; exact brow_other hG HNE.out _
            have HBU : Hid (Below W.heap.size W U) := by show Below _ _ _; rw [hU]; exact HBi.out.setCell (p := ⟨gf, x, none⟩) HGG.out.1 _
            have HF1 := hide hf1
            have HST := hide hst
            have oU : U.cell? ⟨b, off + i, none⟩ = some (.int .i64 o) := by rw [hU]; exact other1' o0 hbg
            clear hst hf1 hFe ha hF hG HBi
            go_upto_region 11 with fail
            rw [← hU]
            clear hU r0 r1 o0 IX hneg
            have HSX : Hid (∀ z, z = (sv || decide (f1 ≠ o)) → BRow (U.setCell ⟨gs, x, none⟩ (.bool z)) w.heap.size gs n (ctB es of (2 * i + 1 + 1)).2) := fun z hz => by
              have := HSU.out.put x z
              rw [HST.out]
              show BRow _ _ _ _ (upd _ _ _)
              rw [HSV.out, HF1.out, ← hz]
              exact this
            have HB2 : Hid (∀ z : Bool, Below W.heap.size W ((U.setCell ⟨gs, x, none⟩ (.bool z)).drew)) := fun z => below_step (HBU.out.setCell (p := ⟨gs, x, none⟩) HGG.out.2 _) (below_drew _)
            have HF2 : Hid (∀ z : Bool, IRow ((U.setCell ⟨gs, x, none⟩ (.bool z)).drew) w.heap.size gf n (fnL n (ctB es of (2 * i + 1 + 1)).1)) := fun z => by
              rw [HST.out]
              exact (irow_other HFU.out (Ne.symm HNE.out) _).later (below_drew _)
            obtain ⟨s0, s1⟩ := HSU.out.cell hxn
            rw [HSV.out] at s0
            obtain ⟨g0, _⟩ := HFU.out.cell hxn
            rw [fnL_at _ hxn, HF1.out] at g0
            cases sv
            · by_cases hfo : f1 = o
              · have HB3 := hide (HB2.out false)
                have HF3 := hide (HF2.out false)
                have HS3 := hide ((HSX.out false (by simp [hfo])).later (below_drew _))
                rw [hfo] at g0
                clear HSX HB2 HF2 HST HSV HF1 HSU HFU HBU hfo
                go_region
                go_wp2
                go_roundw
                case rel => exact ⟨2, by omega, by go_num, HB3.out, HF3.out, HS3.out⟩
                case measure => simp [intOf]
              · have HB3 := hide (HB2.out (f1 != o))
                have HF3 := hide (HF2.out (f1 != o))
                have HS3 := hide ((HSX.out (f1 != o) (by simp [hfo])).later (below_drew _))
                clear HSX HB2 HF2 HST HSV HF1 HSU HFU HBU
                go_region
                go_wp2
                go_roundw
                case rel => exact ⟨2, by omega, by go_num, HB3.out, HF3.out, HS3.out⟩
                case measure => simp [intOf]
            · have HB3 := hide (HB2.out true)
              have HF3 := hide (HF2.out true)
              have HS3 := hide ((HSX.out true (by simp)).later (below_drew _))
              clear HSX HB2 HF2 HST HSV HF1 HSU HFU HBU
              go_region
              go_wp2
              go_roundw
              case rel => exact ⟨2, by omega, by go_num, HB3.out, HF3.out, HS3.out⟩
              case measure => simp [intOf]
          · rw [if_neg hneg] at hst
            have hpos : 0 ≤ a := by omega
            obtain ⟨F, hFe⟩ : ∃ F, (ctB es of (2 * i + 1)).1 = F := ⟨_, rfl⟩
            obtain ⟨f1, hf1⟩ : ∃ z, F x = z := ⟨_, rfl⟩
            rw [hFe] at hst
            have HFU : Hid (IRow wr w.heap.size gf n (fnL n F)) := by rw [hFe] at hF; exact hF
            have HSU := hide hG
            have HBU := HBi
            have HF1 := hide hf1
            have HST := hide hst
            obtain ⟨U, hU⟩ : ∃ U, U = wr := ⟨_, rfl⟩
            clear hst hf1 hFe ha hF hG HBi hneg
            go_upto_region 11 with fail
            subst hU
            clear r0 r1 IX hpos
            have HSX : Hid (∀ z, z = (sv || decide (f1 ≠ o)) → BRow (U.setCell ⟨gs, x, none⟩ (.bool z)) w.heap.size gs n (ctB es of (2 * i + 1 + 1)).2) := fun z hz => by
              have := HSU.out.put x z
              rw [HST.out]
              show BRow _ _ _ _ (upd _ _ _)
              rw [HSV.out, HF1.out, ← hz]
              exact this
            have HB2 : Hid (∀ z : Bool, Below W.heap.size W ((U.setCell ⟨gs, x, none⟩ (.bool z)).drew)) := fun z => below_step (HBU.out.setCell (p := ⟨gs, x, none⟩) HGG.out.2 _) (below_drew _)
            have HF2 : Hid (∀ z : Bool, IRow ((U.setCell ⟨gs, x, none⟩ (.bool z)).drew) w.heap.size gf n (fnL n (ctB es of (2 * i + 1 + 1)).1)) := fun z => by
              rw [HST.out]
              exact (irow_other HFU.out (Ne.symm HNE.out) _).later (below_drew _)
            obtain ⟨s0, s1⟩ := HSU.out.cell hxn
            rw [HSV.out] at s0
            obtain ⟨g0, _⟩ := HFU.out.cell hxn
            rw [fnL_at _ hxn, HF1.out] at g0
            cases sv
            · by_cases hfo : f1 = o
              · have HB3 := hide (HB2.out false)
                have HF3 := hide (HF2.out false)
                have HS3 := hide ((HSX.out false (by simp [hfo])).later (below_drew _))
                rw [hfo] at g0
                clear HSX HB2 HF2 HST HSV HF1 HSU HFU HBU hfo
                go_region
                go_wp2
                go_roundw
                case rel => exact ⟨2, by omega, by go_num, HB3.out, HF3.out, HS3.out⟩
                case measure => simp [intOf]
              · have HB3 := hide (HB2.out (f1 != o))
                have HF3 := hide (HF2.out (f1 != o))
                have HS3 := hide ((HSX.out (f1 != o) (by simp [hfo])).later (below_drew _))
                clear HSX HB2 HF2 HST HSV HF1 HSU HFU HBU
                go_region
                go_wp2
                go_roundw
                case rel => exact ⟨2, by omega, by go_num, HB3.out, HF3.out, HS3.out⟩
                case measure => simp [intOf]
            · have HB3 := hide (HB2.out true)
              have HF3 := hide (HF2.out true)
              have HS3 := hide ((HSX.out true (by simp)).later (below_drew _))
              clear HSX HB2 HF2 HST HSV HF1 HSU HFU HBU
              go_region
              go_wp2
              go_roundw
              case rel => exact ⟨2, by omega, by go_num, HB3.out, HF3.out, HS3.out⟩
              case measure => simp [intOf]
        · have HFn := hide hF
          have HGn := hide hG
          clear hF hG HRi o0 ho hbg
          go_wp2
          go_roundw
          case rel => exact ⟨i + 1, by omega, by go_num, HBi.out, by rw [show 2 * (i + 1) = 2 * i + 2 by omega]; exact HFn.out, by rw [show 2 * (i + 1) = 2 * i + 2 by omega]; exact HGn.out⟩
          case measure => simp [intOf]; omega
    · have hin : i = es.length := by omega
      have hlt' : ¬ (i : Int) < es.length := by omega
      rw [hin] at HG
      clear hin hlt HF
      obtain ⟨pr, hpr⟩ : ∃ pr, (ctB es of (2 * es.length)).2 = pr := ⟨_, rfl⟩
      have HPR : Hid (cutB n es of = ((List.range n).filter pr).map fun (v : Nat) => (v : Int)) := by show _ = _; unfold cutB; rw [hpr]
      rw [hpr] at HG
      clear hpr
      go_wp2_with fail
      go_loopw [11, 67] (fun t11 t67 wr => ∃ (j : Nat) (pl : Option Addr) (cl : Nat), j ≤ n ∧ t67 = .int .i64 j ∧ t11 = .slice pl (((List.range j).filter pr).map fun (v : Nat) => (v : Int)).length cl ∧ Hid (Below W.heap.size W wr) ∧ Hid (IOwns wr W.heap.size (.slice pl (((List.range j).filter pr).map fun (v : Nat) => (v : Int)).length cl) (((List.range j).filter pr).map fun (v : Nat) => (v : Int))) ∧ Hid (BRow wr w.heap.size gs n pr)) (fun _ t _ => n - (intOf t).toNat)
      case atStart => exact ⟨0, none, 0, by omega, rfl, rfl, HBr.out, IOwns.nil _ _, HG.out⟩
      case round =>
        clear HBr HG
        obtain ⟨j, pl, cl, hj, rfl, rfl, HBr, HL, HG⟩ := hrel
        by_cases hlt : j < n
        · obtain ⟨g0, _⟩ := HG.out.cell hlt
          have i1 : (j : Int) < n := by omega
          have i2 : (0 : Int) ≤ j := by omega
          have hfm := filt_more j pr
          have hfl := filt_length j pr
          obtain ⟨L, hL⟩ : ∃ L, (((List.range j).filter pr).map fun (v : Nat) => (v : Int)) = L := ⟨_, rfl⟩
          rw [hL] at HL hfm hfl ⊢
          clear hL
          cases hp : pr j
          · rw [hp] at g0 hfm
            simp only [Bool.false_eq_true, if_false, List.append_nil] at hfm
            have HFM := hide hfm
            clear hfm hp
            go_wp2
            go_roundw
            case rel => exact ⟨j + 1, pl, cl, by omega, by go_num, by rw [HFM.out], HBr.out, by rw [HFM.out]; exact HL.out, HG.out⟩
            case measure => simp [intOf]; omega
          · rw [hp] at g0 hfm
            simp only [if_true] at hfm
            have HFM := hide hfm
            obtain ⟨Z, hZ⟩ : ∃ Z, Z = wr.alloc (.cells #[.int .i64 (j : Int)] 3) := ⟨_, rfl⟩
            have hbZ : Below wr.heap.size wr Z := by rw [hZ]; go_grown
            have hlit : Z.cell? ⟨wr.heap.size, 0, none⟩ = some (.int .i64 (j : Int)) := by rw [hZ]; exact one_int _ _
            have hLZ := HL.out.later hbZ
            have hGZ := HG.out.later hbZ
            have hsZ := hbZ.size
            have hsr := HBr.out.size
            obtain ⟨v1, D, e1, o1, gr1, at1⟩ := append_int hLZ hlit (by omega) (by omega)
            obtain ⟨p1, l1, c1, rfl⟩ : ∃ p1 l1 c1, v1 = .slice p1 l1 c1 := by obtain ⟨p1, c1, h1, _⟩ := o1.form; exact ⟨_, _, _, h1⟩
            have hl1 : l1 = (L ++ [(j : Int)]).length := by
              obtain ⟨p2, c2, h2, _⟩ := o1.form
              injection h2
            have HGD : Hid (BRow D w.heap.size gs n pr) := World.ownsRow.kept hGZ gr1 (Or.inr (fun e => own_ne hLZ hGZ (by decide) e.symm rfl))
            have HBD : Hid (Below W.heap.size W D) := below_grown (below_step HBr.out hbZ) hLZ (Nat.le_refl _) (by omega) gr1
            have HL1 := hide o1
            have HLL := hide hl1
            rw [hZ] at e1
            clear hfm hp hlit hbZ hZ hLZ hGZ o1 gr1 at1 hsZ hsr hl1 HL HG HBr
            go_wp2_with (at_builtin; refine wpList_run_append rfl (.tmp 73) (.tmp 75) 32 rfl 32 rfl _ _ _ D rfl rfl e1 ?_)
            clear e1
            go_wp2
            go_roundw
            case rel => exact ⟨j + 1, p1, c1, by omega, by go_num, by rw [HFM.out, HLL.out], HBD.out, by rw [HFM.out, ← HLL.out]; exact HL1.out, HGD.out⟩
            case measure => simp [intOf]; omega
        · have hjn : j = n := by omega
          have hlt' : ¬ (j : Int) < n := by omega
          have HL1 : Hid (IOwns wr W.heap.size (.slice pl ((List.range j).filter pr).length cl) (cutB n es of)) := by
            have := HL.out
            rw [List.length_map] at this
            show IOwns _ _ _ _
            rw [HPR.out, ← hjn]
            exact this
          clear hjn hlt HL HG
          go_wp2
          go_ret
          exact ⟨_, rfl, HL1.out.base HSZ.out, below_step HB.out HBr.out⟩
end Go.Proofs.Ytobkejnlkjieoaa

/- Blocks. -/
namespace Go.Proofs.Ytobkejnlkjieoaa
open Go.RowKit Go.Sort
open Go
/-- A value of the blocks. -/
def blV (of cu : Value) (c : Int) : Value := .agg #[of, cu, .int .i64 c]
/-- What Blocks answers. -/
def BlPost (n : Int) (es : List Pt) (w : World) (e : Ending) (w' : World) : Prop :=
  (netB n es = true ∧ ∃ g v, e = .returned (.tuple #[blV (.slice (some ⟨g, 0, none⟩) es.length es.length) v (ctsB n.toNat es), .int .i64 0]) ∧ IRow w' w.heap.size g es.length (fnL es.length (ofB n.toNat es)) ∧ IOwns w' w.heap.size v (cutsB n.toNat es)) ∨
  (netB n es = false ∧ e = .returned (.tuple #[blV (.slice none 0 0) (.slice none 0 0) 0, .int .i64 1]))
/-- Blocks in their cells. -/
def BCell (w : World) (g : Nat) (of cu : Value) (c : Int) : Prop := w.cell? ⟨g, 0, none⟩ = some of ∧ w.cell? ⟨g, 1, none⟩ = some cu ∧ w.cell? ⟨g, 2, none⟩ = some (.int .i64 c)
theorem BCell.set {w : World} {g : Nat} {u0 u1 u2 : Value} (h0 : w.cell? ⟨g, 0, none⟩ = some u0) (h1 : w.cell? ⟨g, 1, none⟩ = some u1) (h2 : w.cell? ⟨g, 2, none⟩ = some u2) (of cu : Value) (c : Int) : BCell (((w.setCell ⟨g, 0, none⟩ of).setCell ⟨g, 1, none⟩ cu).setCell ⟨g, 2, none⟩ (.int .i64 c)) g of cu c := by
  have ne : ∀ i j : Nat, i ≠ j → (⟨g, i, none⟩ : Addr) ≠ ⟨g, j, none⟩ := fun i j hij e => by injection e with _ e2; exact hij e2
  refine ⟨?_, ?_, ?_⟩
  · rw [World.cell?_setCell_other _ _ _ _ (ne 2 0 (by omega)), World.cell?_setCell_other _ _ _ _ (ne 1 0 (by omega))]
    exact World.cell?_setCell_same _ _ _ (by rw [h0])
  · rw [World.cell?_setCell_other _ _ _ _ (ne 2 1 (by omega))]
    exact World.cell?_setCell_same _ _ _ (by rw [World.cell?_setCell_other _ _ _ _ (ne 0 1 (by omega)), h1])
  · exact World.cell?_setCell_same _ _ _ (by rw [World.cell?_setCell_other _ _ _ _ (ne 1 2 (by omega)), World.cell?_setCell_other _ _ _ _ (ne 0 2 (by omega)), h2])
theorem load34 {V : World} {g : Nat} {p1 p2 : Option Addr} {l1 l2 c1 c2 : Nat} {c : Int} (h : BCell V g (.slice p1 l1 c1) (.slice p2 l2 c2) c) : (loadVar 34 ⟨g, 0, none⟩).run Try.prog V = .ok (blV (.slice p1 l1 c1) (.slice p2 l2 c2) c) V := by
  obtain ⟨q0, q1, q2⟩ := h
  have l0 : (load ⟨g, 0, none⟩).run Try.prog V = .ok (.slice p1 l1 c1) V := by simp [go_sem, q0]
  have l1 : (load ⟨g, 1, none⟩).run Try.prog V = .ok (.slice p2 l2 c2) V := by simp [go_sem, q1]
  have l2 : (load ⟨g, 2, none⟩).run Try.prog V = .ok (.int .i64 c) V := by simp [go_sem, q2]
  simp only [loadVar, Sem.run_bind, Try.isAgg34, Result.andThen_ok, if_true, Try.sizeOf34]
  simp only [loadCells, go_sem]
  simp only [Sem.run_bind, Nat.zero_add, l0, l1, l2, Result.andThen_ok, Sem.run_pure]
  rfl
theorem ret_bl {fn : Func} {c u : Tmp} (hr : fn.results = #[.cell c 34, .tmp u]) {tmps : Array Value} {V : World} {g : Nat} {p1 p2 : Option Addr} {l1 l2 c1 c2 : Nat} {x : Int} {e : Value} (h2 : tmps.getD c undef = .pointer (some ⟨g, 0, none⟩)) (h4 : tmps.getD u undef = e) (h : BCell V g (.slice p1 l1 c1) (.slice p2 l2 c2) x) :
    (results fn tmps).run Try.prog V = .ok (.tuple #[blV (.slice p1 l1 c1) (.slice p2 l2 c2) x, e]) V := by
  rw [results_cT hr, h2, h4, asA, Result.andThen_ok, load34 h, Result.andThen_ok]
theorem cts_le {n : Nat} {es : List Pt} (hm : netB n es = true) : ctsB n es ≤ es.length := by
  have h1 := (par_out hm n (Nat.le_refl _)).1.cn
  have h2 := cb_le es.length (ptdB n es n).ov
  unfold ctsB
  omega
set_option maxRecDepth 100000 in
set_option maxHeartbeats 8000000 in
theorem blocks11 (n : Int) (p : Option Addr) (es : List Pt) (cp : Nat) (w : World) (h : Has w p es) : Calls Try.prog 11 #[nv n p es.length cp] w fun e w' => BlPost n es w e w' ∧ Below w.heap.size w w' := by
  obtain ⟨W, hW⟩ : ∃ W, W = (w.alloc (.cells #[.int .i64 n, .slice p es.length cp] 24)).alloc (.cells #[.slice none 0 0, .slice none 0 0, .int .i64 0] 34) := ⟨_, rfl⟩
  have hb : Below w.heap.size w W := by rw [hW]; go_grown
  have hws : W.heap.size = w.heap.size + 2 := by rw [hW]; simp
  have q0 : W.cell? ⟨w.heap.size, 0, none⟩ = some (.int .i64 n) := by rw [hW]; go_cell
  have q1 : W.cell? ⟨w.heap.size, 1, none⟩ = some (.slice p es.length cp) := by rw [hW]; go_cell
  have y0 : W.cell? ⟨w.heap.size + 1, 0, none⟩ = some (.slice none 0 0) := by rw [hW]; go_cell
  have y1 : W.cell? ⟨w.heap.size + 1, 1, none⟩ = some (.slice none 0 0) := by rw [hW]; go_cell
  have y2 : W.cell? ⟨w.heap.size + 1, 2, none⟩ = some (.int .i64 0) := by rw [hW]; go_cell
  have HYF : Hid (W.frozen? ⟨w.heap.size + 1, 0, none⟩ = false ∧ W.frozen? ⟨w.heap.size + 1, 1, none⟩ = false ∧ W.frozen? ⟨w.heap.size + 1, 2, none⟩ = false) := by show _ ∧ _; rw [hW]; exact ⟨by simp [go_sem], by simp [go_sem], by simp [go_sem]⟩
  have HH := hide (h.later hb)
  have HB := hide hb
  have HQ : Hid (∀ V, Below W.heap.size W V → V.cell? ⟨w.heap.size, 0, none⟩ = some (.int .i64 n) ∧ V.cell? ⟨w.heap.size, 1, none⟩ = some (.slice p es.length cp)) := fun V hV => ⟨later hV q0, later hV q1⟩
  have HY : Hid (∀ V, Below W.heap.size W V → (V.cell? ⟨w.heap.size + 1, 0, none⟩ = some (.slice none 0 0) ∧ V.cell? ⟨w.heap.size + 1, 1, none⟩ = some (.slice none 0 0) ∧ V.cell? ⟨w.heap.size + 1, 2, none⟩ = some (.int .i64 0)) ∧ V.frozen? ⟨w.heap.size + 1, 0, none⟩ = false ∧ V.frozen? ⟨w.heap.size + 1, 1, none⟩ = false ∧ V.frozen? ⟨w.heap.size + 1, 2, none⟩ = false) := fun V hV => ⟨⟨later hV y0, later hV y1, later hV y2⟩, laterF hV y0 HYF.out.1, laterF hV y1 HYF.out.2.1, laterF hV y2 HYF.out.2.2⟩
  have HSZ := hide hws
  have C1 := hide (may13 n p es cp W HH.out)
  clear h hb hws q0 q1 y0 y1 y2
  obtain ⟨q0, q1⟩ := HQ.out W (Below.refl _ _)
  go_enter Try.func11, Try.ntmps11
  go_upto_region 1 with fail
  rw [← hW]
  clear hW
  go_wp2_with fail
  refine C1.out.mono ?_
  rintro e w1 ⟨rfl, hb1⟩
  have HB1 := hide hb1
  clear C1 hb1 q0 q1
  obtain ⟨q0, q1⟩ := HQ.out w1 HB1.out
  cases hm : netB n es
  · obtain ⟨⟨y0, y1, y2⟩, z0, z1, z2⟩ := HY.out w1 HB1.out
    have HM := hide hm
    clear hm
    go_wp2
    have hc := BCell.set (w := w1) (g := w.heap.size + 1) y0 y1 y2 (.slice none 0 0) (.slice none 0 0) 0
    refine bodyPost_ret (ret_bl Try.results11 rfl rfl hc) rfl ⟨Or.inr ⟨HM.out, rfl⟩, ?_⟩
    have h1 := below_step HB.out HB1.out
    exact ((h1.setCell (p := ⟨w.heap.size + 1, 0, none⟩) (by simp) _).setCell (p := ⟨w.heap.size + 1, 1, none⟩) (by simp) _).setCell (p := ⟨w.heap.size + 1, 2, none⟩) (by simp) _
  · obtain ⟨n0, n1, hes, _⟩ := netB_is hm
    obtain ⟨m, rfl⟩ : ∃ m : Nat, n = m := ⟨n.toNat, by omega⟩
    have HM := hide hm
    have C37 := hide (parted37 m p es cp w1 (HH.out.later HB1.out) hm)
    clear hm
    go_wp2_with fail
    refine C37.out.mono ?_
    rintro e w2 ⟨g, rfl, hI, hb2⟩
    have HB2 := hide (below_step HB1.out hb2)
    have HCT : Hid ((ptdB m es m).ct = ctsB m es) := rfl
    have hcl := cts_le (n := m) HM.out
    obtain ⟨ct, hct⟩ : ∃ c, ctsB m es = c := ⟨_, rfl⟩
    have C38 := hide (least38 ct es.length (some ⟨g, 0, none⟩) (ptdB m es m).bk es.length w2 hI.has (fun e he => by
      have := par_in HM.out he
      rw [← hct]
      exact this) (by omega) (by omega))
    rw [HCT.out, hct]
    have HCC := hide hct
    clear hI hb2 C37 hct HCT q0 q1
    obtain ⟨q0, q1⟩ := HQ.out w2 HB2.out
    go_wp2_with fail
    refine C38.out.mono ?_
    rintro e w3 ⟨g2, rfl, hI3, hb3⟩
    have HI3 : Hid (IRow w3 w.heap.size g2 es.length (fnL es.length (ofB m es))) := by
      have h1 := HB.out.size
      have h2 := HB2.out.size
      exact hI3.base (by omega)
    have HG3 : Hid (w2.heap.size ≤ g2) := hI3.lt.1
    have HB3 := hide (below_step HB2.out hb3)
    have C39 := hide (cuts39 m p (some ⟨g2, 0, none⟩) es (ofB m es) cp es.length w3 (HH.out.later HB3.out) hI3.has HM.out)
    clear hI3 hb3 C38 q0 q1
    obtain ⟨q0, q1⟩ := HQ.out w3 HB3.out
    go_wp2_with fail
    refine C39.out.mono ?_
    rintro e w4 ⟨v, rfl, hO, hb4⟩
    obtain ⟨pv, cv, rfl, _⟩ := hO.form
    obtain ⟨lc, hlc⟩ : ∃ l, (cutB m es (ofB m es)).length = l := ⟨_, rfl⟩
    have HLC := hide hlc
    have HO4 : Hid (IOwns w4 w.heap.size (.slice pv lc cv) (cutsB m es)) := by
      have h1 := HB.out.size
      have h2 := HB3.out.size
      rw [hlc] at hO
      exact hO.base (by omega)
    have HI4 := hide (HI3.out.later hb4)
    have HB4 := hide (below_step HB3.out hb4)
    have hgk : w.heap.size + 1 < g2 ∨ True := Or.inr trivial
    have HNE : Hid (w.heap.size + 1 ≠ g2 ∧ ∀ b, (Value.slice pv lc cv).ownBlock = some b → w.heap.size + 1 ≠ b) := by
      have h1 := HSZ.out
      have h2 := HB3.out.size
      have h3 := HB2.out.size
      refine ⟨?_, fun b hb => ?_⟩
      · have := HG3.out
        omega
      · have := (own_lt hO (by rw [hlc]; exact hb)).1
        omega
    rw [hlc]
    clear hO hb4 C39 q0 q1 HI3 hlc hgk
    obtain ⟨q0, q1⟩ := HQ.out w4 HB4.out
    obtain ⟨⟨y0, y1, y2⟩, z0, z1, z2⟩ := HY.out w4 HB4.out
    go_wp2
    have hc := BCell.set (w := w4) (g := w.heap.size + 1) y0 y1 y2 (.slice (some ⟨g2, 0, none⟩) es.length es.length) (.slice pv lc cv) ct
    obtain ⟨n1, n2⟩ := HNE.out
    refine bodyPost_ret (ret_bl Try.results11 rfl rfl hc) rfl ⟨Or.inl ⟨HM.out, g2, .slice pv lc cv, ?_, ?_, ?_⟩, ?_⟩
    · rw [show ((m : Nat) : Int).toNat = m from Int.toNat_natCast m, HCC.out]
      rfl
    · exact irow_other (irow_other (irow_other HI4.out n1 _) n1 _) n1 _
    · exact ownsRow_setCell_other (a := ⟨w.heap.size + 1, 2, none⟩) (ownsRow_setCell_other (a := ⟨w.heap.size + 1, 1, none⟩) (ownsRow_setCell_other (a := ⟨w.heap.size + 1, 0, none⟩) HO4.out (fun e => n2 _ e rfl) _) (fun e => n2 _ e rfl) _) (fun e => n2 _ e rfl) _
    have h1 := below_step HB.out HB4.out
    exact ((h1.setCell (p := ⟨w.heap.size + 1, 0, none⟩) (by simp) _).setCell (p := ⟨w.heap.size + 1, 1, none⟩) (by simp) _).setCell (p := ⟨w.heap.size + 1, 2, none⟩) (by simp) _
end Go.Proofs.Ytobkejnlkjieoaa
