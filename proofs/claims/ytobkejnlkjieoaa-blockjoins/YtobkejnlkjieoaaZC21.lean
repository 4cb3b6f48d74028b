/- Bridges. -/
import Derived.Test.YtobkejnlkjieoaaZC20
import Derived.Deep.LoopGhost
import Derived.Deep.RegionHeld3
import Derived.Test.YtobkejnlkjieoaaShelf
import Derived.Test.YtobkejnlkjieoaaZC12
namespace Go.Proofs.Ytobkejnlkjieoaa
open Go.RowKit Go.Sort
open Go
/-- What Bridges answers. -/
def BrPost (n : Int) (es : List Pt) (w : World) (e : Ending) (w' : World) : Prop :=
  (netB n es = true ∧ ∃ v, e = .returned (.tuple #[v, .int .i64 0]) ∧ IOwns w' w.heap.size v (bridB n.toNat es)) ∨
  (netB n es = false ∧ e = .returned (.tuple #[.slice none 0 0, .int .i64 1]))
/-- How many edges are in each block, so many looked at. -/
def szL (c : Nat) (of : Nat → Int) (e : Nat) : List Int := fnL c fun k => ((szB of e k : Nat) : Int)
theorem szL_more {c : Nat} {of : Nat → Int} {e k : Nat} (hk : of e = k) (hkc : k < c) : (szL c of e).set k ((szB of e k : Int) + 1) = szL c of (e + 1) := by
  unfold szL
  rw [fnL_set _ hkc]
  congr 1
  funext j
  unfold upd
  rw [szB, hk]
  by_cases h : j = k
  · subst h; rw [if_pos rfl, if_pos rfl]; omega
  · rw [if_neg h, if_neg (show ¬ (k : Int) = (j : Int) by omega)]
    rfl
set_option maxRecDepth 100000 in
set_option maxHeartbeats 16000000 in
theorem bridges12 (n : Int) (p : Option Addr) (es : List Pt) (cp : Nat) (w : World) (h : Has w p es) : Calls Try.prog 12 #[nv n p es.length cp] w fun e w' => BrPost n es w e w' ∧ Below w.heap.size w w' := by
  obtain ⟨W, hW, hb, a0⟩ := one_net w n p es.length cp
  have HH := hide (h.later hb)
  have HB := hide hb
  have HA := hide a0
  have hws : w.heap.size < W.heap.size := block_lt_of_cell a0.1
  have C1 := hide (blocks11 n p es cp W (h.later hb))
  obtain ⟨kb, hkb⟩ : ∃ kb, w.heap.size = kb := ⟨_, rfl⟩
  have HS : Hid (∀ V, Below W.heap.size W V → V.cell? ⟨kb, 0, none⟩ = some (.int .i64 n) ∧ V.cell? ⟨kb, 1, none⟩ = some (.slice p es.length cp)) := fun V hV => by
    obtain ⟨r0, r1, _, _⟩ := HA.out.later hV
    rw [hkb] at r0 r1
    exact ⟨r0, r1⟩
  have HKB := hide hkb
  have HSZ : Hid (w.heap.size ≤ W.heap.size) := Nat.le_of_lt hws
  obtain ⟨q0, q1⟩ := HS.out W (Below.refl _ _)
  obtain ⟨j0, hj0, jz0, jz1, jz2⟩ := info_parts info3
  clear h hb a0 hws
  go_enter Try.func12, Try.ntmps12
  go_upto_region 1 with fail
  rw [← hW]
  try rw [hkb]
  clear hW hkb
  go_wp2_with fail
  refine C1.out.mono ?_
  rintro e w1 ⟨hpost, hb1⟩
  have HB1 := hide hb1
  clear C1 q0 q1
  obtain ⟨q0, q1⟩ := HS.out w1 hb1
  rcases hpost with ⟨hm, g, v, rfl, hI, hO⟩ | ⟨hm, rfl⟩
  · obtain ⟨n0, n1, hes, hE⟩ := netB_is hm
    obtain ⟨m, rfl⟩ : ∃ m : Nat, n = m := ⟨n.toNat, by omega⟩
    rw [show ((m : Nat) : Int).toNat = m from Int.toNat_natCast m] at *
    have HM := hide hm
    have HEE := hide hE
    obtain ⟨pv, cv, rfl, _⟩ := hO.form
    have HI := hide hI
    have HIN : Hid (∀ e, e < es.length → 0 ≤ ofB m es e ∧ ofB m es e < ctsB m es) := fun e he => of_in hm he
    have HBR : Hid (bridB m es = ((List.range es.length).filter (fun e => brB es (ofB m es) e)).map fun (e : Nat) => (e : Int)) := rfl
    have hcl := cts_le (n := m) hm
    obtain ⟨ct, hct⟩ : ∃ c, ctsB m es = c := ⟨_, rfl⟩
    obtain ⟨of, hof⟩ : ∃ f, ofB m es = f := ⟨_, rfl⟩
    rw [hof] at HI HBR
    rw [hof, hct] at HIN
    rw [hct] at hcl
    obtain ⟨lc, hlc⟩ : ∃ l, (cutsB m es).length = l := ⟨_, rfl⟩
    rw [hlc]
    unfold blV
    rw [hct]
    clear hm hE hI hO hct hof hlc hb1
    go_upto_region 4 with fail
    obtain ⟨V, hV⟩ : ∃ V, V = w1.alloc (.cells #[.slice (some ⟨g, 0, none⟩) es.length es.length, .slice pv lc cv, .int .i64 ct] 34) := ⟨_, rfl⟩
    have hbV : Below w1.heap.size w1 V := by rw [hV]; go_grown
    obtain ⟨kt, hkt⟩ : ∃ k, w1.heap.size = k := ⟨_, rfl⟩
    have hsV : kt < V.heap.size := by rw [hV, ← hkt]; simp
    have t0 : V.cell? ⟨kt, 0, none⟩ = some (.slice (some ⟨g, 0, none⟩) es.length es.length) := by rw [hV, ← hkt]; go_cell
    have t2 : V.cell? ⟨kt, 2, none⟩ = some (.int .i64 ct) := by rw [hV, ← hkt]; go_cell
    have HT : Hid (∀ X, Below V.heap.size V X → X.cell? ⟨kt, 0, none⟩ = some (.slice (some ⟨g, 0, none⟩) es.length es.length)) := fun X hX => later hX t0
    have HIV := hide (HI.out.later hbV)
    have HBV := hide (below_step HB1.out hbV)
    rw [← hV]
    try rw [hkt]
    clear hV hbV hkt HI HB1 q0 q1
    go_wp2_with (refine wpList_make_full _ rfl (.tmp 21) (.tmp 21) 32 rfl V.heap.size 3 j0 (.int .i64 0) 1 Try.underlying32 hj0 jz0 jz1 .i64 .i64 _ _ ct rfl rfl rfl rfl ?c1 ?c2 ?c3 ?_)
    case c1 => rw [jz2]; omega
    case c2 => unfold maxLen; omega
    case c3 => exact Nat.le_refl _
    intro w2 hown hgrow
    obtain ⟨gz, hgz⟩ : ∃ g, V.heap.size = g := ⟨_, rfl⟩
    have hb2 := below_made hgrow
    have HZ2 : Hid (IRow w2 V.heap.size gz ct (szL ct of 0)) := by
      show IRow _ _ _ _ _
      rw [show szL ct of 0 = List.replicate ct 0 from by unfold szL; rw [show (fun k => ((szB of 0 k : Nat) : Int)) = fun _ => 0 from by funext k; rfl]; exact fnL_const _ _, ← hgz]
      exact irow_made (by simpa using hown)
    have HB2 := hide hb2
    have t0' := HT.out w2 hb2
    rw [hgz]
    clear hown hgrow hb2 hgz t0 t2 hsV
    have hZl := HZ2.out.lt.1
    go_wp2_with fail
    go_loopw [26] (fun t wr => ∃ e : Nat, e ≤ es.length ∧ t = .int .i64 e ∧ Hid (Below V.heap.size V wr) ∧ Hid (IRow wr V.heap.size gz ct (szL ct of e))) (fun t _ => es.length - (intOf t).toNat)
    case atStart => exact ⟨0, by omega, rfl, HB2.out, HZ2.out⟩
    case round =>
      clear HB2 HZ2 t0'
      obtain ⟨e, he, rfl, HBr, HZ⟩ := hrel
      by_cases hlt : e < es.length
      · obtain ⟨a0, _⟩ := (HIV.out.later HBr.out).cell hlt
        rw [fnL_at _ hlt] at a0
        obtain ⟨o1, o2⟩ := HIN.out e hlt
        obtain ⟨k, hk⟩ : ∃ k : Nat, of e = k := ⟨(of e).toNat, by omega⟩
        have hkc : k < ct := by omega
        rw [hk] at a0
        obtain ⟨z0, z1⟩ := HZ.out.cell hkc
        rw [show iat (szL ct of e) k = ((szB of e k : Nat) : Int) from fnL_at _ hkc] at z0
        have HZ3 : Hid (IRow (wr.setCell ⟨gz, k, none⟩ (.int .i64 ((szB of e k : Int) + 1))) V.heap.size gz ct (szL ct of (e + 1))) := by
          have := HZ.out.set k ((szB of e k : Int) + 1)
          rw [szL_more hk hkc] at this
          exact this
        have HB3 : Hid (Below V.heap.size V (wr.setCell ⟨gz, k, none⟩ (.int .i64 ((szB of e k : Int) + 1)))) := HBr.out.setCell (p := ⟨gz, k, none⟩) hZl _
        have hsl := sz_le of e k
        obtain ⟨sz, hsz⟩ : ∃ s, szB of e k = s := ⟨_, rfl⟩
        rw [hsz] at z0 HZ3 HB3 hsl
        have i1 : (k : Int) < ct := by omega
        have i2 : (0 : Int) ≤ k := by omega
        have i3 : (e : Int) < es.length := by omega
        have i4 : (0 : Int) ≤ e := by omega
        clear hk hsz o1 o2 HZ HBr
        go_wp2
        go_roundw
        case rel => exact ⟨e + 1, by omega, by go_num, HB3.out, HZ3.out⟩
        case measure => simp [intOf]; omega
      · have hem : e = es.length := by omega
        have hlt' : ¬ (e : Int) < es.length := by omega
        rw [hem] at HZ
        clear hem hlt
        obtain ⟨q0, q1⟩ := HS.out wr (below_step HBV.out HBr.out)
        go_wp2_with fail
        go_loopw [9, 40] (fun t9 t40 wr => ∃ (i : Nat) (pl : Option Addr) (cl : Nat), i ≤ es.length ∧ t40 = .int .i64 i ∧ t9 = .slice pl (((List.range i).filter fun e => brB es of e).map fun (v : Nat) => (v : Int)).length cl ∧ Hid (Below V.heap.size V wr) ∧ Hid (IOwns wr V.heap.size (.slice pl (((List.range i).filter fun e => brB es of e).map fun (v : Nat) => (v : Int)).length cl) (((List.range i).filter fun e => brB es of e).map fun (v : Nat) => (v : Int))) ∧ Hid (IRow wr V.heap.size gz ct (szL ct of es.length)) ∧ Hid (∀ b, (Value.slice pl (((List.range i).filter fun e => brB es of e).map fun (v : Nat) => (v : Int)).length cl).ownBlock = some b → b ≠ gz)) (fun _ t _ => es.length - (intOf t).toNat)
        case atStart => exact ⟨0, none, 0, by omega, rfl, rfl, HBr.out, IOwns.nil _ _, HZ.out, fun b hb => by simp [Value.ownBlock] at hb⟩
        case round =>
          clear HBr HZ q0 q1
          obtain ⟨i, pl, cl, hi, rfl, rfl, HBr, HL, HZ, HNB⟩ := hrel
          by_cases hlt : i < es.length
          · obtain ⟨f0, f1, f2, f3⟩ := HEE.out i hlt
            have hq : ∃ b off, p = some ⟨b, off, none⟩ ∧ Lies W b off es := by
              rcases HH.out with h0 | h0
              · subst h0; simp at hlt
              · exact h0
            obtain ⟨b, off, rfl, hLW⟩ := hq
            obtain ⟨c0, c1⟩ := (hLW.later (below_step HBV.out HBr.out)) i hlt
            have i1 : (i : Int) < es.length := by omega
            have i2 : (0 : Int) ≤ i := by omega
            have nb : b < wr.heap.size := block_lt_of_cell c0
            obtain ⟨o1, o2⟩ := HIN.out i hlt
            obtain ⟨k, hk⟩ : ∃ k : Nat, of i = k := ⟨(of i).toNat, by omega⟩
            have hkc : k < ct := by omega
            obtain ⟨x, hx⟩ : ∃ x, (at' es i).x = x := ⟨_, rfl⟩
            obtain ⟨y, hy⟩ : ∃ y, (at' es i).y = y := ⟨_, rfl⟩
            have HBI : Hid (brB es of i = (decide (szB of es.length k = 1) && decide (x ≠ y))) := by show _ = _; unfold brB; rw [hk, hx, hy]; simp
            rw [hx] at c0
            rw [hy] at c1
            have hfm := filt_more i (fun e => brB es of e)
            have hfl := filt_length i (fun e => brB es of e)
            have HNB2 := HNB
            obtain ⟨L, hL⟩ : ∃ L, (((List.range i).filter fun e => brB es of e).map fun (v : Nat) => (v : Int)) = L := ⟨_, rfl⟩
            rw [hL] at HL hfm hfl HNB2 ⊢
            clear hL HNB
            obtain ⟨U, hU⟩ : ∃ U, U = wr.alloc (.cells #[.int .i64 x, .int .i64 y] 56) := ⟨_, rfl⟩
            have hbU : Below wr.heap.size wr U := by rw [hU]; go_grown
            obtain ⟨kv, hkv⟩ : ∃ kv, wr.heap.size = kv := ⟨_, rfl⟩
            have l0 : U.cell? ⟨kv, 0, none⟩ = some (.int .i64 x) := by rw [hU, ← hkv]; go_cell
            have l1 : U.cell? ⟨kv, 1, none⟩ = some (.int .i64 y) := by rw [hU, ← hkv]; go_cell
            have HBU := hide (below_step HBr.out hbU)
            have HLU := hide (HL.out.later hbU)
            have HZU := hide (HZ.out.later hbU)
            have t0 := HT.out U HBU.out
            obtain ⟨a0, _⟩ := (HIV.out.later HBU.out).cell hlt
            rw [fnL_at _ hlt, hk] at a0
            obtain ⟨z0, _⟩ := HZU.out.cell hkc
            rw [show iat (szL ct of es.length) k = ((szB of es.length k : Nat) : Int) from fnL_at _ hkc] at z0
            obtain ⟨sz, hsz⟩ : ∃ s, szB of es.length k = s := ⟨_, rfl⟩
            rw [hsz] at z0 HBI
            have k1 : (k : Int) < ct := by omega
            have k2 : (0 : Int) ≤ k := by omega
            have hVs := HBU.out.size
            clear f0 f1 f2 f3 hk hx hy hsz o1 o2 HL HZ HBr
            by_cases hs1 : sz = 1
            · by_cases hxy : x = y
              · have hbr : brB es of i = false := by rw [HBI.out]; simp [hxy]
                simp only [hbr, Bool.false_eq_true, if_false, List.append_nil] at hfm
                have HFM := hide hfm
                subst hs1
                subst hxy
                clear hfm hbr hfl
                go_upto_region 14 with fail
                try rw [hkv]
                rw [← hU]
                clear hU hbU hkv nb c0 c1
                go_wp2
                go_roundw
                case rel => exact ⟨i + 1, pl, cl, by omega, by go_num, by rw [HFM.out], HBU.out, by rw [HFM.out]; exact HLU.out, HZU.out, by rw [HFM.out]; exact HNB2.out⟩
                case measure => simp [intOf]; omega
              · have hbr : brB es of i = true := by rw [HBI.out]; simp [hs1, hxy]
                simp only [hbr, if_true] at hfm
                have HFM := hide hfm
                subst hs1
                obtain ⟨Z, hZ⟩ : ∃ Z, Z = U.alloc (.cells #[.int .i64 (i : Int)] 3) := ⟨_, rfl⟩
                have hbZ : Below U.heap.size U Z := by rw [hZ]; go_grown
                have hlit : Z.cell? ⟨U.heap.size, 0, none⟩ = some (.int .i64 (i : Int)) := by rw [hZ]; exact one_int _ _
                have hLZ := HLU.out.later hbZ
                have hZZ := HZU.out.later hbZ
                have hsZ := hbZ.size
                obtain ⟨v1, D, e1, o1, gr1, at1⟩ := append_int hLZ hlit (by omega) (by omega)
                obtain ⟨p1, l1', c1', rfl⟩ : ∃ p1 l1 c1, v1 = .slice p1 l1 c1 := by obtain ⟨p1, c1, h1, _⟩ := o1.form; exact ⟨_, _, _, h1⟩
                have hl1 : l1' = (L ++ [(i : Int)]).length := by
                  obtain ⟨p2, c2, h2, _⟩ := o1.form
                  injection h2
                have HZD : Hid (IRow D V.heap.size gz ct (szL ct of es.length)) := ⟨hZZ.1, World.ownsRow.kept hZZ.2 gr1 (Or.inr (fun e => HNB2.out gz e.symm rfl))⟩
                have HBD : Hid (Below V.heap.size V D) := below_grown (below_step HBU.out hbZ) hLZ (Nat.le_refl _) (by omega) gr1
                have hzl := HZU.out.lt.2
                have HNB3 : Hid (∀ bb, (Value.slice p1 l1' c1').ownBlock = some bb → bb ≠ gz) := fun bb hbb => by
                  rcases at1 with h9 | h9
                  · rw [h9] at hbb; exact HNB2.out bb hbb
                  · rw [h9] at hbb
                    injection hbb with hbb
                    omega
                have HL1 := hide o1
                have HLL := hide hl1
                rw [hZ] at e1
                clear hfm hbr hlit hbZ hZ hLZ hZZ o1 gr1 at1 hsZ hl1 HLU HZU HBU hVs hzl HNB2
                go_upto_region 14 with fail
                try rw [hkv]
                rw [← hU]
                clear hU hbU hkv nb c0 c1
                go_wp2_with (at_builtin; refine wpList_run_append rfl (.tmp 61) (.tmp 63) 32 rfl 32 rfl _ _ _ D rfl rfl e1 ?_)
                clear e1
                go_wp2
                go_roundw
                case rel => exact ⟨i + 1, p1, c1', by omega, by go_num, by rw [HFM.out, HLL.out], HBD.out, by rw [HFM.out, ← HLL.out]; exact HL1.out, HZD.out, by rw [HFM.out, ← HLL.out]; exact HNB3.out⟩
                case measure => simp [intOf]; omega
            · have hbr : brB es of i = false := by rw [HBI.out]; simp [hs1]
              simp only [hbr, Bool.false_eq_true, if_false, List.append_nil] at hfm
              have HFM := hide hfm
              have hs1' : ¬ (sz : Int) = 1 := by omega
              clear hfm hbr hfl hs1
              go_upto_region 14 with fail
              try rw [hkv]
              rw [← hU]
              clear hU hbU hkv nb c0 c1
              go_wp2
              go_roundw
              case rel => exact ⟨i + 1, pl, cl, by omega, by go_num, by rw [HFM.out], HBU.out, by rw [HFM.out]; exact HLU.out, HZU.out, by rw [HFM.out]; exact HNB2.out⟩
              case measure => simp [intOf]; omega
          · have hin : i = es.length := by omega
            have hlt' : ¬ (i : Int) < es.length := by omega
            have HL1 : Hid (IOwns wr V.heap.size (.slice pl ((List.range i).filter fun e => brB es of e).length cl) (bridB m es)) := by
              have := HL.out
              rw [List.length_map] at this
              show IOwns _ _ _ _
              rw [HBR.out, ← hin]
              exact this
            have hsz : w.heap.size ≤ V.heap.size := by have := HSZ.out; have := HBV.out.size; omega
            have HEND : Hid (IOwns wr w.heap.size (.slice pl ((List.range i).filter fun e => brB es of e).length cl) (bridB m es)) := HL1.out.base hsz
            have HBE : Hid (Below w.heap.size w wr) := below_step HB.out (below_step HBV.out HBr.out)
            clear hin hlt HL HZ HNB HL1 hsz HBr
            go_wp2
            go_ret2
            exact ⟨Or.inl ⟨HM.out, _, rfl, by rw [show ((m : Nat) : Int).toNat = m from Int.toNat_natCast m]; exact HEND.out⟩, HBE.out⟩
  · have HM := hide hm
    clear hm hb1
    unfold blV
    go_wp2
    go_ret2
    exact ⟨Or.inr ⟨HM.out, rfl⟩, below_step (below_step HB.out HB1.out) (by go_grown)⟩
end Go.Proofs.Ytobkejnlkjieoaa

/- cmp.Compare, cmp.Less, cmp.Or, slices.BinarySearch of numbers (carried from the graph seat); the order of joints. -/
namespace Go.Proofs.Ytobkejnlkjieoaa
open Go.RowKit Go.Sort
open Go
def lsN (l : List Int) (x : Int) : Nat := l.countP (fun y => decide (y < x))
def Up (l : List Int) : Prop := l.Pairwise (fun a b => a < b)
theorem Up.lt {l : List Int} (h : Up l) {i j : Nat} (hij : i < j) (hj : j < l.length) : iat l i < iat l j := by
  have := (List.pairwise_iff_getElem.1 h) i j (by omega) hj hij
  unfold iat
  rw [List.getD_eq_getElem?_getD, List.getD_eq_getElem?_getD, List.getElem?_eq_getElem hj, List.getElem?_eq_getElem (by omega)]
  exact this
theorem srch_end : ∀ {l : List Int} {x : Int} {p : Nat}, p ≤ l.length → (∀ t, t < p → iat l t < x) → (∀ t, p ≤ t → t < l.length → x ≤ iat l t) → lsN l x = p
  | [], _, p, h, _, _ => by simp at h; subst h; rfl
  | a :: r, x, 0, _, _, h3 => by
    unfold lsN
    rw [List.countP_eq_zero]
    intro y hy
    obtain ⟨j, hj, rfl⟩ := mem_iat hy
    have := h3 j (by omega) hj
    simpa using this
  | a :: r, x, p + 1, h, h2, h3 => by
    have h0 : a < x := h2 0 (by omega)
    have ih := srch_end (l := r) (x := x) (p := p) (by simpa using h) (fun t ht => h2 (t + 1) (by omega)) (fun t h4 h5 => h3 (t + 1) (by omega) (by simpa using h5))
    unfold lsN at ih ⊢
    rw [List.countP_cons, ih]
    simp [h0]
theorem srch_mem {l : List Int} {x : Int} {p : Nat} (hs : Up l) (hp : p ≤ l.length) (h2 : ∀ t, t < p → iat l t < x) (h3 : ∀ t, p ≤ t → t < l.length → x ≤ iat l t) : x ∈ l ↔ p < l.length ∧ iat l p = x := by
  constructor
  · intro h
    obtain ⟨j, hj, e⟩ := mem_iat h
    have h4 : ¬ j < p := fun h5 => by have := h2 j h5; omega
    have h6 : ¬ p < j := fun h5 => by have := hs.lt h5 hj; have := h3 p (by omega) (by omega); omega
    have : j = p := by omega
    subst this
    exact ⟨hj, e⟩
  · rintro ⟨h4, h5⟩
    rw [← h5]
    exact iat_mem h4
theorem isNaN79 (x : Int) (w : World) : Calls Try.prog 79 #[.int .i64 x] w fun e w' => e = .returned (.bool false) ∧ w' = w := by
  go_enter Try.func79, Try.ntmps79
  go_wp2
  go_ret
  exact ⟨by simp, rfl⟩
theorem isNaN82 (x : Int) (w : World) : Calls Try.prog 82 #[.int .i64 x] w fun e w' => e = .returned (.bool false) ∧ w' = w := by
  go_enter Try.func82, Try.ntmps82
  go_wp2
  go_ret
  exact ⟨by simp, rfl⟩
theorem less78 (x y : Int) (w : World) : Calls Try.prog 78 #[.int .i64 x, .int .i64 y] w fun e w' => e = .returned (.bool (decide (x < y))) ∧ w' = w := by
  go_enter Try.func78, Try.ntmps78
  go_wp2_with (go_at_call 82; refine (isNaN82 _ _).mono ?_; rintro e w' ⟨rfl, rfl⟩)
  go_ret
  exact ⟨rfl, rfl⟩
def cmpI (x y : Int) : Int := if x < y then -1 else if y < x then 1 else 0
theorem compare65 (x y : Int) (w : World) : Calls Try.prog 65 #[.int .i64 x, .int .i64 y] w fun e w' => e = .returned (.int .i64 (cmpI x y)) ∧ w' = w := by
  unfold cmpI
  by_cases h1 : x < y
  · rw [if_pos h1]
    go_enter Try.func65, Try.ntmps65
    go_wp2_with (go_at_call 82; refine (isNaN82 _ _).mono ?_; rintro e w' ⟨rfl, rfl⟩)
    go_ret
    exact ⟨rfl, rfl⟩
  · rw [if_neg h1]
    by_cases h2 : y < x
    · rw [if_pos h2]
      go_enter Try.func65, Try.ntmps65
      go_wp2_with (go_at_call 82; refine (isNaN82 _ _).mono ?_; rintro e w' ⟨rfl, rfl⟩)
      go_ret
      exact ⟨rfl, rfl⟩
    · rw [if_neg h2]
      go_enter Try.func65, Try.ntmps65
      go_wp2_with (go_at_call 82; refine (isNaN82 _ _).mono ?_; rintro e w' ⟨rfl, rfl⟩)
      go_ret
      exact ⟨rfl, rfl⟩
set_option maxHeartbeats 4000000 in
set_option maxRecDepth 1000000 in
theorem search61 (p : Option Addr) (l : List Int) (c : Nat) (x : Int) (w : World) (hl : l.length ≤ 1000000) (h : IHas w p l) (hs : Up l) : Calls Try.prog 61 #[.slice p l.length c, .int .i64 x] w fun e w' => e = .returned (.tuple #[.int .i64 (lsN l x), .bool (decide (x ∈ l))]) ∧ w' = w := by
  have S := hide hs
  have H := hide h
  clear hs h
  go_enter Try.func61, Try.ntmps61
  go_wp2
  go_loopg [7, 8] l.length (fun g s7 s8 wr => ∃ lo hi : Nat, s7 = .int .i64 lo ∧ s8 = .int .i64 hi ∧ lo ≤ hi ∧ hi ≤ l.length ∧ hi - lo ≤ g ∧ wr = w ∧ Hid (∀ t, t < lo → iat l t < x) ∧ Hid (∀ t, hi ≤ t → t < l.length → x ≤ iat l t))
  case atStart => exact ⟨0, l.length, rfl, rfl, Nat.zero_le _, Nat.le_refl _, by omega, rfl, fun t ht => absurd ht (Nat.not_lt_zero _), fun t h1 h2 => by omega⟩
  case round =>
    obtain ⟨lo, hi, rfl, rfl, hlh, hin, hg, rfl, h1, h2⟩ := hrel
    by_cases hlt : lo < hi
    · rcases H.out with h | ⟨b, off, rfl, hc⟩
      · subst h; simp at hin; omega
      have cm := hc ((lo + hi) / 2) (by omega)
      clear hc
      generalize hy : iat l ((lo + hi) / 2) = y at cm
      have Y := hide hy
      clear hy
      have e1 : ((lo + hi) / 2 : Nat) < l.length := by omega
      have L := less78 y x
      by_cases hyx : y < x
      · rw [decide_eq_true hyx] at L
        go_wp2_with (go_at_call 78; refine (L _).mono ?_; rintro e w' ⟨rfl, rfl⟩)
        go_roundg (hi - ((lo + hi) / 2 + 1))
        case measure => omega
        case rel =>
          refine ⟨(lo + hi) / 2 + 1, hi, by rw [show ((lo : Int) + (hi : Int)) / 2 + 1 = (((lo + hi) / 2 + 1 : Nat) : Int) by omega], rfl, by omega, hin, Nat.le_refl _, rfl, fun t ht => ?_, h2.out⟩
          by_cases ht' : t = (lo + hi) / 2
          · rw [ht', Y.out]; exact hyx
          · have := S.out.lt (i := t) (j := (lo + hi) / 2) (by omega) (by omega)
            rw [Y.out] at this
            omega
      · rw [decide_eq_false hyx] at L
        go_wp2_with (go_at_call 78; refine (L _).mono ?_; rintro e w' ⟨rfl, rfl⟩)
        go_roundg ((lo + hi) / 2 - lo)
        case measure => omega
        case rel =>
          refine ⟨lo, (lo + hi) / 2, rfl, by rw [show ((lo : Int) + (hi : Int)) / 2 = (((lo + hi) / 2 : Nat) : Int) by omega], by omega, by omega, Nat.le_refl _, rfl, h1.out, fun t ht htn => ?_⟩
          by_cases ht' : t = (lo + hi) / 2
          · rw [ht', Y.out]; omega
          · have := S.out.lt (i := (lo + hi) / 2) (j := t) (by omega) (by omega)
            rw [Y.out] at this
            omega
    · have : hi = lo := by omega
      subst this
      have E1 := hide (srch_end hin h1.out h2.out)
      have E2 := hide (srch_mem S.out hin h1.out h2.out)
      by_cases hn : hi < l.length
      · rcases H.out with h | ⟨b, off, rfl, hc⟩
        · subst h; simp at hn
        have cl := hc hi hn
        clear hc
        generalize hy : iat l hi = y at cl
        have Y := hide hy
        clear hy
        by_cases hyx : y = x
        · go_wp2_with (go_at_call 79; refine (isNaN79 _ _).mono ?_; rintro e w' ⟨rfl, rfl⟩)
          go_ret2
          refine ⟨?_, rfl⟩
          rw [E1.out, decide_eq_true (E2.out.2 ⟨hn, Y.out.trans hyx⟩)]
          first | rfl | simp [*]
        · go_wp2_with (go_at_call 79; refine (isNaN79 _ _).mono ?_; rintro e w' ⟨rfl, rfl⟩)
          go_ret2
          refine ⟨?_, rfl⟩
          rw [E1.out, decide_eq_false (fun k => hyx (Y.out.symm.trans (E2.out.1 k).2))]
          first | rfl | simp [*]
      · go_wp2_with (go_at_call 79; refine (isNaN79 _ _).mono ?_; rintro e w' ⟨rfl, rfl⟩)
        go_ret2
        refine ⟨?_, rfl⟩
        rw [E1.out, decide_eq_false (fun k => hn (E2.out.1 k).1)]
        first | rfl | simp [*]
/-- The first that is not 0. -/
def or2 (a b : Int) : Int := if a = 0 then b else a
set_option maxHeartbeats 4000000 in
theorem or64 (k : Nat) (a b : Int) (w : World) (h0 : w.cell? ⟨k, 0, none⟩ = some (.int .i64 a)) (h1 : w.cell? ⟨k, 1, none⟩ = some (.int .i64 b)) : Calls Try.prog 64 #[.slice (some ⟨k, 0, none⟩) 2 2] w fun e w' => e = .returned (.int .i64 (or2 a b)) ∧ w' = w := by
  have HC : Hid (or2 a b = if a = 0 then b else a) := rfl
  go_enter Try.func64, Try.ntmps64
  go_wp2_with fail
  go_loopw [8] (fun t wr => ∃ i : Nat, i ≤ 2 ∧ t = .int .i64 i ∧ wr = w ∧ Hid (1 ≤ i → a = 0) ∧ Hid (2 ≤ i → b = 0)) (fun t _ => 2 - (intOf t).toNat)
  case atStart => exact ⟨0, by omega, rfl, rfl, fun h => by omega, fun h => by omega⟩
  case round =>
    obtain ⟨i, hi, rfl, rfl, HA, HB⟩ := hrel
    rcases (by omega : i = 0 ∨ i = 1 ∨ i = 2) with rfl | rfl | rfl
    · by_cases ha : a = 0
      · have HA1 : Hid (a = 0) := ha
        go_wp2
        go_roundw
        case rel => exact ⟨1, by omega, by go_num, trivial, fun _ => HA1.out, fun h => by omega⟩
        case measure => simp [intOf]
      · rw [if_neg ha] at HC
        go_wp2
        go_ret
        exact ⟨retI HC.out.symm, rfl⟩
    · have ha := HA.out (by omega)
      rw [if_pos ha] at HC
      have HA1 : Hid (a = 0) := ha
      clear ha
      by_cases hb : b = 0
      · have HB1 : Hid (b = 0) := hb
        go_wp2
        go_roundw
        case rel => exact ⟨2, by omega, by go_num, trivial, fun _ => HA1.out, fun _ => HB1.out⟩
        case measure => simp [intOf]
      · go_wp2
        go_ret
        exact ⟨retI HC.out.symm, rfl⟩
    · have hc : or2 a b = 0 := by rw [HC.out, if_pos (HA.out (by omega)), HB.out (by omega)]
      have HC2 := hide hc
      clear HC HA HB hc
      go_wp2
      go_ret
      exact ⟨retI HC2.out.symm, rfl⟩
/-- The order of two edges. -/
def cmpP (a b : Pt) : Int := or2 (cmpI a.x b.x) (cmpI a.y b.y)
end Go.Proofs.Ytobkejnlkjieoaa

/- The order of joints' edges. -/
namespace Go.Proofs.Ytobkejnlkjieoaa
open Go.RowKit Go.Sort
open Go
/-- What lay below stays, and the count of draws does not fall. -/
structure Rise (w w' : World) : Prop where
  b : Below w.heap.size w w'
  d : w.drawn ≤ w'.drawn
theorem Rise.refl (w : World) : Rise w w := ⟨Below.refl _ _, Nat.le_refl _⟩
theorem Rise.trans {a b c : World} (h : Rise a b) (k : Rise b c) : Rise a c := ⟨below_step h.b k.b, Nat.le_trans h.d k.d⟩
theorem Rise.drew (w : World) : Rise w w.drew := ⟨below_drew _, Nat.le_succ _⟩
theorem Rise.alloc (w : World) (o : Obj) : Rise w (w.alloc o) := ⟨by go_grown, Nat.le_refl _⟩
theorem compareB (x y : Int) (w : World) : Calls Try.prog 65 #[.int .i64 x, .int .i64 y] w fun e w' => e = .returned (.int .i64 (cmpI x y)) ∧ Rise w w' := by
  refine (compare65 x y w).mono ?_
  rintro e w' ⟨rfl, rfl⟩
  exact ⟨rfl, Rise.refl _⟩
theorem or64' (W : World) (n : Nat) (hn : n = W.heap.size) (x y : Int) : Calls Try.prog 64 #[.slice (some ⟨n, 0, none⟩) 2 2] (W.alloc (.cells #[.int .i64 x, .int .i64 y] 3)) fun e w' => e = .returned (.int .i64 (or2 x y)) ∧ Rise (W.alloc (.cells #[.int .i64 x, .int .i64 y] 3)) w' := by
  subst hn
  refine (or64 _ x y _ (by go_cell) (by go_cell)).mono ?_
  rintro e w' ⟨rfl, rfl⟩
  exact ⟨rfl, Rise.refl _⟩
abbrev bx56 (p : Pt) : Obj := .cells #[.int .i64 p.x, .int .i64 p.y] 56
theorem two56 (w : World) (s t : Pt) : ∃ W, W = (w.alloc (bx56 s)).alloc (bx56 t) ∧ Rise w W ∧ W.cell? ⟨w.heap.size, 0, none⟩ = some (.int .i64 s.x) ∧ W.cell? ⟨w.heap.size, 1, none⟩ = some (.int .i64 s.y) ∧ W.cell? ⟨w.heap.size + 1, 0, none⟩ = some (.int .i64 t.x) ∧ W.cell? ⟨w.heap.size + 1, 1, none⟩ = some (.int .i64 t.y) :=
  ⟨_, rfl, ⟨by go_grown, Nat.le_refl _⟩, by go_cell, by go_cell, by go_cell, by go_cell⟩
theorem keep56 {w W W' : World} {g : Nat} {s t : Pt} (h : W.cell? ⟨g, 0, none⟩ = some (.int .i64 s.x) ∧ W.cell? ⟨g, 1, none⟩ = some (.int .i64 s.y) ∧ W.cell? ⟨g + 1, 0, none⟩ = some (.int .i64 t.x) ∧ W.cell? ⟨g + 1, 1, none⟩ = some (.int .i64 t.y) ∧ Hid (Rise w W)) (hr : Rise W W') :
    W'.cell? ⟨g, 0, none⟩ = some (.int .i64 s.x) ∧ W'.cell? ⟨g, 1, none⟩ = some (.int .i64 s.y) ∧ W'.cell? ⟨g + 1, 0, none⟩ = some (.int .i64 t.x) ∧ W'.cell? ⟨g + 1, 1, none⟩ = some (.int .i64 t.y) ∧ Hid (Rise w W') :=
  ⟨later hr.b h.1, later hr.b h.2.1, later hr.b h.2.2.1, later hr.b h.2.2.2.1, Rise.trans h.2.2.2.2.out hr⟩
set_option maxHeartbeats 2000000 in
theorem joint63 (a b : Pt) (w : World) : Calls Try.prog 63 #[pv a.x a.y, pv b.x b.y] w fun e w' => e = .returned (.int .i64 (cmpP a b)) ∧ Rise w w' := by
  go_enter Try.func63, Try.ntmps63
  obtain ⟨W, hW, hb, q⟩ := two56 w a b
  go_wp2_with fail
  rw [← hW]
  clear hW
  have S0 : W.cell? ⟨w.heap.size, 0, none⟩ = some (.int .i64 a.x) ∧ W.cell? ⟨w.heap.size, 1, none⟩ = some (.int .i64 a.y) ∧ W.cell? ⟨w.heap.size + 1, 0, none⟩ = some (.int .i64 b.x) ∧ W.cell? ⟨w.heap.size + 1, 1, none⟩ = some (.int .i64 b.y) ∧ Hid (Rise w W) := ⟨q.1, q.2.1, q.2.2.1, q.2.2.2, hb⟩
  clear hb q
  go_region_held3 (fun w' => w'.cell? ⟨w.heap.size, 0, none⟩ = some (.int .i64 a.x) ∧ w'.cell? ⟨w.heap.size, 1, none⟩ = some (.int .i64 a.y) ∧ w'.cell? ⟨w.heap.size + 1, 0, none⟩ = some (.int .i64 b.x) ∧ w'.cell? ⟨w.heap.size + 1, 1, none⟩ = some (.int .i64 b.y) ∧ Hid (Rise w w'))
    (first | exact keep56 S0 (Rise.drew _) | exact keep56 (by assumption) hb | exact keep56 (by assumption) (Rise.alloc _ _))
    (first
      | (go_at_call 65; refine (compareB _ _ _).mono ?_; rintro e w' ⟨rfl, hb⟩)
      | (go_at_call 64; refine (or64' _ _ rfl _ _).mono ?_; rintro e w' ⟨rfl, hb⟩))
  rename_i hH
  have HB := hide hH.2.2.2.2.out
  clear hH S0
  go_wp2
  go_ret
  exact ⟨retI rfl, HB.out⟩
theorem rise_grow {W w' : World} (h : Rise W w') : ∃ q os', w' = grow (W.drewN q) os' := by
  obtain ⟨⟨d, os⟩, e⟩ := regrown_of_below h.b
  refine ⟨d - W.drawn, os, ?_⟩
  have hd := h.d
  rw [e] at hd ⊢
  have hd' : W.drawn ≤ d := hd
  unfold grow redrawn World.drewN
  simp only
  congr 1
  omega
end Go.Proofs.Ytobkejnlkjieoaa

/- slices.SortFunc of edges by their ends. -/
namespace Go.Proofs.Ytobkejnlkjieoaa
open Go.RowKit Go.Sort Go.Shelf
open Go
def encP (p : Pt) : List Value := [.int .i64 p.x, .int .i64 p.y]
/-- Edges in order. -/
def sortP (L : List Pt) : List Pt := L.mergeSort fun x y => !(ltOf cmpP) y x
theorem lt_cmpP (a b : Pt) : (ltOf cmpP) a b = decide (a.x < b.x ∨ (a.x = b.x ∧ a.y < b.y)) := by
  unfold ltOf cmpP or2 cmpI
  by_cases h1 : a.x < b.x
  · simp [h1]
  · by_cases h2 : b.x < a.x
    · have h3 : ¬ a.x = b.x := by omega
      simp [h1, h2, h3]
    · have h3 : a.x = b.x := by omega
      by_cases h4 : a.y < b.y
      · simp [h3, h4]
      · by_cases h5 : b.y < a.y
        · simp [h3, h4, h5]
        · simp [h3, h4, h5]
theorem swoP : SWO (ltOf cmpP) where
  irrefl x := by rw [lt_cmpP]; simp
  trans x y z h1 h2 := by rw [lt_cmpP] at *; simp at *; omega
  ntrans x y z h1 h2 := by rw [lt_cmpP] at *; simp at *; omega
theorem totP (x y : Pt) (h1 : (ltOf cmpP) x y = false) (h2 : (ltOf cmpP) y x = false) : x = y := by
  rw [lt_cmpP] at h1 h2
  simp at h1 h2
  cases x; cases y
  simp at h1 h2 ⊢
  omega
theorem flat_cells (L : List Pt) : (flatK encP 2 L.toArray).toList = cells L := by
  apply List.ext_getElem?
  intro t
  by_cases ht : t < L.length * 2
  · have hs : t < (flatK encP 2 L.toArray).size := by simpa using ht
    have hq : t / 2 < L.length := by omega
    have e1 : (flatK encP 2 L.toArray).toList[t]? = some ((encP (L[t / 2]'hq))[t % 2]!) := by
      rw [Array.getElem?_toList, Array.getElem?_eq_getElem hs]
      have := get_flatK encP 2 L.toArray t (by simpa using ht)
      rw [getElem!_pos _ t hs] at this
      rw [this]
      congr 1
      rw [getElem!_pos L.toArray (t / 2) (by simpa using hq)]
      simp
    rw [e1]
    obtain ⟨c0, c1⟩ := cells_at L (t / 2) hq
    have hat : at' L (t / 2) = L[t / 2] := by unfold at'; rw [List.getD_eq_getElem?_getD, List.getElem?_eq_getElem hq]; rfl
    rcases Nat.mod_two_eq_zero_or_one t with h | h
    · rw [h]
      rw [show t / 2 * 2 = t by omega, hat] at c0
      rw [c0]
      rfl
    · rw [h]
      rw [show t / 2 * 2 + 1 = t by omega, hat] at c1
      rw [c1]
      rfl
  · rw [List.getElem?_eq_none (by simpa using ht), List.getElem?_eq_none (by rw [cells_length]; omega)]
/-- The row of edges behind the sort. -/
theorem sort_owns {w : World} {B g c : Nat} {L L' : List Pt} (h : Owns w B (.slice (some ⟨g, 0, none⟩) L.length c) L) (hl : L'.length = L.length) (m : Nat) (os : Array Obj) : Owns (sortWorldK encP 2 w g 0 m L'.toArray os) B (.slice (some ⟨g, 0, none⟩) L'.length c) L' := by
  obtain ⟨h1, ⟨h2, h3⟩ | ⟨g', cap, cur, h2, h3, h4, h5, h6, h7, h8⟩⟩ := h
  · cases h2
  · injection h2 with h2 _ h2'
    injection h2 with h2
    injection h2 with h2 _ _
    subst h2; subst h2'
    have hsz : (flatK encP 2 L'.toArray).size = L'.length * 2 := by simp
    refine ⟨cells_length L', Or.inr ⟨g, c, putCells id 0 (flatK encP 2 L'.toArray) cur, rfl, h3, ?_, by omega, h6, by simpa [putCells] using h7, ?_⟩⟩
    · have hg := (Array.getElem?_eq_some_iff.1 h4).1
      simp only [sortWorldK, putRowK, putRow, mapBlock, grow]
      rw [Array.getElem?_append_left (by simpa using hg), Array.getElem?_modify, if_pos rfl]
      show Option.map _ (w.heap[g]?) = _
      rw [h4]
      rfl
    · rw [← flat_cells L']
      apply List.ext_getElem?
      intro t
      by_cases ht : t < L'.length * 2
      · rw [List.getElem?_take_of_lt ht]
        have hc : t < cur.size := by rw [h7]; omega
        rw [Array.getElem?_toList, Array.getElem?_toList]
        simp only [putCells]
        rw [Array.getElem?_mapIdx, Array.getElem?_eq_getElem hc]
        simp only [Option.map_some]
        rw [if_pos ⟨Nat.zero_le _, by rw [hsz]; omega⟩, Nat.sub_zero, Array.getElem?_eq_getElem (by rw [hsz]; exact ht), getElem!_pos _ t (by rw [hsz]; exact ht)]
        rfl
      · rw [List.getElem?_eq_none (by rw [List.length_take]; omega), List.getElem?_eq_none (by simpa using ht)]
theorem sort_frame (w : World) (g m : Nat) (dk : Array Pt) (os : Array Obj) : Frame w (sortWorldK encP 2 w g 0 m dk os) (fun b => b = g) := by
  refine ⟨rfl, rfl, rfl, ?_, fun k hk hp => ?_⟩
  · simp [sortWorldK, grow, putRowK, putRow, mapBlock]
  · simp only [sortWorldK, grow, putRowK, putRow, mapBlock]
    rw [Array.getElem?_append_left (by simp; omega), Array.getElem?_modify, if_neg (fun e => hp e.symm)]
    rfl
theorem sort62 (B : Nat) (v : Value) (L : List Pt) (w : World) (h : Owns w B v L) (hl : L.length ≤ 100000) : Calls Try.prog 62 #[v, .func (.func 63) #[] #[]] w fun e w' => e = .returned (.tuple #[]) ∧ Owns w' B v (sortP L) ∧ Frame w w' (fun b => v.ownBlock = some b) := by
  have hlen : (sortP L).length = L.length := by simp [sortP]
  by_cases h0 : L.length = 0
  · have hL : L = [] := List.length_eq_zero_iff.1 h0
    subst hL
    obtain ⟨p, c, rfl, _⟩ := h.form
    refine (Go.Proofs.Try.slices_SortFunc_none (α := Nat) p c _ w).mono ?_
    rintro e w' ⟨rfl, rfl⟩
    exact ⟨rfl, by rw [show sortP [] = [] by simp [sortP]]; exact h, Frame.of_below (Below.refl _ _) _⟩
  · obtain ⟨g, c, rfl, _, _, hgl⟩ := owns_block h (by omega)
    have hH : HoldsK encP 2 w g 0 L.toArray := by
      intro j hj
      have hj' : j < L.length * 2 := by simpa using hj
      refine ⟨?_, World.ownsRow.frozenAt h _⟩
      rw [Nat.zero_add, World.ownsRow.cellAt h j (by omega), ← flat_cells L, Array.getElem?_toList, Array.getElem?_eq_getElem hj, getElem!_pos _ j hj]
      rfl
    have hcmp : CmpLays Try.prog 63 #[] encP 2 cmpP g 0 L.toArray.size w := by
      intro m os dk _ x y
      refine (joint63 x y _).mono ?_
      rintro e w' ⟨rfl, hr⟩
      exact ⟨rfl, rise_grow hr⟩
    have T := Go.Proofs.Try.slices_SortFunc_total (α := Pt) 2 Try.isAgg56 Try.sizeOf56 encP (fun _ => rfl) (fun x v hv => by simp [encP] at hv; rcases hv with rfl | rfl <;> rfl) cmpP swoP 63 #[] g 0 c L.toArray w
      (enters_of Try.func63 (by kernel_rfl) rfl) hcmp hH hgl (by simp; omega) totP
    rw [List.size_toArray] at T
    refine T.mono ?_
    rintro e w' ⟨rfl, m, os, rfl⟩
    refine ⟨rfl, ?_, (sort_frame w g m _ os).mono fun i _ hi => by subst hi; rfl⟩
    have := sort_owns (L' := sortP L) h hlen m os
    rw [hlen] at this
    exact this
end Go.Proofs.Ytobkejnlkjieoaa
