/- The reference's Around, in every world. -/
import Derived.Test.YtgnojjbdioldbaaI2
import Derived.Deep.RegionHeld3
import Derived.Deep.CutBlock
import Derived.Deep.DeepCutAuto
namespace Go.Proofs.Ytgnojjbdioldbaa
open Go.RowKit Go.Sort
open Go

theorem one_pt (w : World) (a : Pt) : ∃ W, W = w.alloc (bx a) ∧ Below w.heap.size w W ∧ Own W w.heap.size a := ⟨_, rfl, by go_grown, by unfold Own; exact ⟨by go_cell, by go_cell, by go_cell, by go_cell⟩⟩
theorem step_in21 {o p : Pt} (ho : ptB o = true) (hp : ptB p = true) : In21 (stepP o p) := step_bound ho hp
theorem below_drew (w : World) : Below w.heap.size w w.drew := by go_grown
theorem iat_append_lt {l : List Int} {x : Int} {j : Nat} (h : j < l.length) : iat (l ++ [x]) j = iat l j := by
  unfold iat; rw [List.getD_eq_getElem?_getD, List.getElem?_append_left h, List.getD_eq_getElem?_getD]
/-- The list while the tail is moved up: behind j each number stands one further. -/
def Moving (L : List Nat) (i j : Nat) (C : List Int) : Prop := C.length = i + 1 ∧ ∀ x, x < i + 1 → iat C x = if x ≤ j then iat (ints L ++ [0]) x else iat (ints L) (x - 1)
theorem Moving.start {L : List Nat} {i : Nat} (h : L.length = i) : Moving L i i (ints L ++ [0]) := ⟨by simp [ints_length, h], fun x hx => by rw [if_pos (by omega)]⟩
theorem Moving.step {L : List Nat} {i j : Nat} {C : List Int} (hl : L.length = i) (hj : j + 1 ≤ i) (h : Moving L i (j + 1) C) : Moving L i j (C.set (j + 1) (iat C j)) := by
  refine ⟨by rw [List.length_set]; exact h.1, fun x hx => ?_⟩
  by_cases e : x = j + 1
  · subst e
    rw [iat_set_eq (by rw [h.1]; omega), if_neg (by omega), h.2 j (by omega), if_pos (by omega), iat_append_lt (by rw [ints_length]; omega)]
    simp
  · rw [iat_set_ne (fun k => e k.symm), h.2 x hx]
    by_cases e2 : x ≤ j
    · rw [if_pos (by omega), if_pos e2]
    · rw [if_neg (by omega), if_neg e2]
theorem Moving.done {L : List Nat} {i k : Nat} {C : List Int} (hl : L.length = i) (hk : k ≤ i) (h : Moving L i k C) : C.set k (i : Int) = ints (insAt L k i) := by
  refine iat_ext (by rw [List.length_set, h.1, ints_length, insAt_length, hl]) fun x hx => ?_
  rw [List.length_set, h.1] at hx
  rw [iat_ints, insAt_get L (by omega)]
  by_cases e : x = k
  · subst e
    rw [iat_set_eq (by rw [h.1]; omega), if_neg (by omega), if_pos rfl]
  · rw [iat_set_ne (fun q => e q.symm), h.2 x hx]
    by_cases e2 : x < k
    · rw [if_pos (by omega), if_pos e2, iat_append_lt (by rw [ints_length]; omega), iat_ints]
    · rw [if_neg (by omega), if_neg e2, if_neg e, iat_ints]
theorem below_grown3 {B : Nat} {a w w' : World} {v : Value} {base n : Nat} {xs : List Value} (h : Below B a w) (ho : w.ownsRow base 3 1 v n xs) (hB : B ≤ base) (hw : B ≤ w.heap.size) (hg : w.grownBy w' v.ownBlock) : Below B a w' :=
  h.grown hg hw fun k hk => Nat.le_trans hB (World.ownsRow.lt ho k hk).1
theorem owns_base {w : World} {b b' : Nat} {e : TypeId} {size : Nat} {v : Value} {n : Nat} {xs : List Value} (h : w.ownsRow b e size v n xs) (hb : b' ≤ b) : w.ownsRow b' e size v n xs := by
  obtain ⟨h1, h2 | ⟨g, cap, cur, rfl, h3, h4⟩⟩ := h
  · exact ⟨h1, Or.inl h2⟩
  · exact ⟨h1, Or.inr ⟨g, cap, cur, rfl, Nat.le_trans hb h3, h4⟩⟩
theorem owns_base3 {w : World} {b b' : Nat} {v : Value} {l : List Int} (h : IOwns w b v l) (hb : b' ≤ b) : IOwns w b' v l := owns_base h hb
theorem iowns_at {w : World} {base g n c : Nat} {C : List Int} (hl : C.length = n) (h : IOwns w base (.slice (some ⟨g, 0, none⟩) n c) C) {j : Nat} (hj : j < n) : w.cell? ⟨g, j, none⟩ = some (.int .i64 (iat C j)) ∧ w.frozen? ⟨g, j, none⟩ = false := by
  rw [← hl] at h hj
  exact ⟨h.at_ hj, h.frozen j⟩
theorem iowns_set {w : World} {base g n c : Nat} {C : List Int} (hl : C.length = n) (h : IOwns w base (.slice (some ⟨g, 0, none⟩) n c) C) (j : Nat) (x : Int) : IOwns (w.setCell ⟨g, j, none⟩ (.int .i64 x)) base (.slice (some ⟨g, 0, none⟩) n c) (C.set j x) := by
  rw [← hl] at h ⊢
  have := h.set j x
  rw [List.length_set] at this
  exact this
set_option maxRecDepth 100000 in
set_option maxHeartbeats 8000000 in
theorem around22 (p : Option Addr) (ps : List Pt) (cap : Nat) (o : Pt) (w : World) (hl : ps.length ≤ 4096) (ho : ptB o = true) (hps : ∀ j, j < ps.length → ptB (at' ps j) = true) (hno : ∀ j, j < ps.length → at' ps j ≠ o) (h : Has w p ps) :
    Calls Try.prog 22 #[pv o.x o.y, .slice p ps.length cap] w fun e w' => ∃ v L, e = .returned v ∧ Ordered o ps ps.length L ∧ IOwns w' w.heap.size v (ints L) ∧ Below w.heap.size w w' := by
  obtain ⟨W, hW, hbW, ow⟩ := one_pt w o
  have HH := hide (h.later hbW)
  have HB := hide hbW
  have HO := hide ow
  have HPB := hide hps
  have HNO := hide hno
  obtain ⟨i0, hi0, hz0, hz1, hz2⟩ := info_parts info3
  clear h hbW ow hps hno
  go_enter Try.func22, Try.ntmps22
  go_wp2_with fail
  rw [← hW]
  clear hW
  go_loopw [5, 6] (fun s t wr => ∃ (i : Nat) (L : List Nat), i ≤ ps.length ∧ t = .int .i64 i ∧ Hid (Below W.heap.size W wr) ∧ Hid (Ordered o ps i L) ∧ Hid (IOwns wr W.heap.size s (ints L))) (fun _ t _ => ps.length - (intOf t).toNat)
  case atStart => exact ⟨0, [], by omega, rfl, Below.refl _ _, ordered_nil o ps, IOwns.nil _ _⟩
  case round =>
    obtain ⟨i, L, hi, rfl, HBr, HL, HI⟩ := hrel
    obtain ⟨pl, cl, hsl, _, _, _, _⟩ := HI.out.form
    rw [ints_length, HL.out.length] at hsl
    subst hsl
    by_cases hlt : i < ps.length
    · rcases HH.out.later HBr.out with h | ⟨b, off, rfl, hLs⟩
      · subst h; simp at hlt
      have HLs := hide hLs
      obtain ⟨c0, c1⟩ := hLs i hlt
      have hpi := HPB.out i hlt
      have ha21 := step_in21 ho hpi
      obtain ⟨y, hy⟩ : ∃ y, at' ps i = y := ⟨_, rfl⟩
      rw [hy] at c0 c1 ha21
      have HY := hide hy
      have HA21 := hide ha21
      obtain ⟨q0, q1, q2, q3⟩ := HO.out.later HBr.out
      have wx : IntKind.i64.wrap (y.x - o.x) = y.x - o.x := by rw [IntKind.wrap_i64]; unfold In21 stepP at ha21; simp at ha21; omega
      have wy : IntKind.i64.wrap (y.y - o.y) = y.y - o.y := by rw [IntKind.wrap_i64]; unfold In21 stepP at ha21; simp at ha21; omega
      have SK : ∀ V, Below wr.heap.size wr V → V.cell? ⟨w.heap.size, 0, none⟩ = some (.int .i64 o.x) ∧ V.cell? ⟨w.heap.size, 1, none⟩ = some (.int .i64 o.y) ∧ V.cell? ⟨b, off + i * 2, none⟩ = some (.int .i64 y.x) ∧ V.cell? ⟨b, off + i * 2 + 1, none⟩ = some (.int .i64 y.y) := fun V hB => ⟨later hB q0, later hB q1, later hB c0, later hB c1⟩
      have SK' := hide SK
      have i1 : (i : Int) < ps.length := by omega
      have i2 : (0 : Int) ≤ i := by omega
      clear SK hLs hy ha21 hpi
      go_upto_region 5 with fail
      go_region_held3 (fun V => V.cell? ⟨w.heap.size, 0, none⟩ = some (.int .i64 o.x) ∧ V.cell? ⟨w.heap.size, 1, none⟩ = some (.int .i64 o.y) ∧ V.cell? ⟨b, off + i * 2, none⟩ = some (.int .i64 y.x) ∧ V.cell? ⟨b, off + i * 2 + 1, none⟩ = some (.int .i64 y.y))
        (first | exact SK'.out _ (below_drew _) | exact SK'.out _ (by go_grown))
        (fail)
      rename_i hHeld
      clear hHeld
      obtain ⟨a, ha⟩ : ∃ a : Pt, a = stepP o y := ⟨_, rfl⟩
      obtain ⟨U, hU⟩ : ∃ U, U = (wr.alloc (.cells #[.int .i64 (y.x - o.x), .int .i64 (y.y - o.y)] 23)).drew := ⟨_, rfl⟩
      have hbU : Below wr.heap.size wr U := by rw [hU]; go_grown
      have HAU : Hid (Own U wr.heap.size a) := by show Own _ _ _; rw [hU, ha]; unfold Own stepP; exact ⟨by go_cell, by go_cell, by go_cell, by go_cell⟩
      have HBU := hide (Below.trans HBr.out (hbU.mono HBr.out.size))
      have HIU := hide (HI.out.later hbU)
      have HOU := hide ((HO.out.later HBr.out).later hbU)
      have HLU := hide (HLs.out.later hbU)
      have HAE := hide ha
      rw [← hU]
      clear hU hbU q0 q1 q2 q3 c0 c1 SK' wx wy HBr HI HLs ha
      rw [← HAE.out] at HA21
      obtain ⟨ka, hka⟩ : ∃ ka, wr.heap.size = ka := ⟨_, rfl⟩
      rw [hka] at HAU ⊢
      clear hka
      go_upto_block 2 with fail
      go_cut [8] (fun s8 wx => ∃ k : Nat, k ≤ i ∧ s8 = .int .i64 k ∧ Hid (Below U.heap.size U wx) ∧ Hid (∀ j, k ≤ j → j < i → fullLt o ps i (nat' L j)) ∧ Hid (k = 0 ∨ fullLt o ps (nat' L (k - 1)) i))
      case first =>
        go_wp2_with fail
        go_loopw [8] (fun t wq => ∃ k : Nat, k ≤ i ∧ t = .int .i64 k ∧ Hid (Below U.heap.size U wq) ∧ Hid (∀ j, k ≤ j → j < i → fullLt o ps i (nat' L j))) (fun t _ => (intOf t).toNat)
        case atStart => exact ⟨i, by omega, rfl, Below.refl _ _, fun j h1 h2 => by omega⟩
        case round =>
          obtain ⟨k, hk, rfl, HBq, HF⟩ := hrel
          by_cases hk0 : 0 < k
          · obtain ⟨k', rfl⟩ : ∃ k', k = k' + 1 := ⟨k - 1, by omega⟩
            have HIq := hide (HIU.out.later HBq.out)
            obtain ⟨g, c, hv, _, _, _⟩ := iowns_block HIq.out (by rw [ints_length, HL.out.length]; omega)
            simp only [Value.slice.injEq] at hv
            obtain ⟨rfl, hv1, rfl⟩ := hv
            have HIl := hide hv1
            have d0 := (iowns_at HIl.out.symm HIq.out (j := k') (by omega)).1
            rw [iat_ints] at d0
            have hxi : nat' L k' < i := HL.out.lt (nat_mem (by rw [HL.out.length]; omega))
            obtain ⟨x, hx⟩ : ∃ x, nat' L k' = x := ⟨_, rfl⟩
            rw [hx] at d0 hxi
            have HX := hide hx
            obtain ⟨c0, c1⟩ := HLU.out.later HBq.out x (by omega)
            have hb21 := step_in21 ho (HPB.out x (by omega))
            obtain ⟨z, hz⟩ : ∃ z, at' ps x = z := ⟨_, rfl⟩
            rw [hz] at c0 c1 hb21
            have HZ := hide hz
            obtain ⟨q0, q1, _, _⟩ := HOU.out.later HBq.out
            have wx : IntKind.i64.wrap (z.x - o.x) = z.x - o.x := by rw [IntKind.wrap_i64]; unfold In21 stepP at hb21; simp at hb21; omega
            have wy : IntKind.i64.wrap (z.y - o.y) = z.y - o.y := by rw [IntKind.wrap_i64]; unfold In21 stepP at hb21; simp at hb21; omega
            have wk : IntKind.i64.wrap (k' : Int) = k' := by rw [IntKind.wrap_i64]; omega
            have HB21 := hide hb21
            have SK : ∀ V, Below wr.heap.size wr V → V.cell? ⟨w.heap.size, 0, none⟩ = some (.int .i64 o.x) ∧ V.cell? ⟨w.heap.size, 1, none⟩ = some (.int .i64 o.y) ∧ V.cell? ⟨g, k', none⟩ = some (.int .i64 x) ∧ V.cell? ⟨b, off + x * 2, none⟩ = some (.int .i64 z.x) ∧ V.cell? ⟨b, off + x * 2 + 1, none⟩ = some (.int .i64 z.y) := fun V hB => ⟨later hB q0, later hB q1, later hB d0, later hB c0, later hB c1⟩
            have SK' := hide SK
            have j1 : (k' : Int) < i := by omega
            have j2 : (0 : Int) ≤ k' := by omega
            have j3 : (x : Int) < ps.length := by omega
            have j4 : (0 : Int) ≤ x := by omega
            clear SK hx hz hb21 hv1
            go_upto_region 8 with fail
            go_region_held3 (fun V => V.cell? ⟨w.heap.size, 0, none⟩ = some (.int .i64 o.x) ∧ V.cell? ⟨w.heap.size, 1, none⟩ = some (.int .i64 o.y) ∧ V.cell? ⟨g, k', none⟩ = some (.int .i64 x) ∧ V.cell? ⟨b, off + x * 2, none⟩ = some (.int .i64 z.x) ∧ V.cell? ⟨b, off + x * 2 + 1, none⟩ = some (.int .i64 z.y))
              (first | exact SK'.out _ (below_drew _) | exact SK'.out _ (by go_grown))
              (fail)
            rename_i hHeld
            clear hHeld
            obtain ⟨bb, hbb⟩ : ∃ bb : Pt, bb = stepP o z := ⟨_, rfl⟩
            obtain ⟨V, hV⟩ : ∃ V, V = (wr.alloc (.cells #[.int .i64 (z.x - o.x), .int .i64 (z.y - o.y)] 23)).drew := ⟨_, rfl⟩
            have hbV : Below wr.heap.size wr V := by rw [hV]; go_grown
            have HBV : Hid (Own V wr.heap.size bb) := by show Own _ _ _; rw [hV, hbb]; unfold Own stepP; exact ⟨by go_cell, by go_cell, by go_cell, by go_cell⟩
            have HUV := hide (Below.trans HBq.out (hbV.mono HBq.out.size))
            have HAV := hide (HAU.out.later HUV.out)
            have HBE := hide hbb
            rw [← HBE.out] at HB21
            rw [← hV]
            clear hV hbV q0 q1 c0 c1 d0 SK' wx wy hbb
            have BF := hide (before45 a bb HA21.out HB21.out V)
            have HC : Hid (stopB a bb = (decide (0 < befI a bb) || (decide (befI a bb = 0) && decide (squareP bb ≤ squareP a)))) := rfl
            obtain ⟨cc, hcc⟩ : ∃ cc, befI a bb = cc := ⟨_, rfl⟩
            rw [hcc] at BF HC
            clear hcc
            obtain ⟨q0, q1, _, _⟩ := HAV.out
            obtain ⟨r0, r1, _, _⟩ := HBV.out
            go_wp2_with fail
            refine BF.out.mono ?_
            rintro e w2 ⟨rfl, hb2⟩
            have HB2 := hide (Below.trans HUV.out (hb2.mono HUV.out.size))
            obtain ⟨s0, s1, _, _⟩ := HAV.out.later hb2
            obtain ⟨t0, t1, _, _⟩ := HBV.out.later hb2
            clear hb2 q0 q1 r0 r1 BF
            have hyes : stopB a bb = true → fullLt o ps x i := fun h => stop_yes hxi (by rw [HY.out, HZ.out, ← HAE.out, ← HBE.out]; exact h)
            have hnot : stopB a bb = false → fullLt o ps i x := fun h => stop_no (by rw [HY.out, HZ.out, ← HAE.out, ← HBE.out]; exact h)
            have HYES := hide hyes
            have HNOT := hide hnot
            clear hyes hnot
            have m1 := mul_in (m := 2097152) (n := 2097152) a.x a.x (by have := HA21.out; unfold In21 at this; omega) (by have := HA21.out; unfold In21 at this; omega)
            have m2 := mul_in (m := 2097152) (n := 2097152) a.y a.y (by have := HA21.out; unfold In21 at this; omega) (by have := HA21.out; unfold In21 at this; omega)
            have m3 := mul_in (m := 2097152) (n := 2097152) bb.x bb.x (by have := HB21.out; unfold In21 at this; omega) (by have := HB21.out; unfold In21 at this; omega)
            have m4 := mul_in (m := 2097152) (n := 2097152) bb.y bb.y (by have := HB21.out; unfold In21 at this; omega) (by have := HB21.out; unfold In21 at this; omega)
            have HSQ : Hid (squareP bb = bb.x * bb.x + bb.y * bb.y ∧ squareP a = a.x * a.x + a.y * a.y) := ⟨rfl, rfl⟩
            have stopK : stopB a bb = true → ∃ k, k ≤ i ∧ Value.int .i64 ((k' : Int) + 1) = .int .i64 (k : Nat) ∧ Hid (Below U.heap.size U w2) ∧ Hid (∀ j, k ≤ j → j < i → fullLt o ps i (nat' L j)) ∧ Hid (k = 0 ∨ fullLt o ps (nat' L (k - 1)) i) := fun h => ⟨k' + 1, hk, by simp, HB2.out, HF.out, Or.inr (by show fullLt o ps (nat' L (k' + 1 - 1)) i; rw [show k' + 1 - 1 = k' by omega, HX.out]; exact HYES.out h)⟩
            have STOP := hide stopK
            clear stopK
            by_cases h1 : 0 < cc
            · go_wp2
              go_meet
              case rel => exact STOP.out (by rw [HC.out]; simp [h1])
            · by_cases h2 : cc = 0
              · subst h2
                by_cases h3 : bb.x * bb.x + bb.y * bb.y ≤ a.x * a.x + a.y * a.y
                · go_wp2
                  go_meet
                  case rel => exact STOP.out (by rw [HC.out, HSQ.out.1, HSQ.out.2]; simp [h3])
                · have hf : stopB a bb = false := by rw [HC.out, HSQ.out.1, HSQ.out.2]; simp; omega
                  have HG := hide (HNOT.out hf)
                  clear hf
                  go_wp2
                  go_roundw
                  case rel => exact ⟨k', by omega, by go_num, HB2.out, fun j u1 u2 => by
                    by_cases e : j = k'
                    · rw [e, HX.out]; exact HG.out
                    · exact HF.out j (by omega) u2⟩
                  case measure => simp [intOf]
              · have h2' : (cc == 0) = false := by simp [h2]
                have hf : stopB a bb = false := by rw [HC.out]; simp [h1, h2]
                have HG := hide (HNOT.out hf)
                clear hf
                go_wp2
                go_roundw
                case rel => exact ⟨k', by omega, by go_num, HB2.out, fun j u1 u2 => by
                  by_cases e : j = k'
                  · rw [e, HX.out]; exact HG.out
                  · exact HF.out j (by omega) u2⟩
                case measure => simp [intOf]
          · have hk1 : k = 0 := by omega
            subst hk1
            go_wp2
            go_meet
            case rel => exact ⟨0, by omega, rfl, HBq.out, HF.out, Or.inl rfl⟩
      case rest =>
        obtain ⟨k, hk, rfl, HBx, HF, HE⟩ := hcut
        have HIc := hide (HIU.out.later HBx.out)
        have HBc := hide (Below.trans HBU.out (HBx.out.mono HBU.out.size))
        have hlen : (ints L).length = i := by rw [ints_length]; exact HL.out.length
        have hOW : wc.ownsRow W.heap.size 3 1 (.slice pl i cl) i (icells (ints L)) := by
          have := HIc.out
          unfold IOwns at this
          rw [hlen] at this
          exact this
        have hsz := HBc.out.size
        have HLEN := hide hlen
        clear hlen
        go_wp2_with (at_builtin; refine wpList_append_own _ rfl _ _ 41 rfl W.heap.size 3 i0 (.int .i64 0) 1 8 Try.underlying41 hi0 hz0 hz1 hz2 rfl (by decide) _ _ _ rfl (World.ownsRow.alloc hOW _) ⟨wc.heap.size, 0, none⟩ 1 1 [.int .i64 0] rfl rfl ?c1 ?c2 ?c3 ?c4 ?c5 ?_)
        case c1 =>
          intro j u hj
          match j, hj with
          | 0, hj => simp at hj; subst hj; simp [Addr.add]
        case c2 => intro u hu; simp at hu; subst hu; rfl
        case c3 => unfold maxLen; omega
        case c4 => omega
        case c5 => simp; omega
        intro v' w3 hown' hgrow _
        have ho3 : IOwns w3 W.heap.size v' (ints L ++ [0]) := iowns_more (by rw [HLEN.out]; exact hown')
        have hbg : Below W.heap.size wc w3 := below_grown3 (w := wc.alloc (.cells #[.int .i64 0] 3)) (by go_grown) (World.ownsRow.alloc hOW _) (Nat.le_refl _) (by simp; omega) hgrow
        have HB3 := hide (Below.trans HBc.out hbg)
        obtain ⟨g, c, rfl, _, _, _⟩ := iowns_block ho3 (by simp)
        have hl3 : (ints L ++ [0]).length = i + 1 := by rw [List.length_append, HLEN.out]; rfl
        rw [hl3] at ho3 ⊢
        have HO3 := hide ho3
        clear hown' hgrow hbg hOW ho3 hl3 HIc HBc
        have hHL := HL.out.length
        have HHL := hide hHL
        clear hHL
        go_wp2_with fail
        go_loopw [11] (fun t wq => ∃ (j : Nat) (C : List Int), k ≤ j ∧ j ≤ i ∧ t = .int .i64 j ∧ Hid (Below W.heap.size W wq) ∧ Hid (Moving L i j C) ∧ Hid (IOwns wq W.heap.size (.slice (some ⟨g, 0, none⟩) (i + 1) c) C)) (fun t _ => (intOf t).toNat)
        case atStart => exact ⟨i, ints L ++ [0], hk, Nat.le_refl _, by go_num, HB3.out, Moving.start HHL.out, HO3.out⟩
        case round =>
          obtain ⟨j, C, hkj, hji, rfl, HBq, HM, HC⟩ := hrel
          have hgq : W.heap.size ≤ g := (World.ownsRow.lt HC.out g rfl).1
          by_cases hlt2 : k < j
          · obtain ⟨j', rfl⟩ : ∃ j', j = j' + 1 := ⟨j - 1, by omega⟩
            obtain ⟨d0, _⟩ := iowns_at HM.out.1 HC.out (j := j') (by omega)
            obtain ⟨d1, d2⟩ := iowns_at HM.out.1 HC.out (j := j' + 1) (by omega)
            have HM' := hide (HM.out.step HHL.out hji)
            have HC' := hide (iowns_set HM.out.1 HC.out (j' + 1) (iat C j'))
            have HB' := hide (show Below W.heap.size W (wr.setCell ⟨g, j' + 1, none⟩ (.int .i64 (iat C j'))) from HBq.out.setCell hgq _)
            obtain ⟨X, hX⟩ : ∃ X, iat C j' = X := ⟨_, rfl⟩
            obtain ⟨Y, hY⟩ : ∃ Y, iat C (j' + 1) = Y := ⟨_, rfl⟩
            rw [hX] at d0 HM' HC' HB'
            rw [hY] at d1
            obtain ⟨C', hC'⟩ : ∃ C', C.set (j' + 1) X = C' := ⟨_, rfl⟩
            rw [hC'] at HM' HC'
            have j1 : (j' : Int) < (i : Int) + 1 := by omega
            have j2 : (j' : Int) + 1 < (i : Int) + 1 := by omega
            clear hX hY hC' HM HC
            go_wp2
            go_roundw
            case rel => exact ⟨j', C', by omega, by omega, by go_num, HB'.out, HM'.out, HC'.out⟩
            case measure => simp [intOf]
          · have hjk : j = k := by omega
            subst hjk
            obtain ⟨d1, d2⟩ := iowns_at HM.out.1 HC.out (j := j) (by omega)
            have HC' := hide (iowns_set HM.out.1 HC.out j (i : Int))
            have HB' := hide (show Below W.heap.size W (wr.setCell ⟨g, j, none⟩ (.int .i64 (i : Int))) from HBq.out.setCell hgq _)
            have HN := hide (HL.out.insert hji hlt HNO.out HF.out HE.out)
            rw [HM.out.done HHL.out hji] at HC'
            obtain ⟨Y, hY⟩ : ∃ Y, iat C j = Y := ⟨_, rfl⟩
            rw [hY] at d1
            have j1 : (j : Int) < (i : Int) + 1 := by omega
            clear hY HM HC
            go_wp2
            go_roundw
            case rel => exact ⟨i + 1, insAt L j i, by omega, by go_num, HB'.out, HN.out, HC'.out⟩
            case measure => simp [intOf]; omega
    · have hin : i = ps.length := by omega
      subst hin
      go_wp2
      go_ret
      refine ⟨_, L, rfl, HL.out, owns_base3 HI.out HB.out.size, below_step9 HB.out HBr.out⟩
end Go.Proofs.Ytgnojjbdioldbaa
