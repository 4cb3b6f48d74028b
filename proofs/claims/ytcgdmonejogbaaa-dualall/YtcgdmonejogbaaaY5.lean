/- A list turned to its least number: slices.Min, Index, Grow, Concat. -/
import Derived.Test.YtcgdmonejogbaaaX5
import Derived.Test.YtcgdmonejogbaaaA4
import Derived.Test.YtcgdmonejogbaaaY4
import Derived.Lib.AppendZerosOnto
import Derived.LoopN
namespace Go.Proofs.Ytcgdmonejogbaaa
open Go.RowKit Go.Sort
open Go
/-- Numbers behind numbers. -/
theorem append_ints {w : World} {base : Nat} {v : Value} {l : List Int} (ho : IOwns w base v l) (p : Option Addr) (cap : Nat) (qs : List Int) (hnil : p = none → cap = 0) (hq : IHas w p qs) (hb : base ≤ w.heap.size) (hl : l.length + qs.length ≤ 90000) :
    ∃ v' w', (Builtin.append_ #[44, 44] 44 #[v, .slice p qs.length cap]).run Try.prog w = .ok v' w' ∧ IOwns w' base v' (l ++ qs) ∧ w.grownBy w' v.ownBlock := by
  obtain ⟨i0, hi0, hz0, hz1, hz2⟩ := info_parts info3
  cases p with
  | none =>
    have hqs : qs = [] := by
      rcases hq with h | ⟨b, off, h, _⟩
      · exact h
      · cases h
    subst hqs
    rw [hnil rfl]
    exact ⟨v, w, run_append_owned_none (P := Try.prog) (w := w) base 44 44 3 i0 1 Try.underlying44 hi0 v l.length (icells l) ho, by rw [List.append_nil]; exact ho, grownBy_refl _ _⟩
  | some a =>
    have hnews : ∀ j u, (icells qs)[j]? = some u → w.cell? (a.add j) = some u := by
      rcases hq with h | ⟨b, off, h, hL⟩
      · subst h; intro j u hj; simp [icells] at hj
      · cases h
        intro j u hj
        rw [icells, List.getElem?_map] at hj
        cases hq2 : qs[j]? with
        | none => rw [hq2] at hj; cases hj
        | some x =>
          rw [hq2] at hj
          cases hj
          have hjl : j < qs.length := (List.getElem?_eq_some_iff.1 hq2).1
          rw [Go.WideShapes.add_plain, hL j hjl]
          unfold iat
          rw [List.getD_eq_getElem?_getD, hq2]
          rfl
    obtain ⟨v', w', h1, h2, h3, _⟩ := run_append_own (P := Try.prog) w base 44 44 3 i0 (.int .i64 0) 1 8 Try.underlying44 hi0 hz0 hz1 hz2 rfl (by decide) v l.length (icells l) ho a qs.length cap (icells qs) (by simp [icells]) hnews (by intro u hu; rw [icells, List.mem_map] at hu; obtain ⟨x, _, rfl⟩ := hu; rfl) (by unfold maxLen; omega) (by omega) hb
    refine ⟨v', w', h1, ?_, h3⟩
    unfold IOwns
    rw [List.length_append, show icells (l ++ qs) = icells l ++ icells qs by simp [icells]]
    exact h2
end Go.Proofs.Ytcgdmonejogbaaa
namespace Go.Proofs.Ytcgdmonejogbaaa
open Go.RowKit Go.Sort
open Go
/-- Where the least of the first k + 1 stands, the first of such. -/
def loN (l : List Int) : Nat → Nat
  | 0 => 0
  | k + 1 => if iat l (k + 1) < iat l (loN l k) then k + 1 else loN l k
theorem loN_le (l : List Int) : ∀ k, loN l k ≤ k
  | 0 => Nat.le_refl _
  | k + 1 => by
    unfold loN
    have := loN_le l k
    split <;> omega
theorem loN_min (l : List Int) : ∀ k j, j ≤ k → iat l (loN l k) ≤ iat l j
  | 0, j, hj => by
    have : j = 0 := by omega
    subst this
    exact Int.le_refl _
  | k + 1, j, hj => by
    unfold loN
    by_cases e : j = k + 1
    · subst e
      split <;> omega
    · have := loN_min l k j (by omega)
      split <;> omega
theorem loN_first (l : List Int) : ∀ k j, j < loN l k → iat l (loN l k) < iat l j
  | 0, j, hj => by simp [loN] at hj
  | k + 1, j, hj => by
    unfold loN at hj ⊢
    split
    · rename_i h
      rw [if_pos h] at hj
      have := loN_min l k j (by omega)
      omega
    · rename_i h
      rw [if_neg h] at hj
      exact loN_first l k j hj
def lowAt (l : List Int) : Nat := loN l (l.length - 1)
theorem lowAt_lt {l : List Int} (h : 0 < l.length) : lowAt l < l.length := by
  have := loN_le l (l.length - 1)
  unfold lowAt
  omega
/-- A list from its least number on. -/
def turnL (l : List Int) : List Int := l.drop (lowAt l) ++ l.take (lowAt l)
theorem turnL_length (l : List Int) : (turnL l).length = l.length := by
  unfold turnL
  rw [List.length_append, List.length_drop, List.length_take]
  omega
set_option maxRecDepth 100000 in
set_option maxHeartbeats 4000000 in
theorem min74 (p : Option Addr) (l : List Int) (cp : Nat) (w : World) (h0 : 0 < l.length) (hl : l.length ≤ maxLen) (h : IHas w p l) : Calls Try.prog 94 #[.slice p l.length cp] w fun e w' => e = .returned (.int .i64 (iat l (lowAt l))) ∧ Below w.heap.size w w' := by
  rcases h with h | ⟨b, off, rfl, hL⟩
  · rw [h] at h0; simp at h0
  have HL := hide hL
  have c0 := hL 0 h0
  rw [Nat.add_zero] at c0
  unfold maxLen at hl
  have e0 : ¬ (l.length : Int) < 1 := by omega
  have e1 : (0 : Int) < l.length := by omega
  clear hL
  go_enter Try.func94, Try.ntmps94
  go_wp2_with fail
  go_loopw [3, 4] (fun t3 t4 wr => ∃ k : Nat, k < l.length ∧ t3 = .int .i64 (iat l (loN l k)) ∧ t4 = .int .i64 ((k : Int) + 1) ∧ Hid (Below w.heap.size w wr)) (fun _ t4 _ => l.length - (intOf t4).toNat)
  case atStart => exact ⟨0, h0, rfl, rfl, Below.refl _ _⟩
  case round =>
    obtain ⟨k, hk, rfl, rfl, HB⟩ := hrel
    by_cases hlt : k + 1 < l.length
    · have c1 := later HB.out (HL.out (k + 1) hlt)
      have e2 : (k : Int) + 1 < l.length := by omega
      have e3 : (0 : Int) ≤ (k : Int) + 1 := by omega
      have et : ((k : Int) + 1).toNat = k + 1 := by omega
      have HST : Hid (iat l (loN l (k + 1)) = if iat l (k + 1) < iat l (loN l k) then iat l (k + 1) else iat l (loN l k)) := by
        show _ = _
        rw [show loN l (k + 1) = if iat l (k + 1) < iat l (loN l k) then k + 1 else loN l k from rfl]
        split <;> rfl
      obtain ⟨x, hx⟩ : ∃ x, iat l (k + 1) = x := ⟨_, rfl⟩
      obtain ⟨y, hy⟩ : ∃ y, iat l (loN l k) = y := ⟨_, rfl⟩
      rw [hx] at c1 HST
      rw [hy] at HST ⊢
      clear hx hy
      go_wp2
      go_roundw
      case rel => exact ⟨k + 1, hlt, by rw [HST.out], by go_num, HB.out⟩
      case measure => simp [intOf]; omega
    · have e2 : ¬ (k : Int) + 1 < l.length := by omega
      have HK : Hid (lowAt l = loN l k) := by show _ = _; unfold lowAt; rw [show l.length - 1 = k by omega]
      go_wp2
      go_ret
      exact ⟨by rw [HK.out]; rfl, HB.out⟩
set_option maxRecDepth 100000 in
set_option maxHeartbeats 4000000 in
/-- slices.Index of what stands there. -/
theorem index73 (p : Option Addr) (l : List Int) (cp a : Nat) (x : Int) (w : World) (ha : a < l.length) (hx : iat l a = x) (hf : ∀ j, j < a → iat l j ≠ x) (hl : l.length ≤ maxLen) (h : IHas w p l) : Calls Try.prog 58 #[.slice p l.length cp, .int .i64 x] w fun e w' => e = .returned (.int .i64 a) ∧ Below w.heap.size w w' := by
  rcases h with h | ⟨b, off, rfl, hL⟩
  · rw [h] at ha; simp at ha
  have HL := hide hL
  have HX := hide hx
  have HF := hide hf
  unfold maxLen at hl
  clear hL hx hf
  go_enter Try.func58, Try.ntmps58
  go_wp2_with fail
  go_loopw [8] (fun t8 wr => ∃ k : Nat, k ≤ a ∧ t8 = .int .i64 k ∧ Hid (Below w.heap.size w wr)) (fun t8 _ => l.length - (intOf t8).toNat)
  case atStart => exact ⟨0, by omega, rfl, Below.refl _ _⟩
  case round =>
    obtain ⟨k, hk, rfl, HB⟩ := hrel
    have c1 := later HB.out (HL.out k (by omega))
    have e2 : (k : Int) < l.length := by omega
    by_cases hka : k = a
    · subst hka
      rw [HX.out] at c1
      go_wp2
      go_ret
      exact ⟨rfl, HB.out⟩
    · have hne := HF.out k (by omega)
      obtain ⟨y, hy⟩ : ∃ y, iat l k = y := ⟨_, rfl⟩
      rw [hy] at c1 hne
      have t1 : (x == y) = false := beq_eq_false_iff_ne.2 (fun e => hne e.symm)
      clear hy hne
      go_wp2
      go_roundw
      case rel => exact ⟨k + 1, by omega, by go_num, HB.out⟩
      case measure => simp [intOf]; omega
set_option maxRecDepth 100000 in
set_option maxHeartbeats 4000000 in
/-- slices.Grow of nil. -/
theorem grow84 (n : Nat) (w : World) (h0 : 0 < n) (hn : n ≤ 90000) : Calls Try.prog 103 #[.slice none 0 0, .int .i64 n] w fun e w' => ∃ v, e = .returned v ∧ IOwns w' w.heap.size v [] ∧ Below w.heap.size w w' := by
  obtain ⟨i0, hi0, hz0, hz1, hz2⟩ := info_parts info3
  obtain ⟨G, hG⟩ : ∃ G, G = grownCap w (0 + n) 0 3 := ⟨_, rfl⟩
  have hGn : n ≤ G := by have := grownCap_ge w (0 + n) 0 3; omega
  have hGm : G ≤ maxLen := by rw [hG]; exact grownCap_le_maxLen w (0 + n) 0 3 (by unfold maxLen; omega)
  have hrz : ∀ ty, (Builtin.append_ #[44, 3] ty #[.slice none 0 0, .int .i64 n]).run Try.prog w = .ok (.slice (some ⟨w.heap.size, 0, none⟩) (0 + n) G) (w.drew.alloc (.cells (#[] ++ Builtin.zeroCells (Value.int .i64 0).cells n ++ Builtin.zeroCells (Value.int .i64 0).cells (G - (0 + n))) 3)) := fun ty => by
    rw [hG]
    exact Lib.run_append_grow_zeros w 44 3 ty 3 i0 (.int .i64 0) .i64 .i64 Try.underlying44 Try.underlying3 hi0 hz0 none 0 0 [] (run_firstCells_none w.drew i0.size 0 0 0) n h0 (by omega) (by omega) (by omega) (by rw [hz2]; omega) (growslice_fits (by omega) (by rw [hz2]; omega))
  have HOW : Hid (∀ cs : Array Value, cs.size = G → IOwns (w.drew.alloc (.cells cs 3)) w.heap.size (.slice (some ⟨w.heap.size, 0, none⟩) 0 G) []) := fun cs hcs => ⟨rfl, Or.inr ⟨w.heap.size, G, cs, rfl, Nat.le_refl _, (by show (w.drew.heap.push _)[w.drew.heap.size]? = _; rw [Array.getElem?_push, if_pos rfl]), Nat.zero_le _, hGm, by rw [hcs]; omega, by simp [icells]⟩⟩
  unfold maxLen at hGm
  clear hG
  have e1 : ¬ (n : Int) < 0 := by omega
  have e2 : (n : Int) > 0 := by omega
  have e3 : wrap64 (n : Int) = n := by unfold wrap64; omega
  go_enter Try.func103, Try.ntmps103
  go_wp2_with (at_builtin; refine Lib.wpList_append_run _ rfl _ _ _ _ rfl _ _ rfl rfl _ _ (hrz _) ?_)
  all_goals go_ret
  all_goals exact ⟨_, rfl, HOW.out _ (by simp [Builtin.zeroCells]; omega), by go_grown⟩
set_option maxRecDepth 100000 in
set_option maxHeartbeats 8000000 in
/-- slices.Concat of two lists. -/
theorem concat75 (q : Nat) (p1 p2 : Option Addr) (L1 L2 : List Int) (k1 k2 : Nat) (w : World) (h1 : w.cell? ⟨q, 0, none⟩ = some (.slice p1 L1.length k1)) (h2 : w.cell? ⟨q, 1, none⟩ = some (.slice p2 L2.length k2)) (m1 : IHas w p1 L1) (m2 : IHas w p2 L2) (n1 : p1 = none → k1 = 0) (n2 : p2 = none → k2 = 0) (h0 : 0 < L1.length + L2.length) (hl : L1.length + L2.length ≤ 90000) : Calls Try.prog 95 #[.slice (some ⟨q, 0, none⟩) 2 2] w fun e w' => ∃ v, e = .returned v ∧ IOwns w' w.heap.size v (L1 ++ L2) ∧ Below w.heap.size w w' := by
  have GR := hide (grow84 (L1.length + L2.length) w h0 hl)
  have M1 := hide m1
  have M2 := hide m2
  have N1 := hide n1
  have N2 := hide n2
  clear m1 m2 n1 n2
  go_enter Try.func95, Try.ntmps95
  go_wp2_with fail
  refine wp_loop_rounds 3 ?_
  rw [rounds_succ]
  have e1 : ¬ (L1.length : Int) < 0 := by omega
  have e2 : ¬ (L1.length : Int) + L2.length < 0 := by omega
  go_wp2_with fail
  rw [rounds_succ]
  go_wp2_with fail
  rw [rounds_succ]
  go_wp2_with fail
  rw [Int.natCast_add] at GR
  refine GR.out.mono ?_
  rintro e w1 ⟨v0, rfl, o0, hb0⟩
  obtain ⟨v1, w2, a1, o1, g1⟩ := append_ints o0 p1 k1 L1 N1.out (M1.out.later hb0) hb0.size (by simp; omega)
  rw [List.nil_append] at o1
  have b1 : Below w.heap.size w w2 := below_grown hb0 o0 (Nat.le_refl _) hb0.size g1
  obtain ⟨v2, w3, a2, o2, g2⟩ := append_ints o1 p2 k2 L2 N2.out (M2.out.later b1) b1.size hl
  have b2 : Below w.heap.size w w3 := below_grown b1 o1 (Nat.le_refl _) b1.size g2
  have c1 := later hb0 h1
  have c2 := later b1 h2
  have HO := hide o2
  have HB := hide b2
  clear GR o0 o1 o2 b1 b2 g1 g2 hb0 h1 h2
  go_wp2_with fail
  refine wp_loop_rounds 3 ?_
  rw [rounds_succ]
  go_wp2_with (at_builtin; refine wpList_run_append rfl (.tmp 31) (.tmp 32) 44 rfl 44 rfl _ _ _ w2 rfl rfl a1 ?_)
  rw [rounds_succ]
  go_wp2_with (at_builtin; refine wpList_run_append rfl (.tmp 31) (.tmp 32) 44 rfl 44 rfl _ _ _ w3 rfl rfl a2 ?_)
  rw [rounds_succ]
  go_wp2
  go_ret
  exact ⟨_, rfl, HO.out, HB.out⟩
end Go.Proofs.Ytcgdmonejogbaaa
