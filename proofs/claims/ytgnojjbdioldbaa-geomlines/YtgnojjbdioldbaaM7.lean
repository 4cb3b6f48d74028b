/- A list that grows by insertion, in the order round a point. -/
import Derived.Test.YtgnojjbdioldbaaM2
namespace Go.Proofs.Ytgnojjbdioldbaa
open Go

def insAt (L : List Nat) (k i : Nat) : List Nat := L.take k ++ i :: L.drop k
def nat' (L : List Nat) (j : Nat) : Nat := L.getD j 0
theorem insAt_length (L : List Nat) {k : Nat} (i : Nat) : (insAt L k i).length = L.length + 1 := by
  unfold insAt; rw [List.length_append, List.length_cons, List.length_take, List.length_drop]; omega
theorem insAt_perm (L : List Nat) (k i : Nat) : (insAt L k i).Perm (i :: L) := by
  unfold insAt
  refine List.perm_middle.trans ?_
  rw [List.take_append_drop]
theorem insAt_pairwise {R : Nat → Nat → Prop} {L : List Nat} {k i : Nat} (h : L.Pairwise R) (h1 : ∀ x ∈ L.take k, R x i) (h2 : ∀ x ∈ L.drop k, R i x) : (insAt L k i).Pairwise R := by
  unfold insAt
  have h' := h
  rw [← List.take_append_drop k L, List.pairwise_append] at h'
  rw [List.pairwise_append]
  refine ⟨h'.1, ?_, ?_⟩
  · rw [List.pairwise_cons]; exact ⟨h2, h'.2.1⟩
  · intro x hx y hy
    rcases List.mem_cons.1 hy with rfl | hy
    · exact h1 x hx
    · exact h'.2.2 x hx y hy
theorem insAt_get (L : List Nat) {k i j : Nat} (hk : k ≤ L.length) : nat' (insAt L k i) j = if j < k then nat' L j else if j = k then i else nat' L (j - 1) := by
  unfold nat' insAt
  rw [List.getD_eq_getElem?_getD, List.getElem?_append, List.length_take]
  have e : min k L.length = k := by omega
  rw [e]
  by_cases h1 : j < k
  · rw [if_pos h1, if_pos h1, List.getElem?_take_of_lt h1, List.getD_eq_getElem?_getD]
  · rw [if_neg h1, if_neg h1]
    by_cases h2 : j = k
    · subst h2; simp
    · rw [if_neg h2, show j - k = (j - k - 1) + 1 by omega, List.getElem?_cons_succ, List.getElem?_drop, List.getD_eq_getElem?_getD]
      rw [show k + (j - k - 1) = j - 1 by omega]
def Ordered (o : Pt) (ps : List Pt) (i : Nat) (L : List Nat) : Prop := L.Perm (List.range i) ∧ L.Pairwise (fullLt o ps)
theorem Ordered.length {o : Pt} {ps : List Pt} {i : Nat} {L : List Nat} (h : Ordered o ps i L) : L.length = i := by rw [h.1.length_eq, List.length_range]
theorem Ordered.lt {o : Pt} {ps : List Pt} {i : Nat} {L : List Nat} (h : Ordered o ps i L) {x : Nat} (hx : x ∈ L) : x < i := by
  have := h.1.mem_iff.1 hx
  simpa using this
theorem nat_mem {L : List Nat} {j : Nat} (h : j < L.length) : nat' L j ∈ L := by
  unfold nat'; rw [List.getD_eq_getElem?_getD, List.getElem?_eq_getElem h]; exact List.getElem_mem h
theorem mem_take_nat {L : List Nat} {k x : Nat} (h : x ∈ L.take k) : ∃ j, j < k ∧ j < L.length ∧ nat' L j = x := by
  obtain ⟨j, hj, e⟩ := List.mem_iff_getElem.1 h
  rw [List.length_take] at hj
  refine ⟨j, by omega, by omega, ?_⟩
  rw [List.getElem_take] at e
  unfold nat'; rw [List.getD_eq_getElem?_getD, List.getElem?_eq_getElem (by omega), ← e]; rfl
theorem mem_drop_nat {L : List Nat} {k x : Nat} (h : x ∈ L.drop k) : ∃ j, k ≤ j ∧ j < L.length ∧ nat' L j = x := by
  obtain ⟨j, hj, e⟩ := List.mem_iff_getElem.1 h
  rw [List.length_drop] at hj
  refine ⟨k + j, by omega, by omega, ?_⟩
  rw [List.getElem_drop] at e
  unfold nat'; rw [List.getD_eq_getElem?_getD, List.getElem?_eq_getElem (by omega), ← e]; rfl
theorem pair_nat {R : Nat → Nat → Prop} {L : List Nat} (h : L.Pairwise R) {a b : Nat} (hab : a < b) (hb : b < L.length) : R (nat' L a) (nat' L b) := by
  unfold nat'
  rw [List.getD_eq_getElem?_getD, List.getD_eq_getElem?_getD, List.getElem?_eq_getElem (by omega), List.getElem?_eq_getElem hb]
  exact List.pairwise_iff_getElem.1 h a b (by omega) hb hab
theorem Ordered.insert {o : Pt} {ps : List Pt} {i k : Nat} {L : List Nat} (h : Ordered o ps i L) (hk : k ≤ i) (hi : i < ps.length) (hno : ∀ j, j < ps.length → at' ps j ≠ o) (h1 : ∀ j, k ≤ j → j < i → fullLt o ps i (nat' L j)) (h2 : k = 0 ∨ fullLt o ps (nat' L (k - 1)) i) : Ordered o ps (i + 1) (insAt L k i) := by
  have hl := h.length
  refine ⟨?_, insAt_pairwise h.2 ?_ ?_⟩
  · rw [List.range_succ]
    refine (insAt_perm L k i).trans ?_
    exact (List.Perm.cons i h.1).trans (List.perm_append_comm (l₁ := [i]))
  · intro x hx
    obtain ⟨j, hj, hjl, rfl⟩ := mem_take_nat hx
    rcases h2 with h2 | h2
    · omega
    · by_cases e : j = k - 1
      · rw [e]; exact h2
      · exact full_trans (hno _ (by have := h.lt (nat_mem hjl); omega)) (hno _ (by have := h.lt (nat_mem (L := L) (j := k - 1) (by omega)); omega)) (hno _ hi) (pair_nat h.2 (by omega) (by omega)) h2
  · intro x hx
    obtain ⟨j, hj, hjl, rfl⟩ := mem_drop_nat hx
    exact h1 j hj (by omega)
theorem ordered_nil (o : Pt) (ps : List Pt) : Ordered o ps 0 [] := ⟨by simp, List.Pairwise.nil⟩
theorem full_asymm {o : Pt} {ps : List Pt} {i j : Nat} (hi : at' ps i ≠ o) (hj : at' ps j ≠ o) (h : fullLt o ps i j) : ¬ fullLt o ps j i := fun k => full_irrefl o ps i (full_trans hi hj hi h k)
theorem ordered_one {o : Pt} {ps : List Pt} {L M : List Nat} (h : Ordered o ps ps.length L) (k : Ordered o ps ps.length M) (hno : ∀ j, j < ps.length → at' ps j ≠ o) : L = M :=
  List.Perm.eq_of_pairwise (le := fullLt o ps) (fun a b ha hb h1 h2 => absurd h2 (full_asymm (hno a (h.lt ha)) (hno b (k.lt hb)) h1)) h.2 k.2 (h.1.trans k.1.symm)
/-- What the reference's Before answers. -/
def befI (a b : Pt) : Int := if halfI a = halfI b then sgn (crossP a b) else sgn (halfI a - halfI b)
theorem bef_pos (a b : Pt) : 0 < befI a b ↔ dirLt b a := by
  unfold befI dirLt
  rw [cross_swap a b]
  by_cases h : halfI a = halfI b
  · rw [if_pos h]; unfold sgn; repeat' split
    all_goals omega
  · rw [if_neg h]; unfold sgn; repeat' split
    all_goals omega
theorem bef_zero (a b : Pt) : befI a b = 0 ↔ dirEq a b := by
  unfold befI dirEq
  by_cases h : halfI a = halfI b
  · rw [if_pos h]; unfold sgn; repeat' split
    all_goals omega
  · rw [if_neg h]; unfold sgn; repeat' split
    all_goals omega
/-- Does the insertion stop here? -/
def stopB (a b : Pt) : Bool := decide (0 < befI a b) || (decide (befI a b = 0) && decide (squareP b ≤ squareP a))
theorem stop_yes {o : Pt} {ps : List Pt} {i y : Nat} (hy : y < i) (h : stopB (stepP o (at' ps i)) (stepP o (at' ps y)) = true) : fullLt o ps y i := by
  unfold stopB at h
  rw [Bool.or_eq_true, Bool.and_eq_true, decide_eq_true_eq, decide_eq_true_eq, decide_eq_true_eq, bef_pos, bef_zero] at h
  unfold fullLt
  rcases h with h | ⟨h1, h2⟩
  · exact Or.inl h
  · exact Or.inr ⟨dirEq_symm h1, by omega⟩
theorem stop_no {o : Pt} {ps : List Pt} {i y : Nat} (h : stopB (stepP o (at' ps i)) (stepP o (at' ps y)) = false) : fullLt o ps i y := by
  unfold stopB at h
  rw [Bool.or_eq_false_iff, decide_eq_false_iff_not, bef_pos] at h
  unfold fullLt
  obtain ⟨h1, h2⟩ := h
  rcases dir_three (stepP o (at' ps i)) (stepP o (at' ps y)) with k | k | k
  · exact Or.inl k
  · refine Or.inr ⟨k, Or.inl ?_⟩
    rw [Bool.and_eq_false_iff, decide_eq_false_iff_not, decide_eq_false_iff_not, bef_zero] at h2
    rcases h2 with h2 | h2
    · exact absurd k h2
    · omega
  · exact absurd k h1
end Go.Proofs.Ytgnojjbdioldbaa
