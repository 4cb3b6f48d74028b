/- How crossing, the ends on both, and how two segments meet hang together. -/
import Derived.Test.YtgnojjbdioldbaaM3
namespace Go.Proofs.Ytgnojjbdioldbaa
open Go.RowKit Go.Sort
open Go

/-- How many of the first i ends are on both. -/
def onN (a b c d : Pt) : Nat → Nat
  | 0 => 0
  | i + 1 => onN a b c d i + (if bothB a b c d (nth a b c d i) then 1 else 0)
theorem onN_le (a b c d : Pt) : ∀ i, onN a b c d i ≤ i
  | 0 => Nat.le_refl _
  | i + 1 => by have := onN_le a b c d i; simp only [onN]; split <;> omega
theorem onN_len (a b c d : Pt) : onN a b c d 4 = ([a, b, c, d].filter (bothB a b c d)).length := by
  simp only [onN, nth, List.getD_cons_zero, List.getD_cons_succ, List.filter_cons, List.filter_nil]
  cases bothB a b c d a <;> cases bothB a b c d b <;> cases bothB a b c d c <;> cases bothB a b c d d <;> rfl
def crossB (a b c d : Pt) : Bool := partsB a b c d && partsB c d a b
theorem cross_none (a b c d : Pt) (h : crossB a b c d = true) : [a, b, c, d].filter (bothB a b c d) = [] := by
  unfold crossB partsB at h
  rw [Bool.and_eq_true, decide_eq_true_eq, decide_eq_true_eq] at h
  obtain ⟨h1, h2⟩ := h
  have t1 : turnI a b c ≠ 0 := fun e => by rw [e] at h1; simp at h1
  have t2 : turnI a b d ≠ 0 := fun e => by rw [e] at h1; simp at h1
  have t3 : turnI c d a ≠ 0 := fun e => by rw [e] at h2; simp at h2
  have t4 : turnI c d b ≠ 0 := fun e => by rw [e] at h2; simp at h2
  rw [List.filter_eq_nil_iff]
  intro p hp k
  unfold bothB hasB at k
  simp only [Bool.and_eq_true, beq_iff_eq] at k
  simp only [List.mem_cons, List.not_mem_nil, or_false] at hp
  rcases hp with rfl | rfl | rfl | rfl
  · exact t3 k.2.2
  · exact t4 k.2.2
  · exact t1 k.1.2
  · exact t2 k.1.2
theorem meet_cases (a b c d : Pt) : (meetI a b c d = 0 ∧ crossB a b c d = false ∧ onN a b c d 4 = 0) ∨ (meetI a b c d = 1 ∧ crossB a b c d = true ∧ onN a b c d 4 = 0) ∨ ((meetI a b c d = 2 ∨ meetI a b c d = 3) ∧ crossB a b c d = false ∧ 0 < onN a b c d 4) := by
  rw [meetI_is, onN_len]
  cases h : crossB a b c d
  · have h' : (partsB a b c d && partsB c d a b) = false := h
    rw [h']
    simp only [Bool.false_eq_true, if_false]
    rcases cnt_cases ([a, b, c, d].filter (bothB a b c d)) with ⟨k1, k2⟩ | ⟨k1, _, k2⟩ | ⟨k1, _, k2⟩
    · left; exact ⟨k2, by trivial, by rw [k1]; rfl⟩
    · right; right; exact ⟨Or.inl k2, by trivial, List.length_pos_iff.2 k1⟩
    · right; right; exact ⟨Or.inr k2, by trivial, List.length_pos_iff.2 k1⟩
  · have h' : (partsB a b c d && partsB c d a b) = true := h
    rw [h']
    right; left
    exact ⟨by simp, rfl, by rw [cross_none a b c d h]; rfl⟩
end Go.Proofs.Ytgnojjbdioldbaa
