/- That the order which Around sorts by is one. -/
import Derived.Test.YtgnojjbdioldbaaM1
namespace Go.Proofs.Ytgnojjbdioldbaa
open Go.RowKit Go.Sort
open Go

theorem cmp_neg (a b : Int) : cmpI a b < 0 ↔ a < b := by unfold cmpI; repeat' split <;> omega
theorem cmp_zero (a b : Int) : cmpI a b = 0 ↔ a = b := by unfold cmpI; repeat' split <;> omega
theorem or2_neg (a b : Int) : orI [a, b] < 0 ↔ a < 0 ∨ (a = 0 ∧ b < 0) := by
  simp only [orI]; repeat' split <;> omega
theorem or3_neg (a b c : Int) : orI [a, b, c] < 0 ↔ a < 0 ∨ (a = 0 ∧ (b < 0 ∨ (b = 0 ∧ c < 0))) := by
  simp only [orI]; repeat' split <;> omega
theorem or3_zero (a b c : Int) : orI [a, b, c] = 0 ↔ a = 0 ∧ b = 0 ∧ c = 0 := by
  simp only [orI]; repeat' split <;> omega

theorem step_bound {o p : Pt} (ho : ptB o = true) (hp : ptB p = true) : -2097152 ≤ (stepP o p).x ∧ (stepP o p).x ≤ 2097152 ∧ -2097152 ≤ (stepP o p).y ∧ (stepP o p).y ≤ 2097152 := by
  have ho := ptB_is ho
  have hp := ptB_is hp
  unfold stepP
  simp only
  omega
theorem crossW_is {s t : Pt} (hs : -2097152 ≤ s.x ∧ s.x ≤ 2097152 ∧ -2097152 ≤ s.y ∧ s.y ≤ 2097152) (ht : -2097152 ≤ t.x ∧ t.x ≤ 2097152 ∧ -2097152 ≤ t.y ∧ t.y ≤ 2097152) : crossW s t = crossP s t := by
  have p1 := mul_in (m := 2097152) (n := 2097152) s.x t.y (by omega) (by omega)
  have p2 := mul_in (m := 2097152) (n := 2097152) s.y t.x (by omega) (by omega)
  unfold crossW crossP
  rw [w64 (n := s.x * t.y) (by omega) (by omega), w64 (n := s.y * t.x) (by omega) (by omega), w64 (by omega) (by omega)]
theorem squareW_is {s : Pt} (hs : -2097152 ≤ s.x ∧ s.x ≤ 2097152 ∧ -2097152 ≤ s.y ∧ s.y ≤ 2097152) : squareW s = squareP s := by
  have p1 := mul_in (m := 2097152) (n := 2097152) s.x s.x (by omega) (by omega)
  have p2 := mul_in (m := 2097152) (n := 2097152) s.y s.y (by omega) (by omega)
  unfold squareW squareP
  rw [w64 (n := s.x * s.x) (by omega) (by omega), w64 (n := s.y * s.y) (by omega) (by omega), w64 (by omega) (by omega)]

def fullLt (o : Pt) (ps : List Pt) (i j : Nat) : Prop :=
  dirLt (stepP o (at' ps i)) (stepP o (at' ps j)) ∨ (dirEq (stepP o (at' ps i)) (stepP o (at' ps j)) ∧ (squareP (stepP o (at' ps i)) < squareP (stepP o (at' ps j)) ∨ (squareP (stepP o (at' ps i)) = squareP (stepP o (at' ps j)) ∧ i < j)))

theorem around_neg {o : Pt} {ps : List Pt} {i j : Nat} (ho : ptB o = true) (hi : ptB (at' ps i) = true) (hj : ptB (at' ps j) = true) : aroundI o ps i j < 0 ↔ fullLt o ps i j := by
  have b1 := step_bound ho hi
  have b2 := step_bound ho hj
  unfold aroundI fullLt
  rw [or2_neg]
  unfold clockI dirLt dirEq
  rw [or3_neg, or3_zero, crossW_is b1 b2, squareW_is b1, squareW_is b2]
  simp only [cmp_neg, cmp_zero]
  generalize halfI (stepP o (at' ps i)) = a
  generalize halfI (stepP o (at' ps j)) = b
  generalize crossP (stepP o (at' ps i)) (stepP o (at' ps j)) = c
  generalize squareP (stepP o (at' ps i)) = d
  generalize squareP (stepP o (at' ps j)) = e
  omega

theorem step_nonzero {o p : Pt} (h : p ≠ o) : nonzero (stepP o p) := by
  obtain ⟨px, py⟩ := p
  obtain ⟨ox, oy⟩ := o
  unfold nonzero stepP
  simp only
  by_cases h1 : px = ox
  · right
    intro h2
    apply h
    have : py = oy := by omega
    rw [h1, this]
  · left; omega

theorem full_irrefl (o : Pt) (ps : List Pt) (i : Nat) : ¬ fullLt o ps i i := by
  unfold fullLt
  have := dirLt_irrefl (stepP o (at' ps i))
  intro h
  rcases h with h | ⟨_, h⟩
  · exact this h
  · omega
theorem full_three (o : Pt) (ps : List Pt) (i j : Nat) : fullLt o ps i j ∨ i = j ∨ fullLt o ps j i := by
  unfold fullLt
  rcases dir_three (stepP o (at' ps i)) (stepP o (at' ps j)) with h | h | h
  · exact Or.inl (Or.inl h)
  · have h' := dirEq_symm h
    by_cases h1 : squareP (stepP o (at' ps i)) < squareP (stepP o (at' ps j))
    · exact Or.inl (Or.inr ⟨h, Or.inl h1⟩)
    · by_cases h2 : squareP (stepP o (at' ps j)) < squareP (stepP o (at' ps i))
      · exact Or.inr (Or.inr (Or.inr ⟨h', Or.inl h2⟩))
      · by_cases h3 : i < j
        · exact Or.inl (Or.inr ⟨h, Or.inr ⟨by omega, h3⟩⟩)
        · by_cases h4 : j < i
          · exact Or.inr (Or.inr (Or.inr ⟨h', Or.inr ⟨by omega, h4⟩⟩))
          · exact Or.inr (Or.inl (by omega))
  · exact Or.inr (Or.inr (Or.inl h))
theorem full_trans {o : Pt} {ps : List Pt} {i j k : Nat} (hi : at' ps i ≠ o) (hj : at' ps j ≠ o) (hk : at' ps k ≠ o) (h1 : fullLt o ps i j) (h2 : fullLt o ps j k) : fullLt o ps i k := by
  unfold fullLt at *
  have t := dir_trans (step_nonzero hi) (step_nonzero hj) (step_nonzero hk) (h1.imp id And.left) (h2.imp id And.left)
  rcases t.1 with t1 | t1
  · exact Or.inl t1
  · obtain ⟨e1, e2⟩ := t.2 t1
    have n1 := fun h => dirLt_not_eq h e1
    have n2 := fun h => dirLt_not_eq h e2
    have s1 := (h1.resolve_left n1).2
    have s2 := (h2.resolve_left n2).2
    exact Or.inr ⟨t1, by omega⟩
end Go.Proofs.Ytgnojjbdioldbaa
