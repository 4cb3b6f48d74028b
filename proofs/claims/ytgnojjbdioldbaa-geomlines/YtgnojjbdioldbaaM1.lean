/- That directions, clockwise from straight up, are in an order. -/
import Derived.Test.YtgnojjbdioldbaaG9
namespace Go.Proofs.Ytgnojjbdioldbaa
open Go.RowKit Go.Sort
open Go

theorem ident (sx sy tx ty ux uy : Int) : tx * (sx * uy - sy * ux) = sx * (tx * uy - ty * ux) + ux * (sx * ty - sy * tx) := by grind

theorem core0 (sx sy tx ty ux uy : Int) (hs : 0 < sx ∨ (sx = 0 ∧ 0 < sy)) (ht : 0 < tx ∨ (tx = 0 ∧ 0 < ty)) (hu : 0 < ux ∨ (ux = 0 ∧ 0 < uy))
    (hA : sx * ty - sy * tx ≤ 0) (hB : tx * uy - ty * ux ≤ 0) : sx * uy - sy * ux ≤ 0 ∧ (sx * uy - sy * ux = 0 → sx * ty - sy * tx = 0 ∧ tx * uy - ty * ux = 0) := by
  have I := ident sx sy tx ty ux uy
  rcases ht with ht | ⟨rfl, ht⟩
  · have s0 : 0 ≤ sx := by omega
    have u0 : 0 ≤ ux := by omega
    have m1 : sx * (tx * uy - ty * ux) ≤ 0 := Int.mul_nonpos_of_nonneg_of_nonpos s0 hB
    have m2 : ux * (sx * ty - sy * tx) ≤ 0 := Int.mul_nonpos_of_nonneg_of_nonpos u0 hA
    refine ⟨?_, fun hC => ?_⟩
    · apply Int.not_lt.1
      intro hC
      have := Int.mul_pos ht hC
      omega
    · rw [hC, Int.mul_zero] at I
      have z1 : sx * (tx * uy - ty * ux) = 0 := by omega
      have z2 : ux * (sx * ty - sy * tx) = 0 := by omega
      rcases hs with hs | ⟨rfl, hs⟩
      · have b0 : tx * uy - ty * ux = 0 := (Int.mul_eq_zero.1 z1).resolve_left (by omega)
        rcases hu with hu | ⟨rfl, hu⟩
        · exact ⟨(Int.mul_eq_zero.1 z2).resolve_left (by omega), b0⟩
        · have := Int.mul_pos ht hu
          omega
      · have a1 := Int.mul_pos hs ht
        have : ux = 0 := (Int.mul_eq_zero.1 z2).resolve_right (by omega)
        subst this
        have := Int.mul_pos ht (show 0 < uy by omega)
        omega
  · have s0 : sx = 0 := by
      rcases hs with hs | hs
      · have := Int.mul_pos hs ht
        omega
      · exact hs.1
    subst s0
    have sy0 : 0 < sy := by omega
    have u0 : 0 ≤ ux := by omega
    have m := Int.mul_nonneg (Int.le_of_lt sy0) u0
    refine ⟨by omega, fun hC => ?_⟩
    have z : sy * ux = 0 := by omega
    have : ux = 0 := (Int.mul_eq_zero.1 z).resolve_left (by omega)
    subst this
    omega

def crossP (s t : Pt) : Int := s.x * t.y - s.y * t.x
def squareP (s : Pt) : Int := s.x * s.x + s.y * s.y
def nonzero (s : Pt) : Prop := s.x ≠ 0 ∨ s.y ≠ 0
theorem half_01 (s : Pt) : halfI s = 0 ∨ halfI s = 1 := by unfold halfI; split <;> simp
theorem core (s t u : Pt) (hs : nonzero s) (ht : nonzero t) (hu : nonzero u) (e1 : halfI s = halfI t) (e2 : halfI t = halfI u) (hA : crossP s t ≤ 0) (hB : crossP t u ≤ 0) :
    crossP s u ≤ 0 ∧ (crossP s u = 0 → crossP s t = 0 ∧ crossP t u = 0) := by
  obtain ⟨sx, sy⟩ := s
  obtain ⟨tx, ty⟩ := t
  obtain ⟨ux, uy⟩ := u
  unfold crossP at *
  simp only at *
  unfold nonzero at hs ht hu
  simp only at hs ht hu
  rcases half_01 ⟨sx, sy⟩ with h | h
  · have h2 : halfI ⟨tx, ty⟩ = 0 := by omega
    have h3 : halfI ⟨ux, uy⟩ = 0 := by omega
    unfold halfI at h h2 h3
    simp only [ite_eq_left_iff] at h h2 h3
    exact core0 sx sy tx ty ux uy (Classical.byContradiction fun k => by have := h k; omega) (Classical.byContradiction fun k => by have := h2 k; omega) (Classical.byContradiction fun k => by have := h3 k; omega) hA hB
  · have h2 : halfI ⟨tx, ty⟩ = 1 := by omega
    have h3 : halfI ⟨ux, uy⟩ = 1 := by omega
    unfold halfI at h h2 h3
    simp only [ite_eq_right_iff] at h h2 h3
    have neg : ∀ a b c d : Int, -a * -b - -c * -d = a * b - c * d := fun a b c d => by grind
    have k := core0 (-sx) (-sy) (-tx) (-ty) (-ux) (-uy) (by have k : ¬ (0 < sx ∨ sx = 0 ∧ 0 < sy) := fun k => by have := h k; omega
                                                            omega) (by have k : ¬ (0 < tx ∨ tx = 0 ∧ 0 < ty) := fun k => by have := h2 k; omega
                                                                       omega) (by have k : ¬ (0 < ux ∨ ux = 0 ∧ 0 < uy) := fun k => by have := h3 k; omega
                                                                                  omega)
    simp only [neg] at k
    exact k hA hB

/-- s lies ahead of t, clockwise from straight up. -/
def dirLt (s t : Pt) : Prop := halfI s < halfI t ∨ (halfI s = halfI t ∧ crossP s t < 0)
def dirEq (s t : Pt) : Prop := halfI s = halfI t ∧ crossP s t = 0
theorem cross_swap (s t : Pt) : crossP t s = - crossP s t := by unfold crossP; grind
theorem cross_self (s : Pt) : crossP s s = 0 := by unfold crossP; grind
theorem dir_three (s t : Pt) : dirLt s t ∨ dirEq s t ∨ dirLt t s := by
  unfold dirLt dirEq; rw [cross_swap s t]; omega
theorem dirLt_irrefl (s : Pt) : ¬ dirLt s s := by unfold dirLt; rw [cross_self]; omega
theorem dirEq_refl (s : Pt) : dirEq s s := ⟨rfl, cross_self s⟩
theorem dirEq_symm {s t : Pt} (h : dirEq s t) : dirEq t s := ⟨h.1.symm, by rw [cross_swap s t, h.2]; rfl⟩
theorem dirLt_not_eq {s t : Pt} (h : dirLt s t) : ¬ dirEq s t := by unfold dirLt at h; unfold dirEq; omega
theorem dirLt_asymm {s t : Pt} (h : dirLt s t) : ¬ dirLt t s := by unfold dirLt at *; rw [cross_swap s t]; omega
theorem dir_trans {s t u : Pt} (hs : nonzero s) (ht : nonzero t) (hu : nonzero u) (h1 : dirLt s t ∨ dirEq s t) (h2 : dirLt t u ∨ dirEq t u) : (dirLt s u ∨ dirEq s u) ∧ (dirEq s u → dirEq s t ∧ dirEq t u) := by
  unfold dirLt dirEq at *
  by_cases e1 : halfI s = halfI t
  · by_cases e2 : halfI t = halfI u
    · have k := core s t u hs ht hu e1 e2 (by omega) (by omega)
      omega
    · omega
  · omega
end Go.Proofs.Ytgnojjbdioldbaa
