/- Points on segments, segments that part the ends of others, in every world. -/
import Derived.Test.YtgnojjbdioldbaaG2
namespace Go.Proofs.Ytgnojjbdioldbaa
open Go.RowKit Go.Sort
open Go

def hasB (a b p : Pt) : Bool := betweenB a.x b.x p.x && betweenB a.y b.y p.y && (turnI a b p == 0)
def nearB (a b c d : Pt) : Bool := overlapB a.x b.x c.x d.x && overlapB a.y b.y c.y d.y
def partsB (a b c d : Pt) : Bool := decide (turnI a b c * turnI a b d < 0)

theorem sgn_cases (n : Int) : sgn n = 1 ∨ sgn n = 0 ∨ sgn n = -1 := by unfold sgn; repeat' split <;> omega
theorem turn_cases (a b c : Pt) : turnI a b c = 1 ∨ turnI a b c = 0 ∨ turnI a b c = -1 := sgn_cases _
theorem turn_mul (a b c d e f : Pt) : wrap64 (turnI a b c * turnI d e f) = turnI a b c * turnI d e f := by
  rcases turn_cases a b c with h | h | h <;> rcases turn_cases d e f with k | k | k <;> rw [h, k] <;> exact w64 (by decide) (by decide)

set_option maxHeartbeats 400000 in
theorem has34 (a b p : Pt) (ha : ptB a = true) (hb : ptB b = true) (hp : ptB p = true) (w : World) : Calls Try.prog 34 #[sv a b, pv p.x p.y] w fun e w' => e = .returned (.bool (hasB a b p)) ∧ Below w.heap.size w w' := by
  have T := fun w => hide (turn33 a b p ha hb hp w)
  have T' := hide T
  clear ha hb hp T
  have c1 := between58 a.x b.x p.x
  cases h1 : betweenB a.x b.x p.x
  · rw [h1] at c1
    go_enter Try.func34, Try.ntmps34
    go_wp2_with (go_at_call 58; refine (c1 _).mono ?_; rintro e w' ⟨rfl, rfl⟩)
    go_ret
    exact ⟨retB (by simp [hasB, h1]), by go_grown⟩
  · rw [h1] at c1
    have c2 := between58 a.y b.y p.y
    cases h2 : betweenB a.y b.y p.y
    · rw [h2] at c2
      go_enter Try.func34, Try.ntmps34
      go_wp2_with (go_at_call 58; first | (with_reducible refine (c1 _).mono ?_; rintro e w' ⟨rfl, rfl⟩) | (with_reducible refine (c2 _).mono ?_; rintro e w' ⟨rfl, rfl⟩))
      go_ret
      exact ⟨retB (by simp [hasB, h2]), by go_grown⟩
    · rw [h2] at c2
      go_enter Try.func34, Try.ntmps34
      go_wp2_with (go_at_call 58; first | (with_reducible refine (c1 _).mono ?_; rintro e w' ⟨rfl, rfl⟩) | (with_reducible refine (c2 _).mono ?_; rintro e w' ⟨rfl, rfl⟩))
      refine ((T'.out _).out).mono ?_
      rintro e w' ⟨rfl, hb⟩
      have HB := hide hb
      clear hb
      go_wp2
      go_ret
      exact ⟨retB (by simp [hasB, h1, h2]), Below.trans (by go_grown) (HB.out.mono (by go_size))⟩

set_option maxHeartbeats 400000 in
theorem near53 (a b c d : Pt) (w : World) : Calls Try.prog 53 #[sv a b, sv c d] w fun e w' => e = .returned (.bool (nearB a b c d)) ∧ Below w.heap.size w w' := by
  have c1 := overlap69 a.x b.x c.x d.x
  have c2 := overlap69 a.y b.y c.y d.y
  cases h1 : overlapB a.x b.x c.x d.x
  all_goals
    rw [h1] at c1
    go_enter Try.func53, Try.ntmps53
    go_wp2_with (go_at_call 69; first | (with_reducible refine (c1 _).mono ?_; rintro e w' ⟨rfl, rfl⟩) | (with_reducible refine (c2 _).mono ?_; rintro e w' ⟨rfl, rfl⟩))
    go_ret
    exact ⟨retB (by simp [nearB, h1]), by go_grown⟩
end Go.Proofs.Ytgnojjbdioldbaa
