/- What the small functions of geom and of the document's own answer answer, in every world. -/
import Derived.Test.YtgnojjbdioldbabProg
import Derived.WalkKit
import Derived.WalkSpells
import Derived.WalkLawsBesides
import Derived.Handy
import Derived.Below
import Derived.Lib.QuietBelow
namespace Go.Proofs.Ytgnojjbdioldbab
open Go.RowKit Go.Sort
open Go

/-- A point. -/
structure Pt where
  x : Int
  y : Int
  deriving DecidableEq, Inhabited

abbrev pv (x y : Int) : Value := .agg #[.int .i64 x, .int .i64 y]
abbrev sv (a b : Pt) : Value := .agg #[.int .i64 a.x, .int .i64 a.y, .int .i64 b.x, .int .i64 b.y]
def insideB (x : Int) : Bool := decide (-1048576 ≤ x) && decide (x ≤ 1048576)
def ptB (p : Pt) : Bool := insideB p.x && insideB p.y
def sgn (n : Int) : Int := if 0 < n then 1 else if n < 0 then -1 else 0
def cmpI (a b : Int) : Int := if a < b then -1 else if b < a then 1 else 0
def betweenB (a b x : Int) : Bool := decide (min a b ≤ x) && decide (x ≤ max a b)
def overlapB (a b c d : Int) : Bool := decide (min c d ≤ max a b) && decide (min a b ≤ max c d)

theorem hide {p : Prop} (h : p) : Hid p := h
theorem retB {a b : Bool} (h : a = true ↔ b = true) : Ending.returned (.bool a) = Ending.returned (.bool b) := by rw [Bool.eq_iff_iff.2 h]
theorem retI {a b : Int} (h : a = b) : Ending.returned (.int .i64 a) = Ending.returned (.int .i64 b) := by rw [h]

theorem within35 (x : Int) (w : World) : Calls Try.prog 30 #[.int .i64 x] w fun e w' => e = .returned (.bool (insideB x)) ∧ w' = w := by
  go_enter Try.func30, Try.ntmps30
  go_wp2
  all_goals go_ret
  all_goals exact ⟨retB (by simp [insideB]; omega), rfl⟩
theorem cross57 (a b : Pt) (w : World) : Calls Try.prog 42 #[pv a.x a.y, pv b.x b.y] w fun e w' => e = .returned (.int .i64 (wrap64 (wrap64 (a.x * b.y) - wrap64 (a.y * b.x)))) ∧ Below w.heap.size w w' := by
  go_enter Try.func42, Try.ntmps42
  go_wp2
  go_ret
  exact ⟨rfl, by go_grown⟩
theorem stepTo43 (a b : Pt) (w : World) : Calls Try.prog 27 #[pv a.x a.y, pv b.x b.y] w fun e w' => e = .returned (pv (wrap64 (b.x - a.x)) (wrap64 (b.y - a.y))) ∧ Below w.heap.size w w' := by
  go_enter Try.func27, Try.ntmps27
  go_wp2
  go_returns
  exact ⟨rfl, by go_grown⟩
theorem pt18 (x y : Int) (w : World) : Calls Try.prog 8 #[.int .i64 x, .int .i64 y] w fun e w' => e = .returned (pv x y) ∧ Below w.heap.size w w' := by
  go_enter Try.func8, Try.ntmps8
  go_wp2
  go_returns
  exact ⟨rfl, by go_grown⟩
theorem isNaN70 (x : Int) (w : World) : Calls Try.prog 58 #[.int .i64 x] w fun e w' => e = .returned (.bool false) ∧ w' = w := by
  go_enter Try.func58, Try.ntmps58
  go_wp2
  go_ret
  exact ⟨by simp, rfl⟩
theorem compare56 (a b : Int) (w : World) : Calls Try.prog 41 #[.int .i64 a, .int .i64 b] w fun e w' => e = .returned (.int .i64 (cmpI a b)) ∧ w' = w := by
  go_enter Try.func41, Try.ntmps41
  go_wp2_with (go_at_call 58; refine (isNaN70 _ _).mono ?_; rintro e w' ⟨rfl, rfl⟩)
  all_goals go_ret
  all_goals exact ⟨retI (by simp only [cmpI]; repeat' split <;> omega), rfl⟩
theorem between58 (a b x : Int) (w : World) : Calls Try.prog 47 #[.int .i64 a, .int .i64 b, .int .i64 x] w fun e w' => e = .returned (.bool (betweenB a b x)) ∧ w' = w := by
  go_enter Try.func47, Try.ntmps47
  go_wp2
  all_goals go_ret
  all_goals exact ⟨retB (by simp [betweenB]; omega), rfl⟩
theorem overlap69 (a b c d : Int) (w : World) : Calls Try.prog 45 #[.int .i64 a, .int .i64 b, .int .i64 c, .int .i64 d] w fun e w' => e = .returned (.bool (overlapB a b c d)) ∧ w' = w := by
  go_enter Try.func45, Try.ntmps45
  go_wp2
  all_goals go_ret
  all_goals exact ⟨retB (by simp [overlapB]; omega), rfl⟩
end Go.Proofs.Ytgnojjbdioldbab
