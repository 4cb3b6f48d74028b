/- What the small functions of geom and of the document's own answer answer, in every world. -/
import Derived.Test.YtgnojjbdioldbaaProg
import Derived.WalkKit
import Derived.WalkSpells
import Derived.WalkLawsBesides
import Derived.Handy
import Derived.Below
import Derived.Lib.QuietBelow
namespace Go.Proofs.Ytgnojjbdioldbaa
open Go.RowKit Go.Sort
open Go

/-- A point. -/
structure Pt where
  x : Int
  y : Int
  deriving DecidableEq, Inhabited

abbrev pv (x y : Int) : Value := .agg #[.int .i64 x, .int .i64 y]
abbrev sv (a b : Pt) : Value := .agg #[.int .i64 a.x, .int .i64 a.y, .int .i64 b.x, .int .i64 b.y]
def insideB (x : Int) : Bool := decide (-1048576 ≤ x) && decide (x ≤ 1048576)
def ptB (p : Pt) : Bool := insideB p.x && insideB p.y
def sgn (n : Int) : Int := if 0 < n then 1 else if n < 0 then -1 else 0
def cmpI (a b : Int) : Int := if a < b then -1 else if b < a then 1 else 0
def betweenB (a b x : Int) : Bool := decide (min a b ≤ x) && decide (x ≤ max a b)
def overlapB (a b c d : Int) : Bool := decide (min c d ≤ max a b) && decide (min a b ≤ max c d)

theorem hide {p : Prop} (h : p) : Hid p := h
theorem retB {a b : Bool} (h : a = true ↔ b = true) : Ending.returned (.bool a) = Ending.returned (.bool b) := by rw [Bool.eq_iff_iff.2 h]
theorem retI {a b : Int} (h : a = b) : Ending.returned (.int .i64 a) = Ending.returned (.int .i64 b) := by rw [h]

theorem within35 (x : Int) (w : World) : Calls Try.prog 35 #[.int .i64 x] w fun e w' => e = .returned (.bool (insideB x)) ∧ w' = w := by
  go_enter Try.func35, Try.ntmps35
  go_wp2
  all_goals go_ret
  all_goals exact ⟨retB (by simp [insideB]; omega), rfl⟩
theorem one52 (p : Pt) (w : World) : Calls Try.prog 52 #[pv p.x p.y] w fun e w' => e = .returned (.bool (ptB p)) ∧ Below w.heap.size w w' := by
  go_enter Try.func52, Try.ntmps52
  go_wp2
  all_goals go_ret
  all_goals exact ⟨retB (by simp [ptB, insideB]; omega), by go_grown⟩
theorem cross57 (a b : Pt) (w : World) : Calls Try.prog 57 #[pv a.x a.y, pv b.x b.y] w fun e w' => e = .returned (.int .i64 (wrap64 (wrap64 (a.x * b.y) - wrap64 (a.y * b.x)))) ∧ Below w.heap.size w w' := by
  go_enter Try.func57, Try.ntmps57
  go_wp2
  go_ret
  exact ⟨rfl, by go_grown⟩
theorem stepTo43 (a b : Pt) (w : World) : Calls Try.prog 43 #[pv a.x a.y, pv b.x b.y] w fun e w' => e = .returned (pv (wrap64 (b.x - a.x)) (wrap64 (b.y - a.y))) ∧ Below w.heap.size w w' := by
  go_enter Try.func43, Try.ntmps43
  go_wp2
  go_returns
  exact ⟨rfl, by go_grown⟩
theorem pt18 (x y : Int) (w : World) : Calls Try.prog 18 #[.int .i64 x, .int .i64 y] w fun e w' => e = .returned (pv x y) ∧ Below w.heap.size w w' := by
  go_enter Try.func18, Try.ntmps18
  go_wp2
  go_returns
  exact ⟨rfl, by go_grown⟩
theorem isNaN70 (x : Int) (w : World) : Calls Try.prog 70 #[.int .i64 x] w fun e w' => e = .returned (.bool false) ∧ w' = w := by
  go_enter Try.func70, Try.ntmps70
  go_wp2
  go_ret
  exact ⟨by simp, rfl⟩
theorem compare56 (a b : Int) (w : World) : Calls Try.prog 56 #[.int .i64 a, .int .i64 b] w fun e w' => e = .returned (.int .i64 (cmpI a b)) ∧ w' = w := by
  go_enter Try.func56, Try.ntmps56
  go_wp2_with (go_at_call 70; refine (isNaN70 _ _).mono ?_; rintro e w' ⟨rfl, rfl⟩)
  all_goals go_ret
  all_goals exact ⟨retI (by simp only [cmpI]; repeat' split <;> omega), rfl⟩
theorem sign36 (n : Int) (w : World) : Calls Try.prog 36 #[.int .i64 n] w fun e w' => e = .returned (.int .i64 (sgn n)) ∧ w' = w := by
  go_enter Try.func36, Try.ntmps36
  go_wp2
  all_goals go_ret
  all_goals exact ⟨retI (by simp only [sgn]; repeat' split <;> omega), rfl⟩
theorem within37 (a b x : Int) (w : World) : Calls Try.prog 37 #[.int .i64 a, .int .i64 b, .int .i64 x] w fun e w' => e = .returned (.bool (betweenB a b x)) ∧ w' = w := by
  go_enter Try.func37, Try.ntmps37
  go_wp2
  all_goals go_ret
  all_goals exact ⟨retB (by simp [betweenB]; omega), rfl⟩
theorem between58 (a b x : Int) (w : World) : Calls Try.prog 58 #[.int .i64 a, .int .i64 b, .int .i64 x] w fun e w' => e = .returned (.bool (betweenB a b x)) ∧ w' = w := by
  go_enter Try.func58, Try.ntmps58
  go_wp2
  all_goals go_ret
  all_goals exact ⟨retB (by simp [betweenB]; omega), rfl⟩
theorem overlap69 (a b c d : Int) (w : World) : Calls Try.prog 69 #[.int .i64 a, .int .i64 b, .int .i64 c, .int .i64 d] w fun e w' => e = .returned (.bool (overlapB a b c d)) ∧ w' = w := by
  go_enter Try.func69, Try.ntmps69
  go_wp2
  all_goals go_ret
  all_goals exact ⟨retB (by simp [overlapB]; omega), rfl⟩
end Go.Proofs.Ytgnojjbdioldbaa
