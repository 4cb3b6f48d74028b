/- Orient and Meet of points that may be. -/
import Derived.Test.YtgnojjbdioldbaaF3
namespace Go.Proofs.Ytgnojjbdioldbaa
open Go.RowKit Go.Sort
open Go

theorem orient13' {a b c : Pt} (ha : ptB a = true) (hb : ptB b = true) (hc : ptB c = true) (w : World) : Calls Try.prog 13 #[pv a.x a.y, pv b.x b.y, pv c.x c.y] w fun e w' => e = .returned (.tuple #[.int .i64 (turnI a b c), .int .i64 0]) ∧ Below w.heap.size w w' := by
  have h := orient13 a b c w
  have hm : mayB [a, b, c] = true := by simp [mayB, ha, hb, hc]
  rw [err_ok hm, orientI, if_pos hm] at h
  exact h
theorem on14' {a b c : Pt} (ha : ptB a = true) (hb : ptB b = true) (hc : ptB c = true) (w : World) : Calls Try.prog 14 #[pv a.x a.y, pv b.x b.y, pv c.x c.y] w fun e w' => e = .returned (.tuple #[.bool (hasB a b c), .int .i64 0]) ∧ Below w.heap.size w w' := by
  have h := on14 a b c w
  have hm : mayB [a, b, c] = true := by simp [mayB, ha, hb, hc]
  rw [err_ok hm, onB, hm, Bool.true_and] at h
  exact h
theorem meet11' {a b c d : Pt} (hm : mayB [a, b, c, d] = true) (w : World) : Calls Try.prog 11 #[pv a.x a.y, pv b.x b.y, pv c.x c.y, pv d.x d.y] w fun e w' => e = .returned (.tuple #[.int .i64 (meetI a b c d), .int .i64 0]) ∧ Below w.heap.size w w' := by
  have h := meet11 a b c d w
  rw [err_ok hm, meetJ, if_pos hm] at h
  exact h

end Go.Proofs.Ytgnojjbdioldbaa
