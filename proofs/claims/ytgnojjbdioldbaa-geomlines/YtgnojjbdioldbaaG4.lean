/- Points on segments by the document's answer; segments that part the ends of others, and the ends on both, in every world. -/
import Derived.Test.YtgnojjbdioldbaaG3
namespace Go.Proofs.Ytgnojjbdioldbaa
open Go.RowKit Go.Sort
open Go

theorem later {w w' : World} {a : Addr} {v : Value} (hb : Below w.heap.size w w') (h : w.cell? a = some v) : w'.cell? a = some v := by
  rw [hb.cell (block_lt_of_cell h)]; exact h

set_option maxHeartbeats 400000 in
theorem on17 (a b p : Pt) (ha : ptB a = true) (hb : ptB b = true) (hp : ptB p = true) (w : World) : Calls Try.prog 17 #[pv a.x a.y, pv b.x b.y, pv p.x p.y] w fun e w' => e = .returned (.bool (hasB a b p)) ∧ Below w.heap.size w w' := by
  have T := hide (fun w => turn16 a b p ha hb hp w)
  clear ha hb hp
  have c1 := within37 a.x b.x p.x
  have c2 := within37 a.y b.y p.y
  cases h0 : (turnI a b p == 0) <;> cases h1 : betweenB a.x b.x p.x
  all_goals
    rw [h1] at c1
    go_enter Try.func17, Try.ntmps17
    obtain ⟨W, hW, hb, q0, q1, q2, q3, q4, q5⟩ := boxes3 w a b p
    go_wp2_with fail
    rw [← hW]
    refine (T.out _).mono ?_
    rintro e w' ⟨rfl, hb2⟩
    have HB := hide (Below.trans hb (hb2.mono hb.size))
    have k0 := later hb2 q0
    have k1 := later hb2 q1
    have k2 := later hb2 q2
    have k3 := later hb2 q3
    have k4 := later hb2 q4
    have k5 := later hb2 q5
    clear hb hb2 hW q0 q1 q2 q3 q4 q5
    go_wp2_with (go_at_call 37; first | (with_reducible refine (c1 _).mono ?_; rintro e w' ⟨rfl, rfl⟩) | (with_reducible refine (c2 _).mono ?_; rintro e w' ⟨rfl, rfl⟩))
    go_ret
    exact ⟨retB (by simp [hasB, h0, h1]), HB.out⟩

abbrev sx (a b : Pt) : Obj := .cells #[.int .i64 a.x, .int .i64 a.y, .int .i64 b.x, .int .i64 b.y] 59
/-- Two segments in boxes of their own. -/
def Segs (W : World) (g : Nat) (a b c d : Pt) : Prop :=
  W.cell? ⟨g, 0, none⟩ = some (.int .i64 a.x) ∧ W.cell? ⟨g, 1, none⟩ = some (.int .i64 a.y) ∧ W.cell? ⟨g, 2, none⟩ = some (.int .i64 b.x) ∧ W.cell? ⟨g, 3, none⟩ = some (.int .i64 b.y)
    ∧ W.cell? ⟨g + 1, 0, none⟩ = some (.int .i64 c.x) ∧ W.cell? ⟨g + 1, 1, none⟩ = some (.int .i64 c.y) ∧ W.cell? ⟨g + 1, 2, none⟩ = some (.int .i64 d.x) ∧ W.cell? ⟨g + 1, 3, none⟩ = some (.int .i64 d.y)
theorem segs (w : World) (a b c d : Pt) : ∃ W, W = (w.alloc (sx a b)).alloc (sx c d) ∧ Below w.heap.size w W ∧ Segs W w.heap.size a b c d :=
  ⟨_, rfl, by go_grown, by go_cell, by go_cell, by go_cell, by go_cell, by go_cell, by go_cell, by go_cell, by go_cell⟩
theorem Segs.later {W W' : World} {g : Nat} {a b c d : Pt} (h : Segs W g a b c d) (hb : Below W.heap.size W W') : Segs W' g a b c d := by
  obtain ⟨q0, q1, q2, q3, q4, q5, q6, q7⟩ := h
  exact ⟨Ytgnojjbdioldbaa.later hb q0, Ytgnojjbdioldbaa.later hb q1, Ytgnojjbdioldbaa.later hb q2, Ytgnojjbdioldbaa.later hb q3, Ytgnojjbdioldbaa.later hb q4, Ytgnojjbdioldbaa.later hb q5, Ytgnojjbdioldbaa.later hb q6, Ytgnojjbdioldbaa.later hb q7⟩

theorem turn_mul' (a b c d e f : Pt) : IntKind.i64.wrap (turnI a b c * turnI d e f) = turnI a b c * turnI d e f := by
  have h := turn_cases a b c
  have k := turn_cases d e f
  refine IntWalk.i64_in _ ?_
  rcases h with h | h | h <;> rcases k with k | k | k <;> rw [h, k] <;> decide
set_option maxHeartbeats 400000 in
theorem parts54 (a b c d : Pt) (ha : ptB a = true) (hb : ptB b = true) (hc : ptB c = true) (hd : ptB d = true) (w : World) : Calls Try.prog 54 #[sv a b, sv c d] w fun e w' => e = .returned (.bool (partsB a b c d)) ∧ Below w.heap.size w w' := by
  have T1 := hide (fun w => turn33 a b c ha hb hc w)
  have T2 := hide (fun w => turn33 a b d ha hb hd w)
  clear ha hb hc hd
  go_enter Try.func54, Try.ntmps54
  obtain ⟨W, hW, hb, q0, q1, q2, q3, q4, q5, q6, q7⟩ := segs w a b c d
  go_wp2_with fail
  rw [← hW]
  have k0 := cell_regrown q0
  have k1 := cell_regrown q1
  have k2 := cell_regrown q2
  have k3 := cell_regrown q3
  have k4 := cell_regrown q4
  have k5 := cell_regrown q5
  have k6 := cell_regrown q6
  have k7 := cell_regrown q7
  have HB := hide hb
  clear hb hW q0 q1 q2 q3 q4 q5 q6 q7
  have c1 : ∀ dd os, Calls Try.prog 33 #[pv a.x a.y, pv b.x b.y, pv c.x c.y] (grow (redrawn W dd) os) fun e w'' => e = .returned (.int .i64 (turnI a b c)) ∧ ∃ p : Regrown, w'' = grow (redrawn W p.d) p.os := fun dd os => Calls.regrown_of (T1.out _)
  have c2 : ∀ dd os, Calls Try.prog 33 #[pv a.x a.y, pv b.x b.y, pv d.x d.y] (grow (redrawn W dd) os) fun e w'' => e = .returned (.int .i64 (turnI a b d)) ∧ ∃ p : Regrown, w'' = grow (redrawn W p.d) p.os := fun dd os => Calls.regrown_of (T2.out _)
  refine wp_region_quiet_below (by kernel_rfl) (by kernel_rfl) ?_
  repeat (quiet_step (first | with_reducible exact c1 _ _ | with_reducible exact c2 _ _))
  refine wpQuiet_nil ?_
  intro wq hw'
  have HBq : Hid (Below w.heap.size w wq) := by
    obtain ⟨⟨dq, osq⟩, hw''⟩ := hw'
    rw [hw'']
    exact HB.out.trans ((below_regrown W dq osq).mono HB.out.size)
  clear hw' c1 c2 k0 k1 k2 k3 k4 k5 k6 k7 HB
  go_wp2
  go_ret
  refine ⟨retB ?_, HBq.out⟩
  rw [turn_mul']; simp [partsB]
end Go.Proofs.Ytgnojjbdioldbaa
