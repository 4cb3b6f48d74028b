/- The reference's half and Before. -/
import Derived.Test.YtgnojjbdioldbaaI1
import Derived.BigQuiet
import Derived.Lib.QuietBelow
import Derived.Deep.CutRange
namespace Go.Proofs.Ytgnojjbdioldbaa
open Go.RowKit Go.Sort
open Go

theorem half65 (s : Pt) (w : World) : Calls Try.prog 65 #[pv s.x s.y] w fun e w' => e = .returned (.int .i64 (halfI s)) ∧ Below w.heap.size w w' := by
  by_cases h1 : 0 < s.x
  · go_enter Try.func65, Try.ntmps65
    go_wp2
    all_goals go_ret
    all_goals exact ⟨retI (by simp [halfI, h1]), by go_grown⟩
  · by_cases h2 : s.x = 0
    · by_cases h3 : 0 < s.y
      · go_enter Try.func65, Try.ntmps65
        go_wp2
        all_goals go_ret
        all_goals exact ⟨retI (by simp [halfI, h2, h3]), by go_grown⟩
      · go_enter Try.func65, Try.ntmps65
        go_wp2
        all_goals go_ret
        all_goals exact ⟨retI (by simp [halfI, h2, h3]), by go_grown⟩
    · have h2' : (s.x == 0) = false := by simp [h2]
      go_enter Try.func65, Try.ntmps65
      go_wp2
      all_goals go_ret
      all_goals exact ⟨retI (by simp [halfI, h1, h2]), by go_grown⟩
def In21 (s : Pt) : Prop := -2097152 ≤ s.x ∧ s.x ≤ 2097152 ∧ -2097152 ≤ s.y ∧ s.y ≤ 2097152
theorem two_pts (w : World) (a b : Pt) : ∃ W, W = (w.alloc (bx a)).alloc (bx b) ∧ Below w.heap.size w W ∧ W.cell? ⟨w.heap.size, 0, none⟩ = some (.int .i64 a.x) ∧ W.cell? ⟨w.heap.size, 1, none⟩ = some (.int .i64 a.y) ∧ W.cell? ⟨w.heap.size + 1, 0, none⟩ = some (.int .i64 b.x) ∧ W.cell? ⟨w.heap.size + 1, 1, none⟩ = some (.int .i64 b.y) :=
  ⟨_, rfl, by go_grown, by go_cell, by go_cell, by go_cell, by go_cell⟩
set_option maxRecDepth 100000 in
set_option maxHeartbeats 4000000 in
theorem before45 (a b : Pt) (ha : In21 a) (hb : In21 b) (w : World) : Calls Try.prog 45 #[pv a.x a.y, pv b.x b.y] w fun e w' => e = .returned (.int .i64 (befI a b)) ∧ Below w.heap.size w w' := by
  obtain ⟨W, hW, hbW, a0, a1, b0, b1⟩ := two_pts w a b
  have CH : ∀ s dd os, Calls Try.prog 65 #[pv s.x s.y] (grow (redrawn W dd) os) fun e w'' => e = .returned (.int .i64 (halfI s)) ∧ ∃ p : Regrown, w'' = grow (redrawn W p.d) p.os := fun s dd os => Calls.regrown_of (half65 s _)
  have CA := CH a
  have CB := CH b
  have CS : ∀ n dd os, Calls Try.prog 36 #[.int .i64 n] (grow (redrawn W dd) os) fun e w'' => e = .returned (.int .i64 (sgn n)) ∧ ∃ p : Regrown, w'' = grow (redrawn W p.d) p.os := fun n dd os => Calls.regrown_of ((sign36 n _).mono (by rintro e w' ⟨rfl, rfl⟩; exact ⟨rfl, Below.refl _ _⟩))
  have f0 := cell_regrown a0
  have f1 := cell_regrown a1
  have f2 := cell_regrown b0
  have f3 := cell_regrown b1
  have HB := hide hbW
  have S := fun n => sign36 n
  have p1 := mul_in (m := 2097152) (n := 2097152) a.x b.y (by unfold In21 at *; omega) (by unfold In21 at *; omega)
  have p2 := mul_in (m := 2097152) (n := 2097152) a.y b.x (by unfold In21 at *; omega) (by unfold In21 at *; omega)
  have hE : Hid (befI a b = if halfI a = halfI b then sgn (a.x * b.y - a.y * b.x) else sgn (halfI a - halfI b)) := rfl
  have q1 := half_01 a
  have q2 := half_01 b
  obtain ⟨s, hs⟩ : ∃ s, halfI a = s := ⟨_, rfl⟩
  obtain ⟨t, ht⟩ : ∃ t, halfI b = t := ⟨_, rfl⟩
  rw [hs, ht] at hE
  rw [hs] at CA q1
  rw [ht] at CB q2
  clear CH ha hb hbW
  by_cases hst : s = t
  · have hst' : (s != t) = false := by simpa using hst
    rw [if_pos hst] at hE
    go_enter Try.func45, Try.ntmps45
    go_wp2_with fail
    rw [← hW]
    clear hW
    refine wp_region_quiet_below (by kernel_rfl) (by kernel_rfl) ?_
    repeat (go_big_quiet_step (first | with_reducible exact CA _ _ | with_reducible exact CB _ _))
    refine wpQuiet_nil ?_
    intro w1 hw'
    have hb1 : Below W.heap.size W w1 := by
      obtain ⟨⟨dq, osq⟩, hw''⟩ := hw'
      rw [hw'']
      exact below_regrown W dq osq
    have HB1 := hide (below_step9 HB.out hb1)
    have g0 := later hb1 a0
    have g1 := later hb1 a1
    have g2 := later hb1 b0
    have g3 := later hb1 b1
    clear hw' hb1 f0 f1 f2 f3 CA CB CS a0 a1 b0 b1
    go_wp2_with (go_at_call 36; refine (S _ _).mono ?_; rintro e w' ⟨rfl, hw⟩; have hw := hw.symm; subst hw)
    go_ret
    exact ⟨retI (by rw [hE.out]), HB1.out⟩
  · have hst' : (s != t) = true := by simpa using hst
    rw [if_neg hst] at hE
    have wst : IntKind.i64.wrap (s - t) = s - t := by rw [IntKind.wrap_i64]; omega
    have wst' : wrap64 (s - t) = s - t := by unfold wrap64; omega
    go_enter Try.func45, Try.ntmps45
    go_wp2_with fail
    rw [← hW]
    clear hW
    refine wp_region_quiet_below (by kernel_rfl) (by kernel_rfl) ?_
    repeat (go_big_quiet_step (first | with_reducible exact CA _ _ | with_reducible exact CB _ _))
    refine wpQuiet_nil ?_
    intro w1 hw'
    obtain ⟨⟨dq, osq⟩, hw''⟩ := hw'
    have hb1 : Below W.heap.size W w1 := by rw [hw'']; exact below_regrown W dq osq
    clear hw''
    have HB1 := hide (below_step9 HB.out hb1)
    have CH : ∀ s dd os, Calls Try.prog 65 #[pv s.x s.y] (grow (redrawn w1 dd) os) fun e w'' => e = .returned (.int .i64 (halfI s)) ∧ ∃ p : Regrown, w'' = grow (redrawn w1 p.d) p.os := fun s dd os => Calls.regrown_of (half65 s _)
    have CA' := CH a
    have CB' := CH b
    have CS' : ∀ n dd os, Calls Try.prog 36 #[.int .i64 n] (grow (redrawn w1 dd) os) fun e w'' => e = .returned (.int .i64 (sgn n)) ∧ ∃ p : Regrown, w'' = grow (redrawn w1 p.d) p.os := fun n dd os => Calls.regrown_of ((sign36 n _).mono (by rintro e w' ⟨rfl, rfl⟩; exact ⟨rfl, Below.refl _ _⟩))
    rw [hs] at CA'
    rw [ht] at CB'
    have g0 := cell_regrown (later hb1 a0)
    have g1 := cell_regrown (later hb1 a1)
    have g2 := cell_regrown (later hb1 b0)
    have g3 := cell_regrown (later hb1 b1)
    clear hb1 f0 f1 f2 f3 CA CB CS CH a0 a1 b0 b1 hs ht
    go_upto_region 2 with fail
    refine wp_region_quiet_below (by kernel_rfl) (by kernel_rfl) ?_
    repeat (go_big_quiet_step (first | with_reducible exact CA' _ _ | with_reducible exact CB' _ _ | with_reducible exact CS' _ _ _))
    refine wpQuiet_nil ?_
    intro w2 hw'
    have hb2 : Below w1.heap.size w1 w2 := by
      obtain ⟨⟨dq, osq⟩, hw''⟩ := hw'
      rw [hw'']
      exact below_regrown w1 dq osq
    clear hw' g0 g1 g2 g3 CA' CB' CS'
    go_wp2_with fail
    go_ret
    exact ⟨retI (by rw [hE.out]), below_step9 HB1.out hb2⟩
end Go.Proofs.Ytgnojjbdioldbaa
