/- How two segments of a polyline may meet: allowed, in every world. -/
import Derived.Test.YtgnojjbdioldbaaG18
import Derived.BigQuiet
import Derived.Lib.QuietBelow
import Derived.Deep.CutRange
namespace Go.Proofs.Ytgnojjbdioldbaa
open Go.RowKit Go.Sort
open Go

def closeP (ps : List Pt) (j i : Nat) : Prop := j + 1 = i ∨ (j = 0 ∧ i + 2 = ps.length ∧ at' ps 0 = at' ps (ps.length - 1))
instance (ps : List Pt) (j i : Nat) : Decidable (closeP ps j i) := by unfold closeP; infer_instance
def allowI (ps : List Pt) (j i : Nat) : Int := if closeP ps j i then 2 else 0
set_option maxRecDepth 100000 in
set_option maxHeartbeats 4000000 in
theorem allowed47 (b off cap : Nat) (ps : List Pt) (j i : Nat) (w : World) (hl : ps.length ≤ 4096) (hji : j < i) (hi : i + 1 < ps.length) (h : Lies w b off ps) : Calls Try.prog 47 #[.slice (some ⟨b, off, none⟩) ps.length cap, .int .i64 j, .int .i64 i] w fun e w' => e = .returned (.int .i64 (allowI ps j i)) ∧ Below w.heap.size w w' := by
  obtain ⟨c0, c1⟩ := h 0 (by omega)
  obtain ⟨d0, d1⟩ := h (ps.length - 1) (by omega)
  have HR : Hid (allowI ps j i = if closeP ps j i then 2 else 0) := rfl
  have HC : Hid (closeP ps j i ↔ (j + 1 = i ∨ (j = 0 ∧ i + 2 = ps.length ∧ at' ps 0 = at' ps (ps.length - 1)))) := Iff.rfl
  obtain ⟨A, hA⟩ : ∃ A, allowI ps j i = A := ⟨_, rfl⟩
  rw [hA] at HR ⊢
  obtain ⟨y, hy⟩ : ∃ y, at' ps 0 = y := ⟨_, rfl⟩
  obtain ⟨z, hz⟩ : ∃ z, at' ps (ps.length - 1) = z := ⟨_, rfl⟩
  rw [hy, hz] at HC
  rw [hy] at c0 c1
  rw [hz] at d0 d1
  obtain ⟨n, hn⟩ : ∃ n, ps.length = n + 1 := ⟨ps.length - 1, by omega⟩
  rw [hn] at d0 d1 HC hl hi ⊢
  rw [show n + 1 - 1 = n by omega] at d0 d1
  rw [Nat.zero_mul, Nat.add_zero] at c0 c1
  clear h hA hy hz hn
  have f0 := cell_regrown c0
  have f1 := cell_regrown c1
  have f2 := cell_regrown d0
  have f3 := cell_regrown d1
  have k1 : (0 : Int) < (n : Int) + 1 := by omega
  have k2 : (n : Int) < (n : Int) + 1 := by omega
  have k3 : (0 : Int) ≤ n := by omega
  have w1 : wrap64 ((n : Int) - 1) = (n : Int) - 1 := by unfold wrap64; omega
  have w2 : IntKind.i64.wrap ((n : Int) - 1) = (n : Int) - 1 := by rw [IntKind.wrap_i64]; omega
  by_cases hj0 : j = 0
  · subst hj0
    by_cases hin : i + 1 = n
    · have g1 : ((i : Int) == (n : Int) - 1) = true := by simp; omega
      by_cases hyz : y = z
      · have heq : ∀ w, (Op.equalIn 10000 23 (pv y.x y.y) (pv z.x z.y)).run Try.prog w = .ok true w := fun w => by
          have := eq23 y z w
          rw [decide_eq_true hyz] at this
          exact this
        have HA : Hid (A = 2) := HR.out.trans (if_pos (HC.out.2 (Or.inr ⟨rfl, by omega, hyz⟩)))
        clear HR HC
        go_enter Try.func47, Try.ntmps47
        go_upto_region 2 with fail
        refine wp_region_quiet_below (by kernel_rfl) (by kernel_rfl) ?_
        repeat (go_big_quiet_step (fail))
        refine wpQuiet_nil ?_
        intro x1 hw'
        have hb1 : Below w.heap.size w x1 := by
          obtain ⟨⟨dq, osq⟩, hw''⟩ := hw'
          rw [hw'']
          exact below_regrown w dq osq
        clear hw' f0 f1 f2 f3 c0 c1 d0 d1
        go_wp2
        all_goals go_ret
        all_goals exact ⟨retI HA.out.symm, hb1⟩
      · have heq : ∀ w, (Op.equalIn 10000 23 (pv y.x y.y) (pv z.x z.y)).run Try.prog w = .ok false w := fun w => by
          have := eq23 y z w
          rw [decide_eq_false hyz] at this
          exact this
        have HA2 : Hid (0 + 1 = i → A = 2) := fun k => HR.out.trans (if_pos (HC.out.2 (Or.inl k)))
        have HA0 : Hid (¬ 0 + 1 = i → A = 0) := fun k' => HR.out.trans (if_neg (fun k => by
          rcases HC.out.1 k with k | ⟨u1, u2, u3⟩
          · exact k' k
          · exact hyz u3))
        clear HR HC
        go_enter Try.func47, Try.ntmps47
        go_upto_region 2 with fail
        refine wp_region_quiet_below (by kernel_rfl) (by kernel_rfl) ?_
        repeat (go_big_quiet_step (fail))
        refine wpQuiet_nil ?_
        intro x1 hw'
        have hb1 : Below w.heap.size w x1 := by
          obtain ⟨⟨dq, osq⟩, hw''⟩ := hw'
          rw [hw'']
          exact below_regrown w dq osq
        clear hw' f0 f1 f2 f3 c0 c1 d0 d1
        go_wp2
        all_goals go_ret
        all_goals refine ⟨retI ?_, hb1⟩
        all_goals first | exact (HA2.out (by omega)).symm | exact (HA0.out (by omega)).symm
    · have g1 : ((i : Int) == (n : Int) - 1) = false := by simp; omega
      have HA2 : Hid (0 + 1 = i → A = 2) := fun k => HR.out.trans (if_pos (HC.out.2 (Or.inl k)))
      have HA0 : Hid (¬ 0 + 1 = i → A = 0) := fun k' => HR.out.trans (if_neg (fun k => by
        rcases HC.out.1 k with k | ⟨u1, u2, u3⟩
        · exact k' k
        · omega))
      clear HR HC
      go_enter Try.func47, Try.ntmps47
      go_upto_region 2 with fail
      refine wp_region_quiet_below (by kernel_rfl) (by kernel_rfl) ?_
      repeat (go_big_quiet_step (fail))
      refine wpQuiet_nil ?_
      intro x1 hw'
      have hb1 : Below w.heap.size w x1 := by
        obtain ⟨⟨dq, osq⟩, hw''⟩ := hw'
        rw [hw'']
        exact below_regrown w dq osq
      clear hw' f0 f1 f2 f3 c0 c1 d0 d1
      go_wp2
      all_goals go_ret
      all_goals refine ⟨retI ?_, hb1⟩
      all_goals first | exact (HA2.out (by omega)).symm | exact (HA0.out (by omega)).symm
  · have g0 : ((j : Int) == 0) = false := by simp; omega
    have HA2 : Hid (j + 1 = i → A = 2) := fun k => HR.out.trans (if_pos (HC.out.2 (Or.inl k)))
    have HA0 : Hid (¬ j + 1 = i → A = 0) := fun k' => HR.out.trans (if_neg (fun k => by
      rcases HC.out.1 k with k | ⟨u1, u2, u3⟩
      · exact k' k
      · omega))
    clear HR HC
    go_enter Try.func47, Try.ntmps47
    go_upto_region 2 with fail
    refine wp_region_quiet_below (by kernel_rfl) (by kernel_rfl) ?_
    repeat (go_big_quiet_step (fail))
    refine wpQuiet_nil ?_
    intro x1 hw'
    have hb1 : Below w.heap.size w x1 := by
      obtain ⟨⟨dq, osq⟩, hw''⟩ := hw'
      rw [hw'']
      exact below_regrown w dq osq
    clear hw' f0 f1 f2 f3 c0 c1 d0 d1
    go_wp2
    all_goals go_ret
    all_goals refine ⟨retI ?_, hb1⟩
    all_goals first | exact (HA2.out (by omega)).symm | exact (HA0.out (by omega)).symm
end Go.Proofs.Ytgnojjbdioldbaa
