/- The reference's has, in every world. -/
import Derived.Test.YtgnojjbdioldbaaL2
namespace Go.Proofs.Ytgnojjbdioldbaa
open Go.RowKit Go.Sort
open Go

set_option maxRecDepth 100000 in
set_option maxHeartbeats 4000000 in
theorem has50 (p : Option Addr) (ps : List Pt) (cap : Nat) (o : Pt) (w : World) (hl : ps.length ≤ 4096) (h : Has w p ps) : Calls Try.prog 50 #[.slice p ps.length cap, pv o.x o.y] w fun e w' => e = .returned (.bool (decide (o ∈ ps))) ∧ Below w.heap.size w w' := by
  obtain ⟨W, hW, hbW, ow⟩ : ∃ W, W = w.alloc (bx o) ∧ Below w.heap.size w W ∧ Own W w.heap.size o := ⟨_, rfl, by go_grown, by unfold Own; exact ⟨by go_cell, by go_cell, by go_cell, by go_cell⟩⟩
  have HH := hide (h.later hbW)
  have HB := hide hbW
  have HO := hide ow
  obtain ⟨R, hR⟩ : ∃ R, decide (o ∈ ps) = R := ⟨_, rfl⟩
  have HR := hide hR
  rw [hR]
  clear h hbW ow hR
  go_enter Try.func50, Try.ntmps50
  go_wp2_with fail
  rw [← hW]
  clear hW
  go_loopw [5] (fun t wr => ∃ i : Nat, i ≤ ps.length ∧ t = .int .i64 i ∧ Hid (Below W.heap.size W wr) ∧ Hid (∀ x, x < i → at' ps x ≠ o)) (fun t _ => ps.length - (intOf t).toNat)
  case atStart => exact ⟨0, by omega, rfl, Below.refl _ _, fun x hx => by omega⟩
  case round =>
    obtain ⟨i, hi, rfl, HBr, HF⟩ := hrel
    by_cases hlt : i < ps.length
    · rcases HH.out.later HBr.out with h | ⟨b, off, rfl, hL⟩
      · subst h; simp at hlt
      obtain ⟨c0, c1⟩ := hL i hlt
      obtain ⟨q0, q1, _, _⟩ := HO.out.later HBr.out
      obtain ⟨y, hy⟩ : ∃ y, at' ps i = y := ⟨_, rfl⟩
      rw [hy] at c0 c1
      have HY := hide hy
      have i1 : (i : Int) < ps.length := by omega
      have i2 : (0 : Int) ≤ i := by omega
      clear hL hy
      by_cases hyo : y = o
      · have heq : ∀ w, (Op.equalIn 10000 23 (pv y.x y.y) (pv o.x o.y)).run Try.prog w = .ok true w := fun w => by
          have := eq23 y o w
          rw [decide_eq_true hyo] at this
          exact this
        have HT : Hid (R = true) := by show _ = _; rw [← HR.out]; exact decide_eq_true (by rw [← hyo, ← HY.out]; exact at_mem hlt)
        clear hyo HR
        go_wp2_with fail
        go_region
        go_wp2
        go_ret
        exact ⟨by rw [HT.out]; rfl, below_stepJ HB.out (below_stepJ HBr.out (below_drewJ _))⟩
      · have heq : ∀ w, (Op.equalIn 10000 23 (pv y.x y.y) (pv o.x o.y)).run Try.prog w = .ok false w := fun w => by
          have := eq23 y o w
          rw [decide_eq_false hyo] at this
          exact this
        have HYO := hide hyo
        clear hyo
        go_wp2_with fail
        go_region
        go_wp2
        go_roundw
        case rel => exact ⟨i + 1, by omega, by go_num, below_stepJ HBr.out (below_drewJ _), fun x hx => by
          by_cases e : x = i
          · rw [e, HY.out]; exact HYO.out
          · exact HF.out x (by omega)⟩
        case measure => simp [intOf]; omega
    · have hin : i = ps.length := by omega
      subst hin
      have HT : Hid (R = false) := by
        show _ = _
        rw [← HR.out]
        exact decide_eq_false fun k => by obtain ⟨x, hx, e⟩ := mem_at k; exact HF.out x hx e
      clear HR
      go_wp2
      go_ret
      exact ⟨by rw [HT.out]; rfl, below_stepJ HB.out HBr.out⟩
end Go.Proofs.Ytgnojjbdioldbaa
