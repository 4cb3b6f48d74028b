/- Whether a point is among others, in every world. -/
import Derived.Test.YtgnojjbdioldbaaG9
import Derived.BigQuiet
namespace Go.Proofs.Ytgnojjbdioldbaa
open Go.RowKit Go.Sort
open Go

theorem below_drewN {B : Nat} {w W : World} {n : Nat} (h : Below B w W) : Below B w (W.drewN n) := ⟨h.os, h.tape, h.output, h.size, h.block⟩
set_option maxHeartbeats 1000000 in
theorem index59 (p : Option Addr) (ps : List Pt) (cap : Nat) (o : Pt) (w : World) (hl : ps.length ≤ 4096) (h : Has w p ps) : Calls Try.prog 59 #[.slice p ps.length cap, pv o.x o.y] w fun e w' => ∃ k : Int, e = .returned (.int .i64 k) ∧ (0 ≤ k ↔ o ∈ ps) ∧ Below w.heap.size w w' := by
  have H := hide h
  clear h
  go_enter Try.func59, Try.ntmps59
  go_wp2
  go_loopw [8] (fun t wr => ∃ i : Nat, i ≤ ps.length ∧ t = .int .i64 i ∧ Hid (∀ j, j < i → at' ps j ≠ o) ∧ Hid (Below w.heap.size w wr) ∧ wr.cell? ⟨w.heap.size, 0, none⟩ = some (.int .i64 o.x) ∧ wr.cell? ⟨w.heap.size, 1, none⟩ = some (.int .i64 o.y)) (fun t _ => ps.length - (intOf t).toNat)
  case atStart => exact ⟨0, by omega, rfl, fun j hj => by omega, by show Below _ _ _; go_grown, by go_cell, by go_cell⟩
  case round =>
    obtain ⟨i, hi, rfl, HP, HB, q0, q1⟩ := hrel
    by_cases hlt : i < ps.length
    · rcases H.out with h | ⟨b, off, rfl, hl'⟩
      · subst h; simp at hlt
      obtain ⟨c0, c1⟩ := hl'.later HB.out i hlt
      clear hl'
      obtain ⟨q, hq⟩ : ∃ q, at' ps i = q := ⟨_, rfl⟩
      rw [hq] at c0 c1
      have heq := eq23 o q
      have e1 : (i : Int) < ps.length := by omega
      cases hoq : decide (o = q)
      · rw [hoq] at heq
        go_wp2_with fail
        go_quiet (fail)
        go_wp2
        go_roundw
        case rel =>
          refine ⟨i + 1, by omega, by go_num, fun j hj => ?_, below_drewN HB.out, by go_cell, by go_cell⟩
          rcases Nat.lt_succ_iff_lt_or_eq.1 hj with h1 | h1
          · exact HP.out j h1
          · rw [h1, hq]; intro e; rw [e] at hoq; simp at hoq
        case measure => simp [intOf]; omega
      · rw [hoq] at heq
        go_wp2_with fail
        go_quiet (fail)
        go_wp2
        go_ret
        refine ⟨_, rfl, ⟨fun _ => ?_, fun _ => by omega⟩, below_drewN HB.out⟩
        have := of_decide_eq_true hoq
        rw [this, ← hq]
        exact at_mem hlt
    · go_wp2
      go_ret
      refine ⟨_, rfl, ⟨fun h => by omega, fun h => ?_⟩, HB.out⟩
      obtain ⟨j, hj, e⟩ := mem_at h
      exact absurd e (HP.out j (by omega))

theorem contains38 (p : Option Addr) (ps : List Pt) (cap : Nat) (o : Pt) (w : World) (hl : ps.length ≤ 4096) (h : Has w p ps) : Calls Try.prog 38 #[.slice p ps.length cap, pv o.x o.y] w fun e w' => e = .returned (.bool (decide (o ∈ ps))) ∧ Below w.heap.size w w' := by
  have I := hide (index59 p ps cap o _ hl (h.later (w' := w.alloc (bx o)) (by go_grown)))
  clear h
  go_enter Try.func38, Try.ntmps38
  go_wp2_with fail
  refine I.out.mono ?_
  rintro e w' ⟨k, rfl, hk, hb⟩
  have HB := hide (below_alloc hb)
  clear hb
  go_wp2
  go_ret
  exact ⟨retB (by simp), HB.out⟩
end Go.Proofs.Ytgnojjbdioldbaa
