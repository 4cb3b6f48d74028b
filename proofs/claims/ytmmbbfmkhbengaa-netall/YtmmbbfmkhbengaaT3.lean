/- Kept, in every world. -/
import Derived.Test.YtmmbbfmkhbengaaT1
import Derived.Test.YtmmbbfmkhbengaaT2
namespace Go.Proofs.Ytmmbbfmkhbengaa
open Go.RowKit Go.Sort
open Go

theorem lies_left {w : World} {b off : Nat} {a c : List Pt} (h : Lies w b off (a ++ c)) : Lies w b off a := fun j hj => by
  have := h j (by rw [List.length_append]; omega)
  have e : at' (a ++ c) j = at' a j := by unfold at'; rw [List.getD_eq_getElem?_getD, List.getD_eq_getElem?_getD, List.getElem?_append_left hj]
  rw [e] at this
  exact this
theorem at_last (es : List Pt) (p : Pt) : at' (es ++ [p]) es.length = p := by
  unfold at'; rw [List.getD_eq_getElem?_getD, List.getElem?_append_right (Nat.le_refl _)]; simp
set_option maxRecDepth 100000 in
set_option maxHeartbeats 8000000 in
theorem kept17 (n : Int) (g c : Nat) (p : Option Addr) (es : List Pt) (cp : Nat) (w : World) (hl : es.length ≤ 90000) (hc : es.length + 1 ≤ c) (ht : Lies w g 0 (es ++ [mk])) (h : Has w p es) : Calls Try.prog 17 #[nv n (some ⟨g, 0, none⟩) es.length c, nv n p es.length cp] w fun e w' => e = .returned (.bool true) ∧ Below w.heap.size w w' := by
  obtain ⟨U, hU, hb, a0, b0⟩ := two_args w n n (some ⟨g, 0, none⟩) p es.length es.length c cp
  have hm := ht es.length (by simp)
  rw [at_last, Nat.zero_add] at hm
  have m0 : U.cell? ⟨g, es.length * 2, none⟩ = some (.int .i64 (-7)) := later hb hm.1
  have m1 : U.cell? ⟨g, es.length * 2 + 1, none⟩ = some (.int .i64 7) := later hb hm.2
  have HB := hide hb
  have hT := hide ((lies_left ht).later hb)
  have hH := hide (h.later hb)
  obtain ⟨q0, q1, _, _⟩ := a0
  obtain ⟨r0, r1, _, _⟩ := b0
  clear h ht hb hm
  have CA : ∀ dd os, Calls Try.prog 22 #[nv n (some ⟨g, 0, none⟩) es.length c, nv n p es.length cp] (grow (redrawn U dd) os) fun e w'' => e = .returned (.bool true) ∧ ∃ p : Regrown, w'' = grow (redrawn U p.d) p.os := fun dd os => Calls.regrown_of (by
    have := same22 n n (some ⟨g, 0, none⟩) p es es c cp (grow (redrawn U dd) os) (by omega) (Or.inr ⟨g, 0, rfl, hT.out.later (below_regrown U dd os)⟩) (hH.out.later (below_regrown U dd os))
    rw [show sameB n n es es = true by unfold sameB; simp] at this
    exact this)
  have heq : ∀ w, (Op.equalIn 10000 60 (.agg #[.int .i64 (-7), .int .i64 7]) (.agg #[.int .i64 (-7), .int .i64 7])).run Try.prog w = .ok true w := fun w => by
    have := eq60 mk mk w
    rw [decide_eq_true (rfl : mk = mk)] at this
    exact this
  have k1 : (es.length : Int) + 1 ≤ c := by omega
  have k2 : (0 : Int) ≤ es.length := by omega
  have k3 : (es.length : Int) < (es.length : Int) + 1 := by omega
  have f0 := cell_regrown q0
  have f1 := cell_regrown q1
  have f2 := cell_regrown r0
  have f3 := cell_regrown r1
  have f4 := cell_regrown m0
  have f5 := cell_regrown m1
  go_enter Try.func17, Try.ntmps17
  go_wp2_with fail
  rw [← hU]
  clear hU
  refine wp_region_quiet_below (by kernel_rfl) (by kernel_rfl) ?_
  repeat (go_big_quiet_step (first | with_reducible exact CA _ _))
  refine wpQuiet_nil ?_
  intro x1 hw'
  have hbx1 : Below U.heap.size U x1 := by
    obtain ⟨⟨dq, osq⟩, hw''⟩ := hw'
    rw [hw'']
    exact below_regrown U dq osq
  clear hw' f0 f1 f2 f3 f4 f5 CA
  go_wp2_with fail
  go_ret
  exact ⟨rfl, below_step HB.out hbx1⟩
end Go.Proofs.Ytmmbbfmkhbengaa
