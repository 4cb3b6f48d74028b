/- Orient, On and Meet, in every world. -/
import Derived.Test.YtgnojjbdioldbaaG6
namespace Go.Proofs.Ytgnojjbdioldbaa
open Go.RowKit Go.Sort
open Go

abbrev row3 (a b c : Pt) : Obj := .cells #[.int .i64 a.x, .int .i64 a.y, .int .i64 b.x, .int .i64 b.y, .int .i64 c.x, .int .i64 c.y] 23
abbrev row4 (a b c d : Pt) : Obj := .cells #[.int .i64 a.x, .int .i64 a.y, .int .i64 b.x, .int .i64 b.y, .int .i64 c.x, .int .i64 c.y, .int .i64 d.x, .int .i64 d.y] 23
theorem has3 (W : World) (n : Nat) (hn : n = W.heap.size) (a b c : Pt) : Has (W.alloc (row3 a b c)) (some ⟨n, 0, none⟩) [a, b, c] := by
  subst hn
  refine Or.inr ⟨_, _, rfl, fun j hj => ?_⟩
  simp at hj
  rcases (by omega : j = 0 ∨ j = 1 ∨ j = 2) with rfl | rfl | rfl <;> (simp only [at', List.getD_cons_zero, List.getD_cons_succ]; exact ⟨by go_cell, by go_cell⟩)
theorem has4 (W : World) (n : Nat) (hn : n = W.heap.size) (a b c d : Pt) : Has (W.alloc (row4 a b c d)) (some ⟨n, 0, none⟩) [a, b, c, d] := by
  subst hn
  refine Or.inr ⟨_, _, rfl, fun j hj => ?_⟩
  simp at hj
  rcases (by omega : j = 0 ∨ j = 1 ∨ j = 2 ∨ j = 3) with rfl | rfl | rfl | rfl <;> (simp only [at', List.getD_cons_zero, List.getD_cons_succ]; exact ⟨by go_cell, by go_cell⟩)
/-- Three points in boxes of their own. -/
def Tri (W : World) (g : Nat) (a b c : Pt) : Prop :=
  W.cell? ⟨g, 0, none⟩ = some (.int .i64 a.x) ∧ W.cell? ⟨g, 1, none⟩ = some (.int .i64 a.y)
    ∧ W.cell? ⟨g + 1, 0, none⟩ = some (.int .i64 b.x) ∧ W.cell? ⟨g + 1, 1, none⟩ = some (.int .i64 b.y)
    ∧ W.cell? ⟨g + 1 + 1, 0, none⟩ = some (.int .i64 c.x) ∧ W.cell? ⟨g + 1 + 1, 1, none⟩ = some (.int .i64 c.y)
theorem Tri.later {W W' : World} {g : Nat} {a b c : Pt} (h : Tri W g a b c) (hb : Below W.heap.size W W') : Tri W' g a b c := by
  obtain ⟨q0, q1, q2, q3, q4, q5⟩ := h
  exact ⟨Ytgnojjbdioldbaa.later hb q0, Ytgnojjbdioldbaa.later hb q1, Ytgnojjbdioldbaa.later hb q2, Ytgnojjbdioldbaa.later hb q3, Ytgnojjbdioldbaa.later hb q4, Ytgnojjbdioldbaa.later hb q5⟩
/-- Four points in boxes of their own. -/
def Quad (W : World) (g : Nat) (a b c d : Pt) : Prop :=
  W.cell? ⟨g, 0, none⟩ = some (.int .i64 a.x) ∧ W.cell? ⟨g, 1, none⟩ = some (.int .i64 a.y)
    ∧ W.cell? ⟨g + 1, 0, none⟩ = some (.int .i64 b.x) ∧ W.cell? ⟨g + 1, 1, none⟩ = some (.int .i64 b.y)
    ∧ W.cell? ⟨g + 1 + 1, 0, none⟩ = some (.int .i64 c.x) ∧ W.cell? ⟨g + 1 + 1, 1, none⟩ = some (.int .i64 c.y)
    ∧ W.cell? ⟨g + 1 + 1 + 1, 0, none⟩ = some (.int .i64 d.x) ∧ W.cell? ⟨g + 1 + 1 + 1, 1, none⟩ = some (.int .i64 d.y)
theorem Quad.later {W W' : World} {g : Nat} {a b c d : Pt} (h : Quad W g a b c d) (hb : Below W.heap.size W W') : Quad W' g a b c d := by
  obtain ⟨q0, q1, q2, q3, q4, q5, q6, q7⟩ := h
  exact ⟨Ytgnojjbdioldbaa.later hb q0, Ytgnojjbdioldbaa.later hb q1, Ytgnojjbdioldbaa.later hb q2, Ytgnojjbdioldbaa.later hb q3, Ytgnojjbdioldbaa.later hb q4, Ytgnojjbdioldbaa.later hb q5, Ytgnojjbdioldbaa.later hb q6, Ytgnojjbdioldbaa.later hb q7⟩
theorem tri (w : World) (a b c : Pt) : ∃ W, W = ((w.alloc (bx a)).alloc (bx b)).alloc (bx c) ∧ W.heap.size = w.heap.size + 1 + 1 + 1 ∧ Below w.heap.size w W ∧ Tri W w.heap.size a b c :=
  ⟨_, rfl, by simp, by go_grown, by go_cell, by go_cell, by go_cell, by go_cell, by go_cell, by go_cell⟩
theorem quad (w : World) (a b c d : Pt) : ∃ W, W = (((w.alloc (bx a)).alloc (bx b)).alloc (bx c)).alloc (bx d) ∧ W.heap.size = w.heap.size + 1 + 1 + 1 + 1 ∧ Below w.heap.size w W ∧ Quad W w.heap.size a b c d :=
  ⟨_, rfl, by simp, by go_grown, by go_cell, by go_cell, by go_cell, by go_cell, by go_cell, by go_cell, by go_cell, by go_cell⟩

def orientI (a b c : Pt) : Int := if mayB [a, b, c] then turnI a b c else 0
def onB (a b c : Pt) : Bool := mayB [a, b, c] && hasB a b c
def meetJ (a b c d : Pt) : Int := if mayB [a, b, c, d] then meetI a b c d else 0
theorem may3 {a b c : Pt} (h : mayB [a, b, c] = true) : ptB a = true ∧ ptB b = true ∧ ptB c = true := by simp [mayB] at h; exact h
theorem may4 {a b c d : Pt} (h : mayB [a, b, c, d] = true) : ptB a = true ∧ ptB b = true ∧ ptB c = true ∧ ptB d = true := by simp [mayB] at h; exact h

set_option maxHeartbeats 1000000 in
theorem orient13 (a b c : Pt) (w : World) : Calls Try.prog 13 #[pv a.x a.y, pv b.x b.y, pv c.x c.y] w fun e w' => e = .returned (.tuple #[.int .i64 (orientI a b c), .int .i64 (errI [a, b, c])]) ∧ Below w.heap.size w w' := by
  obtain ⟨W, hW, hs, hb, q⟩ := tri w a b c
  have M := may15 _ [a, b, c] 3 _ (has3 W (w.heap.size + 1 + 1 + 1) hs.symm a b c)
  cases hm : mayB [a, b, c]
  · rw [hm] at M
    have M' := hide M
    clear M
    have HB := hide hb
    clear hb
    go_enter Try.func13, Try.ntmps13
    go_wp2_with fail
    rw [← hW]
    refine M'.out.mono ?_
    rintro e w1 ⟨rfl, hb1⟩
    have HB1 := hide (Below.trans HB.out ((below_alloc hb1).mono HB.out.size))
    clear hb1
    go_wp2
    go_ret2
    exact ⟨by simp [orientI, errI, hm], HB1.out⟩
  · obtain ⟨ha, hb', hc⟩ := may3 hm
    rw [hm] at M
    have M' := hide M
    clear M
    have HB := hide hb
    have T := hide (turn33 a b c ha hb' hc)
    clear hb ha hb' hc
    go_enter Try.func13, Try.ntmps13
    go_wp2_with fail
    rw [← hW]
    refine M'.out.mono ?_
    rintro e w1 ⟨rfl, hb1⟩
    have HB1 := hide (Below.trans HB.out ((below_alloc hb1).mono HB.out.size))
    obtain ⟨q0, q1, q2, q3, q4, q5⟩ := q.later (below_alloc hb1)
    clear hb1 q
    go_wp2_with fail
    refine (T.out _).mono ?_
    rintro e w2 ⟨rfl, hb2⟩
    have HB2 := hide (Below.trans HB1.out (hb2.mono HB1.out.size))
    clear hb2
    go_wp2
    go_ret2
    exact ⟨by simp [orientI, errI, hm], HB2.out⟩

set_option maxHeartbeats 1000000 in
theorem on14 (a b c : Pt) (w : World) : Calls Try.prog 14 #[pv a.x a.y, pv b.x b.y, pv c.x c.y] w fun e w' => e = .returned (.tuple #[.bool (onB a b c), .int .i64 (errI [a, b, c])]) ∧ Below w.heap.size w w' := by
  obtain ⟨W, hW, hs, hb, q⟩ := tri w a b c
  have M := may15 _ [a, b, c] 3 _ (has3 W (w.heap.size + 1 + 1 + 1) hs.symm a b c)
  cases hm : mayB [a, b, c]
  · rw [hm] at M
    have M' := hide M
    clear M
    have HB := hide hb
    clear hb
    go_enter Try.func14, Try.ntmps14
    go_wp2_with fail
    rw [← hW]
    refine M'.out.mono ?_
    rintro e w1 ⟨rfl, hb1⟩
    have HB1 := hide (Below.trans HB.out ((below_alloc hb1).mono HB.out.size))
    clear hb1
    go_wp2
    go_ret2
    exact ⟨by simp [onB, errI, hm], HB1.out⟩
  · obtain ⟨ha, hb', hc⟩ := may3 hm
    rw [hm] at M
    have M' := hide M
    clear M
    have HB := hide hb
    have T := hide (has34 a b c ha hb' hc)
    clear hb ha hb' hc
    go_enter Try.func14, Try.ntmps14
    go_wp2_with fail
    rw [← hW]
    refine M'.out.mono ?_
    rintro e w1 ⟨rfl, hb1⟩
    have HB1 := hide (Below.trans HB.out ((below_alloc hb1).mono HB.out.size))
    obtain ⟨q0, q1, q2, q3, q4, q5⟩ := q.later (below_alloc hb1)
    clear hb1 q
    go_wp2_with fail
    refine (T.out _).mono ?_
    rintro e w2 ⟨rfl, hb2⟩
    have HB2 := hide (Below.trans HB1.out (hb2.mono HB1.out.size))
    clear hb2
    go_wp2
    go_ret2
    exact ⟨by simp [onB, errI, hm], HB2.out⟩

set_option maxHeartbeats 1000000 in
theorem meet11 (a b c d : Pt) (w : World) : Calls Try.prog 11 #[pv a.x a.y, pv b.x b.y, pv c.x c.y, pv d.x d.y] w fun e w' => e = .returned (.tuple #[.int .i64 (meetJ a b c d), .int .i64 (errI [a, b, c, d])]) ∧ Below w.heap.size w w' := by
  obtain ⟨W, hW, hs, hb, q⟩ := quad w a b c d
  have M := may15 _ [a, b, c, d] 4 _ (has4 W (w.heap.size + 1 + 1 + 1 + 1) hs.symm a b c d)
  cases hm : mayB [a, b, c, d]
  · rw [hm] at M
    have M' := hide M
    clear M
    have HB := hide hb
    clear hb
    go_enter Try.func11, Try.ntmps11
    go_wp2_with fail
    rw [← hW]
    refine M'.out.mono ?_
    rintro e w1 ⟨rfl, hb1⟩
    have HB1 := hide (Below.trans HB.out ((below_alloc hb1).mono HB.out.size))
    clear hb1
    go_wp2
    go_ret2
    exact ⟨by simp [meetJ, errI, hm], HB1.out⟩
  · obtain ⟨ha, hb', hc, hd⟩ := may4 hm
    rw [hm] at M
    have M' := hide M
    clear M
    have HB := hide hb
    have T := hide (meet32 a b c d ha hb' hc hd)
    clear hb ha hb' hc hd
    go_enter Try.func11, Try.ntmps11
    go_wp2_with fail
    rw [← hW]
    refine M'.out.mono ?_
    rintro e w1 ⟨rfl, hb1⟩
    have HB1 := hide (Below.trans HB.out ((below_alloc hb1).mono HB.out.size))
    obtain ⟨q0, q1, q2, q3, q4, q5, q6, q7⟩ := q.later (below_alloc hb1)
    clear hb1 q
    go_wp2_with fail
    refine (T.out _).mono ?_
    rintro e w2 ⟨rfl, hb2⟩
    have HB2 := hide (Below.trans HB1.out (hb2.mono HB1.out.size))
    clear hb2
    go_wp2
    go_ret2
    exact ⟨by simp [meetJ, errI, hm], HB2.out⟩
end Go.Proofs.Ytgnojjbdioldbaa
