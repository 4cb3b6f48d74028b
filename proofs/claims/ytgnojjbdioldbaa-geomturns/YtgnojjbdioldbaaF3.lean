/- GeomFour answers true to every four points, in every world. -/
import Derived.Test.YtgnojjbdioldbaaG18
import Derived.Test.YtgnojjbdioldbaaG12
namespace Go.Proofs.Ytgnojjbdioldbaa
open Go.RowKit Go.Sort
open Go

theorem err10four (a b c d : Pt) (x : Int) (hx : errI [a, b, c, d] = x) (W : World) (n : Nat) (hn : n = W.heap.size) : Calls Try.prog 10 #[.slice (some ⟨n, 0, none⟩) 4 4] (W.alloc (row4 a b c d)) fun e w' => e = .returned (.int .i64 x) ∧ Below (W.alloc (row4 a b c d)).heap.size (W.alloc (row4 a b c d)) w' := by
  rw [← hx]; exact err10 _ [a, b, c, d] 4 _ (has4 W n hn a b c d)
theorem err10three (a b c : Pt) (x : Int) (hx : errI [a, b, c] = x) (W : World) (n : Nat) (hn : n = W.heap.size) : Calls Try.prog 10 #[.slice (some ⟨n, 0, none⟩) 3 3] (W.alloc (row3 a b c)) fun e w' => e = .returned (.int .i64 x) ∧ Below (W.alloc (row3 a b c)).heap.size (W.alloc (row3 a b c)) w' := by
  rw [← hx]; exact err10 _ [a, b, c] 3 _ (has3 W n hn a b c)
theorem may15three (a b c : Pt) (x : Bool) (hx : mayB [a, b, c] = x) (W : World) (n : Nat) (hn : n = W.heap.size) : Calls Try.prog 15 #[.slice (some ⟨n, 0, none⟩) 3 3] (W.alloc (row3 a b c)) fun e w' => e = .returned (.bool x) ∧ Below (W.alloc (row3 a b c)).heap.size (W.alloc (row3 a b c)) w' := by
  rw [← hx]; exact may15 _ [a, b, c] 3 _ (has3 W n hn a b c)
theorem err_ok {ps : List Pt} (h : mayB ps = true) : errI ps = 0 := by simp [errI, h]
theorem err_no {ps : List Pt} (h : mayB ps = false) : errI ps = 1 := by simp [errI, h]

set_option maxRecDepth 100000 in
set_option maxHeartbeats 4000000 in
theorem four_walk (a b c d : Pt) (w : World) : Calls Try.prog 3 #[pv a.x a.y, pv b.x b.y, pv c.x c.y, pv d.x d.y] w fun e w' => e = .returned (.bool true) ∧ Below w.heap.size w w' := by
  obtain ⟨W, hW, hs, hb, q⟩ := quad w a b c d
  have HB := hide hb
  have HQ := hide q
  clear hb q
  have M := meet11 a b c d
  have O := orient13 a b c
  have N := on14 a b c
  unfold meetJ at M
  unfold orientI at O
  unfold onB at N
  cases h4 : mayB [a, b, c, d]
  · have E4 := err10four a b c d _ (err_no h4)
    rw [err_no h4, h4] at M
    simp only [Bool.false_eq_true, if_false] at M
    cases h3 : mayB [a, b, c]
    · have E3 := err10three a b c _ (err_no h3)
      have Y := may15three a b c _ h3
      rw [err_no h3, h3] at O N
      simp only [Bool.false_eq_true, if_false, Bool.false_and] at O N
      go_enter Try.func3, Try.ntmps3
      go_wp2_with fail
      rw [← hW]
      clear hW hs
      refine (begun9 _).mono ?_
      rintro e w' ⟨rfl, hb⟩
      replace HB := below_step HB hb
      replace HQ := hide (HQ.out.later hb)
      clear hb
      obtain ⟨q0, q1, q2, q3, q4, q5, q6, q7⟩ := HQ.out
      go_wp2_with fail
      refine (E4 _ _ rfl).mono ?_
      rintro e w' ⟨rfl, hb⟩
      replace HB := below_step HB (below_alloc hb)
      replace HQ := hide (HQ.out.later (below_alloc hb))
      clear hb q0 q1 q2 q3 q4 q5 q6 q7
      obtain ⟨q0, q1, q2, q3, q4, q5, q6, q7⟩ := HQ.out
      go_wp2_with fail
      refine (M _).mono ?_
      rintro e w' ⟨rfl, hb⟩
      replace HB := below_step HB hb
      replace HQ := hide (HQ.out.later hb)
      clear hb q0 q1 q2 q3 q4 q5 q6 q7
      obtain ⟨q0, q1, q2, q3, q4, q5, q6, q7⟩ := HQ.out
      go_wp2_with fail
      refine (E3 _ _ rfl).mono ?_
      rintro e w' ⟨rfl, hb⟩
      replace HB := below_step HB (below_alloc hb)
      replace HQ := hide (HQ.out.later (below_alloc hb))
      clear hb q0 q1 q2 q3 q4 q5 q6 q7
      obtain ⟨q0, q1, q2, q3, q4, q5, q6, q7⟩ := HQ.out
      go_wp2_with fail
      refine (O _).mono ?_
      rintro e w' ⟨rfl, hb⟩
      replace HB := below_step HB hb
      replace HQ := hide (HQ.out.later hb)
      clear hb q0 q1 q2 q3 q4 q5 q6 q7
      obtain ⟨q0, q1, q2, q3, q4, q5, q6, q7⟩ := HQ.out
      go_wp2_with fail
      refine (N _).mono ?_
      rintro e w' ⟨rfl, hb⟩
      replace HB := below_step HB hb
      replace HQ := hide (HQ.out.later hb)
      clear hb q0 q1 q2 q3 q4 q5 q6 q7
      obtain ⟨q0, q1, q2, q3, q4, q5, q6, q7⟩ := HQ.out
      go_wp2_with fail
      refine (Y _ _ rfl).mono ?_
      rintro e w' ⟨rfl, hb⟩
      replace HB := below_step HB (below_alloc hb)
      replace HQ := hide (HQ.out.later (below_alloc hb))
      clear hb q0 q1 q2 q3 q4 q5 q6 q7
      obtain ⟨q0, q1, q2, q3, q4, q5, q6, q7⟩ := HQ.out
      go_wp2
      go_ret
      exact ⟨by simp, HB.out⟩
    · obtain ⟨ha, hb, hc⟩ := may3 h3
      have T := hide (turn16 a b c ha hb hc)
      have V := hide (on17 a b c ha hb hc)
      have E3 := err10three a b c _ (err_ok h3)
      have Y := may15three a b c _ h3
      rw [err_ok h3, h3] at O N
      simp only [if_true, Bool.true_and] at O N
      clear ha hb hc
      go_enter Try.func3, Try.ntmps3
      go_wp2_with fail
      rw [← hW]
      clear hW hs
      refine (begun9 _).mono ?_
      rintro e w' ⟨rfl, hb⟩
      replace HB := below_step HB hb
      replace HQ := hide (HQ.out.later hb)
      clear hb
      obtain ⟨q0, q1, q2, q3, q4, q5, q6, q7⟩ := HQ.out
      go_wp2_with fail
      refine (E4 _ _ rfl).mono ?_
      rintro e w' ⟨rfl, hb⟩
      replace HB := below_step HB (below_alloc hb)
      replace HQ := hide (HQ.out.later (below_alloc hb))
      clear hb q0 q1 q2 q3 q4 q5 q6 q7
      obtain ⟨q0, q1, q2, q3, q4, q5, q6, q7⟩ := HQ.out
      go_wp2_with fail
      refine (M _).mono ?_
      rintro e w' ⟨rfl, hb⟩
      replace HB := below_step HB hb
      replace HQ := hide (HQ.out.later hb)
      clear hb q0 q1 q2 q3 q4 q5 q6 q7
      obtain ⟨q0, q1, q2, q3, q4, q5, q6, q7⟩ := HQ.out
      go_wp2_with fail
      refine (E3 _ _ rfl).mono ?_
      rintro e w' ⟨rfl, hb⟩
      replace HB := below_step HB (below_alloc hb)
      replace HQ := hide (HQ.out.later (below_alloc hb))
      clear hb q0 q1 q2 q3 q4 q5 q6 q7
      obtain ⟨q0, q1, q2, q3, q4, q5, q6, q7⟩ := HQ.out
      go_wp2_with fail
      refine (O _).mono ?_
      rintro e w' ⟨rfl, hb⟩
      replace HB := below_step HB hb
      replace HQ := hide (HQ.out.later hb)
      clear hb q0 q1 q2 q3 q4 q5 q6 q7
      obtain ⟨q0, q1, q2, q3, q4, q5, q6, q7⟩ := HQ.out
      go_wp2_with fail
      refine (N _).mono ?_
      rintro e w' ⟨rfl, hb⟩
      replace HB := below_step HB hb
      replace HQ := hide (HQ.out.later hb)
      clear hb q0 q1 q2 q3 q4 q5 q6 q7
      obtain ⟨q0, q1, q2, q3, q4, q5, q6, q7⟩ := HQ.out
      go_wp2_with fail
      refine (Y _ _ rfl).mono ?_
      rintro e w' ⟨rfl, hb⟩
      replace HB := below_step HB (below_alloc hb)
      replace HQ := hide (HQ.out.later (below_alloc hb))
      clear hb q0 q1 q2 q3 q4 q5 q6 q7
      obtain ⟨q0, q1, q2, q3, q4, q5, q6, q7⟩ := HQ.out
      go_wp2_with fail
      refine (T.out _).mono ?_
      rintro e w' ⟨rfl, hb⟩
      replace HB := below_step HB hb
      replace HQ := hide (HQ.out.later hb)
      clear hb q0 q1 q2 q3 q4 q5 q6 q7
      obtain ⟨q0, q1, q2, q3, q4, q5, q6, q7⟩ := HQ.out
      go_wp2_with fail
      refine (V.out _).mono ?_
      rintro e w' ⟨rfl, hb⟩
      replace HB := below_step HB hb
      replace HQ := hide (HQ.out.later hb)
      clear hb q0 q1 q2 q3 q4 q5 q6 q7
      obtain ⟨q0, q1, q2, q3, q4, q5, q6, q7⟩ := HQ.out
      go_wp2
      go_ret
      exact ⟨by simp, HB.out⟩
  · obtain ⟨ha, hb, hc, hd⟩ := may4 h4
    have h3 : mayB [a, b, c] = true := by simp [mayB, ha, hb, hc]
    have E4 := err10four a b c d _ (err_ok h4)
    rw [err_ok h4, h4] at M
    simp only [if_true] at M
    have R := hide (meet12 a b c d ha hb hc hd)
    have T := hide (turn16 a b c ha hb hc)
    have V := hide (on17 a b c ha hb hc)
    have E3 := err10three a b c _ (err_ok h3)
    have Y := may15three a b c _ h3
    rw [err_ok h3, h3] at O N
    simp only [if_true, Bool.true_and] at O N
    clear ha hb hc hd
    go_enter Try.func3, Try.ntmps3
    go_wp2_with fail
    rw [← hW]
    clear hW hs
    refine (begun9 _).mono ?_
    rintro e w' ⟨rfl, hb⟩
    replace HB := below_step HB hb
    replace HQ := hide (HQ.out.later hb)
    clear hb
    obtain ⟨q0, q1, q2, q3, q4, q5, q6, q7⟩ := HQ.out
    go_wp2_with fail
    refine (E4 _ _ rfl).mono ?_
    rintro e w' ⟨rfl, hb⟩
    replace HB := below_step HB (below_alloc hb)
    replace HQ := hide (HQ.out.later (below_alloc hb))
    clear hb q0 q1 q2 q3 q4 q5 q6 q7
    obtain ⟨q0, q1, q2, q3, q4, q5, q6, q7⟩ := HQ.out
    go_wp2_with fail
    refine (M _).mono ?_
    rintro e w' ⟨rfl, hb⟩
    replace HB := below_step HB hb
    replace HQ := hide (HQ.out.later hb)
    clear hb q0 q1 q2 q3 q4 q5 q6 q7
    obtain ⟨q0, q1, q2, q3, q4, q5, q6, q7⟩ := HQ.out
    go_wp2_with fail
    refine (R.out _).mono ?_
    rintro e w' ⟨rfl, hb⟩
    replace HB := below_step HB hb
    replace HQ := hide (HQ.out.later hb)
    clear hb q0 q1 q2 q3 q4 q5 q6 q7
    obtain ⟨q0, q1, q2, q3, q4, q5, q6, q7⟩ := HQ.out
    go_wp2_with fail
    refine (E3 _ _ rfl).mono ?_
    rintro e w' ⟨rfl, hb⟩
    replace HB := below_step HB (below_alloc hb)
    replace HQ := hide (HQ.out.later (below_alloc hb))
    clear hb q0 q1 q2 q3 q4 q5 q6 q7
    obtain ⟨q0, q1, q2, q3, q4, q5, q6, q7⟩ := HQ.out
    go_wp2_with fail
    refine (O _).mono ?_
    rintro e w' ⟨rfl, hb⟩
    replace HB := below_step HB hb
    replace HQ := hide (HQ.out.later hb)
    clear hb q0 q1 q2 q3 q4 q5 q6 q7
    obtain ⟨q0, q1, q2, q3, q4, q5, q6, q7⟩ := HQ.out
    go_wp2_with fail
    refine (N _).mono ?_
    rintro e w' ⟨rfl, hb⟩
    replace HB := below_step HB hb
    replace HQ := hide (HQ.out.later hb)
    clear hb q0 q1 q2 q3 q4 q5 q6 q7
    obtain ⟨q0, q1, q2, q3, q4, q5, q6, q7⟩ := HQ.out
    go_wp2_with fail
    refine (Y _ _ rfl).mono ?_
    rintro e w' ⟨rfl, hb⟩
    replace HB := below_step HB (below_alloc hb)
    replace HQ := hide (HQ.out.later (below_alloc hb))
    clear hb q0 q1 q2 q3 q4 q5 q6 q7
    obtain ⟨q0, q1, q2, q3, q4, q5, q6, q7⟩ := HQ.out
    go_wp2_with fail
    refine (T.out _).mono ?_
    rintro e w' ⟨rfl, hb⟩
    replace HB := below_step HB hb
    replace HQ := hide (HQ.out.later hb)
    clear hb q0 q1 q2 q3 q4 q5 q6 q7
    obtain ⟨q0, q1, q2, q3, q4, q5, q6, q7⟩ := HQ.out
    go_wp2_with fail
    refine (V.out _).mono ?_
    rintro e w' ⟨rfl, hb⟩
    replace HB := below_step HB hb
    replace HQ := hide (HQ.out.later hb)
    clear hb q0 q1 q2 q3 q4 q5 q6 q7
    obtain ⟨q0, q1, q2, q3, q4, q5, q6, q7⟩ := HQ.out
    go_wp2
    go_ret
    exact ⟨by simp, HB.out⟩
end Go.Proofs.Ytgnojjbdioldbaa
