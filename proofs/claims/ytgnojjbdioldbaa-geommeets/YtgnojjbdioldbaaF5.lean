/- GeomMeets answers true to every four points, in every world. -/
import Derived.Test.YtgnojjbdioldbaaF3
import Derived.Test.YtgnojjbdioldbaaM5
namespace Go.Proofs.Ytgnojjbdioldbaa
open Go.RowKit Go.Sort
open Go Go.BigFrame

theorem orient13' {a b c : Pt} (ha : ptB a = true) (hb : ptB b = true) (hc : ptB c = true) (w : World) : Calls Try.prog 13 #[pv a.x a.y, pv b.x b.y, pv c.x c.y] w fun e w' => e = .returned (.tuple #[.int .i64 (turnI a b c), .int .i64 0]) ∧ Below w.heap.size w w' := by
  have h := orient13 a b c w
  have hm : mayB [a, b, c] = true := by simp [mayB, ha, hb, hc]
  rw [err_ok hm, orientI, if_pos hm] at h
  exact h
theorem on14' {a b c : Pt} (ha : ptB a = true) (hb : ptB b = true) (hc : ptB c = true) (w : World) : Calls Try.prog 14 #[pv a.x a.y, pv b.x b.y, pv c.x c.y] w fun e w' => e = .returned (.tuple #[.bool (hasB a b c), .int .i64 0]) ∧ Below w.heap.size w w' := by
  have h := on14 a b c w
  have hm : mayB [a, b, c] = true := by simp [mayB, ha, hb, hc]
  rw [err_ok hm, onB, hm, Bool.true_and] at h
  exact h
theorem meet11' {a b c d : Pt} (hm : mayB [a, b, c, d] = true) (w : World) : Calls Try.prog 11 #[pv a.x a.y, pv b.x b.y, pv c.x c.y, pv d.x d.y] w fun e w' => e = .returned (.tuple #[.int .i64 (meetI a b c d), .int .i64 0]) ∧ Below w.heap.size w w' := by
  have h := meet11 a b c d w
  rw [err_ok hm, meetJ, if_pos hm] at h
  exact h

set_option maxRecDepth 100000 in
set_option maxHeartbeats 8000000 in
theorem meets_walk (a b c d : Pt) (w : World) : Calls Try.prog 5 #[pv a.x a.y, pv b.x b.y, pv c.x c.y, pv d.x d.y] w fun e w' => e = .returned (.bool true) ∧ Below w.heap.size w w' := by
  obtain ⟨W, hW, hs, hb, q⟩ := quad w a b c d
  have HB := hide hb
  have HQ := hide q
  clear hb q
  cases h4 : mayB [a, b, c, d]
  · have E4 := err10four a b c d _ (err_no h4)
    go_enter Try.func5, Try.ntmps5
    go_wp2_with fail
    rw [← hW]
    clear hW hs
    refine (begun9 _).mono ?_
    rintro e w' ⟨rfl, hb⟩
    replace HB := below_step HB hb
    replace HQ := hide (HQ.out.later hb)
    clear hb
    obtain ⟨q0, q1, q2, q3, q4, q5, q6, q7⟩ := HQ.out
    go_wp2_with fail
    refine (E4 _ _ rfl).mono ?_
    rintro e w' ⟨rfl, hb⟩
    replace HB := below_step HB (below_alloc hb)
    replace HQ := hide (HQ.out.later (below_alloc hb))
    clear hb q0 q1 q2 q3 q4 q5 q6 q7
    obtain ⟨q0, q1, q2, q3, q4, q5, q6, q7⟩ := HQ.out
    go_wp2
    go_ret
    exact ⟨rfl, HB.out⟩
  · obtain ⟨ha, hb, hc, hd⟩ := may4 h4
    have E4 := err10four a b c d _ (err_ok h4)
    have M := fun w => meet11' h4 w
    have O1 := fun w => orient13' ha hb hc w
    have O2 := fun w => orient13' ha hb hd w
    have O3 := fun w => orient13' hc hd ha w
    have O4 := fun w => orient13' hc hd hb w
    have P := hide (nth_all a b c d ha hb hc hd)
    have H1 := hide (fun p hp w => on14' (a := a) (b := b) (c := p) ha hb hp w)
    have H2 := hide (fun p hp w => on14' (a := c) (b := d) (c := p) hc hd hp w)
    have g1 : decide (wrap64 (turnI a b c * turnI a b d) < 0) = partsB a b c d := by rw [turn_mul]; rfl
    have g2 : decide (wrap64 (turnI c d a * turnI c d b) < 0) = partsB c d a b := by rw [turn_mul]; rfl
    have MC := hide (meet_cases a b c d)
    unfold crossB at MC
    clear ha hb hc hd
    cases p1 : partsB a b c d <;> cases p2 : partsB c d a b
    all_goals
      rw [p1] at g1 MC
      rw [p2] at g2 MC
      simp only [decide_eq_true_eq, decide_eq_false_iff_not, Int.not_lt] at g1 g2
      simp only [Bool.and_true, Bool.and_false, Bool.false_eq_true, Bool.true_eq_false, false_and, and_false, true_and, false_or, or_false] at MC
      go_enter Try.func5, Try.ntmps5
      go_wp2_with fail
      rw [← hW]
      clear hW hs
      refine (begun9 _).mono ?_
      rintro e w' ⟨rfl, hb⟩
      replace HB := below_step HB hb
      replace HQ := hide (HQ.out.later hb)
      clear hb
      obtain ⟨q0, q1, q2, q3, q4, q5, q6, q7⟩ := HQ.out
      go_wp2_with fail
      refine (E4 _ _ rfl).mono ?_
      rintro e w' ⟨rfl, hb⟩
      replace HB := below_step HB (below_alloc hb)
      replace HQ := hide (HQ.out.later (below_alloc hb))
      clear hb q0 q1 q2 q3 q4 q5 q6 q7
      obtain ⟨q0, q1, q2, q3, q4, q5, q6, q7⟩ := HQ.out
      go_wp2_with fail
      refine (M _).mono ?_
      rintro e w' ⟨rfl, hb⟩
      replace HB := below_step HB hb
      replace HQ := hide (HQ.out.later hb)
      clear hb q0 q1 q2 q3 q4 q5 q6 q7
      obtain ⟨q0, q1, q2, q3, q4, q5, q6, q7⟩ := HQ.out
      go_wp2_with fail
      refine (O1 _).mono ?_
      rintro e w' ⟨rfl, hb⟩
      replace HB := below_step HB hb
      replace HQ := hide (HQ.out.later hb)
      clear hb q0 q1 q2 q3 q4 q5 q6 q7
      obtain ⟨q0, q1, q2, q3, q4, q5, q6, q7⟩ := HQ.out
      go_wp2_with fail
      refine (O2 _).mono ?_
      rintro e w' ⟨rfl, hb⟩
      replace HB := below_step HB hb
      replace HQ := hide (HQ.out.later hb)
      clear hb q0 q1 q2 q3 q4 q5 q6 q7
      obtain ⟨q0, q1, q2, q3, q4, q5, q6, q7⟩ := HQ.out
      go_wp2_with fail
      refine (O3 _).mono ?_
      rintro e w' ⟨rfl, hb⟩
      replace HB := below_step HB hb
      replace HQ := hide (HQ.out.later hb)
      clear hb q0 q1 q2 q3 q4 q5 q6 q7
      obtain ⟨q0, q1, q2, q3, q4, q5, q6, q7⟩ := HQ.out
      go_wp2_with fail
      refine (O4 _).mono ?_
      rintro e w' ⟨rfl, hb⟩
      replace HB := below_step HB hb
      replace HQ := hide (HQ.out.later hb)
      clear hb q0 q1 q2 q3 q4 q5 q6 q7
      obtain ⟨q0, q1, q2, q3, q4, q5, q6, q7⟩ := HQ.out
      go_wp2_with fail
      obtain ⟨V, hV⟩ : ∃ V, V = w'.alloc (row4 a b c d) := ⟨_, rfl⟩
      have HL : Hid (Lies V w'.heap.size 0 [a, b, c, d]) := by
        rcases has4 w' w'.heap.size rfl a b c d with h | ⟨b', off', h, hl⟩
        · cases h
        · cases h; rw [hV]; exact hl
      have HBV : Hid (Below w.heap.size w V) := by rw [hV]; exact below_step HB (by go_grown)
      have HQV : Hid (Quad V w.heap.size a b c d) := by rw [hV]; exact HQ.out.later (by go_grown)
      rw [← hV]
      clear hV HB HQ q0 q1 q2 q3 q4 q5 q6 q7 E4 M O1 O2 O3 O4
      go_loopw [20, 22] (fun v t wr => ∃ i : Nat, i ≤ 4 ∧ v = .int .i64 (onN a b c d i) ∧ t = .int .i64 i ∧ Hid (Below w.heap.size w wr) ∧ Hid (Quad wr w.heap.size a b c d) ∧ Hid (Lies wr w'.heap.size 0 [a, b, c, d])) (fun _ t _ => 4 - (intOf t).toNat)
      case atStart => exact ⟨0, by omega, rfl, rfl, HBV.out, HQV.out, HL.out⟩
      case round =>
        obtain ⟨i, hi, rfl, rfl, HBr, HQr, HLr⟩ := hrel
        by_cases h4i : i < 4
        · obtain ⟨c0, c1⟩ := HLr.out i h4i
          rw [at_nth, Nat.zero_add] at c0 c1
          have hp := P.out i h4i
          have hon := onN_le a b c d i
          have hN : Hid (onN a b c d (i + 1) = onN a b c d i + (if bothB a b c d (nth a b c d i) then 1 else 0)) := rfl
          obtain ⟨p, hpd⟩ : ∃ p, nth a b c d i = p := ⟨_, rfl⟩
          rw [hpd] at c0 c1 hp hN
          clear hpd
          have C1 := H1.out p hp
          have C2 := H2.out p hp
          obtain ⟨q0, q1, q2, q3, q4, q5, q6, q7⟩ := HQr.out
          have e1 : (i : Int) < 4 := by omega
          have e2 : (0 : Int) ≤ i := by omega
          have k0 := cell_regrown q0
          have k1 := cell_regrown q1
          have k2 := cell_regrown q2
          have k3 := cell_regrown q3
          have k8 := cell_regrown c0
          have k9 := cell_regrown c1
          cases h1 : hasB a b p <;> cases h2 : hasB c d p
          all_goals
            rw [h1] at C1
            rw [h2] at C2
            have CC : ∀ dd os, Calls Try.prog 14 #[pv a.x a.y, pv b.x b.y, pv p.x p.y] (grow (redrawn wr dd) os) fun e w'' => e = .returned (.tuple #[.bool _, .int .i64 0]) ∧ ∃ p : Regrown, w'' = grow (redrawn wr p.d) p.os := fun dd os => Calls.regrown_of (C1 _)
            have C2' := hide C2
            clear C1 C2
            go_wp2_with fail
            refine wp_region_quiet_below (by kernel_rfl) (by kernel_rfl) ?_
            repeat (go_big_quiet_step (with_reducible exact CC _ _))
            refine wpQuiet_nil ?_
            intro wx hw'
            have hbwx : Below wr.heap.size wr wx := by
              obtain ⟨⟨dq, osq⟩, hw''⟩ := hw'
              rw [hw'']
              exact below_regrown wr dq osq
            clear hw' k0 k1 k2 k3 k8 k9 CC
            have HBx := below_step HBr hbwx
            have HQx := hide (HQr.out.later hbwx)
            have HLx := hide (HLr.out.later hbwx)
            obtain ⟨r0, r1, r2, r3, r4, r5, r6, r7⟩ := HQx.out
            have k4 := cell_regrown r4
            have k5 := cell_regrown r5
            have k6 := cell_regrown r6
            have k7 := cell_regrown r7
            have k8 := cell_regrown (later hbwx c0)
            have k9 := cell_regrown (later hbwx c1)
            clear hbwx r0 r1 r2 r3 r4 r5 r6 r7 c0 c1 q0 q1 q2 q3 q4 q5 q6 q7
            have CC : ∀ dd os, Calls Try.prog 14 #[pv c.x c.y, pv d.x d.y, pv p.x p.y] (grow (redrawn wx dd) os) fun e w'' => e = .returned (.tuple #[.bool _, .int .i64 0]) ∧ ∃ p : Regrown, w'' = grow (redrawn wx p.d) p.os := fun dd os => Calls.regrown_of (C2'.out _)
            go_wp2_with fail
            refine wp_region_quiet_below (by kernel_rfl) (by kernel_rfl) ?_
            repeat (go_big_quiet_step (with_reducible exact CC _ _))
            refine wpQuiet_nil ?_
            intro wy hw'
            have hbwy : Below wx.heap.size wx wy := by
              obtain ⟨⟨dq, osq⟩, hw''⟩ := hw'
              rw [hw'']
              exact below_regrown wx dq osq
            clear hw' k4 k5 k6 k7 k8 k9 CC
            have HBy := below_step HBx hbwy
            have HQy := hide (HQx.out.later hbwy)
            have HLy := hide (HLx.out.later hbwy)
            clear hbwy
            go_wp2
            go_roundw
            case rel => exact ⟨i + 1, by omega, by rw [hN.out]; simp [bothB, h1, h2], by go_num, HBy.out, HQy.out, HLy.out⟩
            case measure => simp [intOf]; omega
        · have hi4 : i = 4 := by omega
          subst hi4
          have hon := onN_le a b c d 4
          obtain ⟨m, hm⟩ : ∃ m, meetI a b c d = m := ⟨_, rfl⟩
          obtain ⟨o, ho⟩ : ∃ o, onN a b c d 4 = o := ⟨_, rfl⟩
          rw [hm, ho] at MC
          rw [hm, ho]
          clear hm ho hon
          have MD := MC.out
          clear MC
          have ME : (m = 0 ∧ o = 0) ∨ (m = 1 ∧ o = 0) ∨ (m = 2 ∧ 0 < o) ∨ (m = 3 ∧ 0 < o) := by omega
          rcases ME with ⟨rfl, rfl⟩ | ⟨rfl, rfl⟩ | ⟨rfl, ho⟩ | ⟨rfl, ho⟩
          all_goals first
            | (exfalso; clear HBr HQr HLr; omega)
            | (go_wp2
               go_ret
               exact ⟨by first | (simp; done) | (simp; omega), HBr.out⟩)
end Go.Proofs.Ytgnojjbdioldbaa
