/- The reference's Simple, in every world. -/
import Derived.Test.YtgnojjbdioldbaaK1
import Derived.Test.YtgnojjbdioldbaaG12
namespace Go.Proofs.Ytgnojjbdioldbaa
open Go.RowKit Go.Sort
open Go

theorem meet_two (a b c d : Pt) : meetI c d a b = meetI a b c d := by
  have f : ∀ a b c d : Pt, meetI a b d c = meetI a b c d := fun a b c d => by rw [← meet_back a b d c, meet_flip a b c d]
  rw [meet_flip b a c d, ← meet_back b a c d, f d c b a, meet_back a b c d]
/-- As the reference looks: first the ends of each, then each two. -/
def RSimp (ps : List Pt) : Prop := (∀ i, i + 1 < ps.length → at' ps i ≠ at' ps (i + 1)) ∧ ∀ i k, i < k → k + 1 < ps.length → meetI (at' ps i) (at' ps (i + 1)) (at' ps k) (at' ps (k + 1)) = allowI ps i k
theorem rsimp (ps : List Pt) : RSimp ps ↔ Simp ps := by
  constructor
  · intro h i hi
    exact ⟨h.1 i hi, fun j hj => by rw [meet_two]; exact h.2 j i hj hi⟩
  · intro h
    exact ⟨fun i hi => (h i hi).1, fun i k hik hk => by rw [meet_two]; exact (h k hk).2 i hik⟩
def closeB (ps : List Pt) (i k n : Nat) : Bool := decide (i = 0 ∧ k + 1 = n ∧ 3 ≤ n ∧ at' ps 0 = at' ps n)
theorem allow_close {ps : List Pt} {i k n : Nat} (hn : ps.length = n + 1) (hik : i < k) : allowI ps i k = if i + 1 = k ∨ closeB ps i k n = true then 2 else 0 := by
  unfold allowI closeB
  have e : closeP ps i k ↔ (i + 1 = k ∨ decide (i = 0 ∧ k + 1 = n ∧ 3 ≤ n ∧ at' ps 0 = at' ps n) = true) := by
    unfold closeP
    rw [decide_eq_true_eq, hn, show n + 1 - 1 = n by omega]
    constructor
    · rintro (h | ⟨h1, h2, h3⟩)
      · exact Or.inl h
      · by_cases h4 : i + 1 = k
        · exact Or.inl h4
        · exact Or.inr ⟨h1, by omega, by omega, h3⟩
    · rintro (h | ⟨h1, h2, h3, h4⟩)
      · exact Or.inl h
      · exact Or.inr ⟨h1, by omega, h4⟩
  simp only [e]
set_option maxRecDepth 100000 in
set_option maxHeartbeats 8000000 in
theorem simple28 (b off cap : Nat) (ps : List Pt) (w : World) (h1 : 0 < ps.length) (hm : mayB ps = true) (h : Lies w b off ps) : Calls Try.prog 28 #[.slice (some ⟨b, off, none⟩) ps.length cap] w fun e w' => (∃ r : Bool, e = .returned (.bool r) ∧ (r = true ↔ Simp ps)) ∧ Below w.heap.size w w' := by
  have HL := hide h
  have HPT : Hid (∀ j, j < ps.length → ptB (at' ps j) = true) := fun j hj => mayB_at hm hj
  have hl := mayB_len hm
  obtain ⟨n, hn⟩ : ∃ n, ps.length = n + 1 := ⟨ps.length - 1, by omega⟩
  have HNN := hide hn
  rw [hn] at hl ⊢
  have HRS := hide (rsimp ps)
  clear h hm hn h1
  go_enter Try.func28, Try.ntmps28
  go_wp2_with fail
  go_loopw [4] (fun t wr => ∃ i : Nat, i ≤ n ∧ t = .int .i64 i ∧ Hid (Below w.heap.size w wr) ∧ Hid (∀ x, x < i → at' ps x ≠ at' ps (x + 1))) (fun t _ => n - (intOf t).toNat)
  case atStart => exact ⟨0, by omega, rfl, Below.refl _ _, fun x hx => by omega⟩
  case round =>
    obtain ⟨i, hi, rfl, HBr, HG⟩ := hrel
    by_cases hlt : i < n
    · obtain ⟨c0, c1⟩ := HL.out.later HBr.out i (by rw [HNN.out]; omega)
      obtain ⟨d0, d1⟩ := HL.out.later HBr.out (i + 1) (by rw [HNN.out]; omega)
      obtain ⟨y, hy⟩ : ∃ y, at' ps i = y := ⟨_, rfl⟩
      obtain ⟨z, hz⟩ : ∃ z, at' ps (i + 1) = z := ⟨_, rfl⟩
      rw [hy] at c0 c1
      rw [hz] at d0 d1
      have HYZ := hide (And.intro hy hz)
      have f0 := cell_regrown c0
      have f1 := cell_regrown c1
      have f2 := cell_regrown d0
      have f3 := cell_regrown d1
      have i1 : (i : Int) < (n : Int) + 1 := by omega
      have i2 : (0 : Int) ≤ i := by omega
      have i3 : (i : Int) + 1 < (n : Int) + 1 := by omega
      clear hy hz c0 c1 d0 d1
      by_cases hyz : y = z
      · have heq : ∀ w, (Op.equalIn 10000 23 (pv y.x y.y) (pv z.x z.y)).run Try.prog w = .ok true w := fun w => by
          have := eq23 y z w
          rw [decide_eq_true hyz] at this
          exact this
        have HYE := hide hyz
        clear hyz
        go_upto_region 5 with fail
        refine wp_region_quiet_below (by kernel_rfl) (by kernel_rfl) ?_
        repeat (go_big_quiet_step (fail))
        refine wpQuiet_nil ?_
        intro x1 hw'
        have hbx : Below wr.heap.size wr x1 := by
          obtain ⟨⟨dq, osq⟩, hw''⟩ := hw'
          rw [hw'']
          exact below_regrown wr dq osq
        clear hw' f0 f1 f2 f3
        go_wp2
        go_ret
        exact ⟨⟨false, rfl, fun k => by (cases k), fun k => absurd (by rw [HYZ.out.1, HYZ.out.2]; exact HYE.out) ((HRS.out.2 k).1 i (by rw [HNN.out]; omega))⟩, below_stepJ HBr.out hbx⟩
      · have heq : ∀ w, (Op.equalIn 10000 23 (pv y.x y.y) (pv z.x z.y)).run Try.prog w = .ok false w := fun w => by
          have := eq23 y z w
          rw [decide_eq_false hyz] at this
          exact this
        have HYE := hide hyz
        clear hyz
        go_upto_region 5 with fail
        refine wp_region_quiet_below (by kernel_rfl) (by kernel_rfl) ?_
        repeat (go_big_quiet_step (fail))
        refine wpQuiet_nil ?_
        intro x1 hw'
        have hbx : Below wr.heap.size wr x1 := by
          obtain ⟨⟨dq, osq⟩, hw''⟩ := hw'
          rw [hw'']
          exact below_regrown wr dq osq
        clear hw' f0 f1 f2 f3
        go_wp2
        go_roundw
        case rel => exact ⟨i + 1, by omega, by go_num, below_stepJ HBr.out hbx, fun x hx => by
          by_cases e : x = i
          · rw [e, HYZ.out.1, HYZ.out.2]; exact HYE.out
          · exact HG.out x (by omega)⟩
        case measure => simp [intOf]; omega
    · have hin : i = n := by omega
      subst hin
      have HN1 := hide HG.out
      have HB1 := hide HBr.out
      have HL1 := hide (HL.out.later HBr.out)
      obtain ⟨W1, hW1⟩ : ∃ W1, wr = W1 := ⟨_, rfl⟩
      rw [hW1] at HB1 HL1
      go_wp2_with fail
      try rw [hW1]
      clear hW1 HG HBr HL
      go_loopw [5] (fun t wr => ∃ j : Nat, j ≤ i ∧ t = .int .i64 j ∧ Hid (Below W1.heap.size W1 wr) ∧ Hid (∀ x k, x < j → x < k → k < i → meetI (at' ps x) (at' ps (x + 1)) (at' ps k) (at' ps (k + 1)) = allowI ps x k)) (fun t _ => i - (intOf t).toNat)
      case atStart => exact ⟨0, by omega, rfl, Below.refl _ _, fun x k hx => by omega⟩
      case round =>
        obtain ⟨j, hj, rfl, HBr, HG⟩ := hrel
        by_cases hlt : j < i
        · have HBW := hide HBr.out
          obtain ⟨W2, hW2⟩ : ∃ W2, wr = W2 := ⟨_, rfl⟩
          rw [hW2] at HBW
          go_upto_region 11 with fail
          try rw [hW2]
          clear hW2 HBr
          go_wp2_with fail
          go_loopw [6] (fun t wr => ∃ k : Nat, j < k ∧ k ≤ i ∧ t = .int .i64 k ∧ Hid (Below W2.heap.size W2 wr) ∧ Hid (∀ x, j < x → x < k → meetI (at' ps j) (at' ps (j + 1)) (at' ps x) (at' ps (x + 1)) = allowI ps j x)) (fun t _ => i - (intOf t).toNat)
          case atStart => exact ⟨j + 1, by omega, by omega, by go_num, Below.refl _ _, fun x h1 h2 => by omega⟩
          case round =>
            obtain ⟨k, hjk, hki, rfl, HBq, HF⟩ := hrel
            by_cases hkl : k < i
            · have HU2 := hide (below_stepJ HBW.out HBq.out)
              have HL2 := hide (HL1.out.later HU2.out)
              obtain ⟨c0, c1⟩ := HL2.out j (by rw [HNN.out]; omega)
              obtain ⟨d0, d1⟩ := HL2.out (j + 1) (by rw [HNN.out]; omega)
              obtain ⟨e0, e1⟩ := HL2.out k (by rw [HNN.out]; omega)
              obtain ⟨g0, g1⟩ := HL2.out (k + 1) (by rw [HNN.out]; omega)
              obtain ⟨o0, o1⟩ := HL2.out 0 (by rw [HNN.out]; omega)
              obtain ⟨l0, l1⟩ := HL2.out i (by rw [HNN.out]; omega)
              have MT := fun (V : World) => meet12 (at' ps j) (at' ps (j + 1)) (at' ps k) (at' ps (k + 1)) (HPT.out j (by rw [HNN.out]; omega)) (HPT.out (j + 1) (by rw [HNN.out]; omega)) (HPT.out k (by rw [HNN.out]; omega)) (HPT.out (k + 1) (by rw [HNN.out]; omega)) V
              have HAC := hide (allow_close HNN.out hjk)
              have HCB : Hid (closeB ps j k i = decide (j = 0 ∧ k + 1 = i ∧ 3 ≤ i ∧ at' ps 0 = at' ps i)) := rfl
              obtain ⟨a, ha⟩ : ∃ a, at' ps j = a := ⟨_, rfl⟩
              obtain ⟨a', ha'⟩ : ∃ a, at' ps (j + 1) = a := ⟨_, rfl⟩
              obtain ⟨b0, hb0⟩ : ∃ a, at' ps k = a := ⟨_, rfl⟩
              obtain ⟨b1, hb1⟩ : ∃ a, at' ps (k + 1) = a := ⟨_, rfl⟩
              obtain ⟨u, hu⟩ : ∃ a, at' ps 0 = a := ⟨_, rfl⟩
              obtain ⟨v, hv⟩ : ∃ a, at' ps i = a := ⟨_, rfl⟩
              have HPS := hide (And.intro ha (And.intro ha' (And.intro hb0 hb1)))
              rw [ha] at c0 c1 MT
              rw [ha'] at d0 d1 MT
              rw [hb0] at e0 e1 MT
              rw [hb1] at g0 g1 MT
              rw [hu] at o0 o1 HCB
              rw [hv] at l0 l1 HCB
              rw [Nat.zero_mul, Nat.add_zero] at o0 o1
              obtain ⟨mI, hmI⟩ : ∃ m, meetI a a' b0 b1 = m := ⟨_, rfl⟩
              rw [hmI] at MT
              have HMI := hide hmI
              have CM : ∀ dd os, Calls Try.prog 12 #[pv a.x a.y, pv a'.x a'.y, pv b0.x b0.y, pv b1.x b1.y] (grow (redrawn wr dd) os) fun e w'' => e = .returned (.int .i64 mI) ∧ ∃ p : Regrown, w'' = grow (redrawn wr p.d) p.os := fun dd os => Calls.regrown_of (MT _)
              have f0 := cell_regrown c0
              have f1 := cell_regrown c1
              have f2 := cell_regrown d0
              have f3 := cell_regrown d1
              have f4 := cell_regrown e0
              have f5 := cell_regrown e1
              have f6 := cell_regrown g0
              have f7 := cell_regrown g1
              have j1 : (j : Int) < (i : Int) + 1 := by omega
              have j2 : (0 : Int) ≤ j := by omega
              have j3 : (j : Int) + 1 < (i : Int) + 1 := by omega
              have k1 : (k : Int) < (i : Int) + 1 := by omega
              have k2 : (0 : Int) ≤ k := by omega
              have k3 : (k : Int) + 1 < (i : Int) + 1 := by omega
              have HO := hide (And.intro (And.intro o0 o1) (And.intro l0 l1))
              clear ha ha' hb0 hb1 hu hv hmI MT c0 c1 d0 d1 e0 e1 g0 g1 o0 o1 l0 l1
              go_upto_region 13 with fail
              refine wp_region_quiet_below (by kernel_rfl) (by kernel_rfl) ?_
              repeat (go_big_quiet_step (first | with_reducible exact CM _ _))
              refine wpQuiet_nil ?_
              intro x1 hw'
              have hbx : Below wr.heap.size wr x1 := by
                obtain ⟨⟨dq, osq⟩, hw''⟩ := hw'
                rw [hw'']
                exact below_regrown wr dq osq
              clear hw' f0 f1 f2 f3 f4 f5 f6 f7 CM
              have HBX := hide (below_stepJ HBq.out hbx)
              have r0 := cell_regrown (later hbx HO.out.1.1)
              have r1 := cell_regrown (later hbx HO.out.1.2)
              have r2 := cell_regrown (later hbx HO.out.2.1)
              have r3 := cell_regrown (later hbx HO.out.2.2)
              clear hbx HO
              go_upto_region 15 with fail
              go_cut [9] (fun s9 wx => s9 = .bool (closeB ps j k i) ∧ Hid (Below W2.heap.size W2 wx))
              case first =>
                have k4 : (0 : Int) < (i : Int) + 1 := by omega
                have k5 : (i : Int) < (i : Int) + 1 := by omega
                have k6 : (0 : Int) ≤ i := by omega
                have w1 : wrap64 ((i : Int) - 1) = (i : Int) - 1 := by unfold wrap64; omega
                by_cases hj0 : j = 0
                · by_cases hk1 : k + 1 = i
                  · have g1 : ((k : Int) == (i : Int) - 1) = true := by simp; omega
                    have g2 : ((j : Int) == 0) = true := by simp; omega
                    by_cases h3 : 3 ≤ i
                    · have g3 : (3 : Int) ≤ i := by omega
                      by_cases huv : u = v
                      · have HC0 : Hid (closeB ps j k i = true) := HCB.out.trans (decide_eq_true ⟨hj0, hk1, h3, huv⟩)
                        have heq : ∀ w, (Op.equalIn 10000 23 (pv u.x u.y) (pv v.x v.y)).run Try.prog w = .ok true w := fun w => by
                          have := eq23 u v w
                          rw [decide_eq_true huv] at this
                          exact this
                        clear HCB hj0 hk1 h3 huv
                        refine wp_region_quiet_below (by kernel_rfl) (by kernel_rfl) ?_
                        repeat (go_big_quiet_step (fail))
                        refine wpQuiet_nil ?_
                        intro x2 hw'
                        have hb2 : Below x1.heap.size x1 x2 := by
                          obtain ⟨⟨dq, osq⟩, hw''⟩ := hw'
                          rw [hw'']
                          exact below_regrown x1 dq osq
                        clear hw' r0 r1 r2 r3
                        go_wp2_with fail
                        go_meet
                        case rel => exact ⟨by rw [HC0.out], below_stepJ HBX.out hb2⟩
                      · have HC0 : Hid (closeB ps j k i = false) := HCB.out.trans (decide_eq_false (fun k => huv k.2.2.2))
                        have heq : ∀ w, (Op.equalIn 10000 23 (pv u.x u.y) (pv v.x v.y)).run Try.prog w = .ok false w := fun w => by
                          have := eq23 u v w
                          rw [decide_eq_false huv] at this
                          exact this
                        clear HCB hj0 hk1 h3 huv
                        refine wp_region_quiet_below (by kernel_rfl) (by kernel_rfl) ?_
                        repeat (go_big_quiet_step (fail))
                        refine wpQuiet_nil ?_
                        intro x2 hw'
                        have hb2 : Below x1.heap.size x1 x2 := by
                          obtain ⟨⟨dq, osq⟩, hw''⟩ := hw'
                          rw [hw'']
                          exact below_regrown x1 dq osq
                        clear hw' r0 r1 r2 r3
                        go_wp2_with fail
                        go_meet
                        case rel => exact ⟨by rw [HC0.out], below_stepJ HBX.out hb2⟩
                    · have HC0 : Hid (closeB ps j k i = false) := HCB.out.trans (decide_eq_false (fun k => h3 k.2.2.1))
                      have g3 : ¬ (3 : Int) ≤ i := by omega
                      clear HCB hj0 hk1 h3
                      refine wp_region_quiet_below (by kernel_rfl) (by kernel_rfl) ?_
                      repeat (go_big_quiet_step (fail))
                      refine wpQuiet_nil ?_
                      intro x2 hw'
                      have hb2 : Below x1.heap.size x1 x2 := by
                        obtain ⟨⟨dq, osq⟩, hw''⟩ := hw'
                        rw [hw'']
                        exact below_regrown x1 dq osq
                      clear hw' r0 r1 r2 r3
                      go_wp2_with fail
                      go_meet
                      case rel => exact ⟨by rw [HC0.out], below_stepJ HBX.out hb2⟩
                  · have HC0 : Hid (closeB ps j k i = false) := HCB.out.trans (decide_eq_false (fun k => hk1 k.2.1))
                    have g1 : ((k : Int) == (i : Int) - 1) = false := by simp; omega
                    have g2 : ((j : Int) == 0) = true := by simp; omega
                    clear HCB hj0 hk1
                    refine wp_region_quiet_below (by kernel_rfl) (by kernel_rfl) ?_
                    repeat (go_big_quiet_step (fail))
                    refine wpQuiet_nil ?_
                    intro x2 hw'
                    have hb2 : Below x1.heap.size x1 x2 := by
                      obtain ⟨⟨dq, osq⟩, hw''⟩ := hw'
                      rw [hw'']
                      exact below_regrown x1 dq osq
                    clear hw' r0 r1 r2 r3
                    go_wp2_with fail
                    go_meet
                    case rel => exact ⟨by rw [HC0.out], below_stepJ HBX.out hb2⟩
                · have HC0 : Hid (closeB ps j k i = false) := HCB.out.trans (decide_eq_false (fun k => hj0 k.1))
                  have g2 : ((j : Int) == 0) = false := by simp; omega
                  clear HCB hj0
                  refine wp_region_quiet_below (by kernel_rfl) (by kernel_rfl) ?_
                  repeat (go_big_quiet_step (fail))
                  refine wpQuiet_nil ?_
                  intro x2 hw'
                  have hb2 : Below x1.heap.size x1 x2 := by
                    obtain ⟨⟨dq, osq⟩, hw''⟩ := hw'
                    rw [hw'']
                    exact below_regrown x1 dq osq
                  clear hw' r0 r1 r2 r3
                  go_wp2_with fail
                  go_meet
                  case rel => exact ⟨by rw [HC0.out], below_stepJ HBX.out hb2⟩
              case rest =>
                obtain ⟨rfl, HB9⟩ := hcut
                obtain ⟨CB, hCB⟩ : ∃ CB, closeB ps j k i = CB := ⟨_, rfl⟩
                rw [hCB] at HAC ⊢
                clear hCB r0 r1 r2 r3 HCB
                have HME : Hid (meetI (at' ps j) (at' ps (j + 1)) (at' ps k) (at' ps (k + 1)) = mI) := by show _ = _; rw [HPS.out.1, HPS.out.2.1, HPS.out.2.2.1, HPS.out.2.2.2]; exact HMI.out
                have HW9 := hide (below_stepJ HB1.out (below_stepJ HBW.out HB9.out))
                by_cases hnx : k = j + 1
                · have q : ((k : Int) == (j : Int) + 1) = true := by simp; omega
                  by_cases h2 : mI = 2
                  · subst h2
                    have HAL : Hid (allowI ps j k = 2) := by show _ = _; rw [HAC.out]; rw [if_pos (Or.inl hnx.symm)]
                    clear HAC
                    go_wp2
                    go_roundw
                    case rel => exact ⟨k + 1, by omega, by omega, by go_num, HB9.out, fun x h1 h2 => by
                      by_cases e : x = k
                      · rw [e, HME.out, HAL.out]
                      · exact HF.out x h1 (by omega)⟩
                    case measure => simp [intOf]; omega
                  · have q2 : (mI != 2) = true := by simp [h2]
                    have HAL : Hid (allowI ps j k = 2) := by show _ = _; rw [HAC.out]; rw [if_pos (Or.inl hnx.symm)]
                    have HNE := hide h2
                    clear HAC h2
                    go_wp2
                    go_ret
                    exact ⟨⟨false, rfl, fun k => by (cases k), fun hk => absurd (by have := (HRS.out.2 hk).2 j k hjk (by rw [HNN.out]; omega); rw [HME.out, HAL.out] at this; exact this) HNE.out⟩, HW9.out⟩
                · have q : ((k : Int) == (j : Int) + 1) = false := by simp; omega
                  cases CB
                  · by_cases h2 : mI = 0
                    · subst h2
                      have HAL : Hid (allowI ps j k = 0) := by show _ = _; rw [HAC.out]; rw [if_neg (fun k => k.elim (fun k => hnx k.symm) (fun k => by cases k))]
                      clear HAC
                      go_wp2
                      go_roundw
                      case rel => exact ⟨k + 1, by omega, by omega, by go_num, HB9.out, fun x h1 h2 => by
                        by_cases e : x = k
                        · rw [e, HME.out, HAL.out]
                        · exact HF.out x h1 (by omega)⟩
                      case measure => simp [intOf]; omega
                    · have q2 : (mI != 0) = true := by simp [h2]
                      have HAL : Hid (allowI ps j k = 0) := by show _ = _; rw [HAC.out]; rw [if_neg (fun k => k.elim (fun k => hnx k.symm) (fun k => by cases k))]
                      have HNE := hide h2
                      clear HAC h2
                      go_wp2
                      go_ret
                      exact ⟨⟨false, rfl, fun k => by (cases k), fun hk => absurd (by have := (HRS.out.2 hk).2 j k hjk (by rw [HNN.out]; omega); rw [HME.out, HAL.out] at this; exact this) HNE.out⟩, HW9.out⟩
                  · by_cases h2 : mI = 2
                    · subst h2
                      have HAL : Hid (allowI ps j k = 2) := by show _ = _; rw [HAC.out]; rw [if_pos (Or.inr rfl)]
                      clear HAC
                      go_wp2
                      go_roundw
                      case rel => exact ⟨k + 1, by omega, by omega, by go_num, HB9.out, fun x h1 h2 => by
                        by_cases e : x = k
                        · rw [e, HME.out, HAL.out]
                        · exact HF.out x h1 (by omega)⟩
                      case measure => simp [intOf]; omega
                    · have q2 : (mI != 2) = true := by simp [h2]
                      have HAL : Hid (allowI ps j k = 2) := by show _ = _; rw [HAC.out]; rw [if_pos (Or.inr rfl)]
                      have HNE := hide h2
                      clear HAC h2
                      go_wp2
                      go_ret
                      exact ⟨⟨false, rfl, fun k => by (cases k), fun hk => absurd (by have := (HRS.out.2 hk).2 j k hjk (by rw [HNN.out]; omega); rw [HME.out, HAL.out] at this; exact this) HNE.out⟩, HW9.out⟩
            · have hin : k = i := by omega
              subst hin
              go_wp2
              go_roundw
              case rel => exact ⟨j + 1, by omega, by go_num, below_stepJ HBW.out HBq.out, fun x y h1 h2 h3 => by
                by_cases e : x = j
                · rw [e]; exact HF.out y (by omega) h3
                · exact HG.out x y (by omega) h2 h3⟩
              case measure => simp [intOf]; omega
        · have hin : j = i := by omega
          subst hin
          go_wp2
          go_ret
          exact ⟨⟨true, rfl, fun _ => HRS.out.1 ⟨fun x hx => HN1.out x (by have := HNN.out; omega), fun x k hxk hk => HG.out x k (by have := HNN.out; omega) hxk (by have := HNN.out; omega)⟩, fun _ => rfl⟩, below_stepJ HB1.out HBr.out⟩
end Go.Proofs.Ytgnojjbdioldbaa
