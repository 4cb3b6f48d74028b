/- The document's Beyond: whether two polylines have something in common beyond some points. -/
import Derived.Test.YtgnojjbdioldbaaM8
import Derived.Test.YtgnojjbdioldbaaL3
import Derived.Test.YtgnojjbdioldbaaL4
import Derived.Test.YtgnojjbdioldbaaG12
namespace Go.Proofs.Ytgnojjbdioldbaa
open Go.RowKit Go.Sort
open Go

def BeyAt (p q js : List Pt) (i j : Nat) : Prop := BeyP (at' p i) (segZ p i) (at' q j) (segZ q j) js
def BeyPost (p q js : List Pt) (e : Ending) : Prop := ∃ r : Bool, e = .returned (.bool r) ∧ (r = true ↔ ∃ i j, i < segN p ∧ j < segN q ∧ BeyAt p q js i j)
theorem bey_no {a b c d : Pt} {js : List Pt} (h : meetI a b c d = 0) : ¬ BeyP a b c d js := by
  rintro (k | ⟨k, _⟩ | ⟨k, _⟩) <;> rw [h] at k <;> exact absurd k (by decide)
theorem bey_one {a b c d : Pt} {js : List Pt} (h : meetI a b c d = 1) (k : js.any (bothB a b c d) = true) : ¬ BeyP a b c d js := by
  rintro (m | ⟨_, m⟩ | ⟨m, _⟩)
  · rw [h] at m; exact absurd m (by decide)
  · exact m (List.any_eq_true.1 k)
  · rw [h] at m; exact absurd m (by decide)
theorem bey_one' {a b c d : Pt} {js : List Pt} (h : meetI a b c d = 1) (k : js.any (bothB a b c d) = false) : BeyP a b c d js := by
  refine Or.inr (Or.inl ⟨h, fun m => ?_⟩)
  rw [List.any_eq_true.2 m] at k
  cases k
theorem bey_two {a b c d : Pt} {js : List Pt} (h : meetI a b c d = 2) (k : ∀ x, x < 4 → ¬ (bothB a b c d (nth a b c d x) = true ∧ nth a b c d x ∉ js)) : ¬ BeyP a b c d js := by
  rintro (m | ⟨m, _⟩ | ⟨_, p, hp, h1, h2⟩)
  · rw [h] at m; exact absurd m (by decide)
  · rw [h] at m; exact absurd m (by decide)
  · simp only [List.mem_cons, List.not_mem_nil, or_false] at hp
    rcases hp with rfl | rfl | rfl | rfl
    · exact k 0 (by omega) ⟨h1, h2⟩
    · exact k 1 (by omega) ⟨h1, h2⟩
    · exact k 2 (by omega) ⟨h1, h2⟩
    · exact k 3 (by omega) ⟨h1, h2⟩
theorem nth_mem (a b c d : Pt) {x : Nat} (h : x < 4) : nth a b c d x ∈ [a, b, c, d] := by
  rcases (by omega : x = 0 ∨ x = 1 ∨ x = 2 ∨ x = 3) with rfl | rfl | rfl | rfl <;> simp [nth]
theorem any_take {js : List Pt} {f : Pt → Bool} {j : Nat} (hj : j < js.length) : (js.take (j + 1)).any f = ((js.take j).any f || f (at' js j)) := by
  rw [List.take_add_one, List.any_append, List.getElem?_eq_getElem hj]
  unfold at'
  rw [List.getD_eq_getElem?_getD, List.getElem?_eq_getElem hj]
  simp
set_option maxRecDepth 100000 in
set_option maxHeartbeats 16000000 in
theorem beyond51 (b1 o1 c1 b2 o2 c2 : Nat) (p q js : List Pt) (pj : Option Addr) (cj : Nat) (w : World) (hp : 0 < p.length) (hq : 0 < q.length) (hmp : mayB p = true) (hmq : mayB q = true) (h1 : Lies w b1 o1 p) (h2 : Lies w b2 o2 q) (h3 : Has w pj js) (hjs : ∀ j, j < js.length → ptB (at' js j) = true) (hjl : js.length ≤ 4096) :
    Calls Try.prog 51 #[.slice (some ⟨b1, o1, none⟩) p.length c1, .slice (some ⟨b2, o2, none⟩) q.length c2, .slice pj js.length cj] w fun e w' => BeyPost p q js e ∧ Below w.heap.size w w' := by
  have S1 := hide (segments68all b1 o1 c1 p w hp (mayB_len hmp) h1)
  have HQ := hide h2
  have HJ := hide h3
  have HJS := hide hjs
  have HPP : Hid (∀ i, i < segN p → ptB (at' p i) = true ∧ ptB (segZ p i) = true) := fun i hi => seg_pt (fun j hj => mayB_at hmp hj) hp hi
  have HPQ : Hid (∀ i, i < segN q → ptB (at' q i) = true ∧ ptB (segZ q i) = true) := fun i hi => seg_pt (fun j hj => mayB_at hmq hj) hq hi
  have hlq := mayB_len hmq
  have lp : segN p ≤ 4096 := by have := mayB_len hmp; unfold segN; split <;> omega
  have lq : segN q ≤ 4096 := by unfold segN; split <;> omega
  clear h1 h2 h3 hjs hmp hmq
  go_enter Try.func51, Try.ntmps51
  go_wp2_with fail
  refine S1.out.mono ?_
  rintro e w1 ⟨ga, ca, rfl, sa, hb1⟩
  have S2 := hide (segments68all b2 o2 c2 q w1 hq hlq (HQ.out.later hb1))
  have HB1 := hide hb1
  have SA1 := hide sa
  clear sa hb1 S1
  go_wp2_with fail
  refine S2.out.mono ?_
  rintro e w2 ⟨gb, cb, rfl, sb, hb2⟩
  have HB2 := hide (below_stepJ HB1.out hb2)
  have SA : Hid (∀ j, j < segN p → SegAt w2 ga j (at' p j) (segZ p j)) := fun j hj => (SA1.out j hj).later hb2
  have SB := hide sb
  have HJ2 := hide (HJ.out.later HB2.out)
  clear sb hb2 S2 SA1 HB1 HJ HQ hp hq hlq
  obtain ⟨np, hnp⟩ : ∃ np, segN p = np := ⟨_, rfl⟩
  obtain ⟨nq, hnq⟩ : ∃ nq, segN q = nq := ⟨_, rfl⟩
  have HN := hide (And.intro hnp hnq)
  rw [hnp] at SA HPP lp ⊢
  rw [hnq] at SB HPQ lq ⊢
  clear hnp hnq
  go_wp2_with fail
  go_loopw [9] (fun t wr => ∃ i : Nat, i ≤ np ∧ t = .int .i64 i ∧ Hid (Below w2.heap.size w2 wr) ∧ Hid (∀ x y, x < i → y < nq → ¬ BeyAt p q js x y)) (fun t _ => np - (intOf t).toNat)
  case atStart => exact ⟨0, by omega, rfl, Below.refl _ _, fun x y hx => by omega⟩
  case round =>
    obtain ⟨i, hi, rfl, HBr, HG⟩ := hrel
    by_cases hi2 : i < np
    · have i1 : (i : Int) < np := by omega
      have i2 : (0 : Int) ≤ i := by omega
      go_wp2_with fail
      obtain ⟨w3, hw3⟩ : ∃ w3, w3 = wr := ⟨_, rfl⟩
      rw [← hw3] at HBr ⊢
      clear hw3
      go_loopw [10] (fun t wr => ∃ k : Nat, k ≤ nq ∧ t = .int .i64 k ∧ Hid (Below w2.heap.size w2 wr) ∧ Hid (∀ y, y < k → ¬ BeyAt p q js i y)) (fun t _ => nq - (intOf t).toNat)
      case atStart => exact ⟨0, by omega, rfl, HBr.out, fun y hy => by omega⟩
      case round =>
        clear HBr
        obtain ⟨k, hk, rfl, HBv, HK⟩ := hrel
        by_cases hk2 : k < nq
        · have k1 : (k : Int) < nq := by omega
          have k2 : (0 : Int) ≤ k := by omega
          obtain ⟨a, ha⟩ : ∃ a, at' p i = a := ⟨_, rfl⟩
          obtain ⟨z, hz⟩ : ∃ z, segZ p i = z := ⟨_, rfl⟩
          obtain ⟨c, hc⟩ : ∃ c, at' q k = c := ⟨_, rfl⟩
          obtain ⟨d, hd⟩ : ∃ d, segZ q k = d := ⟨_, rfl⟩
          have HAZ := hide (And.intro ha (And.intro hz (And.intro hc hd)))
          have HPT : Hid (ptB a = true ∧ ptB z = true ∧ ptB c = true ∧ ptB d = true) := by
            show _ ∧ _
            rw [← ha, ← hz, ← hc, ← hd]
            exact ⟨(HPP.out i hi2).1, (HPP.out i hi2).2, (HPQ.out k hk2).1, (HPQ.out k hk2).2⟩
          have HBA : Hid (BeyAt p q js i k = BeyP a z c d js) := by show _ = _; unfold BeyAt; rw [ha, hz, hc, hd]
          clear ha hz hc hd
          obtain ⟨a0, a1, a2, a3⟩ := (SA.out i hi2).later HBv.out
          obtain ⟨d0, d1, d2, d3⟩ := (SB.out k hk2).later HBv.out
          rw [HAZ.out.1] at a0 a1
          rw [HAZ.out.2.1] at a2 a3
          rw [HAZ.out.2.2.1] at d0 d1
          rw [HAZ.out.2.2.2] at d2 d3
          have A0 := cell_regrown a0
          have A1 := cell_regrown a1
          have A2 := cell_regrown a2
          have A3 := cell_regrown a3
          have D0 := cell_regrown d0
          have D1 := cell_regrown d1
          have D2 := cell_regrown d2
          have D3 := cell_regrown d3
          have HCM : ∀ V, Calls Try.prog 12 #[pv a.x a.y, pv z.x z.y, pv c.x c.y, pv d.x d.y] V fun e w' => e = .returned (.int .i64 (meetI a z c d)) ∧ Below V.heap.size V w' := fun V => meet12 a z c d HPT.out.1 HPT.out.2.1 HPT.out.2.2.1 HPT.out.2.2.2 V
          have hmm : Hid (meetI a z c d = 0) ∨ Hid (meetI a z c d = 1) ∨ Hid (meetI a z c d = 2) ∨ Hid (meetI a z c d = 3) := by
            rcases meet_cases a z c d with ⟨h, _⟩ | ⟨h, _⟩ | ⟨h | h, _⟩
            · exact Or.inl h
            · exact Or.inr (Or.inl h)
            · exact Or.inr (Or.inr (Or.inl h))
            · exact Or.inr (Or.inr (Or.inr h))
          rcases hmm with HM | HM | HM | HM
          · rw [HM.out] at HCM
            have CM : ∀ dd os, Calls Try.prog 12 #[pv a.x a.y, pv z.x z.y, pv c.x c.y, pv d.x d.y] (grow (redrawn wr dd) os) fun e w'' => e = .returned (.int .i64 0) ∧ ∃ p : Regrown, w'' = grow (redrawn wr p.d) p.os := fun dd os => Calls.regrown_of (HCM _)
            clear HCM
            go_upto_region 8 with fail
            refine wp_region_quiet_below (by kernel_rfl) (by kernel_rfl) ?_
            repeat (go_big_quiet_step (first | with_reducible exact CM _ _))
            refine wpQuiet_nil ?_
            intro x1 hw'
            have hbx : Below wr.heap.size wr x1 := by
              obtain ⟨⟨dq, osq⟩, hw''⟩ := hw'
              rw [hw'']
              exact below_regrown wr dq osq
            clear hw'
            have HBx := hide (below_stepJ HBv.out hbx)
            clear a0 a1 a2 a3 d0 d1 d2 d3 A0 A1 A2 A3 D0 D1 D2 D3 CM hbx
            go_wp2
            go_roundw
            case rel => exact ⟨k + 1, by omega, by go_num, HBx.out, fun y hy => by
              by_cases e : y = k
              · rw [e, HBA.out]; exact bey_no HM.out
              · exact HK.out y (by omega)⟩
            case measure => simp [intOf]; omega
          · rw [HM.out] at HCM
            have CM : ∀ dd os, Calls Try.prog 12 #[pv a.x a.y, pv z.x z.y, pv c.x c.y, pv d.x d.y] (grow (redrawn wr dd) os) fun e w'' => e = .returned (.int .i64 1) ∧ ∃ p : Regrown, w'' = grow (redrawn wr p.d) p.os := fun dd os => Calls.regrown_of (HCM _)
            clear HCM
            go_upto_region 8 with fail
            refine wp_region_quiet_below (by kernel_rfl) (by kernel_rfl) ?_
            repeat (go_big_quiet_step (first | with_reducible exact CM _ _))
            refine wpQuiet_nil ?_
            intro x1 hw'
            have hbx : Below wr.heap.size wr x1 := by
              obtain ⟨⟨dq, osq⟩, hw''⟩ := hw'
              rw [hw'']
              exact below_regrown wr dq osq
            clear hw'
            have HBx := hide (below_stepJ HBv.out hbx)
            clear a0 a1 a2 a3 d0 d1 d2 d3 A0 A1 A2 A3 D0 D1 D2 D3 CM hbx
            go_wp2_with fail
            obtain ⟨w4, hw4⟩ : ∃ w4, w4 = x1 := ⟨_, rfl⟩
            rw [← hw4] at HBx ⊢
            clear hw4
            go_loopw [12, 13] (fun t u wr => ∃ (o : Bool) (j : Nat), j ≤ js.length ∧ t = .bool o ∧ u = .int .i64 j ∧ Hid (o = (js.take j).any (bothB a z c d)) ∧ Hid (Below w2.heap.size w2 wr)) (fun _ u _ => js.length - (intOf u).toNat)
            case atStart => exact ⟨false, 0, by omega, rfl, rfl, by show _ = _; simp, HBx.out⟩
            case round =>
              clear HBx HBv
              obtain ⟨o, j, hj, rfl, rfl, HO, HBv⟩ := hrel
              by_cases hj2 : j < js.length
              · have j1 : (j : Int) < js.length := by omega
                have j2 : (0 : Int) ≤ j := by omega
                have HAT := hide (any_take (f := bothB a z c d) hj2)
                have hpx := HJS.out j hj2
                obtain ⟨bj, oj, hpj, hLj⟩ : ∃ bj oj, pj = some ⟨bj, oj, none⟩ ∧ Lies w2 bj oj js := by
                  rcases HJ2.out with h | h
                  · subst h; simp at hj2
                  · exact h
                subst hpj
                obtain ⟨e0, e1⟩ := hLj.later HBv.out j hj2
                obtain ⟨x, hx⟩ : ∃ x, at' js j = x := ⟨_, rfl⟩
                rw [hx] at e0 e1 HAT hpx
                have E0 := cell_regrown e0
                have E1 := cell_regrown e1
                have HPX := hide hpx
                clear hx hLj hpx
                obtain ⟨a0, a1, a2, a3⟩ := (SA.out i hi2).later HBv.out
                obtain ⟨d0, d1, d2, d3⟩ := (SB.out k hk2).later HBv.out
                rw [HAZ.out.1] at a0 a1
                rw [HAZ.out.2.1] at a2 a3
                rw [HAZ.out.2.2.1] at d0 d1
                rw [HAZ.out.2.2.2] at d2 d3
                have A0 := cell_regrown a0
                have A1 := cell_regrown a1
                have A2 := cell_regrown a2
                have A3 := cell_regrown a3
                have D0 := cell_regrown d0
                have D1 := cell_regrown d1
                have D2 := cell_regrown d2
                have D3 := cell_regrown d3
                cases o
                · cases HO1 : hasB a z x
                  · have O1 : ∀ dd os, Calls Try.prog 17 #[pv a.x a.y, pv z.x z.y, pv x.x x.y] (grow (redrawn wr dd) os) fun e w'' => e = .returned (.bool false) ∧ ∃ p : Regrown, w'' = grow (redrawn wr p.d) p.os := fun dd os => Calls.regrown_of (by have h := on17 a z x (by first | exact HPT.out.1 | exact HPT.out.2.2.1) (by first | exact HPT.out.2.1 | exact HPT.out.2.2.2) HPX.out (grow (redrawn wr dd) os); rw [HO1] at h; exact h)
                    go_upto_region 17 with fail
                    refine wp_region_quiet_below (by kernel_rfl) (by kernel_rfl) ?_
                    repeat (go_big_quiet_step (first | with_reducible exact O1 _ _))
                    refine wpQuiet_nil ?_
                    intro x1 hw'
                    have hbx : Below wr.heap.size wr x1 := by
                      obtain ⟨⟨dq, osq⟩, hw''⟩ := hw'
                      rw [hw'']
                      exact below_regrown wr dq osq
                    clear hw'
                    clear a0 a1 a2 a3 d0 d1 d2 d3 A0 A1 A2 A3 D0 D1 D2 D3 E0 E1 O1 e0 e1
                    go_wp2
                    go_roundw
                    case rel => exact ⟨false, j + 1, by omega, rfl, by go_num, by show _ = _; rw [HAT.out, ← HO.out]; unfold bothB; rw [HO1]; rfl, below_stepJ HBv.out hbx⟩
                    case measure => simp [intOf]; omega
                  · have O1 : ∀ dd os, Calls Try.prog 17 #[pv a.x a.y, pv z.x z.y, pv x.x x.y] (grow (redrawn wr dd) os) fun e w'' => e = .returned (.bool true) ∧ ∃ p : Regrown, w'' = grow (redrawn wr p.d) p.os := fun dd os => Calls.regrown_of (by have h := on17 a z x (by first | exact HPT.out.1 | exact HPT.out.2.2.1) (by first | exact HPT.out.2.1 | exact HPT.out.2.2.2) HPX.out (grow (redrawn wr dd) os); rw [HO1] at h; exact h)
                    cases HO2 : hasB c d x
                    all_goals
                      have O2 : ∀ dd os, Calls Try.prog 17 #[pv c.x c.y, pv d.x d.y, pv x.x x.y] (grow (redrawn wr dd) os) fun e w'' => e = .returned (.bool (hasB c d x)) ∧ ∃ p : Regrown, w'' = grow (redrawn wr p.d) p.os := fun dd os => Calls.regrown_of (on17 c d x HPT.out.2.2.1 HPT.out.2.2.2 HPX.out (grow (redrawn wr dd) os))
                      rw [HO2] at O2
                      go_upto_region 17 with fail
                      refine wp_region_quiet_below (by kernel_rfl) (by kernel_rfl) ?_
                      repeat (go_big_quiet_step (first | with_reducible exact O1 _ _ | with_reducible exact O2 _ _))
                      refine wpQuiet_nil ?_
                      intro x1 hw'
                      have hbx : Below wr.heap.size wr x1 := by
                        obtain ⟨⟨dq, osq⟩, hw''⟩ := hw'
                        rw [hw'']
                        exact below_regrown wr dq osq
                      clear hw'
                      clear a0 a1 a2 a3 d0 d1 d2 d3 A0 A1 A2 A3 D0 D1 D2 D3 E0 E1 O1 O2 e0 e1
                      go_wp2
                      go_roundw
                      case rel => exact ⟨_, j + 1, by omega, rfl, by go_num, by show _ = _; rw [HAT.out, ← HO.out]; unfold bothB; rw [HO1, HO2]; rfl, below_stepJ HBv.out hbx⟩
                      case measure => simp [intOf]; omega
                · go_upto_region 17 with fail
                  refine wp_region_quiet_below (by kernel_rfl) (by kernel_rfl) ?_
                  repeat (go_big_quiet_step (first | with_reducible exact HBv _ _))
                  refine wpQuiet_nil ?_
                  intro x1 hw'
                  have hbx : Below wr.heap.size wr x1 := by
                    obtain ⟨⟨dq, osq⟩, hw''⟩ := hw'
                    rw [hw'']
                    exact below_regrown wr dq osq
                  clear hw'
                  clear a0 a1 a2 a3 d0 d1 d2 d3 A0 A1 A2 A3 D0 D1 D2 D3 E0 E1 e0 e1
                  go_wp2
                  go_roundw
                  case rel => exact ⟨true, j + 1, by omega, rfl, by go_num, by show _ = _; rw [HAT.out, ← HO.out]; rfl, below_stepJ HBv.out hbx⟩
                  case measure => simp [intOf]; omega
              · have hjn : j = js.length := by omega
                have j1 : ¬ (j : Int) < js.length := by omega
                rw [hjn, List.take_length] at HO
                clear hjn
                cases o
                · go_wp2
                  go_ret
                  exact ⟨⟨true, rfl, fun _ => ⟨i, k, by rw [HN.out.1]; exact hi2, by rw [HN.out.2]; exact hk2, by rw [HBA.out]; exact bey_one' HM.out HO.out.symm⟩, fun _ => rfl⟩, below_stepJ HB2.out HBv.out⟩
                · go_wp2
                  go_roundw
                  case rel => exact ⟨k + 1, by omega, by go_num, HBv.out, fun y hy => by
                    by_cases e : y = k
                    · rw [e, HBA.out]; exact bey_one HM.out HO.out.symm
                    · exact HK.out y (by omega)⟩
                  case measure => simp [intOf]; omega
          · rw [HM.out] at HCM
            have CM : ∀ dd os, Calls Try.prog 12 #[pv a.x a.y, pv z.x z.y, pv c.x c.y, pv d.x d.y] (grow (redrawn wr dd) os) fun e w'' => e = .returned (.int .i64 2) ∧ ∃ p : Regrown, w'' = grow (redrawn wr p.d) p.os := fun dd os => Calls.regrown_of (HCM _)
            clear HCM
            go_upto_region 8 with fail
            refine wp_region_quiet_below (by kernel_rfl) (by kernel_rfl) ?_
            repeat (go_big_quiet_step (first | with_reducible exact CM _ _))
            refine wpQuiet_nil ?_
            intro x1 hw'
            have hbx : Below wr.heap.size wr x1 := by
              obtain ⟨⟨dq, osq⟩, hw''⟩ := hw'
              rw [hw'']
              exact below_regrown wr dq osq
            clear hw'
            have HBx := hide (below_stepJ HBv.out hbx)
            clear a0 a1 a2 a3 d0 d1 d2 d3 A0 A1 A2 A3 D0 D1 D2 D3 CM hbx
            obtain ⟨w4, hw4⟩ : ∃ w4, w4 = x1 := ⟨_, rfl⟩
            rw [← hw4] at HBx ⊢
            clear hw4 HBv
            obtain ⟨a0, a1, a2, a3⟩ := (SA.out i hi2).later HBx.out
            obtain ⟨d0, d1, d2, d3⟩ := (SB.out k hk2).later HBx.out
            rw [HAZ.out.1] at a0 a1
            rw [HAZ.out.2.1] at a2 a3
            rw [HAZ.out.2.2.1] at d0 d1
            rw [HAZ.out.2.2.2] at d2 d3
            go_upto_region 20 with fail
            have CS : Hid (w4.cell? ⟨ga, i * 4, none⟩ = some (.int .i64 a.x) ∧ w4.cell? ⟨ga, i * 4 + 1, none⟩ = some (.int .i64 a.y) ∧ w4.cell? ⟨ga, i * 4 + 2, none⟩ = some (.int .i64 z.x) ∧ w4.cell? ⟨ga, i * 4 + 3, none⟩ = some (.int .i64 z.y) ∧ w4.cell? ⟨gb, k * 4, none⟩ = some (.int .i64 c.x) ∧ w4.cell? ⟨gb, k * 4 + 1, none⟩ = some (.int .i64 c.y) ∧ w4.cell? ⟨gb, k * 4 + 2, none⟩ = some (.int .i64 d.x) ∧ w4.cell? ⟨gb, k * 4 + 3, none⟩ = some (.int .i64 d.y)) := ⟨a0, a1, a2, a3, d0, d1, d2, d3⟩
            have CS2 : ∀ V, Below w4.heap.size w4 V → Hid (V.cell? ⟨ga, i * 4, none⟩ = some (.int .i64 a.x) ∧ V.cell? ⟨ga, i * 4 + 1, none⟩ = some (.int .i64 a.y) ∧ V.cell? ⟨ga, i * 4 + 2, none⟩ = some (.int .i64 z.x) ∧ V.cell? ⟨ga, i * 4 + 3, none⟩ = some (.int .i64 z.y) ∧ V.cell? ⟨gb, k * 4, none⟩ = some (.int .i64 c.x) ∧ V.cell? ⟨gb, k * 4 + 1, none⟩ = some (.int .i64 c.y) ∧ V.cell? ⟨gb, k * 4 + 2, none⟩ = some (.int .i64 d.x) ∧ V.cell? ⟨gb, k * 4 + 3, none⟩ = some (.int .i64 d.y)) := fun V hB => ⟨later hB CS.out.1, later hB CS.out.2.1, later hB CS.out.2.2.1, later hB CS.out.2.2.2.1, later hB CS.out.2.2.2.2.1, later hB CS.out.2.2.2.2.2.1, later hB CS.out.2.2.2.2.2.2.1, later hB CS.out.2.2.2.2.2.2.2⟩
            have CS3 := hide CS2
            clear CS2 CS a0 a1 a2 a3 d0 d1 d2 d3
            go_region_held3 (fun V => V.cell? ⟨ga, i * 4, none⟩ = some (.int .i64 a.x) ∧ V.cell? ⟨ga, i * 4 + 1, none⟩ = some (.int .i64 a.y) ∧ V.cell? ⟨ga, i * 4 + 2, none⟩ = some (.int .i64 z.x) ∧ V.cell? ⟨ga, i * 4 + 3, none⟩ = some (.int .i64 z.y) ∧ V.cell? ⟨gb, k * 4, none⟩ = some (.int .i64 c.x) ∧ V.cell? ⟨gb, k * 4 + 1, none⟩ = some (.int .i64 c.y) ∧ V.cell? ⟨gb, k * 4 + 2, none⟩ = some (.int .i64 d.x) ∧ V.cell? ⟨gb, k * 4 + 3, none⟩ = some (.int .i64 d.y))
              (first | exact (CS3.out _ (below_drewJ _)).out | exact (CS3.out _ (by go_grown)).out)
              (fail)
            rename_i hHeld
            clear hHeld CS3
            obtain ⟨V4, hV4⟩ : ∃ V, V = (w4.alloc (.cells #[.int .i64 a.x, .int .i64 a.y, .int .i64 z.x, .int .i64 z.y, .int .i64 c.x, .int .i64 c.y, .int .i64 d.x, .int .i64 d.y] 23)).drew := ⟨_, rfl⟩
            have hbV4 : Below w4.heap.size w4 V4 := by rw [hV4]; go_grown
            have HLE : Hid (Lies V4 w4.heap.size 0 [a, z, c, d]) := by
              intro x hx
              rw [hV4]
              simp only [List.length_cons, List.length_nil] at hx
              rcases (by omega : x = 0 ∨ x = 1 ∨ x = 2 ∨ x = 3) with rfl | rfl | rfl | rfl
              all_goals exact ⟨by simp only [at', List.getD_cons_zero, List.getD_cons_succ]; go_cell, by simp only [at', List.getD_cons_zero, List.getD_cons_succ]; go_cell⟩
            have HBV4 := hide (below_stepJ HBx.out hbV4)
            obtain ⟨ke, hke⟩ : ∃ ke, w4.heap.size = ke := ⟨_, rfl⟩
            rw [← hV4]
            rw [hke] at HLE ⊢
            clear hke hV4 hbV4 HBx
            go_wp2_with fail
            go_loopw [15] (fun t wr => ∃ j : Nat, j ≤ 4 ∧ t = .int .i64 j ∧ Hid (∀ x, x < j → ¬ (bothB a z c d (nth a z c d x) = true ∧ nth a z c d x ∉ js)) ∧ Hid (Below V4.heap.size V4 wr)) (fun t _ => 4 - (intOf t).toNat)
            case atStart => exact ⟨0, by omega, rfl, fun x hx => by omega, Below.refl _ _⟩
            case round =>
              obtain ⟨j, hj, rfl, HX, HBw⟩ := hrel
              have HBv := hide (below_stepJ HBV4.out HBw.out)
              by_cases hj2 : j < 4
              · have j1 : (j : Int) < 4 := by omega
                have j2 : (0 : Int) ≤ j := by omega
                obtain ⟨e0, e1⟩ := HLE.out.later HBw.out j hj2
                rw [at_nth, Nat.zero_add] at e0 e1
                have HPX : Hid (ptB (nth a z c d j) = true) := by
                  have hm := nth_mem a z c d hj2
                  simp only [List.mem_cons, List.not_mem_nil, or_false] at hm
                  show _ = _
                  rcases hm with h | h | h | h <;> rw [h]
                  · exact HPT.out.1
                  · exact HPT.out.2.1
                  · exact HPT.out.2.2.1
                  · exact HPT.out.2.2.2
                obtain ⟨x, hx⟩ : ∃ x, nth a z c d j = x := ⟨_, rfl⟩
                rw [hx] at e0 e1 HPX
                have HNX := hide hx
                have E0 := cell_regrown e0
                have E1 := cell_regrown e1
                have HMO : ∀ (y : Nat), y < j + 1 → ¬ (bothB a z c d x = true ∧ x ∉ js) → ¬ (bothB a z c d (nth a z c d y) = true ∧ nth a z c d y ∉ js) := by
                  intro y hy hno
                  by_cases e : y = j
                  · rw [e, HNX.out]; exact hno
                  · exact HX.out y (by omega)
                have HMO2 := hide HMO
                clear hx HMO
                obtain ⟨a0, a1, a2, a3⟩ := (SA.out i hi2).later HBv.out
                obtain ⟨d0, d1, d2, d3⟩ := (SB.out k hk2).later HBv.out
                rw [HAZ.out.1] at a0 a1
                rw [HAZ.out.2.1] at a2 a3
                rw [HAZ.out.2.2.1] at d0 d1
                rw [HAZ.out.2.2.2] at d2 d3
                have A0 := cell_regrown a0
                have A1 := cell_regrown a1
                have A2 := cell_regrown a2
                have A3 := cell_regrown a3
                have D0 := cell_regrown d0
                have D1 := cell_regrown d1
                have D2 := cell_regrown d2
                have D3 := cell_regrown d3
                cases HO1 : hasB a z x
                · have O1 : ∀ dd os, Calls Try.prog 17 #[pv a.x a.y, pv z.x z.y, pv x.x x.y] (grow (redrawn wr dd) os) fun e w'' => e = .returned (.bool false) ∧ ∃ p : Regrown, w'' = grow (redrawn wr p.d) p.os := fun dd os => Calls.regrown_of (by have h := on17 a z x (by first | exact HPT.out.1 | exact HPT.out.2.2.1) (by first | exact HPT.out.2.1 | exact HPT.out.2.2.2) HPX.out (grow (redrawn wr dd) os); rw [HO1] at h; exact h)
                  go_upto_region 24 with fail
                  refine wp_region_quiet_below (by kernel_rfl) (by kernel_rfl) ?_
                  repeat (go_big_quiet_step (first | with_reducible exact O1 _ _))
                  refine wpQuiet_nil ?_
                  intro x1 hw'
                  have hbx : Below wr.heap.size wr x1 := by
                    obtain ⟨⟨dq, osq⟩, hw''⟩ := hw'
                    rw [hw'']
                    exact below_regrown wr dq osq
                  clear hw'
                  clear a0 a1 a2 a3 d0 d1 d2 d3 A0 A1 A2 A3 D0 D1 D2 D3 E0 E1 O1 e0 e1
                  go_wp2
                  go_roundw
                  case rel => exact ⟨j + 1, by omega, by go_num, fun y hy => HMO2.out y hy (by unfold bothB; rw [HO1]; simp), below_stepJ HBw.out hbx⟩
                  case measure => simp [intOf]; omega
                · have O1 : ∀ dd os, Calls Try.prog 17 #[pv a.x a.y, pv z.x z.y, pv x.x x.y] (grow (redrawn wr dd) os) fun e w'' => e = .returned (.bool true) ∧ ∃ p : Regrown, w'' = grow (redrawn wr p.d) p.os := fun dd os => Calls.regrown_of (by have h := on17 a z x (by first | exact HPT.out.1 | exact HPT.out.2.2.1) (by first | exact HPT.out.2.1 | exact HPT.out.2.2.2) HPX.out (grow (redrawn wr dd) os); rw [HO1] at h; exact h)
                  cases HO2 : hasB c d x
                  · have O2 : ∀ dd os, Calls Try.prog 17 #[pv c.x c.y, pv d.x d.y, pv x.x x.y] (grow (redrawn wr dd) os) fun e w'' => e = .returned (.bool false) ∧ ∃ p : Regrown, w'' = grow (redrawn wr p.d) p.os := fun dd os => Calls.regrown_of (by have h := on17 c d x (by first | exact HPT.out.1 | exact HPT.out.2.2.1) (by first | exact HPT.out.2.1 | exact HPT.out.2.2.2) HPX.out (grow (redrawn wr dd) os); rw [HO2] at h; exact h)
                    go_upto_region 24 with fail
                    refine wp_region_quiet_below (by kernel_rfl) (by kernel_rfl) ?_
                    repeat (go_big_quiet_step (first | with_reducible exact O1 _ _ | with_reducible exact O2 _ _))
                    refine wpQuiet_nil ?_
                    intro x1 hw'
                    have hbx : Below wr.heap.size wr x1 := by
                      obtain ⟨⟨dq, osq⟩, hw''⟩ := hw'
                      rw [hw'']
                      exact below_regrown wr dq osq
                    clear hw'
                    clear a0 a1 a2 a3 d0 d1 d2 d3 A0 A1 A2 A3 D0 D1 D2 D3 E0 E1 O1 O2 e0 e1
                    go_wp2
                    go_roundw
                    case rel => exact ⟨j + 1, by omega, by go_num, fun y hy => HMO2.out y hy (by unfold bothB; rw [HO2]; simp), below_stepJ HBw.out hbx⟩
                    case measure => simp [intOf]; omega
                  · have O2 : ∀ dd os, Calls Try.prog 17 #[pv c.x c.y, pv d.x d.y, pv x.x x.y] (grow (redrawn wr dd) os) fun e w'' => e = .returned (.bool true) ∧ ∃ p : Regrown, w'' = grow (redrawn wr p.d) p.os := fun dd os => Calls.regrown_of (by have h := on17 c d x (by first | exact HPT.out.1 | exact HPT.out.2.2.1) (by first | exact HPT.out.2.1 | exact HPT.out.2.2.2) HPX.out (grow (redrawn wr dd) os); rw [HO2] at h; exact h)
                    by_cases hxj : x ∈ js
                    · have O3 : ∀ dd os, Calls Try.prog 50 #[.slice pj js.length cj, pv x.x x.y] (grow (redrawn wr dd) os) fun e w'' => e = .returned (.bool true) ∧ ∃ p : Regrown, w'' = grow (redrawn wr p.d) p.os := fun dd os => Calls.regrown_of (by have h := has50 pj js cj x (grow (redrawn wr dd) os) hjl ((HJ2.out.later HBv.out).later (below_regrown wr dd os)); rw [decide_eq_true hxj] at h; exact h)
                      have HXJ := hide hxj
                      clear hxj
                      go_upto_region 24 with fail
                      refine wp_region_quiet_below (by kernel_rfl) (by kernel_rfl) ?_
                      repeat (go_big_quiet_step (first | with_reducible exact O1 _ _ | with_reducible exact O2 _ _ | with_reducible exact O3 _ _))
                      refine wpQuiet_nil ?_
                      intro x1 hw'
                      have hbx : Below wr.heap.size wr x1 := by
                        obtain ⟨⟨dq, osq⟩, hw''⟩ := hw'
                        rw [hw'']
                        exact below_regrown wr dq osq
                      clear hw'
                      clear a0 a1 a2 a3 d0 d1 d2 d3 A0 A1 A2 A3 D0 D1 D2 D3 E0 E1 O1 O2 O3 e0 e1
                      go_wp2
                      go_roundw
                      case rel => exact ⟨j + 1, by omega, by go_num, fun y hy => HMO2.out y hy (fun h => h.2 HXJ.out), below_stepJ HBw.out hbx⟩
                      case measure => simp [intOf]; omega
                    · have O3 : ∀ dd os, Calls Try.prog 50 #[.slice pj js.length cj, pv x.x x.y] (grow (redrawn wr dd) os) fun e w'' => e = .returned (.bool false) ∧ ∃ p : Regrown, w'' = grow (redrawn wr p.d) p.os := fun dd os => Calls.regrown_of (by have h := has50 pj js cj x (grow (redrawn wr dd) os) hjl ((HJ2.out.later HBv.out).later (below_regrown wr dd os)); rw [decide_eq_false hxj] at h; exact h)
                      have HXJ := hide hxj
                      clear hxj
                      go_upto_region 24 with fail
                      refine wp_region_quiet_below (by kernel_rfl) (by kernel_rfl) ?_
                      repeat (go_big_quiet_step (first | with_reducible exact O1 _ _ | with_reducible exact O2 _ _ | with_reducible exact O3 _ _))
                      refine wpQuiet_nil ?_
                      intro x1 hw'
                      have hbx : Below wr.heap.size wr x1 := by
                        obtain ⟨⟨dq, osq⟩, hw''⟩ := hw'
                        rw [hw'']
                        exact below_regrown wr dq osq
                      clear hw'
                      clear a0 a1 a2 a3 d0 d1 d2 d3 A0 A1 A2 A3 D0 D1 D2 D3 E0 E1 O1 O2 O3 e0 e1
                      go_wp2
                      go_ret
                      exact ⟨⟨true, rfl, fun _ => ⟨i, k, by rw [HN.out.1]; exact hi2, by rw [HN.out.2]; exact hk2, by rw [HBA.out]; exact Or.inr (Or.inr ⟨HM.out, x, by have h := nth_mem a z c d hj2; rw [HNX.out] at h; exact h, by unfold bothB; rw [HO1, HO2]; rfl, HXJ.out⟩)⟩, fun _ => rfl⟩, below_stepJ HB2.out (below_stepJ HBv.out hbx)⟩
              · have hj4 : j = 4 := by omega
                subst hj4
                go_wp2
                go_roundw
                case rel => exact ⟨k + 1, by omega, by go_num, HBv.out, fun y hy => by
                  by_cases e : y = k
                  · rw [e, HBA.out]; exact bey_two HM.out HX.out
                  · exact HK.out y (by omega)⟩
                case measure => simp [intOf]; omega
          · rw [HM.out] at HCM
            have CM : ∀ dd os, Calls Try.prog 12 #[pv a.x a.y, pv z.x z.y, pv c.x c.y, pv d.x d.y] (grow (redrawn wr dd) os) fun e w'' => e = .returned (.int .i64 3) ∧ ∃ p : Regrown, w'' = grow (redrawn wr p.d) p.os := fun dd os => Calls.regrown_of (HCM _)
            clear HCM
            go_upto_region 8 with fail
            refine wp_region_quiet_below (by kernel_rfl) (by kernel_rfl) ?_
            repeat (go_big_quiet_step (first | with_reducible exact CM _ _))
            refine wpQuiet_nil ?_
            intro x1 hw'
            have hbx : Below wr.heap.size wr x1 := by
              obtain ⟨⟨dq, osq⟩, hw''⟩ := hw'
              rw [hw'']
              exact below_regrown wr dq osq
            clear hw'
            have HBx := hide (below_stepJ HBv.out hbx)
            clear a0 a1 a2 a3 d0 d1 d2 d3 A0 A1 A2 A3 D0 D1 D2 D3 CM hbx
            go_wp2
            go_ret
            exact ⟨⟨true, rfl, fun _ => ⟨i, k, by rw [HN.out.1]; exact hi2, by rw [HN.out.2]; exact hk2, by rw [HBA.out]; exact Or.inl HM.out⟩, fun _ => rfl⟩, below_stepJ HB2.out HBx.out⟩
        · have hkn : k = nq := by omega
          have k1 : ¬ (k : Int) < nq := by omega
          rw [hkn] at HK
          clear hkn
          go_wp2
          go_roundw
          case rel => exact ⟨i + 1, by omega, by go_num, HBv.out, fun x y hx hy => by
            by_cases e : x = i
            · rw [e]; exact HK.out y hy
            · exact HG.out x y (by omega) hy⟩
          case measure => simp [intOf]; omega
    · have hin : i = np := by omega
      have i1 : ¬ (i : Int) < np := by omega
      rw [hin] at HG
      clear hin
      go_wp2
      go_ret
      exact ⟨⟨false, rfl, fun h => by (cases h), fun ⟨x, y, hx, hy, hb⟩ => absurd hb (HG.out x y (by rw [← HN.out.1]; exact hx) (by rw [← HN.out.2]; exact hy))⟩, below_stepJ HB2.out HBr.out⟩
end Go.Proofs.Ytgnojjbdioldbaa
