/- The document's Bare. -/
import Derived.Test.YtmmbbfmkhbengaaY1
import Derived.Test.YtmmbbfmkhbengaaQ3
namespace Go.Proofs.Ytmmbbfmkhbengaa
open Go.RowKit Go.Sort
open Go

theorem rep_par (es : List Pt) (i : Nat) : repB es i = parB es i := by
  unfold repB
  by_cases h : 0 < cntN es i (ord (at' es i))
  · rw [decide_eq_true h]
    obtain ⟨j, hj, he⟩ := (cntN_pos es i _).1 h
    exact (parB_yes hj he).symm
  · rw [decide_eq_false h]
    exact (parB_no (fun j hj he => h ((cntN_pos es i _).2 ⟨j, hj, he⟩))).symm
theorem bare_fine (es : List Pt) : errL (bareL es) es.length = 0 :=
  errN_zero _ fun j hj => chk_of (takeN_in (bareB es) es.length j hj) fun k hk => by
    have := takeN_rising (bareB es) es.length k j hk hj
    show iat (takeN (bareB es) es.length) k ≠ iat (takeN (bareB es) es.length) j
    omega
set_option maxRecDepth 100000 in
set_option maxHeartbeats 8000000 in
theorem bare40 (n : Int) (p : Option Addr) (es : List Pt) (cp : Nat) (w : World) (h : Has w p es) (hl : es.length ≤ 10000) : Calls Try.prog 40 #[nv n p es.length cp] w fun e w' => ∃ q c s, e = .returned (.tuple #[nv n q (bareL es).length c, s]) ∧ Owns w' w.heap.size (.slice q (bareL es).length c) (pick es (bareL es)) ∧ IOwns w' w.heap.size s (bareL es) ∧ Below w.heap.size w w' := by
  obtain ⟨W, hW, hb, a0, b0⟩ := two_nets w n p es.length cp
  have HH := hide (h.later hb)
  have HB := hide hb
  have HA := hide a0
  have HN := hide b0
  have hWs : W.heap.size = w.heap.size + 1 + 1 := by rw [hW]; simp
  have HWS := hide hWs
  clear h hb a0 b0 hWs
  go_enter Try.func40, Try.ntmps40
  go_wp2_with fail
  rw [← hW]
  clear hW
  obtain ⟨kb, hkb⟩ : ∃ kb, w.heap.size = kb := ⟨_, rfl⟩
  have HKB := hide hkb
  rw [hkb] at HA HN HWS ⊢
  clear hkb
  go_loopw [4, 5] (fun s t wr => ∃ i : Nat, i ≤ es.length ∧ t = .int .i64 i ∧ Hid (Below W.heap.size W wr) ∧ Hid (IOwns wr W.heap.size s (takeN (bareB es) i))) (fun _ t _ => es.length - (intOf t).toNat)
  case atStart => exact ⟨0, by omega, rfl, Below.refl _ _, IOwns.nil _ _⟩
  case round =>
    obtain ⟨i, hi, rfl, HBr, HO⟩ := hrel
    obtain ⟨q0, q1, _, _⟩ := HA.out.later HBr.out
    by_cases hlt : i < es.length
    · have i1 : (i : Int) < es.length := by omega
      have i2 : (0 : Int) ≤ i := by omega
      rcases HH.out.later HBr.out with hz | ⟨b, off, rfl, hL⟩
      · subst hz; simp at hlt
      obtain ⟨c0, c1⟩ := hL i hlt
      obtain ⟨p0, c, rfl, _, _, _⟩ := HO.out.form
      have hrl := takeN_length (bareB es) i
      have HST : Hid (takeN (bareB es) (i + 1) = if (!parB es i && !decide ((at' es i).x = (at' es i).y)) then takeN (bareB es) i ++ [(i : Int)] else takeN (bareB es) i) := by
        show _ = _
        simp only [takeN]
        unfold bareB
        rw [rep_par]
      obtain ⟨T, hT⟩ : ∃ T, takeN (bareB es) i = T := ⟨_, rfl⟩
      rw [hT] at HO HST hrl ⊢
      have PA : ∀ dd os, Calls Try.prog 60 #[nv n (some ⟨b, off, none⟩) es.length cp, .int .i64 i] (grow (redrawn wr dd) os) fun e w'' => e = .returned (.bool (parB es i)) ∧ ∃ p : Regrown, w'' = grow (redrawn wr p.d) p.os := fun dd os => Calls.regrown_of (par39 n (some ⟨b, off, none⟩) es cp i _ (HH.out.later (below_step HBr.out (below_regrown wr dd os))) hlt (by omega))
      obtain ⟨x, hx⟩ : ∃ x, (at' es i).x = x := ⟨_, rfl⟩
      obtain ⟨y, hy⟩ : ∃ y, (at' es i).y = y := ⟨_, rfl⟩
      obtain ⟨pb, hpb⟩ : ∃ pb, parB es i = pb := ⟨_, rfl⟩
      rw [hpb] at PA HST
      rw [hx] at c0 HST
      rw [hy] at c1 HST
      have C0 := cell_regrown c0
      have C1 := cell_regrown c1
      have Q0 := cell_regrown q0
      have Q1 := cell_regrown q1
      clear hT hL hx hy hpb
      by_cases hxy : x = y
      · have t1 : (x == y) = true := by simp [hxy]
        have t2 : (x != y) = false := by simp [hxy]
        go_upto_region 5 with fail
        refine wp_region_quiet_below (by kernel_rfl) (by kernel_rfl) ?_
        repeat (go_big_quiet_step (with_reducible exact PA _ _))
        refine wpQuiet_nil ?_
        intro X hw'
        have hb3 : Below wr.heap.size wr X := by
          obtain ⟨⟨dq, osq⟩, hw''⟩ := hw'
          rw [hw'']
          exact below_regrown wr dq osq
        have HBX := hide (below_step HBr.out hb3)
        have HOX := hide (HO.out.later hb3)
        clear hw' hb3 c0 c1 q0 q1 C0 C1 Q0 Q1 PA
        go_wp2
        go_roundw
        case rel => exact ⟨i + 1, by omega, by go_num, HBX.out, by show IOwns _ _ _ _; rw [HST.out, if_neg (by simp [hxy])]; exact HOX.out⟩
        case measure => simp [intOf]; omega
      · have t1 : (x == y) = false := by simp [hxy]
        have t2 : (x != y) = true := by simp [hxy]
        cases pb
        · go_upto_region 5 with fail
          refine wp_region_quiet_below (by kernel_rfl) (by kernel_rfl) ?_
          repeat (go_big_quiet_step (with_reducible exact PA _ _))
          refine wpQuiet_nil ?_
          intro X hw'
          have hb3 : Below wr.heap.size wr X := by
            obtain ⟨⟨dq, osq⟩, hw''⟩ := hw'
            rw [hw'']
            exact below_regrown wr dq osq
          have HBX := hide (below_step HBr.out hb3)
          have HOX := hide (HO.out.later hb3)
          clear hw' hb3 c0 c1 q0 q1 C0 C1 Q0 Q1 PA
          obtain ⟨v1, D, e1, o1, bD⟩ := push_int HOX.out (i : Int) HBX.out.size (by omega)
          obtain ⟨p1, c1, rfl, _, _, _⟩ := o1.form
          rw [show (T ++ [(i : Int)]).length = T.length + 1 by simp] at o1 e1
          have HOD := hide o1
          have HBD := hide (Below.trans HBX.out bD)
          clear o1 bD
          go_wp2_with (at_builtin; refine wpList_run_append rfl (.tmp 34) (.tmp 36) 25 rfl 25 rfl _ _ _ D rfl rfl e1 ?_)
          clear e1
          go_wp2
          go_roundw
          case rel => exact ⟨i + 1, by omega, by go_num, HBD.out, by show IOwns _ _ _ _; rw [HST.out, if_pos (by simp [hxy])]; exact HOD.out⟩
          case measure => simp [intOf]; omega
        · go_upto_region 5 with fail
          refine wp_region_quiet_below (by kernel_rfl) (by kernel_rfl) ?_
          repeat (go_big_quiet_step (with_reducible exact PA _ _))
          refine wpQuiet_nil ?_
          intro X hw'
          have hb3 : Below wr.heap.size wr X := by
            obtain ⟨⟨dq, osq⟩, hw''⟩ := hw'
            rw [hw'']
            exact below_regrown wr dq osq
          have HBX := hide (below_step HBr.out hb3)
          have HOX := hide (HO.out.later hb3)
          clear hw' hb3 c0 c1 q0 q1 C0 C1 Q0 Q1 PA
          go_wp2
          go_roundw
          case rel => exact ⟨i + 1, by omega, by go_num, HBX.out, by show IOwns _ _ _ _; rw [HST.out, if_neg (by simp)]; exact HOX.out⟩
          case measure => simp [intOf]; omega
    · have i1 : ¬ (i : Int) < es.length := by omega
      have hie : i = es.length := by omega
      subst hie
      have HTL := takeN_length (bareB es) es.length
      obtain ⟨p0, c, rfl, hIH, _, _⟩ := HO.out.form
      have SU := hide (sub50 n p p0 es (bareL es) cp c wr (by unfold bareL; omega) (bare_fine es) (takeN_in (bareB es) es.length) (HH.out.later HBr.out) hIH)
      have HBL : Hid (takeN (bareB es) es.length = bareL es) := rfl
      rw [HBL.out] at HO HTL ⊢
      obtain ⟨T, hT⟩ : ∃ T, bareL es = T := ⟨_, rfl⟩
      have HTE := hide hT
      rw [hT] at SU HO HTL ⊢
      clear hT HBL hIH
      go_wp2_with fail
      refine SU.out.mono ?_
      rintro e w2 ⟨q', c', rfl, ho2, hb2⟩
      have HB2 := hide (below_step HBr.out hb2)
      have HO2 := hide (HO.out.later hb2)
      have HOW := hide ho2
      have HN2 := hide (HN.out.later HB2.out)
      have hs2 := HB2.out.size
      have hsr := HBr.out.size
      have HSR := hide hsr
      obtain ⟨n0, n1, n2, n3⟩ := HN2.out
      have hk1 : kb + 1 < w2.heap.size := by have := HWS.out; omega
      have hk2 : kb + 1 ≠ w2.heap.size := by omega
      clear hb2 SU q0 q1 ho2
      go_wp2_with fail
      refine bodyPost_ret (ret_net Try.results40 rfl rfl ((HN2.out.set _ _ _ _).later (by go_grown))) rfl ⟨q', c', _, by rw [HTE.out], ?_, ?_, ?_⟩
      · rw [HTE.out]
        have hlt : kb + 1 < wr.heap.size := by have := HWS.out; have := HSR.out; omega
        have o2 := owns_other (owns_other HOW.out (k := kb + 1) (i := 0) hlt (.int .i64 n)) (k := kb + 1) (i := 1) hlt (.slice q' T.length c')
        exact (o2.later (by go_grown)).base (by have := HWS.out; have := HSR.out; have := HKB.out; omega)
      · rw [HTE.out]
        have hlt : kb + 1 < W.heap.size := by have := HWS.out; omega
        have o2 := iowns_other (iowns_other HO2.out (k := kb + 1) (i := 0) hlt (.int .i64 n)) (k := kb + 1) (i := 1) hlt (.slice q' T.length c')
        exact (o2.later (by go_grown)).base (by have := HWS.out; have := HKB.out; omega)
      · have := below_step HB.out HB2.out
        exact below_step ((this.setCell (p := ⟨kb + 1, 0, none⟩) (by have := HKB.out; simp; omega) _).setCell (p := ⟨kb + 1, 1, none⟩) (by have := HKB.out; simp; omega) _) (by go_grown)
end Go.Proofs.Ytmmbbfmkhbengaa
