/- The document's dual. -/
import Derived.Test.YtcgdmonejogbaaaF8
import Derived.Test.YtcgdmonejogbaaaU6
open List renaming getElem_toArray → lA, getElem_cons_zero → lB, getElem_cons_succ → lC, setIfInBounds_toArray → lD, set_cons_zero → lE, set_cons_succ → lF
namespace Go.Proofs.Ytcgdmonejogbaaa
open Go.RowKit Go.Sort
open Go
set_option maxRecDepth 100000 in
set_option maxHeartbeats 16000000 in
theorem rOf24 (n : Int) (p : Option Addr) (es : List Pt) (cp : Nat) (q : Option Addr) (rs : List (List Int)) (cq : Nat) (w : World) (hr : RHas w q rs) (h0 : rotI n es rs = 0) : Calls Try.prog 24 #[nv n p es.length cp, .slice q rs.length cq] w fun r w' => ((dualB es rs = true ∧ ∃ q' c g rv, r = .returned (.tuple #[nv (facesL es rs).length q' es.length c, .slice (some ⟨g, 0, none⟩) (facesL es rs).length (facesL es rs).length, .int .i64 0]) ∧ Owns w' w.heap.size (.slice q' es.length c) (dEs (ofL es rs) es.length) ∧ Rows w' w.heap.size g (facesL es rs).length rv (fun v => lat (facesL es rs) v)) ∨ (dualB es rs = false ∧ r = .returned (.tuple #[nv 0 none 0 0, .slice none 0 0, .int .i64 3]))) ∧ Below w.heap.size w w' := by
  obtain ⟨W, hW, hb0, a0, b0⟩ := two_nets w n p es.length cp
  obtain ⟨n0, n1, hes, _⟩ := netB_is (rot_is h0).1
  have FC := hide (faces45 n p es cp q rs cq W (hr.later hb0) h0)
  have HOF : Hid (∀ V, Below W.heap.size W V → Calls Try.prog 39 #[nv n p es.length cp, .slice q rs.length cq] V fun e w' => ∃ g, e = .returned (.slice (some ⟨g, 0, none⟩) (2 * es.length) (2 * es.length)) ∧ IRow w' V.heap.size g (2 * es.length) (ofL es rs) ∧ Below V.heap.size V w') := fun V hV => of46 n p es cp q rs cq V ((hr.later hb0).later hV) h0
  have hfl := facesL_le h0
  have HFL : Hid (∀ v, v < (facesL es rs).length → (lat (facesL es rs) v).length ≤ 6146) := fun v hv => by have := face_le es rs hv; omega
  have HWS : Hid (W.heap.size = w.heap.size + 2) := by show _ = _; rw [hW]; simp
  have HCF := hide (canon_faces (rot_is h0).2.2)
  have HB := hide hb0
  have HN := hide b0
  have HA := hide a0
  obtain ⟨q0, q1, _, _⟩ := a0
  have HDB : Hid (dualB es rs = netB (facesL es rs).length (dEs (ofL es rs) es.length)) := rfl
  obtain ⟨db, hdb⟩ : ∃ b, dualB es rs = b := ⟨_, rfl⟩
  obtain ⟨F, hF⟩ : ∃ F, facesL es rs = F := ⟨_, rfl⟩
  obtain ⟨O, hO⟩ : ∃ O, ofL es rs = O := ⟨_, rfl⟩
  have HOL : Hid (O.length = 2 * es.length) := by show _ = _; rw [← hO]; exact (edge_ok (rot_is h0).2.2).len
  rw [hdb, hF, hO]
  rw [hF] at FC hfl HCF HFL
  rw [hO] at HOF
  rw [hdb, hF, hO] at HDB
  clear hr hb0 b0 h0 hdb hF hO
  go_enter Try.func24, Try.ntmps24
  go_upto_region 1 with fail
  rw [← hW]
  clear hW
  go_wp2_with fail
  refine FC.out.mono ?_
  rintro r w1 ⟨p1, c1, rv, rfl, hfb, hb1⟩
  have HB1 := hide hb1
  have HF1 : Hid (FB w1 W.heap.size (.slice p1 F.length c1) F rv) := hfb
  have OF := hide (HOF.out w1 hb1)
  clear q0 q1 FC hfb
  obtain ⟨q0, q1, _, _⟩ := HA.out.later hb1
  clear hb1
  go_wp2_with fail
  refine OF.out.mono ?_
  rintro r w2 ⟨go, rfl, hrow, hb2⟩
  have HB2 := hide (below_step HB1.out hb2)
  have HO2 := hide hrow
  have HF2 := hide (HF1.out.later hb2)
  clear q0 q1 OF hrow hb2 HF1 HOF
  obtain ⟨q0, q1, _, _⟩ := HA.out.later HB2.out
  go_upto_region 4 with fail
  obtain ⟨kd, hkd⟩ : ∃ k, w2.heap.size = k := ⟨_, rfl⟩
  obtain ⟨U, hU⟩ : ∃ U, U = w2.alloc (nbx F.length none 0 0) := ⟨_, rfl⟩
  have hbU : Below w2.heap.size w2 U := by rw [hU]; go_grown
  have HKD : Hid (NOwn U kd F.length none 0 0) := by show NOwn _ _ _ _ _ _; rw [hU, ← hkd]; exact ⟨by go_cell, by go_cell, by simp [go_sem], by simp [go_sem]⟩
  have HUS : Hid (U.heap.size = kd + 1) := by show _ = _; rw [hU, ← hkd]; simp
  rw [← hU]
  try rw [hkd]
  rw [hkd] at hbU
  have HBU := hide hbU
  clear hU hbU q0 q1
  go_wp2_with fail
  go_loopw [10] (fun t10 wr => ∃ (k : Nat) (q' : Option Addr) (c : Nat), k ≤ es.length ∧ t10 = .int .i64 k ∧ Hid (Below kd w2 wr) ∧ Hid (NOwn wr kd F.length q' k c) ∧ Hid (Owns wr (kd + 1) (.slice q' k c) (dEs O k))) (fun t10 _ => es.length - (intOf t10).toNat)
  case atStart => exact ⟨0, none, 0, by omega, rfl, HBU.out, HKD.out, Owns.nil _ _⟩
  case round =>
    obtain ⟨k, q', c, hk, rfl, HBr, HKr, HOr⟩ := hrel
    have HBr2 : Hid (Below W.heap.size W wr) := below_step HB2.out (by rw [hkd]; exact HBr.out)
    obtain ⟨q0, q1, _, _⟩ := HA.out.later HBr2.out
    obtain ⟨u0, u1, u2, u3⟩ := HKr.out
    by_cases hlt : k < es.length
    · have j1 : (k : Int) < es.length := by omega
      obtain ⟨d0, _⟩ := (HO2.out.later (by rw [hkd]; exact HBr.out)).cell (j := 2 * k) (by omega)
      obtain ⟨d1, _⟩ := (HO2.out.later (by rw [hkd]; exact HBr.out)).cell (j := 2 * k + 1) (by omega)
      have HDM0 : dEs O (k + 1) = dEs O k ++ [⟨iat O (2 * k), iat O (2 * k + 1)⟩] := by unfold dEs; rw [List.range_succ, List.map_append]; rfl
      obtain ⟨x, hx⟩ : ∃ x, iat O (2 * k) = x := ⟨_, rfl⟩
      obtain ⟨y, hy⟩ : ∃ y, iat O (2 * k + 1) = y := ⟨_, rfl⟩
      rw [hx, hy] at HDM0
      have HDM := hide HDM0
      rw [hx] at d0
      rw [hy] at d1
      have HS : Hid (∀ V, Below kd w2 V → V.cell? ⟨go, 2 * k, none⟩ = some (.int .i64 x) ∧ V.cell? ⟨go, 2 * k + 1, none⟩ = some (.int .i64 y)) := fun V hV => by
        obtain ⟨d0, _⟩ := (HO2.out.later (by rw [hkd]; exact hV)).cell (j := 2 * k) (by omega)
        obtain ⟨d1, _⟩ := (HO2.out.later (by rw [hkd]; exact hV)).cell (j := 2 * k + 1) (by omega)
        rw [hx] at d0
        rw [hy] at d1
        exact ⟨by simpa using d0, by simpa using d1⟩
      have k1 : IntKind.i64.wrap (2 * (k : Int)) = ((2 * k : Nat) : Int) := by rw [IntKind.wrap_i64]; omega
      have k2 : IntKind.i64.wrap (2 * (k : Int) + 1) = ((2 * k + 1 : Nat) : Int) := by rw [IntKind.wrap_i64]; omega
      have k3' : (2 * (k : Int)) < 2 * es.length := by omega
      have k4 : (2 * (k : Int)) + 1 < 2 * es.length := by omega
      have k5 : (0 : Int) ≤ 2 * (k : Int) := by omega
      have k6 : (0 : Int) ≤ 2 * (k : Int) + 1 := by omega
      have k7 : (2 * (k : Int)).toNat = 2 * k := by omega
      have k8 : (2 * (k : Int) + 1).toNat = 2 * k + 1 := by omega
      go_upto_region 7 with fail
      clear q0 q1 u0 u1 u2 u3 d0 d1 hx hy HDM0
      obtain ⟨V0, hV0⟩ : ∃ V, V = wr.drew := ⟨_, rfl⟩
      have bd : Below wr.heap.size wr V0 := by rw [hV0]; exact below_drew _
      have HB0 : Hid (Below kd w2 V0) := HBr.out.trans (bd.mono (by have := HBr.out.size; omega))
      have HN0 := hide (HKr.out.later bd)
      have hks : kd + 1 ≤ V0.heap.size := Nat.lt_of_lt_of_le (block_lt_of_cell HKr.out.1) bd.size
      have o0 := HOr.out.later bd
      have hdl : (dEs O k).length = k := dEs_length O k
      obtain ⟨v', D, e1, o1, gr1, hbD⟩ := app1 o0 x y hks (by rw [hdl]; omega)
      obtain ⟨q2, c2, hv', _, _, _, _⟩ := o1.form
      rw [List.length_append, hdl] at hv'
      simp only [List.length_cons, List.length_nil, Nat.zero_add] at hv'
      subst hv'
      obtain ⟨V1, hV1⟩ : ∃ V, V = V0.alloc (.cells #[.int .i64 x, .int .i64 y] 64) := ⟨_, rfl⟩
      have b1 : Below V0.heap.size V0 V1 := by rw [hV1]; go_grown
      have HBV1 : Hid (Below kd w2 V1) := HB0.out.trans (b1.mono (by omega))
      have HBD : Hid (Below kd w2 D) := HB0.out.trans (hbD.mono (by omega))
      have HND := hide (nown_below HN0.out hbD (by omega))
      have HBK0 : Hid (V0.cell? ⟨kd, 1, none⟩ = some (.slice q' k c)) := HN0.out.2.1
      have HBK1 : Hid (V1.cell? ⟨kd, 1, none⟩ = some (.slice q' k c)) := later b1 HN0.out.2.1
      have HS1 := hide (HS.out V1 HBV1.out)
      have HS2 := hide (HS.out D HBD.out)
      have HV1 := hide hV1
      rw [← hV1] at e1
      have HE1 := hide e1
      have HO1 := hide o1
      obtain ⟨s0, s1⟩ := HS.out V0 HB0.out
      clear bd hks o0 hdl e1 o1 gr1 hbD hV1 b1
      refine wp_region_held_drew (S := (fun V => V.cell? ⟨go, 2 * k, none⟩ = some (.int .i64 x) ∧ V.cell? ⟨go, 2 * k + 1, none⟩ = some (.int .i64 y))) (by kernel_rfl) (by rw [← hV0]; exact ⟨s0, s1⟩) (fun hHeld => ?_)
      rw [← hV0] at hHeld ⊢
      clear hV0
      refine wpAnyH_take (i := 0) (v := ?v1) rfl (by kernel_rfl) (by kernel_rfl) (by kernel_rfl) (fun _ _ _ h => h) (Or.inl ⟨by rfl, ?hy1⟩) (by assumption) ?rest1
      case hy1 => (intro w hSw; (try dsimp only at hSw); go_simp; try with_reducible rfl)
      try simp only [Act.put, lA, lB, lD, lE, lF]
      refine wpAnyH_take (i := 2) (v := ?v2) rfl (by kernel_rfl) (by kernel_rfl) (by kernel_rfl) (fun _ _ _ h => h) (Or.inl ⟨by rfl, ?hy2⟩) (by assumption) ?rest2
      case hy2 => (intro w hSw; (try dsimp only at hSw); go_simp; try with_reducible rfl)
      try simp only [Act.put, lA, lB, lC, lD, lE, lF]
      refine wpAnyH_take (i := 3) (v := ?v3) rfl (by kernel_rfl) (by kernel_rfl) (by kernel_rfl) (fun _ _ _ h => h) (Or.inl ⟨by rfl, ?hy3⟩) (by assumption) ?rest3
      case hy3 => (intro w hSw; (try dsimp only at hSw); go_simp; try with_reducible rfl)
      try simp only [Act.put, lA, lB, lC, lD, lE, lF]
      refine wpAnyH_take (i := 4) (v := ?v4) rfl (by kernel_rfl) (by kernel_rfl) (by kernel_rfl) (fun _ _ _ h => h) (Or.inl ⟨by rfl, ?hy4⟩) (by assumption) ?rest4
      case hy4 => (intro w hSw; (try dsimp only at hSw); go_simp; try with_reducible rfl)
      try simp only [Act.put, lA, lB, lC, lD, lE, lF]
      refine wpAnyH_take (i := 5) (v := ?v5) rfl (by kernel_rfl) (by kernel_rfl) (by kernel_rfl) (fun _ _ _ h => h) (Or.inl ⟨by rfl, ?hy5⟩) (by assumption) ?rest5
      case hy5 => (intro w hSw; (try dsimp only at hSw); go_simp; try with_reducible rfl)
      try simp only [Act.put, lA, lB, lC, lD, lE, lF]
      refine wpAnyH_take (i := 6) (v := ?v6) rfl (by kernel_rfl) (by kernel_rfl) (by kernel_rfl) (fun _ _ _ h => h) (Or.inl ⟨by rfl, ?hy6⟩) (by assumption) ?rest6
      case hy6 => (intro w hSw; (try dsimp only at hSw); go_simp; try with_reducible rfl)
      try simp only [Act.put, lA, lB, lC, lD, lE, lF]
      refine wpAnyH_take (i := 7) (v := ?v7) rfl (by kernel_rfl) (by kernel_rfl) (by kernel_rfl) (fun _ _ _ h => h) (Or.inl ⟨by rfl, ?hy7⟩) (by assumption) ?rest7
      case hy7 => (intro w hSw; (try dsimp only at hSw); go_simp; try with_reducible rfl)
      try simp only [Act.put, lA, lB, lC, lD, lE, lF]
      refine wpAnyH_take (i := 8) (v := ?v8) rfl (by kernel_rfl) (by kernel_rfl) (by kernel_rfl) (fun _ _ _ h => h) (Or.inl ⟨by rfl, ?hy8⟩) (by assumption) ?rest8
      case hy8 => (intro w hSw; (try dsimp only at hSw); go_simp; try with_reducible rfl)
      try simp only [Act.put, lA, lB, lC, lD, lE, lF]
      refine wpAnyH_take (i := 9) (v := ?v9) rfl (by kernel_rfl) (by kernel_rfl) (by kernel_rfl) (fun _ _ _ h => h) (Or.inl ⟨by rfl, ?hy9⟩) (by assumption) ?rest9
      case hy9 => (intro w hSw; (try dsimp only at hSw); go_simp; try with_reducible rfl)
      try simp only [Act.put, lA, lB, lC, lD, lE, lF]
      refine wpAnyH_take (i := 10) (v := ?v10) rfl (by kernel_rfl) (by kernel_rfl) (by kernel_rfl) (fun _ _ _ h => h) (Or.inl ⟨by rfl, ?hy10⟩) (by assumption) ?rest10
      case hy10 => (intro w hSw; (try dsimp only at hSw); go_simp; try with_reducible rfl)
      try simp only [Act.put, lA, lB, lC, lD, lE, lF]
      refine wpAnyH_take (i := 11) (v := ?v11) rfl (by kernel_rfl) (by kernel_rfl) (by kernel_rfl) (fun _ _ _ h => h) (Or.inl ⟨by rfl, ?hy11⟩) (by assumption) ?rest11
      case hy11 => (intro w hSw; (try dsimp only at hSw); go_simp; try with_reducible rfl)
      try simp only [Act.put, lA, lB, lC, lD, lE, lF]
      refine wpAnyH_take (i := 12) (v := ?v12) rfl (by kernel_rfl) (by kernel_rfl) (by kernel_rfl) (fun _ _ _ h => h) (Or.inl ⟨by rfl, ?hy12⟩) (by assumption) ?rest12
      case hy12 => (intro w hSw; (try dsimp only at hSw); go_simp; try with_reducible rfl)
      try simp only [Act.put, lA, lB, lC, lD, lE, lF]
      refine wpAnyH_take (i := 13) (v := ?v13) rfl (by kernel_rfl) (by kernel_rfl) (by kernel_rfl) (fun _ _ _ h => h) (Or.inl ⟨by rfl, ?hy13⟩) (by assumption) ?rest13
      case hy13 => (intro w hSw; (try dsimp only at hSw); go_simp; try with_reducible rfl)
      try simp only [Act.put, lA, lB, lC, lD, lE, lF]
      refine wpAnyH_ready (rs := [1, 14]) (by kernel_rfl) (by simp) ?_
      refine AllReadyH.cons rfl (fun K hK => ?_) ?_
      · clear hHeld
        have z := HBK0.out
        go_simp
        clear z
        refine hK.out _ _ (by first | with_reducible exact ⟨s0, s1⟩ | (dsimp only; with_reducible exact ⟨s0, s1⟩)) (fun hHeld => ?_)
        clear hK K
        try simp only [Act.put, lA, lB, lC, lD, lE, lF]
        refine wpAnyH_ready (rs := [14]) (by kernel_rfl) (by simp) ?_
        refine AllReadyH.cons rfl (fun K hK => ?_) ?_
        · clear hHeld
          go_simp
          rw [← HV1.out]
          clear s0 s1
          obtain ⟨s0, s1⟩ := HS1.out
          refine hK.out _ _ (by first | with_reducible exact ⟨s0, s1⟩ | (dsimp only; with_reducible exact ⟨s0, s1⟩)) (fun hHeld => ?_)
          clear hK K
          try simp only [Act.put, lA, lB, lC, lD, lE, lF]
          refine wpAnyH_ready (rs := [15]) (by kernel_rfl) (by simp) ?_
          refine AllReadyH.cons rfl (fun K hK => ?_) ?_
          · clear hHeld
            refine step_run_append (by rfl) (.tmp 28) (.tmp 41) 22 (by rfl) 22 (by rfl) (.slice q' k c) (.slice (some ⟨V0.heap.size, 0, none⟩) 1 1) (.slice q2 (k + 1) c2) D (by rfl) (by rfl) ?_ ?_
            with_reducible exact HE1.out
            clear s0 s1
            obtain ⟨s0, s1⟩ := HS2.out
            refine hK.out _ _ (by first | with_reducible exact ⟨s0, s1⟩ | (dsimp only; with_reducible exact ⟨s0, s1⟩)) (fun hHeld => ?_)
            clear hK K
            try simp only [Act.put, lA, lB, lC, lD, lE, lF]
            refine wpAnyH_take (i := 16) (v := ?v14) rfl (by kernel_rfl) (by kernel_rfl) (by kernel_rfl) (fun _ _ _ h => h) (Or.inl ⟨by rfl, ?hy14⟩) (by assumption) ?rest14
            case hy14 => (intro w hSw; (try dsimp only at hSw); go_simp; try with_reducible rfl)
            try simp only [Act.put, lA, lB, lC, lD, lE, lF]
            refine wpAnyH_ready (rs := [17]) (by kernel_rfl) (by simp) ?_
            refine AllReadyH.cons rfl (fun K hK => ?_) ?_
            · clear hHeld
              have z := HND.out.2.1
              have z2 := HND.out.2.2.2
              go_simp
              clear z z2
              obtain ⟨E, hE⟩ : ∃ E, E = D.setCell ⟨kd, 1, none⟩ (.slice q2 (k + 1 : Nat) c2) := ⟨_, rfl⟩
              have HBE : Hid (Below kd w2 E) := by show Below _ _ _; rw [hE]; exact HBD.out.setCell (by simp) _
              have HKE : Hid (NOwn E kd F.length q2 (k + 1) c2) := by show NOwn _ _ _ _ _ _; rw [hE]; exact nown_set1 HND.out _ _ _
              have HOE : Hid (Owns E (kd + 1) (.slice q2 (k + 1) c2) (dEs O (k + 1))) := by show Owns _ _ _ _; rw [hE, HDM.out]; exact owns_other HO1.out (by omega) _
              rw [← hE]
              clear s0 s1 hE
              obtain ⟨s0, s1⟩ := HS.out _ HBE.out
              refine hK.out _ _ (by first | with_reducible exact ⟨s0, s1⟩ | (dsimp only; with_reducible exact ⟨s0, s1⟩)) (fun hHeld => ?_)
              clear hK K
              try simp only [Act.put, lA, lB, lC, lD, lE, lF]
              refine wpAnyH_done (by kernel_rfl) ?_ _
              clear hHeld
              clear s0 s1
              go_wp2_with fail
              go_roundw
              case rel => exact ⟨k + 1, q2, c2, by omega, by go_num, HBE.out, HKE.out, HOE.out⟩
              case measure => simp [intOf]; omega
            exact AllReadyH.nil
          exact AllReadyH.nil
        exact AllReadyH.nil
      refine AllReadyH.cons rfl (fun K hK => ?_) ?_
      · clear hHeld
        go_simp
        rw [← HV1.out]
        clear s0 s1
        obtain ⟨s0, s1⟩ := HS1.out
        refine hK.out _ _ (by first | with_reducible exact ⟨s0, s1⟩ | (dsimp only; with_reducible exact ⟨s0, s1⟩)) (fun hHeld => ?_)
        clear hK K
        try simp only [Act.put, lA, lB, lC, lD, lE, lF]
        refine wpAnyH_ready (rs := [1]) (by kernel_rfl) (by simp) ?_
        refine AllReadyH.cons rfl (fun K hK => ?_) ?_
        · clear hHeld
          have z := HBK1.out
          go_simp
          clear z
          refine hK.out _ _ (by first | with_reducible exact ⟨s0, s1⟩ | (dsimp only; with_reducible exact ⟨s0, s1⟩)) (fun hHeld => ?_)
          clear hK K
          try simp only [Act.put, lA, lB, lC, lD, lE, lF]
          refine wpAnyH_ready (rs := [15]) (by kernel_rfl) (by simp) ?_
          refine AllReadyH.cons rfl (fun K hK => ?_) ?_
          · clear hHeld
            refine step_run_append (by rfl) (.tmp 28) (.tmp 41) 22 (by rfl) 22 (by rfl) (.slice q' k c) (.slice (some ⟨V0.heap.size, 0, none⟩) 1 1) (.slice q2 (k + 1) c2) D (by rfl) (by rfl) ?_ ?_
            with_reducible exact HE1.out
            clear s0 s1
            obtain ⟨s0, s1⟩ := HS2.out
            refine hK.out _ _ (by first | with_reducible exact ⟨s0, s1⟩ | (dsimp only; with_reducible exact ⟨s0, s1⟩)) (fun hHeld => ?_)
            clear hK K
            try simp only [Act.put, lA, lB, lC, lD, lE, lF]
            refine wpAnyH_take (i := 16) (v := ?v15) rfl (by kernel_rfl) (by kernel_rfl) (by kernel_rfl) (fun _ _ _ h => h) (Or.inl ⟨by rfl, ?hy15⟩) (by assumption) ?rest15
            case hy15 => (intro w hSw; (try dsimp only at hSw); go_simp; try with_reducible rfl)
            try simp only [Act.put, lA, lB, lC, lD, lE, lF]
            refine wpAnyH_ready (rs := [17]) (by kernel_rfl) (by simp) ?_
            refine AllReadyH.cons rfl (fun K hK => ?_) ?_
            · clear hHeld
              have z := HND.out.2.1
              have z2 := HND.out.2.2.2
              go_simp
              clear z z2
              obtain ⟨E, hE⟩ : ∃ E, E = D.setCell ⟨kd, 1, none⟩ (.slice q2 (k + 1 : Nat) c2) := ⟨_, rfl⟩
              have HBE : Hid (Below kd w2 E) := by show Below _ _ _; rw [hE]; exact HBD.out.setCell (by simp) _
              have HKE : Hid (NOwn E kd F.length q2 (k + 1) c2) := by show NOwn _ _ _ _ _ _; rw [hE]; exact nown_set1 HND.out _ _ _
              have HOE : Hid (Owns E (kd + 1) (.slice q2 (k + 1) c2) (dEs O (k + 1))) := by show Owns _ _ _ _; rw [hE, HDM.out]; exact owns_other HO1.out (by omega) _
              rw [← hE]
              clear s0 s1 hE
              obtain ⟨s0, s1⟩ := HS.out _ HBE.out
              refine hK.out _ _ (by first | with_reducible exact ⟨s0, s1⟩ | (dsimp only; with_reducible exact ⟨s0, s1⟩)) (fun hHeld => ?_)
              clear hK K
              try simp only [Act.put, lA, lB, lC, lD, lE, lF]
              refine wpAnyH_done (by kernel_rfl) ?_ _
              clear hHeld
              clear s0 s1
              go_wp2_with fail
              go_roundw
              case rel => exact ⟨k + 1, q2, c2, by omega, by go_num, HBE.out, HKE.out, HOE.out⟩
              case measure => simp [intOf]; omega
            exact AllReadyH.nil
          exact AllReadyH.nil
        exact AllReadyH.nil
      exact AllReadyH.nil
    · have hke : k = es.length := by omega
      subst hke
      have j1 : ¬ (es.length : Int) < es.length := by omega
      have MY : Calls Try.prog 41 #[nv F.length q' es.length c] wr fun e w' => e = .returned (.bool db) ∧ Below wr.heap.size wr w' := by
        obtain ⟨p5, c5, h5, hs5, _⟩ := HOr.out.form
        injection h5 with h5a _ h5c
        subst h5a
        have := may12 F.length q' (dEs O es.length) c wr hs5
        rw [dEs_length, ← HDB.out] at this
        exact this
      have MY := hide MY
      have HFr : Hid (FB wr W.heap.size (.slice p1 F.length c1) F rv) := HF2.out.later (by rw [hkd]; exact HBr.out)
      clear hlt HF2
      go_wp2_with fail
      refine MY.out.mono ?_
      rintro r w5 ⟨rfl, hb5⟩
      have HB5 := hide (below_step HBr2.out hb5)
      have HN5 := hide (HN.out.later HB5.out)
      have HF5 := hide (HFr.out.later hb5)
      have HP5 := hide (HOr.out.later hb5)
      have HK5 := hide (HKr.out.later hb5)
      clear MY hb5 u0 u1 u2 u3 q0 q1 HOr HKr HFr
      obtain ⟨u0, u1, _, _⟩ := HK5.out
      obtain ⟨r0, r1, r2, r3⟩ := HN5.out
      cases db
      · go_wp2
        obtain ⟨V, hV⟩ : ∃ V, V = (w5.setCell ⟨w.heap.size + 1, 0, none⟩ (.int .i64 0)).setCell ⟨w.heap.size + 1, 1, none⟩ (.slice none 0 0) := ⟨_, rfl⟩
        have kV : NOwn V (w.heap.size + 1) 0 none 0 0 := by rw [hV]; exact HN5.out.set 0 none 0 0
        have bV : Below w.heap.size w V := by rw [hV]; exact ((below_step HB.out HB5.out).setCell (by simp) _).setCell (by simp) _
        rw [← hV]
        exact bodyPost_ret (ret_net3 Try.results24 rfl rfl rfl kV) rfl ⟨rfl, bV⟩
      · have CN : Hid (∀ V, Below w5.heap.size w5 V → Calls Try.prog 63 #[.slice p1 F.length c1] V fun e w' => ∃ g rv, e = .returned (.slice (some ⟨g, 0, none⟩) F.length F.length) ∧ Rows w' V.heap.size g F.length rv (fun v => lat F v) ∧ Below V.heap.size V w') := fun V hV => by
          refine (canon49 p1 F c1 V ((HF5.out.later hV).has fun v hv => by have := HFL.out v hv; unfold maxLen; omega) (by omega) (fun v hv => by have := HFL.out v hv; omega)).mono ?_
          rintro e w' ⟨g, rv, e1, hR, hb⟩
          refine ⟨g, rv, e1, hR.congr fun v hv => ?_, hb⟩
          have := lat_canon (rs := F) hv
          rw [HCF.out] at this
          exact this.symm
        have HKD2 : Hid (W.heap.size ≤ kd) := by show _ ≤ _; rw [← hkd]; exact HB2.out.size
        clear u0 u1 r0 r1 r2 r3
        go_upto_region 10 with fail
        obtain ⟨V0, hV0⟩ : ∃ V, V = w5.drew := ⟨_, rfl⟩
        have HBV : Hid (Below w5.heap.size w5 V0) := by show Below _ _ _; rw [hV0]; exact below_drew _
        obtain ⟨s0, s1, _, _⟩ := HK5.out.later HBV.out
        refine wp_region_held_drew (S := (fun V => V.cell? ⟨kd, 0, none⟩ = some (.int .i64 F.length) ∧ V.cell? ⟨kd, 1, none⟩ = some (.slice q' es.length c))) (by kernel_rfl) (by rw [← hV0]; exact ⟨s0, s1⟩) (fun hHeld => ?_)
        rw [← hV0] at hHeld ⊢
        clear hV0
        refine wpAnyH_take (i := 0) (v := ?v101) rfl (by kernel_rfl) (by kernel_rfl) (by kernel_rfl) (fun _ _ _ h => h) (Or.inl ⟨by rfl, ?hy101⟩) (by assumption) ?rest101
        case hy101 => (intro w hSw; (try dsimp only at hSw); go_simp; try with_reducible rfl)
        try simp only [Act.put, lA, lB, lD, lE, lF]
        refine wpAnyH_take (i := 1) (v := ?v102) rfl (by kernel_rfl) (by kernel_rfl) (by kernel_rfl) (fun _ _ _ h => h) (Or.inl ⟨by rfl, ?hy102⟩) (by assumption) ?rest102
        case hy102 => (intro w hSw; (try dsimp only at hSw); go_simp; try with_reducible rfl)
        try simp only [Act.put, lA, lB, lC, lD, lE, lF]
        refine wpAnyH_ready (rs := [2]) (by kernel_rfl) (by simp) ?_
        refine AllReadyH.cons rfl (fun K hK => ?_) ?_
        · clear hHeld
          go_simp
          refine (CN.out _ HBV.out).mono ?_
          rintro e w6 ⟨g6, rv6, rfl, hR6, hb6⟩
          have HB6 := hide (below_step HBV.out hb6)
          have HR6 : Hid (Rows w6 w5.heap.size g6 F.length rv6 (fun v => lat F v)) := hR6.base HBV.out.size
          have HN6 := hide (HN5.out.later HB6.out)
          have HK6 := hide (HK5.out.later HB6.out)
          have HP6 := hide (HP5.out.later HB6.out)
          clear hb6 hR6 s0 s1
          obtain ⟨s0, s1, _, _⟩ := HK6.out
          refine hK.out _ _ (by first | with_reducible exact ⟨s0, s1⟩ | (dsimp only; with_reducible exact ⟨s0, s1⟩)) (fun hHeld => ?_)
          clear hK K
          try simp only [Act.put, lA, lB, lC, lD, lE, lF]
          refine wpAnyH_ready (rs := [3]) (by kernel_rfl) (by simp) ?_
          refine AllReadyH.cons rfl (fun K hK => ?_) ?_
          · clear hHeld
            obtain ⟨r0, r1, r2, r3⟩ := HN6.out
            go_simp
            clear r0 r1 r2 r3
            obtain ⟨V, hV⟩ : ∃ V, V = (w6.setCell ⟨w.heap.size + 1, 0, none⟩ (.int .i64 F.length)).setCell ⟨w.heap.size + 1, 1, none⟩ (.slice q' es.length c) := ⟨_, rfl⟩
            have hs := HWS.out
            have hs5 := HB5.out.size
            have hkw := HKD2.out
            have kV : NOwn V (w.heap.size + 1) F.length q' es.length c := by rw [hV]; exact HN6.out.set _ _ _ _
            have bV : Below w.heap.size w V := by rw [hV]; exact ((below_step HB.out (below_step HB5.out HB6.out)).setCell (by simp) _).setCell (by simp) _
            have oV : Owns V w.heap.size (.slice q' es.length c) (dEs O es.length) := by rw [hV]; exact (owns_other (owns_other HP6.out (by omega) _) (by omega) _).base (by omega)
            have rV : Rows V w.heap.size g6 F.length rv6 (fun v => lat F v) := by rw [hV]; exact ((HR6.out.other (by omega) _).other (by omega) _).base (by omega)
            have sV : V.cell? ⟨kd, 0, none⟩ = some (.int .i64 F.length) ∧ V.cell? ⟨kd, 1, none⟩ = some (.slice q' es.length c) := by rw [hV]; exact ⟨other3 s0 (show kd ≠ w.heap.size + 1 by omega), other3 s1 (show kd ≠ w.heap.size + 1 by omega)⟩
            rw [← hV]
            clear hV s0 s1
            obtain ⟨s0, s1⟩ := sV
            refine hK.out _ _ (by first | with_reducible exact ⟨s0, s1⟩ | (dsimp only; with_reducible exact ⟨s0, s1⟩)) (fun hHeld => ?_)
            clear hK K
            try simp only [Act.put, lA, lB, lC, lD, lE, lF]
            refine wpAnyH_take (i := 4) (v := ?v103) rfl (by kernel_rfl) (by kernel_rfl) (by kernel_rfl) (fun _ _ _ h => h) (Or.inl ⟨by rfl, ?hy103⟩) (by assumption) ?rest103
            case hy103 => (intro w hSw; (try dsimp only at hSw); go_simp; try with_reducible rfl)
            try simp only [Act.put, lA, lB, lC, lD, lE, lF]
            refine wpAnyH_take (i := 5) (v := ?v104) rfl (by kernel_rfl) (by kernel_rfl) (by kernel_rfl) (fun _ _ _ h => h) (Or.inl ⟨by rfl, ?hy104⟩) (by assumption) ?rest104
            case hy104 => (intro w hSw; (try dsimp only at hSw); go_simp; try with_reducible rfl)
            try simp only [Act.put, lA, lB, lC, lD, lE, lF]
            refine wpAnyH_done (by kernel_rfl) ?_ _
            clear hHeld
            go_wp2_with fail
            first | exact bodyPost_ret (ret_net3 Try.results24 rfl rfl rfl kV) rfl ⟨⟨q', c, g6, rfl, oV, rv6, rV⟩, bV⟩ | exact bodyPost_ret (ret_net3 Try.results24 rfl rfl rfl kV) rfl ⟨⟨q', c, g6, rv6, rfl, oV, rV⟩, bV⟩
          exact AllReadyH.nil
        exact AllReadyH.nil
end Go.Proofs.Ytcgdmonejogbaaa
