/- Mark. -/
import Derived.Test.YtgfiofogcnnkhaaGO
namespace Go.Proofs.Ytgfiofogcnnkhaa
open Go.RowKit Go.Sort
open Go

theorem cell_off {U : World} {g i j : Nat} {b v : Value} (h : U.cell? ⟨g, i, none⟩ = some v) (hne : i ≠ j) : (U.setCell ⟨g, j, none⟩ b).cell? ⟨g, i, none⟩ = some v := by
  have n2 : (⟨g, j, none⟩ : Addr) ≠ ⟨g, i, none⟩ := fun e => hne (by injection e with e1 e2; exact e2.symm)
  rw [World.cell?_setCell_other _ _ _ _ n2]; exact h
def mrkG (G : Gr) : Gr := if 64 ≤ G.ms.length then G else { G with lm := G.lm + 1, ms := G.ms ++ [(G.lm + 1, G.dn.length)] }
def mrkV (G : Gr) : Int := if 64 ≤ G.ms.length then 0 else G.lm + 1
set_option maxRecDepth 100000 in
set_option maxHeartbeats 8000000 in
theorem mark21 (b : Nat) (s : GV) (G : Gr) (w : World) (h : GAt w b s G) (hm : G.ms.length ≤ 64) (h0 : 0 ≤ G.lm) (h1 : G.lm ≤ 1000000000) : Calls Try.prog 21 #[ptr b] w (Turns w b s (.int .i64 (mrkV G)) (mrkG G)) := by
  have A := none50 b s G w h
  obtain ⟨pn, cn, pe, ce, pm, cm, pd, cd, _, hs, _⟩ := h.form
  have q5 : w.cell? ⟨b, 5, none⟩ = some (.slice pm G.ms.length cm) := by have := h.cells.2.2.2.2.2.1; rw [hs] at this; exact this
  have H := hide h
  by_cases hf : 64 ≤ G.ms.length
  · have e1 : mrkG G = G := if_pos hf
    have e2 : mrkV G = 0 := if_pos hf
    rw [e1, e2]
    clear e1 e2 h hs
    have hf' : (64 : Int) ≤ G.ms.length := by omega
    go_enter Try.func21, Try.ntmps21
    go_wp2_with (go_at_call 50; refine A.mono ?_; rintro e w' ⟨rfl, hw⟩; have hw2 := hw.symm; subst hw2)
    go_ret
    exact ⟨rfl, s, H.out, GFr.of_below (Below.refl _ _)⟩
  · have e1 : mrkG G = { G with lm := G.lm + 1, ms := G.ms ++ [(G.lm + 1, G.dn.length)] } := if_neg hf
    have e2 : mrkV G = G.lm + 1 := if_neg hf
    rw [e1, e2]
    clear e1 e2
    have hf' : ¬ (64 : Int) ≤ G.ms.length := by omega
    have q6 := h.cells.2.2.2.2.2.2.1
    have f6 := h.free 6
    obtain ⟨g1, r1⟩ := h.setC 6 (.int .i64 (G.lm + 1)) { G with lm := G.lm + 1 } rfl rfl rfl rfl rfl
    obtain ⟨W, hW⟩ : ∃ W, W = w.setCell ⟨b, 6, none⟩ (.int .i64 (G.lm + 1)) := ⟨_, rfl⟩
    rw [← hW] at g1 r1
    have HG1 := hide g1
    have HR1 := hide r1
    have HS : Hid (∀ V, Below W.heap.size W V → V.cell? ⟨b, 6, none⟩ = some (.int .i64 (G.lm + 1)) ∧ V.cell? ⟨b, 7, none⟩ = some (.slice pd G.dn.length cd) ∧ V.cell? ⟨b, 5, none⟩ = some (.slice pm G.ms.length cm)) := fun V hV => by
      obtain ⟨_, _, _, _, _, k5, k6, k7⟩ := (HG1.out.later hV).cells
      rw [hs] at k5 k7
      exact ⟨k6, k7, k5⟩
    have APP : Hid (∀ V kb, Below W.heap.size W V → V.heap[kb]? = some (.cells #[.int .i64 (G.lm + 1), .int .i64 G.dn.length] 89 (0, 0)) → ∃ p l c D, (Builtin.append_ #[78, 78] 78 #[.slice pm G.ms.length cm, .slice (some ⟨kb, 0, none⟩) 1 1]).run Try.prog V = .ok (.slice p l c) D ∧ (D.cell? ⟨b, 6, none⟩ = some (.int .i64 (G.lm + 1)) ∧ D.cell? ⟨b, 7, none⟩ = some (.slice pd G.dn.length cd)) ∧ D.cell? ⟨b, 5, none⟩ = some (.slice pm G.ms.length cm) ∧ D.frozen? ⟨b, 5, none⟩ = false ∧ GAt (D.setCell ⟨b, 5, none⟩ (.slice p l c)) b { s with vm := .slice p l c } { G with lm := G.lm + 1, ms := G.ms ++ [(G.lm + 1, G.dn.length)] } ∧ GFr w (D.setCell ⟨b, 5, none⟩ (.slice p l c)) b s { s with vm := .slice p l c }) := fun V kb hV hk => by
      have hg := HG1.out.later hV
      obtain ⟨p, l, c, D, e1, hf, g1, r1⟩ := hg.appM kb (G.lm + 1, G.dn.length) hk (show G.ms.length ≤ 5000 by omega)
      obtain ⟨t0, t1, t2⟩ := HS.out V hV
      have hne := hg.ne.2.2.1
      refine ⟨p, l, c, D, by rw [hs] at e1; exact e1, ⟨hf.cell t0 hne, hf.cell t1 hne⟩, hf.cell t2 hne, by rw [World.frozen?_of_block (hf.block b hg.lt hne)]; exact hg.free 5, g1, (HR1.out.trans (GFr.of_below hV)).trans r1⟩
    have HSS := hide hs
    clear h hs g1 r1
    go_enter Try.func21, Try.ntmps21
    go_upto_region 4 with (go_at_call 50; refine A.mono ?_; rintro e w' ⟨rfl, hw⟩; have hw2 := hw.symm; subst hw2)
    rw [← hW]
    obtain ⟨q0, q1, q2⟩ := HS.out _ (Below.refl _ _)
    clear hW q5 q6 f6 A q2
    refine wp_region_held_drew (S := (fun V => V.cell? ⟨b, 6, none⟩ = some (.int .i64 (G.lm + 1)) ∧ V.cell? ⟨b, 7, none⟩ = some (.slice pd G.dn.length cd))) (by kernel_rfl) (by exact ⟨q0, q1⟩) (fun hHeld => ?_)
    obtain ⟨V0, hV0⟩ : ∃ V, V = W.drew := ⟨_, rfl⟩
    have HB0 : Hid (Below W.heap.size W V0) := by show Below _ _ _; rw [hV0]; exact below_drew _
    rw [← hV0] at hHeld ⊢
    clear hV0 q0 q1
    obtain ⟨q0, q1, q2⟩ := HS.out _ HB0.out
    refine wpAnyH_take (i := 0) (v := ?v1) rfl (by kernel_rfl) (by kernel_rfl) (by kernel_rfl) (fun _ _ _ h => h) (Or.inl ⟨by rfl, ?hy1⟩) (by assumption) ?rest1
    case hy1 => (intro w hSw; (try dsimp only at hSw); go_simp; try with_reducible rfl)
    try simp only [Act.put, List.setIfInBounds_toArray]
    refine wpAnyH_take (i := 1) (v := ?v2) rfl (by kernel_rfl) (by kernel_rfl) (by kernel_rfl) (fun _ _ _ h => h) (Or.inl ⟨by rfl, ?hy2⟩) (by assumption) ?rest2
    case hy2 => (intro w hSw; (try dsimp only at hSw); go_simp; try with_reducible rfl)
    try simp only [Act.put]
    refine wpAnyH_take (i := 2) (v := ?v3) rfl (by kernel_rfl) (by kernel_rfl) (by kernel_rfl) (fun _ _ _ h => h) (Or.inl ⟨by rfl, ?hy3⟩) (by assumption) ?rest3
    case hy3 => (intro w hSw; (try dsimp only at hSw); go_simp; try with_reducible rfl)
    try simp only [Act.put]
    refine wpAnyH_take (i := 3) (v := ?v4) rfl (by kernel_rfl) (by kernel_rfl) (by kernel_rfl) (fun _ _ _ h => h) (Or.inl ⟨by rfl, ?hy4⟩) (by assumption) ?rest4
    case hy4 => (intro w hSw; (try dsimp only at hSw); go_simp; try with_reducible rfl)
    try simp only [Act.put]
    refine wpAnyH_take (i := 5) (v := ?v5) rfl (by kernel_rfl) (by kernel_rfl) (by kernel_rfl) (fun _ _ _ h => h) (Or.inl ⟨by rfl, ?hy5⟩) (by assumption) ?rest5
    case hy5 => (intro w hSw; (try dsimp only at hSw); go_simp; try with_reducible rfl)
    try simp only [Act.put]
    refine wpAnyH_take (i := 6) (v := ?v6) rfl (by kernel_rfl) (by kernel_rfl) (by kernel_rfl) (fun _ _ _ h => h) (Or.inl ⟨by rfl, ?hy6⟩) (by assumption) ?rest6
    case hy6 => (intro w hSw; (try dsimp only at hSw); go_simp; try with_reducible rfl)
    try simp only [Act.put]
    refine wpAnyH_take (i := 7) (v := ?v7) rfl (by kernel_rfl) (by kernel_rfl) (by kernel_rfl) (fun _ _ _ h => h) (Or.inl ⟨by rfl, ?hy7⟩) (by assumption) ?rest7
    case hy7 => (intro w hSw; (try dsimp only at hSw); go_simp; try with_reducible rfl)
    try simp only [Act.put]
    refine wpAnyH_take (i := 8) (v := ?v8) rfl (by kernel_rfl) (by kernel_rfl) (by kernel_rfl) (fun _ _ _ h => h) (Or.inl ⟨by rfl, ?hy8⟩) (by assumption) ?rest8
    case hy8 => (intro w hSw; (try dsimp only at hSw); go_simp; try with_reducible rfl)
    try simp only [Act.put]
    refine wpAnyH_take (i := 9) (v := ?v9) rfl (by kernel_rfl) (by kernel_rfl) (by kernel_rfl) (fun _ _ _ h => h) (Or.inl ⟨by rfl, ?hy9⟩) (by assumption) ?rest9
    case hy9 => (intro w hSw; (try dsimp only at hSw); go_simp; try with_reducible rfl)
    try simp only [Act.put]
    refine wpAnyH_take (i := 10) (v := ?v10) rfl (by kernel_rfl) (by kernel_rfl) (by kernel_rfl) (fun _ _ _ h => h) (Or.inl ⟨by rfl, ?hy10⟩) (by assumption) ?rest10
    case hy10 => (intro w hSw; (try dsimp only at hSw); go_simp; try with_reducible rfl)
    try simp only [Act.put]
    refine wpAnyH_take (i := 11) (v := ?v11) rfl (by kernel_rfl) (by kernel_rfl) (by kernel_rfl) (fun _ _ _ h => h) (Or.inl ⟨by rfl, ?hy11⟩) (by assumption) ?rest11
    case hy11 => (intro w hSw; (try dsimp only at hSw); go_simp; try with_reducible rfl)
    try simp only [Act.put]
    refine wpAnyH_take (i := 12) (v := ?v12) rfl (by kernel_rfl) (by kernel_rfl) (by kernel_rfl) (fun _ _ _ h => h) (Or.inl ⟨by rfl, ?hy12⟩) (by assumption) ?rest12
    case hy12 => (intro w hSw; (try dsimp only at hSw); go_simp; try with_reducible rfl)
    try simp only [Act.put]
    refine wpAnyH_take (i := 13) (v := ?v13) rfl (by kernel_rfl) (by kernel_rfl) (by kernel_rfl) (fun _ _ _ h => h) (Or.inl ⟨by rfl, ?hy13⟩) (by assumption) ?rest13
    case hy13 => (intro w hSw; (try dsimp only at hSw); go_simp; try with_reducible rfl)
    try simp only [Act.put]
    refine wpAnyH_take (i := 14) (v := ?v14) rfl (by kernel_rfl) (by kernel_rfl) (by kernel_rfl) (fun _ _ _ h => h) (Or.inl ⟨by rfl, ?hy14⟩) (by assumption) ?rest14
    case hy14 => (intro w hSw; (try dsimp only at hSw); go_simp; try with_reducible rfl)
    try simp only [Act.put]
    refine wpAnyH_ready (rs := [4, 15]) (by kernel_rfl) (by simp) ?_
    refine AllReadyH.cons rfl (fun K hK => ?_) ?_
    · clear hHeld
      go_simp
      refine hK.out _ _ (by first | with_reducible exact ⟨q0, q1⟩ | (dsimp only; with_reducible exact ⟨q0, q1⟩) | exact ⟨cell_off q0 (by decide), cell_off q1 (by decide)⟩) (fun hHeld => ?_)
      clear hK K
      try simp only [Act.put, List.setIfInBounds_toArray, List.set_cons_zero, List.set_cons_succ]
      refine wpAnyH_ready (rs := [15]) (by kernel_rfl) (by simp) ?_
      refine AllReadyH.cons rfl (fun K hK => ?_) ?_
      · clear hHeld
        go_simp
        obtain ⟨V1, hV⟩ : ∃ V, V = V0.alloc (.cells #[.int .i64 (G.lm + 1), .int .i64 G.dn.length] 89) := ⟨_, rfl⟩
        obtain ⟨kb, hkb⟩ : ∃ k, V0.heap.size = k := ⟨_, rfl⟩
        have hb2 : Below V0.heap.size V0 V1 := by rw [hV]; go_grown
        have HL1 : Hid (V1.heap[kb]? = some (.cells #[.int .i64 (G.lm + 1), .int .i64 G.dn.length] 89 (0, 0))) := by show _ = _; rw [hV, ← hkb]; exact heap_alloc_new V0 _
        rw [← hV, hkb]
        have HB1 := hide (below_step HB0.out hb2)
        clear hV hb2 hkb q0 q1 q2
        obtain ⟨q0, q1, q2⟩ := HS.out _ HB1.out
        refine hK.out _ _ (by first | with_reducible exact ⟨q0, q1⟩ | (dsimp only; with_reducible exact ⟨q0, q1⟩) | exact ⟨cell_off q0 (by decide), cell_off q1 (by decide)⟩) (fun hHeld => ?_)
        clear hK K
        try simp only [Act.put, List.setIfInBounds_toArray, List.set_cons_zero, List.set_cons_succ]
        refine wpAnyH_ready (rs := [16]) (by kernel_rfl) (by simp) ?_
        refine AllReadyH.cons rfl (fun K hK => ?_) ?_
        · clear hHeld
          obtain ⟨p1, l1, c1, V2, e4, s3, x3, y3, g3, r3⟩ := APP.out V1 kb HB1.out HL1.out
          have HG := hide g3
          have HR := hide r3
          clear q0 q1 q2
          obtain ⟨q0, q1⟩ := s3
          refine step_run_append (by rfl) (.tmp 24) (.tmp 35) 78 (by rfl) 78 (by rfl) (.slice pm G.ms.length cm) (.slice (some ⟨kb, 0, none⟩) 1 1) (.slice p1 l1 c1) V2 (by rfl) (by rfl) ?_ ?_
          with_reducible exact e4
          clear g3 r3 e4
          refine hK.out _ _ (by first | with_reducible exact ⟨q0, q1⟩ | (dsimp only; with_reducible exact ⟨q0, q1⟩) | exact ⟨cell_off q0 (by decide), cell_off q1 (by decide)⟩) (fun hHeld => ?_)
          clear hK K
          try simp only [Act.put, List.setIfInBounds_toArray]
          refine wpAnyH_take (i := 17) (v := ?v15) rfl (by kernel_rfl) (by kernel_rfl) (by kernel_rfl) (fun _ _ _ h => h) (Or.inl ⟨by rfl, ?hy15⟩) (by assumption) ?rest15
          case hy15 => (intro w hSw; (try dsimp only at hSw); go_simp; try with_reducible rfl)
          try simp only [Act.put]
          refine wpAnyH_take (i := 18) (v := ?v16) rfl (by kernel_rfl) (by kernel_rfl) (by kernel_rfl) (fun _ _ _ h => h) (Or.inl ⟨by rfl, ?hy16⟩) (by assumption) ?rest16
          case hy16 => (intro w hSw; (try dsimp only at hSw); go_simp; try with_reducible rfl)
          try simp only [Act.put]
          refine wpAnyH_ready (rs := [19]) (by kernel_rfl) (by simp) ?_
          refine AllReadyH.cons rfl (fun K hK => ?_) ?_
          · clear hHeld
            go_simp
            clear x3 y3
            refine hK.out _ _ (by first | with_reducible exact ⟨q0, q1⟩ | (dsimp only; with_reducible exact ⟨q0, q1⟩) | exact ⟨cell_off q0 (by decide), cell_off q1 (by decide)⟩) (fun hHeld => ?_)
            clear hK K
            try simp only [Act.put, List.setIfInBounds_toArray, List.set_cons_zero, List.set_cons_succ]
            refine wpAnyH_done (by kernel_rfl) ?_ _
            clear hHeld
            obtain ⟨Y, hY⟩ : ∃ W, W = V2.setCell ⟨b, 5, none⟩ (.slice p1 l1 c1) := ⟨_, rfl⟩
            rw [← hY] at HG HR
            rw [← hY]
            have k6 : Y.cell? ⟨b, 6, none⟩ = some (.int .i64 (G.lm + 1)) := HG.out.cells.2.2.2.2.2.2.1
            clear hY q0 q1
            go_wp2
            go_ret
            exact ⟨rfl, _, HG.out, HR.out⟩
          exact AllReadyH.nil
        exact AllReadyH.nil
      exact AllReadyH.nil
    refine AllReadyH.cons rfl (fun K hK => ?_) ?_
    · clear hHeld
      go_simp
      obtain ⟨V1, hV⟩ : ∃ V, V = V0.alloc (.cells #[.int .i64 (G.lm + 1), .int .i64 G.dn.length] 89) := ⟨_, rfl⟩
      obtain ⟨kb, hkb⟩ : ∃ k, V0.heap.size = k := ⟨_, rfl⟩
      have hb2 : Below V0.heap.size V0 V1 := by rw [hV]; go_grown
      have HL1 : Hid (V1.heap[kb]? = some (.cells #[.int .i64 (G.lm + 1), .int .i64 G.dn.length] 89 (0, 0))) := by show _ = _; rw [hV, ← hkb]; exact heap_alloc_new V0 _
      rw [← hV, hkb]
      have HB1 := hide (below_step HB0.out hb2)
      clear hV hb2 hkb q0 q1 q2
      obtain ⟨q0, q1, q2⟩ := HS.out _ HB1.out
      refine hK.out _ _ (by first | with_reducible exact ⟨q0, q1⟩ | (dsimp only; with_reducible exact ⟨q0, q1⟩) | exact ⟨cell_off q0 (by decide), cell_off q1 (by decide)⟩) (fun hHeld => ?_)
      clear hK K
      try simp only [Act.put, List.setIfInBounds_toArray, List.set_cons_zero, List.set_cons_succ]
      refine wpAnyH_ready (rs := [4]) (by kernel_rfl) (by simp) ?_
      refine AllReadyH.cons rfl (fun K hK => ?_) ?_
      · clear hHeld
        go_simp
        refine hK.out _ _ (by first | with_reducible exact ⟨q0, q1⟩ | (dsimp only; with_reducible exact ⟨q0, q1⟩) | exact ⟨cell_off q0 (by decide), cell_off q1 (by decide)⟩) (fun hHeld => ?_)
        clear hK K
        try simp only [Act.put, List.setIfInBounds_toArray, List.set_cons_zero, List.set_cons_succ]
        refine wpAnyH_ready (rs := [16]) (by kernel_rfl) (by simp) ?_
        refine AllReadyH.cons rfl (fun K hK => ?_) ?_
        · clear hHeld
          obtain ⟨p1, l1, c1, V2, e4, s3, x3, y3, g3, r3⟩ := APP.out V1 kb HB1.out HL1.out
          have HG := hide g3
          have HR := hide r3
          clear q0 q1 q2
          obtain ⟨q0, q1⟩ := s3
          refine step_run_append (by rfl) (.tmp 24) (.tmp 35) 78 (by rfl) 78 (by rfl) (.slice pm G.ms.length cm) (.slice (some ⟨kb, 0, none⟩) 1 1) (.slice p1 l1 c1) V2 (by rfl) (by rfl) ?_ ?_
          with_reducible exact e4
          clear g3 r3 e4
          refine hK.out _ _ (by first | with_reducible exact ⟨q0, q1⟩ | (dsimp only; with_reducible exact ⟨q0, q1⟩) | exact ⟨cell_off q0 (by decide), cell_off q1 (by decide)⟩) (fun hHeld => ?_)
          clear hK K
          try simp only [Act.put, List.setIfInBounds_toArray]
          refine wpAnyH_take (i := 17) (v := ?v17) rfl (by kernel_rfl) (by kernel_rfl) (by kernel_rfl) (fun _ _ _ h => h) (Or.inl ⟨by rfl, ?hy17⟩) (by assumption) ?rest17
          case hy17 => (intro w hSw; (try dsimp only at hSw); go_simp; try with_reducible rfl)
          try simp only [Act.put]
          refine wpAnyH_take (i := 18) (v := ?v18) rfl (by kernel_rfl) (by kernel_rfl) (by kernel_rfl) (fun _ _ _ h => h) (Or.inl ⟨by rfl, ?hy18⟩) (by assumption) ?rest18
          case hy18 => (intro w hSw; (try dsimp only at hSw); go_simp; try with_reducible rfl)
          try simp only [Act.put]
          refine wpAnyH_ready (rs := [19]) (by kernel_rfl) (by simp) ?_
          refine AllReadyH.cons rfl (fun K hK => ?_) ?_
          · clear hHeld
            go_simp
            clear x3 y3
            refine hK.out _ _ (by first | with_reducible exact ⟨q0, q1⟩ | (dsimp only; with_reducible exact ⟨q0, q1⟩) | exact ⟨cell_off q0 (by decide), cell_off q1 (by decide)⟩) (fun hHeld => ?_)
            clear hK K
            try simp only [Act.put, List.setIfInBounds_toArray, List.set_cons_zero, List.set_cons_succ]
            refine wpAnyH_done (by kernel_rfl) ?_ _
            clear hHeld
            obtain ⟨Y, hY⟩ : ∃ W, W = V2.setCell ⟨b, 5, none⟩ (.slice p1 l1 c1) := ⟨_, rfl⟩
            rw [← hY] at HG HR
            rw [← hY]
            have k6 : Y.cell? ⟨b, 6, none⟩ = some (.int .i64 (G.lm + 1)) := HG.out.cells.2.2.2.2.2.2.1
            clear hY q0 q1
            go_wp2
            go_ret
            exact ⟨rfl, _, HG.out, HR.out⟩
          exact AllReadyH.nil
        exact AllReadyH.nil
      exact AllReadyH.nil
    exact AllReadyH.nil
end Go.Proofs.Ytgfiofogcnnkhaa
