/- The document's AddNode, AddEdge. -/
import Derived.Test.YtgfiofogcnnkhaaR1
namespace Go.Proofs.Ytgfiofogcnnkhaa
open Go.RowKit Go.Sort
open Go

theorem RAt.core {w : World} {b : Nat} {V : RV} {G G' : Gr} {M : List (Int × Gr)} {L : Int} (h : RAt w b V G M L) (h1 : G'.ns = G.ns) (h2 : G'.es = G.es) (h3 : G'.nn = G.nn) (h4 : G'.ne = G.ne) : RAt w b V G' M L :=
  ⟨by unfold rcells; rw [h3, h4]; exact h.box, by rw [h1]; exact h.nod, by rw [h2]; exact h.edg, h.mks⟩
theorem RAt.appN {w : World} {b : Nat} {V : RV} {G : Gr} {M : List (Int × Gr)} {L : Int} (h : RAt w b V G M L) (kb : Nat) (x : Int) (hk : w.heap[kb]? = some (.cells #[.int .i64 x] 3 (0, 0))) (hl : G.ns.length ≤ 5000) : ∃ p l c D, (Builtin.append_ #[38, 38] 38 #[V.vn, .slice (some ⟨kb, 0, none⟩) 1 1]).run Try.prog w = .ok (.slice p l c) D ∧ Frame w D (fun i => V.vn.ownBlock = some i) ∧ RAt (D.setCell ⟨b, 0, none⟩ (.slice p l c)) b { V with vn := .slice p l c } { G with ns := G.ns ++ [x] } M L ∧ RFr w (D.setCell ⟨b, 0, none⟩ (.slice p l c)) b V { V with vn := .slice p l c } := by
  obtain ⟨p1, l1, c1, D, e1, o1, gr, at1⟩ := append_row 38 3 (.int .i64 0) 1 8 Try.underlying38 info3 rfl (by decide) h.nod kb [.int .i64 x] _ _ hk rfl (by simp [Value.oneCell']) (by omega) (by decide) (by omega)
  have hfr : Frame w D (fun i => V.vn.ownBlock = some i) := Frame.grown gr (fun i e => e)
  obtain ⟨g1, r1⟩ := h.setN (l := G.ns ++ [x]) hfr (by unfold IOwns; rw [List.length_append, icells_more]; exact o1) (lie_of at1)
  exact ⟨p1, l1, c1, D, e1, hfr, g1, r1⟩
theorem RAt.appE {w : World} {b : Nat} {V : RV} {G : Gr} {M : List (Int × Gr)} {L : Int} (h : RAt w b V G M L) (kb : Nat) (x : Ed) (hk : w.heap[kb]? = some (.cells #[.int .i64 x.id, .int .i64 x.a, .int .i64 x.b] 102 (0, 0))) (hl : G.es.length ≤ 5000) : ∃ p l c D, (Builtin.append_ #[53, 53] 53 #[V.ve, .slice (some ⟨kb, 0, none⟩) 1 1]).run Try.prog w = .ok (.slice p l c) D ∧ Frame w D (fun i => V.ve.ownBlock = some i) ∧ RAt (D.setCell ⟨b, 1, none⟩ (.slice p l c)) b { V with ve := .slice p l c } { G with es := G.es ++ [x] } M L ∧ RFr w (D.setCell ⟨b, 1, none⟩ (.slice p l c)) b V { V with ve := .slice p l c } := by
  obtain ⟨p1, l1, c1, D, e1, o1, gr, at1⟩ := append_row 53 102 (.agg #[.int .i64 0, .int .i64 0, .int .i64 0]) 3 24 Try.underlying53 info102 rfl (by decide) h.edg kb [.int .i64 x.id, .int .i64 x.a, .int .i64 x.b] _ _ hk rfl (by simp [Value.oneCell']) (by omega) (by decide) (by omega)
  have hfr : Frame w D (fun i => V.ve.ownBlock = some i) := Frame.grown gr (fun i e => e)
  obtain ⟨g1, r1⟩ := h.setEs (l := G.es ++ [x]) hfr (by rw [List.length_append, ecells_append]; exact o1) (lie_of at1)
  exact ⟨p1, l1, c1, D, e1, hfr, g1, r1⟩
theorem ixI_neg {l : List Int} {x : Int} : ixI l x < 0 ↔ ¬ x ∈ l := by
  unfold ixI
  split
  · rename_i h; exact ⟨fun h2 => by omega, fun h2 => absurd h h2⟩
  · rename_i h; exact ⟨fun _ => h, fun _ => by omega⟩
theorem ixI_pos {l : List Int} {x : Int} (h : x ∈ l) : ixI l x = pl l x := if_pos h
set_option maxRecDepth 100000 in
set_option maxHeartbeats 8000000 in
theorem rAddNode36 (b : Nat) (V : RV) (G : Gr) (M : List (Int × Gr)) (L : Int) (w : World) (h : RAt w b V G M L) (hl : G.ns.length ≤ 1024) (h0 : 1 ≤ G.nn) (h1 : G.nn ≤ 1000000000) : Calls Try.prog 36 #[ptr b] w (RTurns w b V (addNv G) (addN G) M L) := by
  obtain ⟨pn, cn, pe, ce, pm, cm, _, hV, _⟩ := h.form
  have q0' : w.cell? ⟨b, 0, none⟩ = some (.slice pn G.ns.length cn) := by have := h.cells.1; rw [hV] at this; exact this
  by_cases hf : 1024 ≤ G.ns.length
  · have e1 : addN G = G := if_pos hf
    have e2 : addNv G = .tuple #[.int .i64 0, .int .i64 3] := if_pos hf
    rw [e1, e2]
    have hf' : ((G.ns.length : Int) == 1024) = true := by rw [beq_iff_eq]; omega
    have H := hide h
    clear e1 e2 h hV
    go_enter Try.func36, Try.ntmps36
    go_wp2_with fail
    go_ret2
    exact ⟨rfl, V, H.out, RFr.of_below (Below.refl _ _)⟩
  · have e1 : addN G = G.layN := if_neg hf
    have e2 : addNv G = .tuple #[.int .i64 G.nn, .int .i64 0] := if_neg hf
    rw [e1, e2]
    have hf' : ((G.ns.length : Int) == 1024) = false := by rw [beq_eq_false_iff_ne]; omega
    obtain ⟨nd, hnd⟩ : ∃ nd, G.nn - 1 = nd := ⟨_, rfl⟩
    have hnn : G.nn = nd + 1 := by omega
    have hnd0 : 0 ≤ nd := by omega
    have hnd1 : nd ≤ 1000000000 := by omega
    have q2 : w.cell? ⟨b, 2, none⟩ = some (.int .i64 nd) := by have := h.cells.2.2.1; rw [hnd] at this; exact this
    have f2 := h.free 2
    obtain ⟨g1, r1⟩ := h.setC 2 (.int .i64 (nd + 1)) { G with nn := G.nn + 1 } L (by unfold rcells; simp; omega) rfl rfl
    obtain ⟨W, hW⟩ : ∃ W, W = w.setCell ⟨b, 2, none⟩ (.int .i64 (nd + 1)) := ⟨_, rfl⟩
    rw [← hW] at g1 r1
    have HG1 := hide g1
    have HR1 := hide r1
    have HND : Hid (G.nn + 1 - 1 = nd + 1) := by show _ = _; omega
    have HNN := hide hnn
    have HS : Hid (∀ V', Below W.heap.size W V' → V'.cell? ⟨b, 2, none⟩ = some (.int .i64 (nd + 1)) ∧ V'.cell? ⟨b, 0, none⟩ = some (.slice pn G.ns.length cn)) := fun V' hV' => by
      have k := (HG1.out.later hV').cells
      have k2 := k.2.2.1
      have k0 := k.1
      rw [hV] at k0
      rw [HND.out] at k2
      exact ⟨k2, k0⟩
    have APP : Hid (∀ V' kb, Below W.heap.size W V' → V'.heap[kb]? = some (.cells #[.int .i64 (nd + 1)] 3 (0, 0)) → ∃ p l c D, (Builtin.append_ #[38, 38] 38 #[.slice pn G.ns.length cn, .slice (some ⟨kb, 0, none⟩) 1 1]).run Try.prog V' = .ok (.slice p l c) D ∧ D.cell? ⟨b, 2, none⟩ = some (.int .i64 (nd + 1)) ∧ D.cell? ⟨b, 0, none⟩ = some (.slice pn G.ns.length cn) ∧ D.frozen? ⟨b, 0, none⟩ = false ∧ RAt (D.setCell ⟨b, 0, none⟩ (.slice p l c)) b { V with vn := .slice p l c } { G with nn := G.nn + 1, ns := G.ns ++ [G.nn] } M L ∧ RFr w (D.setCell ⟨b, 0, none⟩ (.slice p l c)) b V { V with vn := .slice p l c }) := fun V' kb hV' hk => by
      have hg := HG1.out.later hV'
      obtain ⟨p, l, c, D, e1, hf, g1, r1⟩ := hg.appN kb ((nd + 1)) hk (show G.ns.length ≤ 5000 by omega)
      obtain ⟨t0, t2⟩ := HS.out V' hV'
      have hne := hg.ne.1
      refine ⟨p, l, c, D, by rw [hV] at e1; exact e1, hf.cell t0 hne, hf.cell t2 hne, by rw [World.frozen?_of_block (hf.block b hg.lt hne)]; exact hg.free 0, by rw [HNN.out]; rw [HNN.out] at g1; exact g1, (HR1.out.trans (RFr.of_below hV')).trans r1⟩
    clear h hV g1 r1 e1 e2 hnd hnn
    go_enter Try.func36, Try.ntmps36
    go_upto_region 4 with fail
    rw [← hW]
    obtain ⟨q0, q1⟩ := HS.out _ (Below.refl _ _)
    clear hW q0' q2 f2 q1
    refine wp_region_held_drew (S := (fun V' => V'.cell? ⟨b, 2, none⟩ = some (.int .i64 (nd + 1)))) (by kernel_rfl) (by exact q0) (fun hHeld => ?_)
    obtain ⟨V0, hV0⟩ : ∃ V, V = W.drew := ⟨_, rfl⟩
    have HB0 : Hid (Below W.heap.size W V0) := by show Below _ _ _; rw [hV0]; exact below_drew _
    rw [← hV0] at hHeld ⊢
    clear hV0 q0
    obtain ⟨q0, q1⟩ := HS.out _ HB0.out
    refine wpAnyH_take (i := 0) (v := ?v1) rfl (by kernel_rfl) (by kernel_rfl) (by kernel_rfl) (fun _ _ _ h => h) (Or.inl ⟨by rfl, ?hy1⟩) (by assumption) ?rest1
    case hy1 => (intro w hSw; (try dsimp only at hSw); go_simp; try with_reducible rfl)
    try simp only [Act.put, List.setIfInBounds_toArray]
    refine wpAnyH_take (i := 1) (v := ?v2) rfl (by kernel_rfl) (by kernel_rfl) (by kernel_rfl) (fun _ _ _ h => h) (Or.inl ⟨by rfl, ?hy2⟩) (by assumption) ?rest2
    case hy2 => (intro w hSw; (try dsimp only at hSw); go_simp; try with_reducible rfl)
    try simp only [Act.put]
    refine wpAnyH_take (i := 2) (v := ?v3) rfl (by kernel_rfl) (by kernel_rfl) (by kernel_rfl) (fun _ _ _ h => h) (Or.inl ⟨by rfl, ?hy3⟩) (by assumption) ?rest3
    case hy3 => (intro w hSw; (try dsimp only at hSw); go_simp; try with_reducible rfl)
    try simp only [Act.put]
    refine wpAnyH_take (i := 3) (v := ?v4) rfl (by kernel_rfl) (by kernel_rfl) (by kernel_rfl) (fun _ _ _ h => h) (Or.inl ⟨by rfl, ?hy4⟩) (by assumption) ?rest4
    case hy4 => (intro w hSw; (try dsimp only at hSw); go_simp; try with_reducible rfl)
    try simp only [Act.put]
    refine wpAnyH_take (i := 4) (v := ?v5) rfl (by kernel_rfl) (by kernel_rfl) (by kernel_rfl) (fun _ _ _ h => h) (Or.inl ⟨by rfl, ?hy5⟩) (by assumption) ?rest5
    case hy5 => (intro w hSw; (try dsimp only at hSw); go_simp; try with_reducible rfl)
    try simp only [Act.put]
    refine wpAnyH_take (i := 6) (v := ?v6) rfl (by kernel_rfl) (by kernel_rfl) (by kernel_rfl) (fun _ _ _ h => h) (Or.inl ⟨by rfl, ?hy6⟩) (by assumption) ?rest6
    case hy6 => (intro w hSw; (try dsimp only at hSw); go_simp; try with_reducible rfl)
    try simp only [Act.put]
    refine wpAnyH_take (i := 7) (v := ?v7) rfl (by kernel_rfl) (by kernel_rfl) (by kernel_rfl) (fun _ _ _ h => h) (Or.inl ⟨by rfl, ?hy7⟩) (by assumption) ?rest7
    case hy7 => (intro w hSw; (try dsimp only at hSw); go_simp; try with_reducible rfl)
    try simp only [Act.put]
    refine wpAnyH_take (i := 8) (v := ?v8) rfl (by kernel_rfl) (by kernel_rfl) (by kernel_rfl) (fun _ _ _ h => h) (Or.inl ⟨by rfl, ?hy8⟩) (by assumption) ?rest8
    case hy8 => (intro w hSw; (try dsimp only at hSw); go_simp; try with_reducible rfl)
    try simp only [Act.put]
    refine wpAnyH_take (i := 9) (v := ?v9) rfl (by kernel_rfl) (by kernel_rfl) (by kernel_rfl) (fun _ _ _ h => h) (Or.inl ⟨by rfl, ?hy9⟩) (by assumption) ?rest9
    case hy9 => (intro w hSw; (try dsimp only at hSw); go_simp; try with_reducible rfl)
    try simp only [Act.put]
    refine wpAnyH_take (i := 10) (v := ?v10) rfl (by kernel_rfl) (by kernel_rfl) (by kernel_rfl) (fun _ _ _ h => h) (Or.inl ⟨by rfl, ?hy10⟩) (by assumption) ?rest10
    case hy10 => (intro w hSw; (try dsimp only at hSw); go_simp; try with_reducible rfl)
    try simp only [Act.put]
    refine wpAnyH_ready (rs := [5, 11]) (by kernel_rfl) (by simp) ?_
    refine AllReadyH.cons rfl (fun K hK => ?_) ?_
    · clear hHeld
      go_simp
      refine hK.out _ _ (by first | with_reducible exact q0 | (dsimp only; with_reducible exact q0) | exact cell_off q0 (by decide)) (fun hHeld => ?_)
      clear hK K
      try simp only [Act.put, List.setIfInBounds_toArray, List.set_cons_zero, List.set_cons_succ]
      refine wpAnyH_ready (rs := [11]) (by kernel_rfl) (by simp) ?_
      refine AllReadyH.cons rfl (fun K hK => ?_) ?_
      · clear hHeld
        go_simp
        obtain ⟨V1, hV⟩ : ∃ V, V = V0.alloc (.cells #[.int .i64 (nd + 1)] 3) := ⟨_, rfl⟩
        obtain ⟨kb, hkb⟩ : ∃ k, V0.heap.size = k := ⟨_, rfl⟩
        have hb2 : Below V0.heap.size V0 V1 := by rw [hV]; go_grown
        have HL1 : Hid (V1.heap[kb]? = some (.cells #[.int .i64 (nd + 1)] 3 (0, 0))) := by show _ = _; rw [hV, ← hkb]; exact heap_alloc_new V0 _
        rw [← hV, hkb]
        have HB1 := hide (below_step HB0.out hb2)
        clear hV hb2 hkb q0 q1
        obtain ⟨q0, q1⟩ := HS.out _ HB1.out
        refine hK.out _ _ (by first | with_reducible exact q0 | (dsimp only; with_reducible exact q0) | exact cell_off q0 (by decide)) (fun hHeld => ?_)
        clear hK K
        try simp only [Act.put, List.setIfInBounds_toArray, List.set_cons_zero, List.set_cons_succ]
        refine wpAnyH_ready (rs := [12]) (by kernel_rfl) (by simp) ?_
        refine AllReadyH.cons rfl (fun K hK => ?_) ?_
        · clear hHeld
          obtain ⟨p1, l1, c1, V2, e4, s3, x3, y3, g3, r3⟩ := APP.out V1 kb HB1.out HL1.out
          have HG := hide g3
          have HR := hide r3
          clear q0 q1
          have q0 := s3
          refine step_run_append (by rfl) (.tmp 25) (.tmp 31) 38 (by rfl) 38 (by rfl) (.slice pn G.ns.length cn) (.slice (some ⟨kb, 0, none⟩) 1 1) (.slice p1 l1 c1) V2 (by rfl) (by rfl) ?_ ?_
          with_reducible exact e4
          clear g3 r3 e4
          refine hK.out _ _ (by first | with_reducible exact q0 | (dsimp only; with_reducible exact q0) | exact cell_off q0 (by decide)) (fun hHeld => ?_)
          clear hK K
          try simp only [Act.put, List.setIfInBounds_toArray]
          refine wpAnyH_take (i := 13) (v := ?v11) rfl (by kernel_rfl) (by kernel_rfl) (by kernel_rfl) (fun _ _ _ h => h) (Or.inl ⟨by rfl, ?hy11⟩) (by assumption) ?rest11
          case hy11 => (intro w hSw; (try dsimp only at hSw); go_simp; try with_reducible rfl)
          try simp only [Act.put]
          refine wpAnyH_take (i := 14) (v := ?v12) rfl (by kernel_rfl) (by kernel_rfl) (by kernel_rfl) (fun _ _ _ h => h) (Or.inl ⟨by rfl, ?hy12⟩) (by assumption) ?rest12
          case hy12 => (intro w hSw; (try dsimp only at hSw); go_simp; try with_reducible rfl)
          try simp only [Act.put]
          refine wpAnyH_take (i := 15) (v := ?v13) rfl (by kernel_rfl) (by kernel_rfl) (by kernel_rfl) (fun _ _ _ h => h) (Or.inl ⟨by rfl, ?hy13⟩) (by assumption) ?rest13
          case hy13 => (intro w hSw; (try dsimp only at hSw); go_simp; try with_reducible rfl)
          try simp only [Act.put]
          refine wpAnyH_ready (rs := [16]) (by kernel_rfl) (by simp) ?_
          refine AllReadyH.cons rfl (fun K hK => ?_) ?_
          · clear hHeld
            go_simp
            clear x3 y3
            refine hK.out _ _ (by first | with_reducible exact q0 | (dsimp only; with_reducible exact q0) | exact cell_off q0 (by decide)) (fun hHeld => ?_)
            clear hK K
            try simp only [Act.put, List.setIfInBounds_toArray, List.set_cons_zero, List.set_cons_succ]
            refine wpAnyH_done (by kernel_rfl) ?_ _
            clear hHeld
            obtain ⟨Y, hY⟩ : ∃ W, W = V2.setCell ⟨b, 0, none⟩ (.slice p1 l1 c1) := ⟨_, rfl⟩
            rw [← hY] at HG HR
            rw [← hY]
            have k6 : Y.cell? ⟨b, 2, none⟩ = some (.int .i64 (nd + 1)) := by have := HG.out.cells.2.2.1; rw [HND.out] at this; exact this
            clear hY q0
            go_wp2
            go_ret2
            exact ⟨by rw [HNN.out]; rfl, _, HG.out.core rfl rfl rfl rfl, HR.out⟩
          exact AllReadyH.nil
        exact AllReadyH.nil
      exact AllReadyH.nil
    refine AllReadyH.cons rfl (fun K hK => ?_) ?_
    · clear hHeld
      go_simp
      obtain ⟨V1, hV⟩ : ∃ V, V = V0.alloc (.cells #[.int .i64 (nd + 1)] 3) := ⟨_, rfl⟩
      obtain ⟨kb, hkb⟩ : ∃ k, V0.heap.size = k := ⟨_, rfl⟩
      have hb2 : Below V0.heap.size V0 V1 := by rw [hV]; go_grown
      have HL1 : Hid (V1.heap[kb]? = some (.cells #[.int .i64 (nd + 1)] 3 (0, 0))) := by show _ = _; rw [hV, ← hkb]; exact heap_alloc_new V0 _
      rw [← hV, hkb]
      have HB1 := hide (below_step HB0.out hb2)
      clear hV hb2 hkb q0 q1
      obtain ⟨q0, q1⟩ := HS.out _ HB1.out
      refine hK.out _ _ (by first | with_reducible exact q0 | (dsimp only; with_reducible exact q0) | exact cell_off q0 (by decide)) (fun hHeld => ?_)
      clear hK K
      try simp only [Act.put, List.setIfInBounds_toArray, List.set_cons_zero, List.set_cons_succ]
      refine wpAnyH_ready (rs := [5]) (by kernel_rfl) (by simp) ?_
      refine AllReadyH.cons rfl (fun K hK => ?_) ?_
      · clear hHeld
        go_simp
        refine hK.out _ _ (by first | with_reducible exact q0 | (dsimp only; with_reducible exact q0) | exact cell_off q0 (by decide)) (fun hHeld => ?_)
        clear hK K
        try simp only [Act.put, List.setIfInBounds_toArray, List.set_cons_zero, List.set_cons_succ]
        refine wpAnyH_ready (rs := [12]) (by kernel_rfl) (by simp) ?_
        refine AllReadyH.cons rfl (fun K hK => ?_) ?_
        · clear hHeld
          obtain ⟨p1, l1, c1, V2, e4, s3, x3, y3, g3, r3⟩ := APP.out V1 kb HB1.out HL1.out
          have HG := hide g3
          have HR := hide r3
          clear q0 q1
          have q0 := s3
          refine step_run_append (by rfl) (.tmp 25) (.tmp 31) 38 (by rfl) 38 (by rfl) (.slice pn G.ns.length cn) (.slice (some ⟨kb, 0, none⟩) 1 1) (.slice p1 l1 c1) V2 (by rfl) (by rfl) ?_ ?_
          with_reducible exact e4
          clear g3 r3 e4
          refine hK.out _ _ (by first | with_reducible exact q0 | (dsimp only; with_reducible exact q0) | exact cell_off q0 (by decide)) (fun hHeld => ?_)
          clear hK K
          try simp only [Act.put, List.setIfInBounds_toArray]
          refine wpAnyH_take (i := 13) (v := ?v14) rfl (by kernel_rfl) (by kernel_rfl) (by kernel_rfl) (fun _ _ _ h => h) (Or.inl ⟨by rfl, ?hy14⟩) (by assumption) ?rest14
          case hy14 => (intro w hSw; (try dsimp only at hSw); go_simp; try with_reducible rfl)
          try simp only [Act.put]
          refine wpAnyH_take (i := 14) (v := ?v15) rfl (by kernel_rfl) (by kernel_rfl) (by kernel_rfl) (fun _ _ _ h => h) (Or.inl ⟨by rfl, ?hy15⟩) (by assumption) ?rest15
          case hy15 => (intro w hSw; (try dsimp only at hSw); go_simp; try with_reducible rfl)
          try simp only [Act.put]
          refine wpAnyH_take (i := 15) (v := ?v16) rfl (by kernel_rfl) (by kernel_rfl) (by kernel_rfl) (fun _ _ _ h => h) (Or.inl ⟨by rfl, ?hy16⟩) (by assumption) ?rest16
          case hy16 => (intro w hSw; (try dsimp only at hSw); go_simp; try with_reducible rfl)
          try simp only [Act.put]
          refine wpAnyH_ready (rs := [16]) (by kernel_rfl) (by simp) ?_
          refine AllReadyH.cons rfl (fun K hK => ?_) ?_
          · clear hHeld
            go_simp
            clear x3 y3
            refine hK.out _ _ (by first | with_reducible exact q0 | (dsimp only; with_reducible exact q0) | exact cell_off q0 (by decide)) (fun hHeld => ?_)
            clear hK K
            try simp only [Act.put, List.setIfInBounds_toArray, List.set_cons_zero, List.set_cons_succ]
            refine wpAnyH_done (by kernel_rfl) ?_ _
            clear hHeld
            obtain ⟨Y, hY⟩ : ∃ W, W = V2.setCell ⟨b, 0, none⟩ (.slice p1 l1 c1) := ⟨_, rfl⟩
            rw [← hY] at HG HR
            rw [← hY]
            have k6 : Y.cell? ⟨b, 2, none⟩ = some (.int .i64 (nd + 1)) := by have := HG.out.cells.2.2.1; rw [HND.out] at this; exact this
            clear hY q0
            go_wp2
            go_ret2
            exact ⟨by rw [HNN.out]; rfl, _, HG.out.core rfl rfl rfl rfl, HR.out⟩
          exact AllReadyH.nil
        exact AllReadyH.nil
      exact AllReadyH.nil
    exact AllReadyH.nil
set_option maxRecDepth 100000 in
set_option maxHeartbeats 8000000 in
theorem rAddEdge37 (b : Nat) (V : RV) (G : Gr) (M : List (Int × Gr)) (L u v : Int) (w : World) (h : RAt w b V G M L) (hl : G.es.length ≤ 3072) (hn : G.ns.length ≤ 1024) (hu : Up G.ns) (h0 : 1 ≤ G.ne) (h1 : G.ne ≤ 1000000000) : Calls Try.prog 37 #[ptr b, .int .i64 u, .int .i64 v] w (RTurns w b V (addEv G u v) (addE G u v) M L) := by
  obtain ⟨pn, cn, pe, ce, pm, cm, _, hV, _⟩ := h.form
  have q0' : w.cell? ⟨b, 1, none⟩ = some (.slice pe G.es.length ce) := by have := h.cells.2.1; rw [hV] at this; exact this
  have CU := node76 b V G M L u w h (by omega) hu
  have CV := node76 b V G M L v w h (by omega) hu
  obtain ⟨iu, hiu⟩ : ∃ i, ixI G.ns u = i := ⟨_, rfl⟩
  obtain ⟨iv, hiv⟩ : ∃ i, ixI G.ns v = i := ⟨_, rfl⟩
  have nu := ixI_neg (l := G.ns) (x := u)
  have nv2 := ixI_neg (l := G.ns) (x := v)
  rw [hiu] at CU nu
  rw [hiv] at CV nv2
  by_cases hmu : u ∈ G.ns
  · have iu0 : ¬ iu < 0 := fun hh => (nu.1 hh) hmu
    by_cases hmv : v ∈ G.ns
    · have iv0 : ¬ iv < 0 := fun hh => (nv2.1 hh) hmv
      clear nu nv2 hiu hiv
      by_cases hf : 3072 ≤ G.es.length
      · have e0 : addEe G u v = 3 := by unfold addEe; rw [if_pos ⟨hmu, hmv⟩, if_pos hf]
        have e1 : addE G u v = G := by unfold addE; rw [e0]; rfl
        have e2 : addEv G u v = .tuple #[.int .i64 0, .int .i64 3] := by unfold addEv; rw [e0]; rfl
        rw [e1, e2]
        have hf' : ((G.es.length : Int) == 3072) = true := by rw [beq_iff_eq]; omega
        have H := hide h
        clear e0 e1 e2 h hV hmu hmv
        go_enter Try.func37, Try.ntmps37
        go_wp2_with (go_at_call 76; first | ((with_reducible refine CU.mono ?_); rintro e w' ⟨rfl, hw⟩; have hw2 := hw.symm; subst hw2) | ((with_reducible refine CV.mono ?_); rintro e w' ⟨rfl, hw⟩; have hw2 := hw.symm; subst hw2))
        go_ret2
        exact ⟨rfl, V, H.out, RFr.of_below (Below.refl _ _)⟩
      · have e0 : addEe G u v = 0 := by unfold addEe; rw [if_pos ⟨hmu, hmv⟩, if_neg hf]
        have e1 : addE G u v = G.layE u v := by unfold addE; rw [e0]; rfl
        have e2 : addEv G u v = .tuple #[.int .i64 G.ne, .int .i64 0] := by unfold addEv; rw [e0]; rfl
        rw [e1, e2]
        have hf' : ((G.es.length : Int) == 3072) = false := by rw [beq_eq_false_iff_ne]; omega
        obtain ⟨nd, hnd⟩ : ∃ nd, G.ne - 1 = nd := ⟨_, rfl⟩
        have hnn : G.ne = nd + 1 := by omega
        have hnd0 : 0 ≤ nd := by omega
        have hnd1 : nd ≤ 1000000000 := by omega
        have q2 : w.cell? ⟨b, 3, none⟩ = some (.int .i64 nd) := by have := h.cells.2.2.2.1; rw [hnd] at this; exact this
        have f2 := h.free 3
        obtain ⟨g1, r1⟩ := h.setC 3 (.int .i64 (nd + 1)) { G with ne := G.ne + 1 } L (by unfold rcells; simp; omega) rfl rfl
        obtain ⟨W, hW⟩ : ∃ W, W = w.setCell ⟨b, 3, none⟩ (.int .i64 (nd + 1)) := ⟨_, rfl⟩
        rw [← hW] at g1 r1
        have HG1 := hide g1
        have HR1 := hide r1
        have HND : Hid (G.ne + 1 - 1 = nd + 1) := by show _ = _; omega
        have HNN := hide hnn
        have HS : Hid (∀ V', Below W.heap.size W V' → V'.cell? ⟨b, 3, none⟩ = some (.int .i64 (nd + 1)) ∧ V'.cell? ⟨b, 1, none⟩ = some (.slice pe G.es.length ce)) := fun V' hV' => by
          have k := (HG1.out.later hV').cells
          have k2 := k.2.2.2.1
          have k0 := k.2.1
          rw [hV] at k0
          rw [HND.out] at k2
          exact ⟨k2, k0⟩
        have APP : Hid (∀ V' kb, Below W.heap.size W V' → V'.heap[kb]? = some (.cells #[.int .i64 (nd + 1), .int .i64 u, .int .i64 v] 102 (0, 0)) → ∃ p l c D, (Builtin.append_ #[53, 53] 53 #[.slice pe G.es.length ce, .slice (some ⟨kb, 0, none⟩) 1 1]).run Try.prog V' = .ok (.slice p l c) D ∧ D.cell? ⟨b, 3, none⟩ = some (.int .i64 (nd + 1)) ∧ D.cell? ⟨b, 1, none⟩ = some (.slice pe G.es.length ce) ∧ D.frozen? ⟨b, 1, none⟩ = false ∧ RAt (D.setCell ⟨b, 1, none⟩ (.slice p l c)) b { V with ve := .slice p l c } { G with ne := G.ne + 1, es := G.es ++ [⟨G.ne, u, v⟩] } M L ∧ RFr w (D.setCell ⟨b, 1, none⟩ (.slice p l c)) b V { V with ve := .slice p l c }) := fun V' kb hV' hk => by
          have hg := HG1.out.later hV'
          obtain ⟨p, l, c, D, e1, hf, g1, r1⟩ := hg.appE kb (⟨(nd + 1), u, v⟩) hk (show G.es.length ≤ 5000 by omega)
          obtain ⟨t0, t2⟩ := HS.out V' hV'
          have hne := hg.ne.2.1
          refine ⟨p, l, c, D, by rw [hV] at e1; exact e1, hf.cell t0 hne, hf.cell t2 hne, by rw [World.frozen?_of_block (hf.block b hg.lt hne)]; exact hg.free 1, by rw [HNN.out]; rw [HNN.out] at g1; exact g1, (HR1.out.trans (RFr.of_below hV')).trans r1⟩
        clear h hV g1 r1 e0 e1 e2 hnd hnn hmu hmv
        go_enter Try.func37, Try.ntmps37
        go_upto_region 6 with (go_at_call 76; first | ((with_reducible refine CU.mono ?_); rintro e w' ⟨rfl, hw⟩; have hw2 := hw.symm; subst hw2) | ((with_reducible refine CV.mono ?_); rintro e w' ⟨rfl, hw⟩; have hw2 := hw.symm; subst hw2))
        rw [← hW]
        obtain ⟨q0, q1⟩ := HS.out _ (Below.refl _ _)
        clear hW q0' q2 f2 q1 CU CV
        refine wp_region_held_drew (S := (fun V' => V'.cell? ⟨b, 3, none⟩ = some (.int .i64 (nd + 1)))) (by kernel_rfl) (by exact q0) (fun hHeld => ?_)
        obtain ⟨V0, hV0⟩ : ∃ V, V = W.drew := ⟨_, rfl⟩
        have HB0 : Hid (Below W.heap.size W V0) := by show Below _ _ _; rw [hV0]; exact below_drew _
        rw [← hV0] at hHeld ⊢
        clear hV0 q0
        obtain ⟨q0, q1⟩ := HS.out _ HB0.out
        refine wpAnyH_take (i := 0) (v := ?v17) rfl (by kernel_rfl) (by kernel_rfl) (by kernel_rfl) (fun _ _ _ h => h) (Or.inl ⟨by rfl, ?hy17⟩) (by assumption) ?rest17
        case hy17 => (intro w hSw; (try dsimp only at hSw); go_simp; try with_reducible rfl)
        try simp only [Act.put, List.setIfInBounds_toArray]
        refine wpAnyH_take (i := 1) (v := ?v18) rfl (by kernel_rfl) (by kernel_rfl) (by kernel_rfl) (fun _ _ _ h => h) (Or.inl ⟨by rfl, ?hy18⟩) (by assumption) ?rest18
        case hy18 => (intro w hSw; (try dsimp only at hSw); go_simp; try with_reducible rfl)
        try simp only [Act.put]
        refine wpAnyH_take (i := 2) (v := ?v19) rfl (by kernel_rfl) (by kernel_rfl) (by kernel_rfl) (fun _ _ _ h => h) (Or.inl ⟨by rfl, ?hy19⟩) (by assumption) ?rest19
        case hy19 => (intro w hSw; (try dsimp only at hSw); go_simp; try with_reducible rfl)
        try simp only [Act.put]
        refine wpAnyH_take (i := 3) (v := ?v20) rfl (by kernel_rfl) (by kernel_rfl) (by kernel_rfl) (fun _ _ _ h => h) (Or.inl ⟨by rfl, ?hy20⟩) (by assumption) ?rest20
        case hy20 => (intro w hSw; (try dsimp only at hSw); go_simp; try with_reducible rfl)
        try simp only [Act.put]
        refine wpAnyH_take (i := 4) (v := ?v21) rfl (by kernel_rfl) (by kernel_rfl) (by kernel_rfl) (fun _ _ _ h => h) (Or.inl ⟨by rfl, ?hy21⟩) (by assumption) ?rest21
        case hy21 => (intro w hSw; (try dsimp only at hSw); go_simp; try with_reducible rfl)
        try simp only [Act.put]
        refine wpAnyH_take (i := 6) (v := ?v22) rfl (by kernel_rfl) (by kernel_rfl) (by kernel_rfl) (fun _ _ _ h => h) (Or.inl ⟨by rfl, ?hy22⟩) (by assumption) ?rest22
        case hy22 => (intro w hSw; (try dsimp only at hSw); go_simp; try with_reducible rfl)
        try simp only [Act.put]
        refine wpAnyH_take (i := 7) (v := ?v23) rfl (by kernel_rfl) (by kernel_rfl) (by kernel_rfl) (fun _ _ _ h => h) (Or.inl ⟨by rfl, ?hy23⟩) (by assumption) ?rest23
        case hy23 => (intro w hSw; (try dsimp only at hSw); go_simp; try with_reducible rfl)
        try simp only [Act.put]
        refine wpAnyH_take (i := 8) (v := ?v24) rfl (by kernel_rfl) (by kernel_rfl) (by kernel_rfl) (fun _ _ _ h => h) (Or.inl ⟨by rfl, ?hy24⟩) (by assumption) ?rest24
        case hy24 => (intro w hSw; (try dsimp only at hSw); go_simp; try with_reducible rfl)
        try simp only [Act.put]
        refine wpAnyH_take (i := 9) (v := ?v25) rfl (by kernel_rfl) (by kernel_rfl) (by kernel_rfl) (fun _ _ _ h => h) (Or.inl ⟨by rfl, ?hy25⟩) (by assumption) ?rest25
        case hy25 => (intro w hSw; (try dsimp only at hSw); go_simp; try with_reducible rfl)
        try simp only [Act.put]
        refine wpAnyH_take (i := 10) (v := ?v26) rfl (by kernel_rfl) (by kernel_rfl) (by kernel_rfl) (fun _ _ _ h => h) (Or.inl ⟨by rfl, ?hy26⟩) (by assumption) ?rest26
        case hy26 => (intro w hSw; (try dsimp only at hSw); go_simp; try with_reducible rfl)
        try simp only [Act.put]
        refine wpAnyH_take (i := 11) (v := ?v27) rfl (by kernel_rfl) (by kernel_rfl) (by kernel_rfl) (fun _ _ _ h => h) (Or.inl ⟨by rfl, ?hy27⟩) (by assumption) ?rest27
        case hy27 => (intro w hSw; (try dsimp only at hSw); go_simp; try with_reducible rfl)
        try simp only [Act.put]
        refine wpAnyH_take (i := 12) (v := ?v28) rfl (by kernel_rfl) (by kernel_rfl) (by kernel_rfl) (fun _ _ _ h => h) (Or.inl ⟨by rfl, ?hy28⟩) (by assumption) ?rest28
        case hy28 => (intro w hSw; (try dsimp only at hSw); go_simp; try with_reducible rfl)
        try simp only [Act.put]
        refine wpAnyH_take (i := 13) (v := ?v29) rfl (by kernel_rfl) (by kernel_rfl) (by kernel_rfl) (fun _ _ _ h => h) (Or.inl ⟨by rfl, ?hy29⟩) (by assumption) ?rest29
        case hy29 => (intro w hSw; (try dsimp only at hSw); go_simp; try with_reducible rfl)
        try simp only [Act.put]
        refine wpAnyH_ready (rs := [5, 14]) (by kernel_rfl) (by simp) ?_
        refine AllReadyH.cons rfl (fun K hK => ?_) ?_
        · clear hHeld
          go_simp
          refine hK.out _ _ (by first | with_reducible exact q0 | (dsimp only; with_reducible exact q0) | exact cell_off q0 (by decide)) (fun hHeld => ?_)
          clear hK K
          try simp only [Act.put, List.setIfInBounds_toArray, List.set_cons_zero, List.set_cons_succ]
          refine wpAnyH_ready (rs := [14]) (by kernel_rfl) (by simp) ?_
          refine AllReadyH.cons rfl (fun K hK => ?_) ?_
          · clear hHeld
            go_simp
            obtain ⟨V1, hV⟩ : ∃ V, V = V0.alloc (.cells #[.int .i64 (nd + 1), .int .i64 u, .int .i64 v] 102) := ⟨_, rfl⟩
            obtain ⟨kb, hkb⟩ : ∃ k, V0.heap.size = k := ⟨_, rfl⟩
            have hb2 : Below V0.heap.size V0 V1 := by rw [hV]; go_grown
            have HL1 : Hid (V1.heap[kb]? = some (.cells #[.int .i64 (nd + 1), .int .i64 u, .int .i64 v] 102 (0, 0))) := by show _ = _; rw [hV, ← hkb]; exact heap_alloc_new V0 _
            rw [← hV, hkb]
            have HB1 := hide (below_step HB0.out hb2)
            clear hV hb2 hkb q0 q1
            obtain ⟨q0, q1⟩ := HS.out _ HB1.out
            refine hK.out _ _ (by first | with_reducible exact q0 | (dsimp only; with_reducible exact q0) | exact cell_off q0 (by decide)) (fun hHeld => ?_)
            clear hK K
            try simp only [Act.put, List.setIfInBounds_toArray, List.set_cons_zero, List.set_cons_succ]
            refine wpAnyH_ready (rs := [15]) (by kernel_rfl) (by simp) ?_
            refine AllReadyH.cons rfl (fun K hK => ?_) ?_
            · clear hHeld
              obtain ⟨p1, l1, c1, V2, e4, s3, x3, y3, g3, r3⟩ := APP.out V1 kb HB1.out HL1.out
              have HG := hide g3
              have HR := hide r3
              clear q0 q1
              have q0 := s3
              refine step_run_append (by rfl) (.tmp 39) (.tmp 48) 53 (by rfl) 53 (by rfl) (.slice pe G.es.length ce) (.slice (some ⟨kb, 0, none⟩) 1 1) (.slice p1 l1 c1) V2 (by rfl) (by rfl) ?_ ?_
              with_reducible exact e4
              clear g3 r3 e4
              refine hK.out _ _ (by first | with_reducible exact q0 | (dsimp only; with_reducible exact q0) | exact cell_off q0 (by decide)) (fun hHeld => ?_)
              clear hK K
              try simp only [Act.put, List.setIfInBounds_toArray]
              refine wpAnyH_take (i := 16) (v := ?v30) rfl (by kernel_rfl) (by kernel_rfl) (by kernel_rfl) (fun _ _ _ h => h) (Or.inl ⟨by rfl, ?hy30⟩) (by assumption) ?rest30
              case hy30 => (intro w hSw; (try dsimp only at hSw); go_simp; try with_reducible rfl)
              try simp only [Act.put]
              refine wpAnyH_take (i := 17) (v := ?v31) rfl (by kernel_rfl) (by kernel_rfl) (by kernel_rfl) (fun _ _ _ h => h) (Or.inl ⟨by rfl, ?hy31⟩) (by assumption) ?rest31
              case hy31 => (intro w hSw; (try dsimp only at hSw); go_simp; try with_reducible rfl)
              try simp only [Act.put]
              refine wpAnyH_take (i := 18) (v := ?v32) rfl (by kernel_rfl) (by kernel_rfl) (by kernel_rfl) (fun _ _ _ h => h) (Or.inl ⟨by rfl, ?hy32⟩) (by assumption) ?rest32
              case hy32 => (intro w hSw; (try dsimp only at hSw); go_simp; try with_reducible rfl)
              try simp only [Act.put]
              refine wpAnyH_ready (rs := [19]) (by kernel_rfl) (by simp) ?_
              refine AllReadyH.cons rfl (fun K hK => ?_) ?_
              · clear hHeld
                go_simp
                clear x3 y3
                refine hK.out _ _ (by first | with_reducible exact q0 | (dsimp only; with_reducible exact q0) | exact cell_off q0 (by decide)) (fun hHeld => ?_)
                clear hK K
                try simp only [Act.put, List.setIfInBounds_toArray, List.set_cons_zero, List.set_cons_succ]
                refine wpAnyH_done (by kernel_rfl) ?_ _
                clear hHeld
                obtain ⟨Y, hY⟩ : ∃ W, W = V2.setCell ⟨b, 1, none⟩ (.slice p1 l1 c1) := ⟨_, rfl⟩
                rw [← hY] at HG HR
                rw [← hY]
                have k6 : Y.cell? ⟨b, 3, none⟩ = some (.int .i64 (nd + 1)) := by have := HG.out.cells.2.2.2.1; rw [HND.out] at this; exact this
                clear hY q0
                go_wp2
                go_ret2
                exact ⟨by rw [HNN.out]; rfl, _, HG.out.core rfl rfl rfl rfl, HR.out⟩
              exact AllReadyH.nil
            exact AllReadyH.nil
          exact AllReadyH.nil
        refine AllReadyH.cons rfl (fun K hK => ?_) ?_
        · clear hHeld
          go_simp
          obtain ⟨V1, hV⟩ : ∃ V, V = V0.alloc (.cells #[.int .i64 (nd + 1), .int .i64 u, .int .i64 v] 102) := ⟨_, rfl⟩
          obtain ⟨kb, hkb⟩ : ∃ k, V0.heap.size = k := ⟨_, rfl⟩
          have hb2 : Below V0.heap.size V0 V1 := by rw [hV]; go_grown
          have HL1 : Hid (V1.heap[kb]? = some (.cells #[.int .i64 (nd + 1), .int .i64 u, .int .i64 v] 102 (0, 0))) := by show _ = _; rw [hV, ← hkb]; exact heap_alloc_new V0 _
          rw [← hV, hkb]
          have HB1 := hide (below_step HB0.out hb2)
          clear hV hb2 hkb q0 q1
          obtain ⟨q0, q1⟩ := HS.out _ HB1.out
          refine hK.out _ _ (by first | with_reducible exact q0 | (dsimp only; with_reducible exact q0) | exact cell_off q0 (by decide)) (fun hHeld => ?_)
          clear hK K
          try simp only [Act.put, List.setIfInBounds_toArray, List.set_cons_zero, List.set_cons_succ]
          refine wpAnyH_ready (rs := [5]) (by kernel_rfl) (by simp) ?_
          refine AllReadyH.cons rfl (fun K hK => ?_) ?_
          · clear hHeld
            go_simp
            refine hK.out _ _ (by first | with_reducible exact q0 | (dsimp only; with_reducible exact q0) | exact cell_off q0 (by decide)) (fun hHeld => ?_)
            clear hK K
            try simp only [Act.put, List.setIfInBounds_toArray, List.set_cons_zero, List.set_cons_succ]
            refine wpAnyH_ready (rs := [15]) (by kernel_rfl) (by simp) ?_
            refine AllReadyH.cons rfl (fun K hK => ?_) ?_
            · clear hHeld
              obtain ⟨p1, l1, c1, V2, e4, s3, x3, y3, g3, r3⟩ := APP.out V1 kb HB1.out HL1.out
              have HG := hide g3
              have HR := hide r3
              clear q0 q1
              have q0 := s3
              refine step_run_append (by rfl) (.tmp 39) (.tmp 48) 53 (by rfl) 53 (by rfl) (.slice pe G.es.length ce) (.slice (some ⟨kb, 0, none⟩) 1 1) (.slice p1 l1 c1) V2 (by rfl) (by rfl) ?_ ?_
              with_reducible exact e4
              clear g3 r3 e4
              refine hK.out _ _ (by first | with_reducible exact q0 | (dsimp only; with_reducible exact q0) | exact cell_off q0 (by decide)) (fun hHeld => ?_)
              clear hK K
              try simp only [Act.put, List.setIfInBounds_toArray]
              refine wpAnyH_take (i := 16) (v := ?v33) rfl (by kernel_rfl) (by kernel_rfl) (by kernel_rfl) (fun _ _ _ h => h) (Or.inl ⟨by rfl, ?hy33⟩) (by assumption) ?rest33
              case hy33 => (intro w hSw; (try dsimp only at hSw); go_simp; try with_reducible rfl)
              try simp only [Act.put]
              refine wpAnyH_take (i := 17) (v := ?v34) rfl (by kernel_rfl) (by kernel_rfl) (by kernel_rfl) (fun _ _ _ h => h) (Or.inl ⟨by rfl, ?hy34⟩) (by assumption) ?rest34
              case hy34 => (intro w hSw; (try dsimp only at hSw); go_simp; try with_reducible rfl)
              try simp only [Act.put]
              refine wpAnyH_take (i := 18) (v := ?v35) rfl (by kernel_rfl) (by kernel_rfl) (by kernel_rfl) (fun _ _ _ h => h) (Or.inl ⟨by rfl, ?hy35⟩) (by assumption) ?rest35
              case hy35 => (intro w hSw; (try dsimp only at hSw); go_simp; try with_reducible rfl)
              try simp only [Act.put]
              refine wpAnyH_ready (rs := [19]) (by kernel_rfl) (by simp) ?_
              refine AllReadyH.cons rfl (fun K hK => ?_) ?_
              · clear hHeld
                go_simp
                clear x3 y3
                refine hK.out _ _ (by first | with_reducible exact q0 | (dsimp only; with_reducible exact q0) | exact cell_off q0 (by decide)) (fun hHeld => ?_)
                clear hK K
                try simp only [Act.put, List.setIfInBounds_toArray, List.set_cons_zero, List.set_cons_succ]
                refine wpAnyH_done (by kernel_rfl) ?_ _
                clear hHeld
                obtain ⟨Y, hY⟩ : ∃ W, W = V2.setCell ⟨b, 1, none⟩ (.slice p1 l1 c1) := ⟨_, rfl⟩
                rw [← hY] at HG HR
                rw [← hY]
                have k6 : Y.cell? ⟨b, 3, none⟩ = some (.int .i64 (nd + 1)) := by have := HG.out.cells.2.2.2.1; rw [HND.out] at this; exact this
                clear hY q0
                go_wp2
                go_ret2
                exact ⟨by rw [HNN.out]; rfl, _, HG.out.core rfl rfl rfl rfl, HR.out⟩
              exact AllReadyH.nil
            exact AllReadyH.nil
          exact AllReadyH.nil
        exact AllReadyH.nil
    · have iv0 : iv < 0 := nv2.2 hmv
      have e0 : addEe G u v = 2 := by unfold addEe; rw [if_neg (fun hh => hmv hh.2)]
      have e1 : addE G u v = G := by unfold addE; rw [e0]; rfl
      have e2 : addEv G u v = .tuple #[.int .i64 0, .int .i64 2] := by unfold addEv; rw [e0]; rfl
      rw [e1, e2]
      have H := hide h
      clear e0 e1 e2 h hV nu nv2 hmu hmv hiu hiv
      go_enter Try.func37, Try.ntmps37
      go_wp2_with (go_at_call 76; first | ((with_reducible refine CU.mono ?_); rintro e w' ⟨rfl, hw⟩; have hw2 := hw.symm; subst hw2) | ((with_reducible refine CV.mono ?_); rintro e w' ⟨rfl, hw⟩; have hw2 := hw.symm; subst hw2))
      go_ret2
      exact ⟨rfl, V, H.out, RFr.of_below (Below.refl _ _)⟩
  · have iu0 : iu < 0 := nu.2 hmu
    have e0 : addEe G u v = 2 := by unfold addEe; rw [if_neg (fun hh => hmu hh.1)]
    have e1 : addE G u v = G := by unfold addE; rw [e0]; rfl
    have e2 : addEv G u v = .tuple #[.int .i64 0, .int .i64 2] := by unfold addEv; rw [e0]; rfl
    rw [e1, e2]
    have H := hide h
    clear e0 e1 e2 h hV nu nv2 hmu hiu hiv
    go_enter Try.func37, Try.ntmps37
    go_wp2_with (go_at_call 76; first | ((with_reducible refine CU.mono ?_); rintro e w' ⟨rfl, hw⟩; have hw2 := hw.symm; subst hw2) | ((with_reducible refine CV.mono ?_); rintro e w' ⟨rfl, hw⟩; have hw2 := hw.symm; subst hw2))
    go_ret2
    exact ⟨rfl, V, H.out, RFr.of_below (Below.refl _ _)⟩
end Go.Proofs.Ytgfiofogcnnkhaa
