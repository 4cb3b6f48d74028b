/- layEdge, AddEdge. -/
import Derived.Test.YtgfiofogcnnkhaaGE
import Derived.Deep.RegionHeld3
import Derived.Deep.DeepCutAuto
namespace Go.Proofs.Ytgfiofogcnnkhaa
open Go.RowKit Go.Sort
open Go

/-- An operation that gives a value. -/
theorem wp_val {P : Program} {o : Oper} {a : Act} {w w2 : World} {K : Act → World → Prop} {Q : Exit → Act → World → Prop} {v : Value} (h : (execOp a.eval o).run P w = .ok (.value v) w2) (hk : K (a.put o.dst v) w2) : Oper.wp P o a w K Q := by
  unfold Oper.wp
  rw [h]
  exact hk
theorem step_run_append {P : Program} {w : World} {ops : Array Oper} {o : Oper} {a : Act} {K : Act → World → Prop} {Q : Exit → Act → World → Prop} {E : Prop} (hgd : o.guard = none) (s x : Operand) (t : TypeId)
    (ho : o.op = .call { callee := .builtin .append, args := #[s, x], argTypes := #[t, t] }) (ty : TypeId) (hty : o.type = ty) (vs vx v' : Value) (w' : World) (hs : a.eval s = vs) (hx : a.eval x = vx)
    (hr : (Builtin.append_ #[t, t] ty #[vs, vx]).run P w = .ok v' w') (h : K (a.put o.dst v') w') :
    if Region.wanted o (yielded ops a.tmps) = true then Oper.wp P o a w K Q else E := by
  subst hty
  rw [if_pos (by simp [Region.wanted, hgd])]
  unfold Oper.wp execOp
  simp only [ho, resolve, invoke, builtin, Sem.run_bind, Sem.run_pure, Result.andThen_ok, List.map_toArray, List.map_cons, List.map_nil, hs, hx, hr]
  exact h
theorem cell_other {U : World} {g j : Nat} {b v : Value} {A : Addr} (h : U.cell? A = some v) (hne : A.block ≠ g) : (U.setCell ⟨g, j, none⟩ b).cell? A = some v := by
  have n2 : (⟨g, j, none⟩ : Addr) ≠ A := fun e => hne (by rw [← e])
  rw [World.cell?_setCell_other _ _ _ _ n2]; exact h
theorem below_drew (w : World) : Below w.heap.size w w.drew := by go_grown
theorem GAt.ne {w : World} {b : Nat} {s : GV} {G : Gr} (h : GAt w b s G) : s.vn.ownBlock ≠ some b ∧ s.ve.ownBlock ≠ some b ∧ s.vm.ownBlock ≠ some b ∧ s.vd.ownBlock ≠ some b := by
  obtain ⟨fs, o, _⟩ := h.don
  exact ⟨box_ne h.box h.nod (by decide), box_ne h.box h.edg (by decide), box_ne h.box h.mks (by decide), box_ne h.box o (by decide)⟩
theorem lie_of {w : World} {v v' : Value} (at1 : v'.ownBlock = v.ownBlock ∨ v'.ownBlock = some w.heap.size) : ∀ i, v'.ownBlock = some i → v.ownBlock = some i ∨ w.heap.size ≤ i := fun i hi => by
  rcases at1 with e | e
  · left; rw [← e]; exact hi
  · right
    rw [e] at hi
    injection hi with hi
    omega
theorem GAt.appE {V : World} {b : Nat} {s : GV} {G : Gr} (h : GAt V b s G) (kb : Nat) (x : Ed) (hk : V.heap[kb]? = some (.cells #[.int .i64 x.id, .int .i64 x.a, .int .i64 x.b] 76 (0, 0))) (hl : G.es.length ≤ 5000) : ∃ p l c D, (Builtin.append_ #[77, 77] 77 #[s.ve, .slice (some ⟨kb, 0, none⟩) 1 1]).run Try.prog V = .ok (.slice p l c) D ∧ Frame V D (fun i => s.ve.ownBlock = some i) ∧ GAt (D.setCell ⟨b, 2, none⟩ (.slice p l c)) b { s with ve := .slice p l c } { G with es := G.es ++ [x] } ∧ GFr V (D.setCell ⟨b, 2, none⟩ (.slice p l c)) b s { s with ve := .slice p l c } := by
  obtain ⟨p1, l1, c1, D, e1, o1, gr, at1⟩ := append_row 77 76 (.agg #[.int .i64 0, .int .i64 0, .int .i64 0]) 3 24 Try.underlying77 info76 rfl (by decide) h.edg kb [.int .i64 x.id, .int .i64 x.a, .int .i64 x.b] _ _ hk rfl (by simp [Value.oneCell']) (by omega) (by decide) (by omega)
  have hfr : Frame V D (fun i => s.ve.ownBlock = some i) := Frame.grown gr (fun i e => e)
  obtain ⟨g1, r1⟩ := h.setEs (l := G.es ++ [x]) hfr (by rw [List.length_append, ecells_append]; exact o1) (lie_of at1)
  exact ⟨p1, l1, c1, D, e1, hfr, g1, r1⟩
theorem GAt.appM {V : World} {b : Nat} {s : GV} {G : Gr} (h : GAt V b s G) (kb : Nat) (x : Int × Nat) (hk : V.heap[kb]? = some (.cells #[.int .i64 x.1, .int .i64 x.2] 89 (0, 0))) (hl : G.ms.length ≤ 5000) : ∃ p l c D, (Builtin.append_ #[78, 78] 78 #[s.vm, .slice (some ⟨kb, 0, none⟩) 1 1]).run Try.prog V = .ok (.slice p l c) D ∧ Frame V D (fun i => s.vm.ownBlock = some i) ∧ GAt (D.setCell ⟨b, 5, none⟩ (.slice p l c)) b { s with vm := .slice p l c } { G with ms := G.ms ++ [x] } ∧ GFr V (D.setCell ⟨b, 5, none⟩ (.slice p l c)) b s { s with vm := .slice p l c } := by
  obtain ⟨p1, l1, c1, D, e1, o1, gr, at1⟩ := append_row 78 89 (.agg #[.int .i64 0, .int .i64 0]) 2 16 Try.underlying78 info89 rfl (by decide) h.mks kb [.int .i64 x.1, .int .i64 x.2] _ _ hk rfl (by simp [Value.oneCell']) (by omega) (by decide) (by omega)
  have hfr : Frame V D (fun i => s.vm.ownBlock = some i) := Frame.grown gr (fun i e => e)
  obtain ⟨g1, r1⟩ := h.setMs (l := G.ms ++ [x]) hfr (by rw [List.length_append, mcells_append]; exact o1) (lie_of at1)
  exact ⟨p1, l1, c1, D, e1, hfr, g1, r1⟩
set_option maxRecDepth 100000 in
set_option maxHeartbeats 8000000 in
theorem layEdge35 (b : Nat) (s : GV) (G : Gr) (u v : Int) (w : World) (h : GAt w b s G) (hl : G.dn.length ≤ 5000000) (hm : G.ms.length ≤ 64) (hn : G.es.length ≤ 5000) (h0 : 0 ≤ G.ne) (h1 : G.ne ≤ 1000000000) : Calls Try.prog 35 #[ptr b, .agg #[.int .i64 u, .int .i64 v]] w (Turns w b s (.int .i64 G.ne) (G.layE u v)) := by
  obtain ⟨pn, cn, pe, ce, pm, cm, pd, cd, _, hs, _⟩ := h.form
  have hb := h.lt
  obtain ⟨W, hW⟩ : ∃ W, W = w.alloc (.cells #[.int .i64 u, .int .i64 v] 68) := ⟨_, rfl⟩
  have hbW : Below w.heap.size w W := by rw [hW]; go_grown
  have hsz : W.heap.size = w.heap.size + 1 := by rw [hW]; simp
  have HGW := hide (h.later hbW)
  have q0 : W.cell? ⟨w.heap.size, 0, none⟩ = some (.int .i64 u) := by rw [hW]; go_cell
  have q1 : W.cell? ⟨w.heap.size, 1, none⟩ = some (.int .i64 v) := by rw [hW]; go_cell
  have HS : Hid (∀ V, Below W.heap.size W V → V.cell? ⟨w.heap.size, 0, none⟩ = some (.int .i64 u) ∧ V.cell? ⟨w.heap.size, 1, none⟩ = some (.int .i64 v) ∧ V.cell? ⟨b, 2, none⟩ = some (.slice pe G.es.length ce)) := fun V hV => ⟨later hV q0, later hV q1, by have := (HGW.out.later hV).cells.2.2.1; rw [hs] at this; exact this⟩
  have hkb0 : w.heap.size ≠ b := by omega
  have APP : Hid (∀ V kb, Below W.heap.size W V → V.heap[kb]? = some (.cells #[.int .i64 G.ne, .int .i64 u, .int .i64 v] 76 (0, 0)) → ∃ p l c D, (Builtin.append_ #[77, 77] 77 #[.slice pe G.es.length ce, .slice (some ⟨kb, 0, none⟩) 1 1]).run Try.prog V = .ok (.slice p l c) D ∧ (D.cell? ⟨w.heap.size, 0, none⟩ = some (.int .i64 u) ∧ D.cell? ⟨w.heap.size, 1, none⟩ = some (.int .i64 v)) ∧ D.cell? ⟨b, 2, none⟩ = some (.slice pe G.es.length ce) ∧ D.frozen? ⟨b, 2, none⟩ = false ∧ GAt (D.setCell ⟨b, 2, none⟩ (.slice p l c)) b { s with ve := .slice p l c } { G with es := G.es ++ [⟨G.ne, u, v⟩] } ∧ GFr w (D.setCell ⟨b, 2, none⟩ (.slice p l c)) b s { s with ve := .slice p l c }) := fun V kb hV hk => by
    have hg := HGW.out.later hV
    obtain ⟨p, l, c, D, e1, hf, g1, r1⟩ := hg.appE kb ⟨G.ne, u, v⟩ hk hn
    obtain ⟨t0, t1, t2⟩ := HS.out V hV
    have hne := hg.ne.2.1
    have hlt : s.ve.ownBlock ≠ some w.heap.size := fun e => by have := own_lt h.edg e; omega
    refine ⟨p, l, c, D, by rw [hs] at e1; exact e1, ⟨hf.cell t0 hlt, hf.cell t1 hlt⟩, hf.cell t2 hne, by rw [World.frozen?_of_block (hf.block b hg.lt hne)]; exact hg.free 2, g1, (GFr.of_below (below_step hbW hV)).trans r1⟩
  have q4 := h.cells.2.2.2.2.1
  have hbn : b ≠ w.heap.size := by omega
  clear h hbW hsz
  go_enter Try.func35, Try.ntmps35
  go_upto_region 2 with fail
  rw [← hW]
  clear hW
  refine wp_region_held_drew (S := (fun V => V.cell? ⟨w.heap.size, 0, none⟩ = some (.int .i64 u) ∧ V.cell? ⟨w.heap.size, 1, none⟩ = some (.int .i64 v))) (by kernel_rfl) (by exact ⟨q0, q1⟩) (fun hHeld => ?_)
  obtain ⟨V0, hV0⟩ : ∃ V, V = W.drew := ⟨_, rfl⟩
  have HB0 : Hid (Below W.heap.size W V0) := by show Below _ _ _; rw [hV0]; exact below_drew _
  rw [← hV0] at hHeld ⊢
  clear hV0 q0 q1 q4
  obtain ⟨q0, q1, q2⟩ := HS.out _ HB0.out
  refine wpAnyH_take (i := 0) (v := ?v1) rfl (by kernel_rfl) (by kernel_rfl) (by kernel_rfl) (fun _ _ _ h => h) (Or.inl ⟨by rfl, ?hy1⟩) (by assumption) ?rest1
  case hy1 => (intro w hSw; (try dsimp only at hSw); go_simp; try with_reducible rfl)
  try simp only [Act.put, List.setIfInBounds_toArray]
  refine wpAnyH_take (i := 1) (v := ?v2) rfl (by kernel_rfl) (by kernel_rfl) (by kernel_rfl) (fun _ _ _ h => h) (Or.inl ⟨by rfl, ?hy2⟩) (by assumption) ?rest2
  case hy2 => (intro w hSw; (try dsimp only at hSw); go_simp; try with_reducible rfl)
  try simp only [Act.put]
  refine wpAnyH_take (i := 2) (v := ?v3) rfl (by kernel_rfl) (by kernel_rfl) (by kernel_rfl) (fun _ _ _ h => h) (Or.inl ⟨by rfl, ?hy3⟩) (by assumption) ?rest3
  case hy3 => (intro w hSw; (try dsimp only at hSw); go_simp; try with_reducible rfl)
  try simp only [Act.put]
  refine wpAnyH_take (i := 3) (v := ?v4) rfl (by kernel_rfl) (by kernel_rfl) (by kernel_rfl) (fun _ _ _ h => h) (Or.inl ⟨by rfl, ?hy4⟩) (by assumption) ?rest4
  case hy4 => (intro w hSw; (try dsimp only at hSw); go_simp; try with_reducible rfl)
  try simp only [Act.put]
  refine wpAnyH_take (i := 5) (v := ?v5) rfl (by kernel_rfl) (by kernel_rfl) (by kernel_rfl) (fun _ _ _ h => h) (Or.inl ⟨by rfl, ?hy5⟩) (by assumption) ?rest5
  case hy5 => (intro w hSw; (try dsimp only at hSw); go_simp; try with_reducible rfl)
  try simp only [Act.put]
  refine wpAnyH_take (i := 6) (v := ?v6) rfl (by kernel_rfl) (by kernel_rfl) (by kernel_rfl) (fun _ _ _ h => h) (Or.inl ⟨by rfl, ?hy6⟩) (by assumption) ?rest6
  case hy6 => (intro w hSw; (try dsimp only at hSw); go_simp; try with_reducible rfl)
  try simp only [Act.put]
  refine wpAnyH_take (i := 7) (v := ?v7) rfl (by kernel_rfl) (by kernel_rfl) (by kernel_rfl) (fun _ _ _ h => h) (Or.inl ⟨by rfl, ?hy7⟩) (by assumption) ?rest7
  case hy7 => (intro w hSw; (try dsimp only at hSw); go_simp; try with_reducible rfl)
  try simp only [Act.put]
  refine wpAnyH_ready (rs := [4, 8]) (by kernel_rfl) (by simp) ?_
  refine AllReadyH.cons rfl (fun K hK => ?_) ?_
  · clear hHeld
    go_simp
    refine hK.out _ _ (by first | with_reducible exact ⟨q0, q1⟩ | (dsimp only; with_reducible exact ⟨q0, q1⟩) | exact ⟨cell_other q0 hkb0, cell_other q1 hkb0⟩) (fun hHeld => ?_)
    clear hK K
    try simp only [Act.put, List.setIfInBounds_toArray, List.set_cons_zero, List.set_cons_succ]
    refine wpAnyH_ready (rs := [8]) (by kernel_rfl) (by simp) ?_
    refine AllReadyH.cons rfl (fun K hK => ?_) ?_
    · clear hHeld
      go_simp
      obtain ⟨V1, hV⟩ : ∃ V, V = V0.alloc (.cells #[.int .i64 G.ne, .int .i64 u, .int .i64 v] 76) := ⟨_, rfl⟩
      obtain ⟨kb, hkb⟩ : ∃ k, V0.heap.size = k := ⟨_, rfl⟩
      have hb2 : Below V0.heap.size V0 V1 := by rw [hV]; go_grown
      have HL1 : Hid (V1.heap[kb]? = some (.cells #[.int .i64 G.ne, .int .i64 u, .int .i64 v] 76 (0, 0))) := by show _ = _; rw [hV, ← hkb]; exact heap_alloc_new V0 _
      rw [← hV, hkb]
      have HB1 := hide (below_step HB0.out hb2)
      clear hV hb2 hkb q0 q1 q2
      obtain ⟨q0, q1, q2⟩ := HS.out _ HB1.out
      refine hK.out _ _ (by first | with_reducible exact ⟨q0, q1⟩ | (dsimp only; with_reducible exact ⟨q0, q1⟩) | exact ⟨cell_other q0 hkb0, cell_other q1 hkb0⟩) (fun hHeld => ?_)
      clear hK K
      try simp only [Act.put, List.setIfInBounds_toArray, List.set_cons_zero, List.set_cons_succ]
      refine wpAnyH_ready (rs := [9]) (by kernel_rfl) (by simp) ?_
      refine AllReadyH.cons rfl (fun K hK => ?_) ?_
      · clear hHeld
        obtain ⟨p1, l1, c1, V2, e4, s3, x3, y3, g3, r3⟩ := APP.out V1 kb HB1.out HL1.out
        have HG := hide g3
        have HR := hide r3
        clear q0 q1 q2
        obtain ⟨q0, q1⟩ := s3
        refine step_run_append (by rfl) (.tmp 14) (.tmp 18) 77 (by rfl) 77 (by rfl) (.slice pe G.es.length ce) (.slice (some ⟨kb, 0, none⟩) 1 1) (.slice p1 l1 c1) V2 (by rfl) (by rfl) ?_ ?_
        with_reducible exact e4
        clear g3 r3 e4
        refine hK.out _ _ (by first | with_reducible exact ⟨q0, q1⟩ | (dsimp only; with_reducible exact ⟨q0, q1⟩) | exact ⟨cell_other q0 hkb0, cell_other q1 hkb0⟩) (fun hHeld => ?_)
        clear hK K
        try simp only [Act.put, List.setIfInBounds_toArray]
        refine wpAnyH_take (i := 10) (v := ?v8) rfl (by kernel_rfl) (by kernel_rfl) (by kernel_rfl) (fun _ _ _ h => h) (Or.inl ⟨by rfl, ?hy8⟩) (by assumption) ?rest8
        case hy8 => (intro w hSw; (try dsimp only at hSw); go_simp; try with_reducible rfl)
        try simp only [Act.put]
        refine wpAnyH_take (i := 11) (v := ?v9) rfl (by kernel_rfl) (by kernel_rfl) (by kernel_rfl) (fun _ _ _ h => h) (Or.inl ⟨by rfl, ?hy9⟩) (by assumption) ?rest9
        case hy9 => (intro w hSw; (try dsimp only at hSw); go_simp; try with_reducible rfl)
        try simp only [Act.put]
        refine wpAnyH_ready (rs := [12]) (by kernel_rfl) (by simp) ?_
        refine AllReadyH.cons rfl (fun K hK => ?_) ?_
        · clear hHeld
          go_simp
          clear x3 y3
          refine hK.out _ _ (by first | with_reducible exact ⟨q0, q1⟩ | (dsimp only; with_reducible exact ⟨q0, q1⟩) | exact ⟨cell_other q0 hkb0, cell_other q1 hkb0⟩) (fun hHeld => ?_)
          clear hK K
          try simp only [Act.put, List.setIfInBounds_toArray, List.set_cons_zero, List.set_cons_succ]
          refine wpAnyH_done (by kernel_rfl) ?_ _
          clear hHeld
          obtain ⟨W1, hW1⟩ : ∃ W, W = V2.setCell ⟨b, 2, none⟩ (.slice p1 l1 c1) := ⟨_, rfl⟩
          rw [← hW1] at HG HR
          rw [← hW1]
          obtain ⟨_, _, _, _, k4, _⟩ := HG.out.cells
          have k5 := HG.out.free 4
          have GC := hide (HG.out.setC 4 (.int .i64 (G.ne + 1)) { G with es := G.es ++ [⟨G.ne, u, v⟩], ne := G.ne + 1 } rfl rfl rfl rfl rfl)
          clear hW1 q0 q1
          simp only at k4
          go_wp2_with fail
          obtain ⟨W2, hW2⟩ : ∃ W, W = W1.setCell ⟨b, 4, none⟩ (.int .i64 (G.ne + 1)) := ⟨_, rfl⟩
          rw [← hW2] at GC
          rw [← hW2]
          have RM := hide (remember73 b _ _ (.func (.func 75) #[] #[]) .e W2 GC.out.1 rfl hl hm)
          clear hW2 k4 k5
          refine RM.out.mono ?_
          rintro e w' ⟨rfl, s', g', r'⟩
          have H1 := hide g'
          have H2 := hide ((HR.out.trans GC.out.2).trans r')
          clear g' r'
          go_wp2
          go_ret
          exact ⟨rfl, _, H1.out, H2.out⟩
        exact AllReadyH.nil
      exact AllReadyH.nil
    exact AllReadyH.nil
  refine AllReadyH.cons rfl (fun K hK => ?_) ?_
  · clear hHeld
    go_simp
    obtain ⟨V1, hV⟩ : ∃ V, V = V0.alloc (.cells #[.int .i64 G.ne, .int .i64 u, .int .i64 v] 76) := ⟨_, rfl⟩
    obtain ⟨kb, hkb⟩ : ∃ k, V0.heap.size = k := ⟨_, rfl⟩
    have hb2 : Below V0.heap.size V0 V1 := by rw [hV]; go_grown
    have HL1 : Hid (V1.heap[kb]? = some (.cells #[.int .i64 G.ne, .int .i64 u, .int .i64 v] 76 (0, 0))) := by show _ = _; rw [hV, ← hkb]; exact heap_alloc_new V0 _
    rw [← hV, hkb]
    have HB1 := hide (below_step HB0.out hb2)
    clear hV hb2 hkb q0 q1 q2
    obtain ⟨q0, q1, q2⟩ := HS.out _ HB1.out
    refine hK.out _ _ (by first | with_reducible exact ⟨q0, q1⟩ | (dsimp only; with_reducible exact ⟨q0, q1⟩) | exact ⟨cell_other q0 hkb0, cell_other q1 hkb0⟩) (fun hHeld => ?_)
    clear hK K
    try simp only [Act.put, List.setIfInBounds_toArray, List.set_cons_zero, List.set_cons_succ]
    refine wpAnyH_ready (rs := [4]) (by kernel_rfl) (by simp) ?_
    refine AllReadyH.cons rfl (fun K hK => ?_) ?_
    · clear hHeld
      go_simp
      refine hK.out _ _ (by first | with_reducible exact ⟨q0, q1⟩ | (dsimp only; with_reducible exact ⟨q0, q1⟩) | exact ⟨cell_other q0 hkb0, cell_other q1 hkb0⟩) (fun hHeld => ?_)
      clear hK K
      try simp only [Act.put, List.setIfInBounds_toArray, List.set_cons_zero, List.set_cons_succ]
      refine wpAnyH_ready (rs := [9]) (by kernel_rfl) (by simp) ?_
      refine AllReadyH.cons rfl (fun K hK => ?_) ?_
      · clear hHeld
        obtain ⟨p1, l1, c1, V2, e4, s3, x3, y3, g3, r3⟩ := APP.out V1 kb HB1.out HL1.out
        have HG := hide g3
        have HR := hide r3
        clear q0 q1 q2
        obtain ⟨q0, q1⟩ := s3
        refine step_run_append (by rfl) (.tmp 14) (.tmp 18) 77 (by rfl) 77 (by rfl) (.slice pe G.es.length ce) (.slice (some ⟨kb, 0, none⟩) 1 1) (.slice p1 l1 c1) V2 (by rfl) (by rfl) ?_ ?_
        with_reducible exact e4
        clear g3 r3 e4
        refine hK.out _ _ (by first | with_reducible exact ⟨q0, q1⟩ | (dsimp only; with_reducible exact ⟨q0, q1⟩) | exact ⟨cell_other q0 hkb0, cell_other q1 hkb0⟩) (fun hHeld => ?_)
        clear hK K
        try simp only [Act.put, List.setIfInBounds_toArray]
        refine wpAnyH_take (i := 10) (v := ?v10) rfl (by kernel_rfl) (by kernel_rfl) (by kernel_rfl) (fun _ _ _ h => h) (Or.inl ⟨by rfl, ?hy10⟩) (by assumption) ?rest10
        case hy10 => (intro w hSw; (try dsimp only at hSw); go_simp; try with_reducible rfl)
        try simp only [Act.put]
        refine wpAnyH_take (i := 11) (v := ?v11) rfl (by kernel_rfl) (by kernel_rfl) (by kernel_rfl) (fun _ _ _ h => h) (Or.inl ⟨by rfl, ?hy11⟩) (by assumption) ?rest11
        case hy11 => (intro w hSw; (try dsimp only at hSw); go_simp; try with_reducible rfl)
        try simp only [Act.put]
        refine wpAnyH_ready (rs := [12]) (by kernel_rfl) (by simp) ?_
        refine AllReadyH.cons rfl (fun K hK => ?_) ?_
        · clear hHeld
          go_simp
          clear x3 y3
          refine hK.out _ _ (by first | with_reducible exact ⟨q0, q1⟩ | (dsimp only; with_reducible exact ⟨q0, q1⟩) | exact ⟨cell_other q0 hkb0, cell_other q1 hkb0⟩) (fun hHeld => ?_)
          clear hK K
          try simp only [Act.put, List.setIfInBounds_toArray, List.set_cons_zero, List.set_cons_succ]
          refine wpAnyH_done (by kernel_rfl) ?_ _
          clear hHeld
          obtain ⟨W1, hW1⟩ : ∃ W, W = V2.setCell ⟨b, 2, none⟩ (.slice p1 l1 c1) := ⟨_, rfl⟩
          rw [← hW1] at HG HR
          rw [← hW1]
          obtain ⟨_, _, _, _, k4, _⟩ := HG.out.cells
          have k5 := HG.out.free 4
          have GC := hide (HG.out.setC 4 (.int .i64 (G.ne + 1)) { G with es := G.es ++ [⟨G.ne, u, v⟩], ne := G.ne + 1 } rfl rfl rfl rfl rfl)
          clear hW1 q0 q1
          simp only at k4
          go_wp2_with fail
          obtain ⟨W2, hW2⟩ : ∃ W, W = W1.setCell ⟨b, 4, none⟩ (.int .i64 (G.ne + 1)) := ⟨_, rfl⟩
          rw [← hW2] at GC
          rw [← hW2]
          have RM := hide (remember73 b _ _ (.func (.func 75) #[] #[]) .e W2 GC.out.1 rfl hl hm)
          clear hW2 k4 k5
          refine RM.out.mono ?_
          rintro e w' ⟨rfl, s', g', r'⟩
          have H1 := hide g'
          have H2 := hide ((HR.out.trans GC.out.2).trans r')
          clear g' r'
          go_wp2
          go_ret
          exact ⟨rfl, _, H1.out, H2.out⟩
        exact AllReadyH.nil
      exact AllReadyH.nil
    exact AllReadyH.nil
  exact AllReadyH.nil
end Go.Proofs.Ytgfiofogcnnkhaa
