/- The document's DropNode. -/
import Derived.Test.YtgfiofogcnnkhaaR8
namespace Go.Proofs.Ytgfiofogcnnkhaa
open Go.RowKit Go.Sort
open Go

theorem ilies_cells {w : World} {g : Nat} {l : List Int} (h : ILies w g 0 l) : ∀ j u, (icells l)[j]? = some u → w.cell? ⟨g, j, none⟩ = some u := by
  intro j u hj
  rw [icells, List.getElem?_map] at hj
  cases hq2 : l[j]? with
  | none => rw [hq2] at hj; cases hj
  | some x =>
    rw [hq2] at hj
    cases hj
    have hjl : j < l.length := (List.getElem?_eq_some_iff.1 hq2).1
    have := h j hjl
    rw [Nat.zero_add] at this
    rw [this]
    unfold iat
    rw [List.getD_eq_getElem?_getD, hq2]
    rfl
set_option maxRecDepth 100000 in
set_option maxHeartbeats 16000000 in
theorem rDropNode38 (b : Nat) (V : RV) (G : Gr) (M : List (Int × Gr)) (L v : Int) (w : World) (h : RAt w b V G M L) (hn : G.ns.length ≤ 1024) (he : G.es.length ≤ 3072) (hun : Up G.ns) : Calls Try.prog 38 #[ptr b, .int .i64 v] w (RTurns w b V (drV G v) (drG G v) M L) := by
  have P := node76 b V G M L v w h (by omega) hun
  have HH := hide h
  unfold drV drG
  by_cases hm : v ∈ G.ns
  · rw [if_pos hm, if_pos hm]
    rw [ixI_pos hm] at P
    obtain ⟨m1, m2⟩ := pl_mem hun hm
    obtain ⟨i, hi⟩ : ∃ k, pl G.ns v = k := ⟨_, rfl⟩
    rw [hi] at P m1 ⊢
    obtain ⟨pn, cn, pe, ce, pm, cm, _, hV, _, _, _, _, _, _, zn, ze⟩ := h.form
    obtain ⟨q0, q1, q2, q3, _, _⟩ := h.cells
    have on := h.nod
    have oe := h.edg
    rw [hV] at q0 q1 on oe
    simp only at q0 q1
    have CP := hide (copy77 pn G.ns cn pe G.es ce (G.nn - 1) (G.ne - 1) w (own_ihas on) (own_e102 oe) zn ze (by omega) (by omega))
    have HQ1 : Hid (∀ X, Below w.heap.size w X → X.cell? ⟨b, 1, none⟩ = some (.slice pe G.es.length ce)) := fun X hX => later hX q1
    have HE := hide (own_e102 oe)
    have HB := hide h.lt
    have HDRV : Hid ((dpE G (plAt G v)).takeN i = { G with ns := G.ns.eraseIdx i, es := fl G.es v G.es.length } → True) := fun _ => trivial
    have HFIN : Hid (∀ W' V', RAt W' b V' { G with ns := G.ns.eraseIdx i, es := fl G.es v G.es.length } M L → RAt W' b V' ((dpE G (plAt G v)).takeN i) M L) := fun W' V' hW' => by
      obtain ⟨r1, r2, r3, _⟩ := dpE_rest G (plAt G v)
      exact hW'.core (by show (dpE G (plAt G v)).ns.eraseIdx i = _; rw [r1]) ((fl_all G v).1).symm r2 r3
    have HLEN := hide (fl_all G v).2
    clear h hV on oe zn ze hm m2 hi hun HDRV
    have j0 : ¬ (i : Int) < 0 := by omega
    go_enter Try.func38, Try.ntmps38
    go_upto_region 5 with (first | (go_at_call 76; refine P.mono ?_; rintro e w' ⟨rfl, hw⟩; have hw2 := hw.symm; subst hw2) | (go_at_call 77; refine CP.out.mono ?_; rintro e w1 ⟨p1, c1, p2, c2, rfl, o1, o2, hb1⟩; have HO1 := hide o1; have HO2 := hide o2; have HB1 := hide hb1; clear o1 o2 hb1))
    clear P CP q0 q1 q2 q3
    obtain ⟨W, hW⟩ : ∃ W, W = w1.alloc (.cells #[.slice p1 G.ns.length c1, .slice p2 G.es.length c2, .int .i64 (G.nn - 1), .int .i64 (G.ne - 1)] 55) := ⟨_, rfl⟩
    obtain ⟨k7, hk7⟩ : ∃ k, w1.heap.size = k := ⟨_, rfl⟩
    have hbW : Below w1.heap.size w1 W := by rw [hW]; go_grown
    have HSW : Hid (SAt W w.heap.size k7 (.slice p1 G.ns.length c1) (.slice p2 G.es.length c2) (G.nn - 1) (G.ne - 1) G.ns G.es) := by
      refine ⟨⟨rfl, Or.inr ⟨k7, 1, _, rfl, ?_, by rw [hW, ← hk7]; exact heap_alloc_new w1 _, by omega, by unfold maxLen; omega, rfl, rfl⟩⟩, HO1.out.later hbW, (Frame.of_below hbW (fun _ => False)).row HO2.out (fun _ _ => id)⟩
      rw [← hk7]; exact HB1.out.size
    have HBW := hide (below_step HB1.out hbW)
    obtain ⟨g, hg, hcm⟩ : ∃ g, p1 = some ⟨g, 0, none⟩ ∧ c1 ≤ maxLen ∧ G.ns.length ≤ c1 := by
      obtain ⟨g, e1, _, _⟩ := own_some HO1.out (by omega)
      obtain ⟨p, c, e2, e3, e4⟩ := row_form HO1.out
      simp only [Value.slice.injEq] at e2
      exact ⟨g, e1, by rw [e2.2.2]; exact e4, by rw [e2.2.2]; exact e3⟩
    subst hg
    obtain ⟨hcm, hnc⟩ := hcm
    rw [← hW, hk7]
    clear hW hk7 hbW HO1 HO2 HB1
    obtain ⟨A, hA, hA2⟩ : ∃ A : Addr, (if c1 = i + 1 then some (⟨g, 0, none⟩ : Addr) else some ⟨g, i + 1, none⟩) = some A ∧ (A = ⟨g, i + 1, none⟩ ∨ i + 1 = G.ns.length) := by
      by_cases h : c1 = i + 1
      · exact ⟨⟨g, 0, none⟩, by simp [h], Or.inr (by omega)⟩
      · exact ⟨⟨g, i + 1, none⟩, by simp [h], Or.inl rfl⟩
    have htl : (G.ns.take i).length = i := by rw [List.length_take]; omega
    have HQ : Hid (∀ U, Below W.heap.size W U → U.cell? ⟨k7, 0, none⟩ = some (.slice (some ⟨g, 0, none⟩) G.ns.length c1)) := fun U hU => (HSW.out.later hU).c0
    have IL : ∀ U, Below W.heap.size W U → ILies U g 0 G.ns := fun U hU => by
      rcases own_ihas (HSW.out.later hU).nod with h0 | ⟨g', o', h1, h2⟩
      · rw [h0] at m1; simp at m1
      · cases h1; exact h2
    have CA : Hid (∀ U, Below W.heap.size W U → ∃ p3 c3 D, (Builtin.append_ #[38, 38] 38 #[.slice none 0 0, .slice (some ⟨g, 0, none⟩) i c1]).run Try.prog U = .ok (.slice p3 i c3) D ∧ IOwns D W.heap.size (.slice p3 i c3) (G.ns.take i) ∧ Below U.heap.size U D) := fun U hU => by
      obtain ⟨p, c, D, e1, o1, gr⟩ := append_cellsI (IOwns.nil U U.heap.size) ⟨g, 0, none⟩ i c1 (G.ns.take i) htl.symm (fun j u hj => by
        rw [Addr.add_lit, Nat.zero_add]
        have hj2 : ((icells G.ns).take (i * 1))[j]? = some u := by rw [icells_take]; exact hj
        rw [List.getElem?_take] at hj2
        split at hj2
        · exact ilies_cells (IL U hU) j u hj2
        · cases hj2) (Nat.le_refl _) (by rw [htl]; show 0 + i ≤ 90000; omega)
      rw [List.nil_append, htl] at e1 o1
      exact ⟨p, c, D, e1, o1.base hU.size, below_none gr (fun i hi => by simp [Value.ownBlock] at hi)⟩
    have CB : Hid (∀ U p3 c3, Below W.heap.size W U → IOwns U W.heap.size (.slice p3 i c3) (G.ns.take i) → ∃ p4 l4 c4 D, (Builtin.append_ #[38, 38] 38 #[.slice p3 i c3, .slice (some A) (G.ns.length - (i + 1)) (c1 - (i + 1))]).run Try.prog U = .ok (.slice p4 l4 c4) D ∧ D.cell? ⟨k7, 0, none⟩ = some (.slice (some ⟨g, 0, none⟩) G.ns.length c1) ∧ D.frozen? ⟨k7, 0, none⟩ = false ∧ SAt (D.setCell ⟨k7, 0, none⟩ (.slice p4 l4 c4)) w.heap.size k7 (.slice p4 l4 c4) (.slice p2 G.es.length c2) (G.nn - 1) (G.ne - 1) (G.ns.eraseIdx i) G.es ∧ Below w.heap.size w (D.setCell ⟨k7, 0, none⟩ (.slice p4 l4 c4))) := fun U p3 c3 hU o1 => by
      have hlt : ∀ k, (Value.slice p3 i c3).ownBlock = some k → W.heap.size ≤ k := fun k hk => (World.ownsRow.lt o1 k hk).1
      have o1' : IOwns U W.heap.size (.slice p3 i c3) (G.ns.take i) := o1
      obtain ⟨p, c, D, e1, o2, gr⟩ := append_cellsI o1' A (G.ns.length - (i + 1)) (c1 - (i + 1)) (G.ns.drop (i + 1)) (by rw [List.length_drop]) (fun j u hj => by
        rcases hA2 with rfl | hA2
        · rw [Addr.add_lit]
          have hj2 : ((icells G.ns).drop ((i + 1) * 1))[j]? = some u := by rw [icells_drop]; exact hj
          rw [List.getElem?_drop, Nat.mul_one] at hj2
          exact ilies_cells (IL U hU) _ u hj2
        · rw [List.drop_of_length_le (by omega)] at hj
          simp [icells] at hj) hU.size (by rw [htl, List.length_drop]; omega)
      have hb2 : Below W.heap.size W D := ⟨gr.os.trans hU.os, gr.tape.trans hU.tape, gr.output.trans hU.output, Nat.le_trans hU.size gr.size, fun k hk => (gr.block k (by have := hU.size; omega) (fun e => by have := hlt k e.symm; omega)).trans (hU.block k hk)⟩
      rw [← List.eraseIdx_eq_take_drop_succ] at o2 e1
      have hs := HSW.out.setN hb2 (o2.base HBW.out.size)
      exact ⟨p, _, c, D, e1, HQ.out D hb2, (HSW.out.later hb2).free 0, hs, (below_step HBW.out hb2).setCell (p := ⟨k7, 0, none⟩) HSW.out.lt.1 _⟩
    have i1 : (i : Int) < G.ns.length := by omega
    have i0 : (0 : Int) ≤ i := by omega
    have i3 : (i : Int) ≤ c1 := by omega
    have i4 : (c1 : Int) ≤ 9223372036854775807 := by unfold maxLen at hcm; omega
    have i5 : (i : Int) + 1 ≤ G.ns.length := by omega
    have i6 : ((i : Int) + 1).toNat = i + 1 := by omega
    have i7 : IntKind.i64.wrap ((i : Int) + 1) = (i : Int) + 1 := by rw [IntKind.wrap_i64]; omega
    have i8 : (0 : Int) ≤ (i : Int) + 1 := by omega
    have i9 : i ≤ c1 := by omega
    have i10 : (G.ns.length : Int) ≤ c1 := by omega
    clear hA2 htl IL hcm
    go_cut [7] (fun s7 wx => ∃ vN, s7 = ptr k7 ∧ Below w.heap.size w wx ∧ SAt wx w.heap.size k7 vN (.slice p2 G.es.length c2) (G.nn - 1) (G.ne - 1) (G.ns.eraseIdx i) G.es)
    case first =>
      refine wp_region_held_drew (S := (fun _ => True)) (by kernel_rfl) trivial (fun hHeld => ?_)
      obtain ⟨U0, hU0⟩ : ∃ V, V = W.drew := ⟨_, rfl⟩
      have HU0 : Hid (Below W.heap.size W U0) := by show Below _ _ _; rw [hU0]; exact below_drew _
      rw [← hU0]
      clear hU0
      have q0 := HQ.out _ HU0.out
      refine wpAnyH_take (i := 0) (v := ?v1) rfl (by kernel_rfl) (by kernel_rfl) (by kernel_rfl) (fun _ _ _ h => h) (Or.inl ⟨by rfl, ?hy1⟩) (by assumption) ?rest1
      case hy1 => (intro w hSw; (try dsimp only at hSw); go_simp; try with_reducible rfl)
      try simp only [Act.put, List.setIfInBounds_toArray]
      refine wpAnyH_take (i := 2) (v := ?v2) rfl (by kernel_rfl) (by kernel_rfl) (by kernel_rfl) (fun _ _ _ h => h) (Or.inl ⟨by rfl, ?hy2⟩) (by assumption) ?rest2
      case hy2 => (intro w hSw; (try dsimp only at hSw); go_simp; try with_reducible rfl)
      try simp only [Act.put]
      refine wpAnyH_take (i := 5) (v := ?v3) rfl (by kernel_rfl) (by kernel_rfl) (by kernel_rfl) (fun _ _ _ h => h) (Or.inl ⟨by rfl, ?hy3⟩) (by assumption) ?rest3
      case hy3 => (intro w hSw; (try dsimp only at hSw); go_simp; try with_reducible rfl)
      try simp only [Act.put]
      refine wpAnyH_take (i := 7) (v := ?v4) rfl (by kernel_rfl) (by kernel_rfl) (by kernel_rfl) (fun _ _ _ h => h) (Or.inl ⟨by rfl, ?hy4⟩) (by assumption) ?rest4
      case hy4 => (intro w hSw; (try dsimp only at hSw); go_simp; try with_reducible rfl)
      try simp only [Act.put]
      refine wpAnyH_take (i := 8) (v := ?v5) rfl (by kernel_rfl) (by kernel_rfl) (by kernel_rfl) (fun _ _ _ h => h) (Or.inl ⟨by rfl, ?hy5⟩) (by assumption) ?rest5
      case hy5 => (intro w hSw; (try dsimp only at hSw); go_simp; try with_reducible rfl)
      try simp only [Act.put]
      refine wpAnyH_ready (rs := [1, 6]) (by kernel_rfl) (by simp) ?_
      refine AllReadyH.cons rfl (fun K hK => ?_) ?_
      · clear hHeld
        go_simp
        refine hK.out _ _ (trivial) (fun hHeld => ?_)
        clear hK K
        try simp only [Act.put, List.setIfInBounds_toArray, List.set_cons_zero, List.set_cons_succ]
        refine wpAnyH_take (i := 3) (v := ?v6) rfl (by kernel_rfl) (by kernel_rfl) (by kernel_rfl) (fun _ _ _ h => h) (Or.inl ⟨by rfl, ?hy6⟩) (by assumption) ?rest6
        case hy6 => (intro w hSw; (try dsimp only at hSw); go_simp; try with_reducible rfl)
        try simp only [Act.put, List.setIfInBounds_toArray]
        refine wpAnyH_ready (rs := [4, 6]) (by kernel_rfl) (by simp) ?_
        refine AllReadyH.cons rfl (fun K hK => ?_) ?_
        · clear hHeld
          obtain ⟨p3, c3, U1, e3, o3, hb2⟩ := CA.out U0 HU0.out
          have HU1 := hide (below_step HU0.out hb2)
          have HO1 := hide o3
          refine step_run_append (by rfl) (.const (.slice none 0 0)) (.tmp 23) 38 (by rfl) 38 (by rfl) (.slice none 0 0) (.slice (some ⟨g, 0, none⟩) i c1) (.slice p3 i c3) U1 (by rfl) (by rfl) ?_ ?_
          with_reducible exact e3
          clear e3 o3 hb2 q0
          have q0 := HQ.out _ HU1.out
          refine hK.out _ _ (trivial) (fun hHeld => ?_)
          clear hK K
          try simp only [Act.put]
          refine wpAnyH_ready (rs := [6]) (by kernel_rfl) (by simp) ?_
          refine AllReadyH.cons rfl (fun K hK => ?_) ?_
          · clear hHeld
            go_simp
            refine hK.out _ _ (trivial) (fun hHeld => ?_)
            clear hK K
            try simp only [Act.put, List.setIfInBounds_toArray, List.set_cons_zero, List.set_cons_succ]
            refine wpAnyH_take (i := 9) (v := ?v7) rfl (by kernel_rfl) (by kernel_rfl) (by kernel_rfl) (fun _ _ _ h => h) (Or.inl ⟨by rfl, ?hy7⟩) (by assumption) ?rest7
            case hy7 => (intro w hSw; (try dsimp only at hSw); go_simp; try with_reducible rfl)
            try simp only [Act.put, List.setIfInBounds_toArray]
            refine wpAnyH_ready (rs := [10]) (by kernel_rfl) (by simp) ?_
            refine AllReadyH.cons rfl (fun K hK => ?_) ?_
            · clear hHeld
              obtain ⟨p4, l4, c4, U2, e4, x3, y3, g3, r3⟩ := CB.out U1 p3 c3 HU1.out HO1.out
              have HG := hide g3
              have HR := hide r3
              refine step_run_append (by rfl) (.tmp 24) (.tmp 29) 38 (by rfl) 38 (by rfl) (.slice p3 i c3) (.slice (some A) (G.ns.length - (i + 1)) (c1 - (i + 1))) (.slice p4 l4 c4) U2 (by rfl) (by rfl) ?_ ?_
              with_reducible exact e4
              clear g3 r3 e4 q0
              refine hK.out _ _ (trivial) (fun hHeld => ?_)
              clear hK K
              try simp only [Act.put]
              refine wpAnyH_take (i := 11) (v := ?v8) rfl (by kernel_rfl) (by kernel_rfl) (by kernel_rfl) (fun _ _ _ h => h) (Or.inl ⟨by rfl, ?hy8⟩) (by assumption) ?rest8
              case hy8 => (intro w hSw; (try dsimp only at hSw); go_simp; try with_reducible rfl)
              try simp only [Act.put]
              refine wpAnyH_ready (rs := [12]) (by kernel_rfl) (by simp) ?_
              refine AllReadyH.cons rfl (fun K hK => ?_) ?_
              · clear hHeld
                go_simp
                clear x3 y3
                refine hK.out _ _ (trivial) (fun hHeld => ?_)
                clear hK K
                try simp only [Act.put, List.setIfInBounds_toArray, List.set_cons_zero, List.set_cons_succ]
                refine wpAnyH_done (by kernel_rfl) ?_ _
                clear hHeld
                obtain ⟨Y, hY⟩ : ∃ Z, Z = U2.setCell ⟨k7, 0, none⟩ (.slice p4 l4 c4) := ⟨_, rfl⟩
                rw [← hY] at HG HR
                rw [← hY]
                clear hY
                go_wp2_with fail
                go_meet
                exact ⟨_, rfl, HR.out, HG.out⟩
              exact AllReadyH.nil
            exact AllReadyH.nil
          exact AllReadyH.nil
        refine AllReadyH.cons rfl (fun K hK => ?_) ?_
        · clear hHeld
          go_simp
          refine hK.out _ _ (trivial) (fun hHeld => ?_)
          clear hK K
          try simp only [Act.put, List.setIfInBounds_toArray, List.set_cons_zero, List.set_cons_succ]
          refine wpAnyH_take (i := 9) (v := ?v9) rfl (by kernel_rfl) (by kernel_rfl) (by kernel_rfl) (fun _ _ _ h => h) (Or.inl ⟨by rfl, ?hy9⟩) (by assumption) ?rest9
          case hy9 => (intro w hSw; (try dsimp only at hSw); go_simp; try with_reducible rfl)
          try simp only [Act.put, List.setIfInBounds_toArray]
          refine wpAnyH_ready (rs := [4]) (by kernel_rfl) (by simp) ?_
          refine AllReadyH.cons rfl (fun K hK => ?_) ?_
          · clear hHeld
            obtain ⟨p3, c3, U1, e3, o3, hb2⟩ := CA.out U0 HU0.out
            have HU1 := hide (below_step HU0.out hb2)
            have HO1 := hide o3
            refine step_run_append (by rfl) (.const (.slice none 0 0)) (.tmp 23) 38 (by rfl) 38 (by rfl) (.slice none 0 0) (.slice (some ⟨g, 0, none⟩) i c1) (.slice p3 i c3) U1 (by rfl) (by rfl) ?_ ?_
            with_reducible exact e3
            clear e3 o3 hb2 q0
            have q0 := HQ.out _ HU1.out
            refine hK.out _ _ (trivial) (fun hHeld => ?_)
            clear hK K
            try simp only [Act.put]
            refine wpAnyH_ready (rs := [10]) (by kernel_rfl) (by simp) ?_
            refine AllReadyH.cons rfl (fun K hK => ?_) ?_
            · clear hHeld
              obtain ⟨p4, l4, c4, U2, e4, x3, y3, g3, r3⟩ := CB.out U1 p3 c3 HU1.out HO1.out
              have HG := hide g3
              have HR := hide r3
              refine step_run_append (by rfl) (.tmp 24) (.tmp 29) 38 (by rfl) 38 (by rfl) (.slice p3 i c3) (.slice (some A) (G.ns.length - (i + 1)) (c1 - (i + 1))) (.slice p4 l4 c4) U2 (by rfl) (by rfl) ?_ ?_
              with_reducible exact e4
              clear g3 r3 e4 q0
              refine hK.out _ _ (trivial) (fun hHeld => ?_)
              clear hK K
              try simp only [Act.put]
              refine wpAnyH_take (i := 11) (v := ?v10) rfl (by kernel_rfl) (by kernel_rfl) (by kernel_rfl) (fun _ _ _ h => h) (Or.inl ⟨by rfl, ?hy10⟩) (by assumption) ?rest10
              case hy10 => (intro w hSw; (try dsimp only at hSw); go_simp; try with_reducible rfl)
              try simp only [Act.put]
              refine wpAnyH_ready (rs := [12]) (by kernel_rfl) (by simp) ?_
              refine AllReadyH.cons rfl (fun K hK => ?_) ?_
              · clear hHeld
                go_simp
                clear x3 y3
                refine hK.out _ _ (trivial) (fun hHeld => ?_)
                clear hK K
                try simp only [Act.put, List.setIfInBounds_toArray, List.set_cons_zero, List.set_cons_succ]
                refine wpAnyH_done (by kernel_rfl) ?_ _
                clear hHeld
                obtain ⟨Y, hY⟩ : ∃ Z, Z = U2.setCell ⟨k7, 0, none⟩ (.slice p4 l4 c4) := ⟨_, rfl⟩
                rw [← hY] at HG HR
                rw [← hY]
                clear hY
                go_wp2_with fail
                go_meet
                exact ⟨_, rfl, HR.out, HG.out⟩
              exact AllReadyH.nil
            exact AllReadyH.nil
          exact AllReadyH.nil
        exact AllReadyH.nil
      refine AllReadyH.cons rfl (fun K hK => ?_) ?_
      · clear hHeld
        go_simp
        refine hK.out _ _ (trivial) (fun hHeld => ?_)
        clear hK K
        try simp only [Act.put, List.setIfInBounds_toArray, List.set_cons_zero, List.set_cons_succ]
        refine wpAnyH_take (i := 9) (v := ?v11) rfl (by kernel_rfl) (by kernel_rfl) (by kernel_rfl) (fun _ _ _ h => h) (Or.inl ⟨by rfl, ?hy11⟩) (by assumption) ?rest11
        case hy11 => (intro w hSw; (try dsimp only at hSw); go_simp; try with_reducible rfl)
        try simp only [Act.put, List.setIfInBounds_toArray]
        refine wpAnyH_ready (rs := [1]) (by kernel_rfl) (by simp) ?_
        refine AllReadyH.cons rfl (fun K hK => ?_) ?_
        · clear hHeld
          go_simp
          refine hK.out _ _ (trivial) (fun hHeld => ?_)
          clear hK K
          try simp only [Act.put, List.setIfInBounds_toArray, List.set_cons_zero, List.set_cons_succ]
          refine wpAnyH_take (i := 3) (v := ?v12) rfl (by kernel_rfl) (by kernel_rfl) (by kernel_rfl) (fun _ _ _ h => h) (Or.inl ⟨by rfl, ?hy12⟩) (by assumption) ?rest12
          case hy12 => (intro w hSw; (try dsimp only at hSw); go_simp; try with_reducible rfl)
          try simp only [Act.put, List.setIfInBounds_toArray]
          refine wpAnyH_ready (rs := [4]) (by kernel_rfl) (by simp) ?_
          refine AllReadyH.cons rfl (fun K hK => ?_) ?_
          · clear hHeld
            obtain ⟨p3, c3, U1, e3, o3, hb2⟩ := CA.out U0 HU0.out
            have HU1 := hide (below_step HU0.out hb2)
            have HO1 := hide o3
            refine step_run_append (by rfl) (.const (.slice none 0 0)) (.tmp 23) 38 (by rfl) 38 (by rfl) (.slice none 0 0) (.slice (some ⟨g, 0, none⟩) i c1) (.slice p3 i c3) U1 (by rfl) (by rfl) ?_ ?_
            with_reducible exact e3
            clear e3 o3 hb2 q0
            have q0 := HQ.out _ HU1.out
            refine hK.out _ _ (trivial) (fun hHeld => ?_)
            clear hK K
            try simp only [Act.put]
            refine wpAnyH_ready (rs := [10]) (by kernel_rfl) (by simp) ?_
            refine AllReadyH.cons rfl (fun K hK => ?_) ?_
            · clear hHeld
              obtain ⟨p4, l4, c4, U2, e4, x3, y3, g3, r3⟩ := CB.out U1 p3 c3 HU1.out HO1.out
              have HG := hide g3
              have HR := hide r3
              refine step_run_append (by rfl) (.tmp 24) (.tmp 29) 38 (by rfl) 38 (by rfl) (.slice p3 i c3) (.slice (some A) (G.ns.length - (i + 1)) (c1 - (i + 1))) (.slice p4 l4 c4) U2 (by rfl) (by rfl) ?_ ?_
              with_reducible exact e4
              clear g3 r3 e4 q0
              refine hK.out _ _ (trivial) (fun hHeld => ?_)
              clear hK K
              try simp only [Act.put]
              refine wpAnyH_take (i := 11) (v := ?v13) rfl (by kernel_rfl) (by kernel_rfl) (by kernel_rfl) (fun _ _ _ h => h) (Or.inl ⟨by rfl, ?hy13⟩) (by assumption) ?rest13
              case hy13 => (intro w hSw; (try dsimp only at hSw); go_simp; try with_reducible rfl)
              try simp only [Act.put]
              refine wpAnyH_ready (rs := [12]) (by kernel_rfl) (by simp) ?_
              refine AllReadyH.cons rfl (fun K hK => ?_) ?_
              · clear hHeld
                go_simp
                clear x3 y3
                refine hK.out _ _ (trivial) (fun hHeld => ?_)
                clear hK K
                try simp only [Act.put, List.setIfInBounds_toArray, List.set_cons_zero, List.set_cons_succ]
                refine wpAnyH_done (by kernel_rfl) ?_ _
                clear hHeld
                obtain ⟨Y, hY⟩ : ∃ Z, Z = U2.setCell ⟨k7, 0, none⟩ (.slice p4 l4 c4) := ⟨_, rfl⟩
                rw [← hY] at HG HR
                rw [← hY]
                clear hY
                go_wp2_with fail
                go_meet
                exact ⟨_, rfl, HR.out, HG.out⟩
              exact AllReadyH.nil
            exact AllReadyH.nil
          exact AllReadyH.nil
        exact AllReadyH.nil
      exact AllReadyH.nil
    case rest =>
      obtain ⟨vN, rfl, hbc, hsc⟩ := hcut
      clear CA CB HQ HSW HBW hA
      have HBc := hide hbc
      have HSc := hide hsc
      have c1k := hsc.c1
      have f1k := hsc.free 1
      obtain ⟨X, hX⟩ : ∃ X, X = wc.setCell ⟨k7, 1, none⟩ (.slice none 0 0) := ⟨_, rfl⟩
      have HSX : Hid (SAt X w.heap.size k7 vN (.slice none 0 0) (G.nn - 1) (G.ne - 1) (G.ns.eraseIdx i) (fl G.es v 0)) := by
        rw [hX]
        exact hsc.setE (w' := wc) (l := []) (Frame.of_below (Below.refl _ _) _) (World.ownsRow_nil _ _ _ _)
      have HBX : Hid (Below w.heap.size w X) := by show Below _ _ _; rw [hX]; exact hbc.setCell (p := ⟨k7, 1, none⟩) hsc.lt.1 _
      clear hbc hsc
      go_upto_region 7 with fail
      rw [← hX]
      clear hX c1k f1k HBc HSc
      go_wp2_with fail
      go_loopw [8] (fun t8 wr => ∃ (k : Nat) (vf : Value), k ≤ G.es.length ∧ t8 = .int .i64 k ∧ Hid (Below w.heap.size w wr) ∧ Hid (SAt wr w.heap.size k7 vN vf (G.nn - 1) (G.ne - 1) (G.ns.eraseIdx i) (fl G.es v k))) (fun t8 _ => G.es.length - (intOf t8).toNat)
      case atStart => exact ⟨0, _, by omega, rfl, HBX.out, HSX.out⟩
      case round =>
        obtain ⟨k, vf, hk, rfl, HBr, HSAr⟩ := hrel
        clear HBX HSX
        have q1 := HQ1.out _ HBr.out
        by_cases hlt : k < G.es.length
        · rcases HE.out.later HBr.out with h0 | ⟨ge, rfl, hc⟩
          · rw [h0] at hlt; simp at hlt
          obtain ⟨c0, c1', c2'⟩ := hc k hlt
          have e1 : (k : Int) < G.es.length := by omega
          have e0 : (0 : Int) ≤ k := by omega
          have HFM := hide (fl_more (v := v) hlt)
          have hfl := fl_length G.es v k
          have hgl : ge < w.heap.size := by
            rcases HE.out with h0 | ⟨g', h1, h2⟩
            · rw [h0] at hlt; simp at hlt
            · cases h1; exact block_lt_of_cell (h2 k hlt).1
          obtain ⟨x, hx⟩ : ∃ x, eat G.es k = x := ⟨_, rfl⟩
          rw [hx] at c0 c1' c2' HFM
          clear hc hx
          by_cases ha : x.a = v
          · have HFL : Hid (fl G.es v (k + 1) = fl G.es v k) := by show _ = _; rw [HFM.out, if_pos (by unfold touB; simp [ha]), List.append_nil]
            have d1 : (x.a != v) = false := by simpa using ha
            clear ha HFM
            go_wp2_with fail
            go_roundw
            case rel => exact ⟨k + 1, vf, by omega, by go_num, HBr.out, by show SAt _ _ _ _ _ _ _ _ _; rw [HFL.out]; exact HSAr.out⟩
            case measure => simp [intOf]; omega
          · have d1 : (x.a != v) = true := by simpa using ha
            by_cases hb : x.b = v
            · have HFL : Hid (fl G.es v (k + 1) = fl G.es v k) := by show _ = _; rw [HFM.out, if_pos (by unfold touB; simp [hb]), List.append_nil]
              have d2 : (x.b != v) = false := by simpa using hb
              clear ha hb HFM
              go_wp2_with fail
              go_roundw
              case rel => exact ⟨k + 1, vf, by omega, by go_num, HBr.out, by show SAt _ _ _ _ _ _ _ _ _; rw [HFL.out]; exact HSAr.out⟩
              case measure => simp [intOf]; omega
            · have d2 : (x.b != v) = true := by simpa using hb
              have HFL : Hid (fl G.es v (k + 1) = fl G.es v k ++ [x]) := by show _ = _; rw [HFM.out, if_neg (by unfold touB; simp [ha, hb])]
              clear ha hb HFM
              obtain ⟨pf, cf, hvf, _⟩ := row_form HSAr.out.edg
              subst hvf
              obtain ⟨lf, hlf⟩ : ∃ n, (fl G.es v k).length = n := ⟨_, rfl⟩
              have hkb7 := HSAr.out.lt
              have hne7 : b ≠ k7 := by have := HB.out; omega
              have hng : ge ≠ k7 := by omega
              have HSr : Hid (∀ X, Below wr.heap.size wr X → X.cell? ⟨b, 1, none⟩ = some (.slice (some ⟨ge, 0, none⟩) G.es.length ce) ∧ X.cell? ⟨ge, k * 3, none⟩ = some (.int .i64 x.id) ∧ X.cell? ⟨ge, k * 3 + 1, none⟩ = some (.int .i64 x.a) ∧ X.cell? ⟨ge, k * 3 + 2, none⟩ = some (.int .i64 x.b)) := fun X hX => ⟨later hX q1, later hX c0, later hX c1', later hX c2'⟩
              have HSA : Hid (∀ X, Below wr.heap.size wr X → SAt X w.heap.size k7 vN (.slice pf lf cf) (G.nn - 1) (G.ne - 1) (G.ns.eraseIdx i) (fl G.es v k)) := fun X hX => by rw [← hlf]; exact HSAr.out.later hX
              have APP : Hid (∀ X kb, Below wr.heap.size wr X → X.heap[kb]? = some (.cells #[.int .i64 x.id, .int .i64 x.a, .int .i64 x.b] 102 (0, 0)) → ∃ p5 l5 c5 D, (Builtin.append_ #[53, 53] 53 #[.slice pf lf cf, .slice (some ⟨kb, 0, none⟩) 1 1]).run Try.prog X = .ok (.slice p5 l5 c5) D ∧ (D.cell? ⟨b, 1, none⟩ = some (.slice (some ⟨ge, 0, none⟩) G.es.length ce) ∧ D.cell? ⟨ge, k * 3, none⟩ = some (.int .i64 x.id) ∧ D.cell? ⟨ge, k * 3 + 1, none⟩ = some (.int .i64 x.a) ∧ D.cell? ⟨ge, k * 3 + 2, none⟩ = some (.int .i64 x.b)) ∧ D.cell? ⟨k7, 1, none⟩ = some (.slice pf lf cf) ∧ D.frozen? ⟨k7, 1, none⟩ = false ∧ SAt (D.setCell ⟨k7, 1, none⟩ (.slice p5 l5 c5)) w.heap.size k7 vN (.slice p5 l5 c5) (G.nn - 1) (G.ne - 1) (G.ns.eraseIdx i) (fl G.es v k ++ [x]) ∧ Below w.heap.size w (D.setCell ⟨k7, 1, none⟩ (.slice p5 l5 c5))) := fun X kb hX hkb => by
                have hs := HSA.out X hX
                have hge : ∀ j, (Value.slice pf lf cf).ownBlock = some j → w.heap.size ≤ j := fun j hj => (World.ownsRow.lt hs.edg j hj).1
                obtain ⟨p5, l5, c5, D, e4, oD, gr, at1⟩ := append_row 53 102 (.agg #[.int .i64 0, .int .i64 0, .int .i64 0]) 3 24 Try.underlying53 info102 rfl (by decide) hs.edg kb [.int .i64 x.id, .int .i64 x.a, .int .i64 x.b] _ _ hkb rfl (by simp [Value.oneCell']) (by omega) (by decide) (by have := HBr.out.size; have := hX.size; omega)
                have hfr : Frame X D (fun i => (Value.slice pf lf cf).ownBlock = some i) := Frame.grown gr (fun i e => e)
                have hs2 := hs.setE (l := fl G.es v k ++ [x]) hfr (by rw [List.length_append, ecells_append]; exact oD)
                obtain ⟨t0, t1, t2, t3⟩ := HSr.out X hX
                have hnb : ∀ j, j < w.heap.size → ¬ (Value.slice pf lf cf).ownBlock = some j := fun j hj e => by have := hge j e; omega
                have hn7 : ¬ (Value.slice pf lf cf).ownBlock = some k7 := fun e => apart hs.edg hs.box (by decide) e rfl
                have hbD : Below w.heap.size w D := (below_step HBr.out hX).trans (hfr.below (by have := HBr.out.size; have := hX.size; omega) (fun j hj => hge j hj))
                exact ⟨p5, l5, c5, D, e4, ⟨hfr.cell t0 (hnb b HB.out), hfr.cell t1 (hnb ge hgl), hfr.cell t2 (hnb ge hgl), hfr.cell t3 (hnb ge hgl)⟩, hfr.cell hs.c1 hn7, by rw [World.frozen?_of_block (hfr.block k7 hs.lt.2 hn7)]; exact hs.free 1, hs2, hbD.setCell (p := ⟨k7, 1, none⟩) hs.lt.1 _⟩
              go_upto_region 11 with fail
              clear hlf
              refine wp_region_held_drew (S := (fun X => X.cell? ⟨b, 1, none⟩ = some (.slice (some ⟨ge, 0, none⟩) G.es.length ce) ∧ X.cell? ⟨ge, k * 3, none⟩ = some (.int .i64 x.id) ∧ X.cell? ⟨ge, k * 3 + 1, none⟩ = some (.int .i64 x.a) ∧ X.cell? ⟨ge, k * 3 + 2, none⟩ = some (.int .i64 x.b))) (by kernel_rfl) (by exact ⟨q1, c0, c1', c2'⟩) (fun hHeld => ?_)
              obtain ⟨X0, hX0⟩ : ∃ V, V = wr.drew := ⟨_, rfl⟩
              have HX0 : Hid (Below wr.heap.size wr X0) := by show Below _ _ _; rw [hX0]; exact below_drew _
              rw [← hX0] at hHeld ⊢
              clear hX0 q1 c0 c1' c2'
              obtain ⟨q1, c0, c1, c2⟩ := HSr.out _ HX0.out
              have s1 := (HSA.out _ HX0.out).c1
              refine wpAnyH_take (i := 0) (v := ?v14) rfl (by kernel_rfl) (by kernel_rfl) (by kernel_rfl) (fun _ _ _ h => h) (Or.inl ⟨by rfl, ?hy14⟩) (by assumption) ?rest14
              case hy14 => (intro w hSw; (try dsimp only at hSw); go_simp; try with_reducible rfl)
              try simp only [Act.put, List.setIfInBounds_toArray]
              refine wpAnyH_take (i := 2) (v := ?v15) rfl (by kernel_rfl) (by kernel_rfl) (by kernel_rfl) (fun _ _ _ h => h) (Or.inl ⟨by rfl, ?hy15⟩) (by assumption) ?rest15
              case hy15 => (intro w hSw; (try dsimp only at hSw); go_simp; try with_reducible rfl)
              try simp only [Act.put]
              refine wpAnyH_take (i := 3) (v := ?v16) rfl (by kernel_rfl) (by kernel_rfl) (by kernel_rfl) (fun _ _ _ h => h) (Or.inl ⟨by rfl, ?hy16⟩) (by assumption) ?rest16
              case hy16 => (intro w hSw; (try dsimp only at hSw); go_simp; try with_reducible rfl)
              try simp only [Act.put]
              refine wpAnyH_take (i := 4) (v := ?v17) rfl (by kernel_rfl) (by kernel_rfl) (by kernel_rfl) (fun _ _ _ h => h) (Or.inl ⟨by rfl, ?hy17⟩) (by assumption) ?rest17
              case hy17 => (intro w hSw; (try dsimp only at hSw); go_simp; try with_reducible rfl)
              try simp only [Act.put]
              refine wpAnyH_take (i := 5) (v := ?v18) rfl (by kernel_rfl) (by kernel_rfl) (by kernel_rfl) (fun _ _ _ h => h) (Or.inl ⟨by rfl, ?hy18⟩) (by assumption) ?rest18
              case hy18 => (intro w hSw; (try dsimp only at hSw); go_simp; try with_reducible rfl)
              try simp only [Act.put]
              refine wpAnyH_take (i := 6) (v := ?v19) rfl (by kernel_rfl) (by kernel_rfl) (by kernel_rfl) (fun _ _ _ h => h) (Or.inl ⟨by rfl, ?hy19⟩) (by assumption) ?rest19
              case hy19 => (intro w hSw; (try dsimp only at hSw); go_simp; try with_reducible rfl)
              try simp only [Act.put]
              refine wpAnyH_take (i := 7) (v := ?v20) rfl (by kernel_rfl) (by kernel_rfl) (by kernel_rfl) (fun _ _ _ h => h) (Or.inl ⟨by rfl, ?hy20⟩) (by assumption) ?rest20
              case hy20 => (intro w hSw; (try dsimp only at hSw); go_simp; try with_reducible rfl)
              try simp only [Act.put]
              refine wpAnyH_take (i := 8) (v := ?v21) rfl (by kernel_rfl) (by kernel_rfl) (by kernel_rfl) (fun _ _ _ h => h) (Or.inl ⟨by rfl, ?hy21⟩) (by assumption) ?rest21
              case hy21 => (intro w hSw; (try dsimp only at hSw); go_simp; try with_reducible rfl)
              try simp only [Act.put]
              refine wpAnyH_take (i := 9) (v := ?v22) rfl (by kernel_rfl) (by kernel_rfl) (by kernel_rfl) (fun _ _ _ h => h) (Or.inl ⟨by rfl, ?hy22⟩) (by assumption) ?rest22
              case hy22 => (intro w hSw; (try dsimp only at hSw); go_simp; try with_reducible rfl)
              try simp only [Act.put]
              refine wpAnyH_ready (rs := [1, 10]) (by kernel_rfl) (by simp) ?_
              refine AllReadyH.cons rfl (fun K hK => ?_) ?_
              · clear hHeld
                go_simp
                refine hK.out _ _ (by first | with_reducible exact ⟨q1, c0, c1, c2⟩ | (dsimp only; with_reducible exact ⟨q1, c0, c1, c2⟩) | exact ⟨cell_other q1 hne7, cell_other c0 hng, cell_other c1 hng, cell_other c2 hng⟩) (fun hHeld => ?_)
                clear hK K
                try simp only [Act.put, List.setIfInBounds_toArray, List.set_cons_zero, List.set_cons_succ]
                refine wpAnyH_ready (rs := [10]) (by kernel_rfl) (by simp) ?_
                refine AllReadyH.cons rfl (fun K hK => ?_) ?_
                · clear hHeld
                  go_simp
                  obtain ⟨X1, hX⟩ : ∃ X, X = X0.alloc (.cells #[.int .i64 x.id, .int .i64 x.a, .int .i64 x.b] 102) := ⟨_, rfl⟩
                  obtain ⟨kb, hkb⟩ : ∃ k, X0.heap.size = k := ⟨_, rfl⟩
                  have hb2 : Below X0.heap.size X0 X1 := by rw [hX]; go_grown
                  have HL1 : Hid (X1.heap[kb]? = some (.cells #[.int .i64 x.id, .int .i64 x.a, .int .i64 x.b] 102 (0, 0))) := by show _ = _; rw [hX, ← hkb]; exact heap_alloc_new X0 _
                  rw [← hX, hkb]
                  have HX1 := hide (below_step HX0.out hb2)
                  clear hX hb2 hkb q1 c0 c1 c2 s1
                  obtain ⟨q1, c0, c1, c2⟩ := HSr.out _ HX1.out
                  have s1 := (HSA.out _ HX1.out).c1
                  refine hK.out _ _ (by first | with_reducible exact ⟨q1, c0, c1, c2⟩ | (dsimp only; with_reducible exact ⟨q1, c0, c1, c2⟩) | exact ⟨cell_other q1 hne7, cell_other c0 hng, cell_other c1 hng, cell_other c2 hng⟩) (fun hHeld => ?_)
                  clear hK K
                  try simp only [Act.put, List.setIfInBounds_toArray, List.set_cons_zero, List.set_cons_succ]
                  refine wpAnyH_ready (rs := [11]) (by kernel_rfl) (by simp) ?_
                  refine AllReadyH.cons rfl (fun K hK => ?_) ?_
                  · clear hHeld
                    obtain ⟨p5, l5, c5, X2, e4, s3, x3, y3, g3, r3⟩ := APP.out X1 kb HX1.out HL1.out
                    have HG := hide g3
                    have HR := hide r3
                    clear q1 c0 c1 c2 s1
                    obtain ⟨q1, c0, c1, c2⟩ := s3
                    refine step_run_append (by rfl) (.tmp 68) (.tmp 77) 53 (by rfl) 53 (by rfl) (.slice pf lf cf) (.slice (some ⟨kb, 0, none⟩) 1 1) (.slice p5 l5 c5) X2 (by rfl) (by rfl) ?_ ?_
                    with_reducible exact e4
                    clear g3 r3 e4
                    refine hK.out _ _ (by first | with_reducible exact ⟨q1, c0, c1, c2⟩ | (dsimp only; with_reducible exact ⟨q1, c0, c1, c2⟩) | exact ⟨cell_other q1 hne7, cell_other c0 hng, cell_other c1 hng, cell_other c2 hng⟩) (fun hHeld => ?_)
                    clear hK K
                    try simp only [Act.put, List.setIfInBounds_toArray]
                    refine wpAnyH_take (i := 12) (v := ?v23) rfl (by kernel_rfl) (by kernel_rfl) (by kernel_rfl) (fun _ _ _ h => h) (Or.inl ⟨by rfl, ?hy23⟩) (by assumption) ?rest23
                    case hy23 => (intro w hSw; (try dsimp only at hSw); go_simp; try with_reducible rfl)
                    try simp only [Act.put]
                    refine wpAnyH_ready (rs := [13]) (by kernel_rfl) (by simp) ?_
                    refine AllReadyH.cons rfl (fun K hK => ?_) ?_
                    · clear hHeld
                      go_simp
                      clear x3 y3
                      refine hK.out _ _ (by first | with_reducible exact ⟨q1, c0, c1, c2⟩ | (dsimp only; with_reducible exact ⟨q1, c0, c1, c2⟩) | exact ⟨cell_other q1 hne7, cell_other c0 hng, cell_other c1 hng, cell_other c2 hng⟩) (fun hHeld => ?_)
                      clear hK K
                      try simp only [Act.put, List.setIfInBounds_toArray, List.set_cons_zero, List.set_cons_succ]
                      refine wpAnyH_done (by kernel_rfl) ?_ _
                      clear hHeld
                      obtain ⟨Y, hY⟩ : ∃ Z, Z = X2.setCell ⟨k7, 1, none⟩ (.slice p5 l5 c5) := ⟨_, rfl⟩
                      rw [← hY] at HG HR
                      rw [← hY]
                      clear hY q1 c0 c1 c2
                      go_wp2_with fail
                      go_roundw
                      case rel => exact ⟨k + 1, _, by omega, by go_num, HR.out, by show SAt _ _ _ _ _ _ _ _ _; rw [HFL.out]; exact HG.out⟩
                      case measure => simp [intOf]; omega
                    exact AllReadyH.nil
                  exact AllReadyH.nil
                exact AllReadyH.nil
              refine AllReadyH.cons rfl (fun K hK => ?_) ?_
              · clear hHeld
                go_simp
                obtain ⟨X1, hX⟩ : ∃ X, X = X0.alloc (.cells #[.int .i64 x.id, .int .i64 x.a, .int .i64 x.b] 102) := ⟨_, rfl⟩
                obtain ⟨kb, hkb⟩ : ∃ k, X0.heap.size = k := ⟨_, rfl⟩
                have hb2 : Below X0.heap.size X0 X1 := by rw [hX]; go_grown
                have HL1 : Hid (X1.heap[kb]? = some (.cells #[.int .i64 x.id, .int .i64 x.a, .int .i64 x.b] 102 (0, 0))) := by show _ = _; rw [hX, ← hkb]; exact heap_alloc_new X0 _
                rw [← hX, hkb]
                have HX1 := hide (below_step HX0.out hb2)
                clear hX hb2 hkb q1 c0 c1 c2 s1
                obtain ⟨q1, c0, c1, c2⟩ := HSr.out _ HX1.out
                have s1 := (HSA.out _ HX1.out).c1
                refine hK.out _ _ (by first | with_reducible exact ⟨q1, c0, c1, c2⟩ | (dsimp only; with_reducible exact ⟨q1, c0, c1, c2⟩) | exact ⟨cell_other q1 hne7, cell_other c0 hng, cell_other c1 hng, cell_other c2 hng⟩) (fun hHeld => ?_)
                clear hK K
                try simp only [Act.put, List.setIfInBounds_toArray, List.set_cons_zero, List.set_cons_succ]
                refine wpAnyH_ready (rs := [1]) (by kernel_rfl) (by simp) ?_
                refine AllReadyH.cons rfl (fun K hK => ?_) ?_
                · clear hHeld
                  go_simp
                  refine hK.out _ _ (by first | with_reducible exact ⟨q1, c0, c1, c2⟩ | (dsimp only; with_reducible exact ⟨q1, c0, c1, c2⟩) | exact ⟨cell_other q1 hne7, cell_other c0 hng, cell_other c1 hng, cell_other c2 hng⟩) (fun hHeld => ?_)
                  clear hK K
                  try simp only [Act.put, List.setIfInBounds_toArray, List.set_cons_zero, List.set_cons_succ]
                  refine wpAnyH_ready (rs := [11]) (by kernel_rfl) (by simp) ?_
                  refine AllReadyH.cons rfl (fun K hK => ?_) ?_
                  · clear hHeld
                    obtain ⟨p5, l5, c5, X2, e4, s3, x3, y3, g3, r3⟩ := APP.out X1 kb HX1.out HL1.out
                    have HG := hide g3
                    have HR := hide r3
                    clear q1 c0 c1 c2 s1
                    obtain ⟨q1, c0, c1, c2⟩ := s3
                    refine step_run_append (by rfl) (.tmp 68) (.tmp 77) 53 (by rfl) 53 (by rfl) (.slice pf lf cf) (.slice (some ⟨kb, 0, none⟩) 1 1) (.slice p5 l5 c5) X2 (by rfl) (by rfl) ?_ ?_
                    with_reducible exact e4
                    clear g3 r3 e4
                    refine hK.out _ _ (by first | with_reducible exact ⟨q1, c0, c1, c2⟩ | (dsimp only; with_reducible exact ⟨q1, c0, c1, c2⟩) | exact ⟨cell_other q1 hne7, cell_other c0 hng, cell_other c1 hng, cell_other c2 hng⟩) (fun hHeld => ?_)
                    clear hK K
                    try simp only [Act.put, List.setIfInBounds_toArray]
                    refine wpAnyH_take (i := 12) (v := ?v24) rfl (by kernel_rfl) (by kernel_rfl) (by kernel_rfl) (fun _ _ _ h => h) (Or.inl ⟨by rfl, ?hy24⟩) (by assumption) ?rest24
                    case hy24 => (intro w hSw; (try dsimp only at hSw); go_simp; try with_reducible rfl)
                    try simp only [Act.put]
                    refine wpAnyH_ready (rs := [13]) (by kernel_rfl) (by simp) ?_
                    refine AllReadyH.cons rfl (fun K hK => ?_) ?_
                    · clear hHeld
                      go_simp
                      clear x3 y3
                      refine hK.out _ _ (by first | with_reducible exact ⟨q1, c0, c1, c2⟩ | (dsimp only; with_reducible exact ⟨q1, c0, c1, c2⟩) | exact ⟨cell_other q1 hne7, cell_other c0 hng, cell_other c1 hng, cell_other c2 hng⟩) (fun hHeld => ?_)
                      clear hK K
                      try simp only [Act.put, List.setIfInBounds_toArray, List.set_cons_zero, List.set_cons_succ]
                      refine wpAnyH_done (by kernel_rfl) ?_ _
                      clear hHeld
                      obtain ⟨Y, hY⟩ : ∃ Z, Z = X2.setCell ⟨k7, 1, none⟩ (.slice p5 l5 c5) := ⟨_, rfl⟩
                      rw [← hY] at HG HR
                      rw [← hY]
                      clear hY q1 c0 c1 c2
                      go_wp2_with fail
                      go_roundw
                      case rel => exact ⟨k + 1, _, by omega, by go_num, HR.out, by show SAt _ _ _ _ _ _ _ _ _; rw [HFL.out]; exact HG.out⟩
                      case measure => simp [intOf]; omega
                    exact AllReadyH.nil
                  exact AllReadyH.nil
                exact AllReadyH.nil
              exact AllReadyH.nil
        · have hke : k = G.es.length := by omega
          subst hke
          obtain ⟨pf, cf, hvf, _⟩ := row_form HSAr.out.edg
          subst hvf
          obtain ⟨lf, hlf⟩ : ∃ n, (fl G.es v G.es.length).length = n := ⟨_, rfl⟩
          have s1 := HSAr.out.c1
          have hll : (G.es.length : Int) - lf = (plAt G v).length := by have := HLEN.out; omega
          have HEL : Hid ((fl G.es v G.es.length).length = lf) := hlf
          rw [hlf] at s1
          have HSr : Hid (∀ X, Below wr.heap.size wr X → X.cell? ⟨b, 1, none⟩ = some (.slice pe G.es.length ce) ∧ X.cell? ⟨k7, 1, none⟩ = some (.slice pf lf cf)) := fun X hX => ⟨later hX q1, later hX s1⟩
          have HSA : Hid (∀ X, Below wr.heap.size wr X → SAt X w.heap.size k7 vN (.slice pf lf cf) (G.nn - 1) (G.ne - 1) (G.ns.eraseIdx i) (fl G.es v G.es.length)) := fun X hX => by rw [← hlf]; exact HSAr.out.later hX
          have hpl : (plAt G v).length ≤ 3072 := by have := HLEN.out; omega
          clear hlf HLEN
          have hle : lf ≤ G.es.length := by omega
          go_upto_region 12 with fail
          go_region_held3 (fun X => X.cell? ⟨b, 1, none⟩ = some (.slice pe G.es.length ce) ∧ X.cell? ⟨k7, 1, none⟩ = some (.slice pf lf cf)) (first | exact HSr.out _ (Below.refl _ _) | exact HSr.out _ (below_drew _)) (fail)
          rename_i hHeld
          clear hHeld
          obtain ⟨Z, hZ⟩ : ∃ Z, Z = wr.drew := ⟨_, rfl⟩
          have HZ : Hid (Below wr.heap.size wr Z) := by show Below _ _ _; rw [hZ]; exact below_drew _
          rw [← hZ]
          clear hZ
          have HBZ := hide (below_step HBr.out HZ.out)
          have hs := HSA.out _ HZ.out
          obtain ⟨pz, cz, hvz, _⟩ := row_form hs.nod
          subst hvz
          obtain ⟨lz, hlz⟩ : ∃ n, (G.ns.eraseIdx i).length = n := ⟨_, rfl⟩
          rw [hlz] at hs
          clear hlz
          obtain ⟨x0, x1, x2, x3⟩ : Z.cell? ⟨k7, 0, none⟩ = some (.slice pz lz cz) ∧ Z.cell? ⟨k7, 1, none⟩ = some (.slice pf lf cf) ∧ Z.cell? ⟨k7, 2, none⟩ = some (.int .i64 (G.nn - 1)) ∧ Z.cell? ⟨k7, 3, none⟩ = some (.int .i64 (G.ne - 1)) := ⟨hs.c0, hs.c1, hs.c2, hs.c3⟩
          have hg := HH.out.later HBZ.out
          obtain ⟨b0, b1, b2, b3, _, _⟩ := hg.cells
          have f0 := hg.free 0
          have f1 := hg.free 1
          have f2 := hg.free 2
          have f3 := hg.free 3
          clear hg
          have HEND := hide (HH.out.setS HBZ.out hs.nod (by have := hs.edg; rw [HEL.out] at this ⊢; exact this))
          clear hs q1 s1 HSr HSA HSAr HBr HZ HBZ
          go_wp2_with fail
          have hwr : IntKind.i64.wrap ((plAt G v).length : Int) = (plAt G v).length := by rw [IntKind.wrap_i64]; omega
          rw [hwr]
          go_ret2
          obtain ⟨g1, r1⟩ := HEND.out
          exact ⟨rfl, _, HFIN.out _ _ g1, r1⟩
  · rw [if_neg hm, if_neg hm]
    have hix : ixI G.ns v = -1 := if_neg hm
    rw [hix] at P
    clear h hix hm hun
    go_enter Try.func38, Try.ntmps38
    go_wp2_with (go_at_call 76; refine P.mono ?_; rintro e w' ⟨rfl, hw⟩; have hw2 := hw.symm; subst hw2)
    go_ret2
    exact ⟨rfl, V, HH.out, RFr.of_below (Below.refl _ _)⟩
end Go.Proofs.Ytgfiofogcnnkhaa
