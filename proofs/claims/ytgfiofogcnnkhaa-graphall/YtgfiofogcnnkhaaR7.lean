/- The document's DropEdge. -/
import Derived.Test.YtgfiofogcnnkhaaR6
namespace Go.Proofs.Ytgfiofogcnnkhaa
open Go.RowKit Go.Sort
open Go

theorem append_cellsE {w : World} {base : Nat} {v : Value} {l : List Ed} (ho : w.ownsRow base 102 3 v l.length (ecells l)) (a : Addr) (n cap : Nat) (qs : List Ed) (hn : n = qs.length) (hnews : ∀ j u, (ecells qs)[j]? = some u → w.cell? (a.add j) = some u) (hb : base ≤ w.heap.size) (hl : l.length + qs.length ≤ 90000) :
    ∃ p c w', (Builtin.append_ #[53, 53] 53 #[v, .slice (some a) n cap]).run Try.prog w = .ok (.slice p (l ++ qs).length c) w' ∧ w'.ownsRow base 102 3 (.slice p (l ++ qs).length c) (l ++ qs).length (ecells (l ++ qs)) ∧ w.grownBy w' v.ownBlock := by
  obtain ⟨i0, hi0, hz0, hz1, hz2⟩ := info_parts info102
  subst hn
  obtain ⟨v', w', h1, h2, h3, _⟩ := run_append_own (P := Try.prog) w base 53 53 102 i0 (.agg #[.int .i64 0, .int .i64 0, .int .i64 0]) 3 24 Try.underlying53 hi0 hz0 hz1 hz2 rfl (by decide) v l.length (ecells l) ho a qs.length cap (ecells qs) (ecells_length qs) hnews (ecells_one qs) (by unfold maxLen; omega) (by omega) hb
  have h4 : w'.ownsRow base 102 3 v' (l ++ qs).length (ecells (l ++ qs)) := by rw [List.length_append, ecells_append]; exact h2
  obtain ⟨p, c, rfl, _⟩ := row_form h4
  exact ⟨p, c, w', h1, h4, h3⟩
theorem elies_cells {w : World} {g : Nat} {l : List Ed} (h : ELies w g l) : ∀ j u, (ecells l)[j]? = some u → w.cell? ⟨g, j, none⟩ = some u := by
  intro j u hj
  have hjl : j < l.length * 3 := by
    have := (List.getElem?_eq_some_iff.1 hj).1
    rw [ecells_length] at this
    exact this
  obtain ⟨k0, k1, k2⟩ := ecells_at l (j / 3) (by omega)
  obtain ⟨c0, c1, c2⟩ := h (j / 3) (by omega)
  have h3 : j % 3 = 0 ∨ j % 3 = 1 ∨ j % 3 = 2 := by omega
  rcases h3 with h3 | h3 | h3
  · have e : j = j / 3 * 3 := by omega
    rw [e] at hj ⊢; rw [k0] at hj; rw [c0]; exact hj
  · have e : j = j / 3 * 3 + 1 := by omega
    rw [e] at hj ⊢; rw [k1] at hj; rw [c1]; exact hj
  · have e : j = j / 3 * 3 + 2 := by omega
    rw [e] at hj ⊢; rw [k2] at hj; rw [c2]; exact hj
theorem below_none {w w' : World} {v : Value} (h : w.grownBy w' v.ownBlock) (hv : ∀ i, v.ownBlock = some i → w.heap.size ≤ i) : Below w.heap.size w w' := ⟨h.os, h.tape, h.output, h.size, fun k hk => h.block k hk (fun e => by have := hv k e.symm; omega)⟩
set_option maxRecDepth 100000 in
set_option maxHeartbeats 8000000 in
theorem rDropEdge39 (b : Nat) (V : RV) (G : Gr) (M : List (Int × Gr)) (L e : Int) (w : World) (h : RAt w b V G M L) (he : G.es.length ≤ 3072) (hu : Up (eids G.es)) : Calls Try.prog 39 #[ptr b, .int .i64 e] w (RTurns w b V (.int .i64 (dcE G e)) (dcG G e) M L) := by
  have P := edge78 b V G M L e w h (by omega) hu
  have HH := hide h
  unfold dcE dcG
  by_cases hm : e ∈ eids G.es
  · rw [if_pos hm, if_pos hm]
    rw [ixI_pos hm] at P
    obtain ⟨m1, m2⟩ := pl_mem hu hm
    rw [eids_length] at m1
    obtain ⟨i, hi⟩ : ∃ k, pl (eids G.es) e = k := ⟨_, rfl⟩
    rw [hi] at P m1 ⊢
    obtain ⟨pn, cn, pe, ce, pm, cm, _, hV, _, _, hce, hcm, _⟩ := h.form
    have oe := h.edg
    rw [hV] at oe
    obtain ⟨g, rfl, _, hg⟩ := own_some oe (by omega)
    obtain ⟨A, hA, hA2⟩ : ∃ A : Addr, (if ce = i + 1 then some (⟨g, 0, none⟩ : Addr) else some ⟨g, (i + 1) * 3, none⟩) = some A ∧ (A = ⟨g, (i + 1) * 3, none⟩ ∨ i + 1 = G.es.length) := by
      by_cases h : ce = i + 1
      · exact ⟨⟨g, 0, none⟩, by simp [h], Or.inr (by omega)⟩
      · exact ⟨⟨g, (i + 1) * 3, none⟩, by simp [h], Or.inl rfl⟩
    have HS : Hid (∀ V', Below w.heap.size w V' → V'.cell? ⟨b, 1, none⟩ = some (.slice (some ⟨g, 0, none⟩) G.es.length ce)) := fun V' hV' => by
      have := (HH.out.later hV').cells.2.1
      rw [hV] at this
      exact this
    have EL : ∀ V', Below w.heap.size w V' → ELies V' g G.es := fun V' hV' => by
      have o := (HH.out.later hV').edg
      rw [hV] at o
      rcases own_e102 o with h0 | ⟨g', h1, h2⟩
      · rw [h0] at m1; simp at m1
      · cases h1; exact h2
    have htl : (G.es.take i).length = i := by rw [List.length_take]; omega
    have CA : Hid (∀ V', Below w.heap.size w V' → ∃ p1 c1 D, (Builtin.append_ #[53, 53] 53 #[.slice none 0 0, .slice (some ⟨g, 0, none⟩) i ce]).run Try.prog V' = .ok (.slice p1 i c1) D ∧ D.ownsRow w.heap.size 102 3 (.slice p1 i c1) i (ecells (G.es.take i)) ∧ Below V'.heap.size V' D) := fun V' hV' => by
      obtain ⟨p, c, D, e1, o1, gr⟩ := append_cellsE (l := []) (World.ownsRow_nil V' V'.heap.size 102 3) ⟨g, 0, none⟩ i ce (G.es.take i) htl.symm (fun j u hj => by
        rw [Addr.add_lit, Nat.zero_add]
        rw [← ecells_take, List.getElem?_take] at hj
        split at hj
        · exact elies_cells (EL V' hV') j u hj
        · cases hj) (Nat.le_refl _) (by rw [htl]; show 0 + i ≤ 90000; omega)
      rw [List.nil_append, htl] at e1 o1
      exact ⟨p, c, D, e1, owns_base o1 hV'.size, below_none gr (fun i hi => by simp [Value.ownBlock] at hi)⟩
    have CB : Hid (∀ V' p1 c1, Below w.heap.size w V' → V'.ownsRow w.heap.size 102 3 (.slice p1 i c1) i (ecells (G.es.take i)) → ∃ p2 l2 c2 D, (Builtin.append_ #[53, 53] 53 #[.slice p1 i c1, .slice (some A) (G.es.length - (i + 1)) (ce - (i + 1))]).run Try.prog V' = .ok (.slice p2 l2 c2) D ∧ D.cell? ⟨b, 1, none⟩ = some (.slice (some ⟨g, 0, none⟩) G.es.length ce) ∧ D.frozen? ⟨b, 1, none⟩ = false ∧ RAt (D.setCell ⟨b, 1, none⟩ (.slice p2 l2 c2)) b { V with ve := .slice p2 l2 c2 } (G.takeE i) M L ∧ RFr w (D.setCell ⟨b, 1, none⟩ (.slice p2 l2 c2)) b V { V with ve := .slice p2 l2 c2 }) := fun V' p1 c1 hV' o1 => by
      have hlt : ∀ k, (Value.slice p1 i c1).ownBlock = some k → w.heap.size ≤ k := fun k hk => (World.ownsRow.lt o1 k hk).1
      obtain ⟨p, c, D, e1, o2, gr⟩ := append_cellsE (l := G.es.take i) (by rw [htl]; exact o1) A (G.es.length - (i + 1)) (ce - (i + 1)) (G.es.drop (i + 1)) (by rw [List.length_drop]) (fun j u hj => by
        rcases hA2 with rfl | hA2
        · rw [Addr.add_lit]
          rw [← ecells_drop, List.getElem?_drop] at hj
          exact elies_cells (EL V' hV') _ u hj
        · rw [List.drop_of_length_le (by omega)] at hj
          simp [ecells] at hj) hV'.size (by rw [htl, List.length_drop]; omega)
      have hb2 : Below w.heap.size w D := ⟨gr.os.trans hV'.os, gr.tape.trans hV'.tape, gr.output.trans hV'.output, Nat.le_trans hV'.size gr.size, fun k hk => (gr.block k (by have := hV'.size; omega) (fun e => by have := hlt k e.symm; omega)).trans (hV'.block k hk)⟩
      have hge : ∀ k, (Value.slice p (G.es.take i ++ G.es.drop (i + 1)).length c).ownBlock = some k → w.heap.size ≤ k := fun k hk => (World.ownsRow.lt o2 k hk).1
      have o3 := owns_base o2 (Nat.zero_le _)
      rw [← List.eraseIdx_eq_take_drop_succ] at o3 hge e1
      obtain ⟨g1, r1⟩ := HH.out.setEs (w' := D) (l := G.es.eraseIdx i) (Frame.of_below hb2 _) o3 (fun k hk => Or.inr (hge k hk))
      exact ⟨p, _, c, D, e1, HS.out D hb2, laterF hb2 (HS.out w (Below.refl _ _)) (HH.out.free 1), g1.core rfl rfl rfl rfl, r1⟩
    have i0 : (0 : Int) ≤ i := by omega
    have i1 : (i : Int) < G.es.length := by omega
    have i2 : ¬ (i : Int) < 0 := by omega
    have i3 : (i : Int) ≤ ce := by omega
    have i4 : (ce : Int) ≤ 9223372036854775807 := by unfold maxLen at hcm; omega
    have i5 : (i : Int) + 1 ≤ G.es.length := by omega
    have i6 : ((i : Int) + 1).toNat = i + 1 := by omega
    have i7 : IntKind.i64.wrap ((i : Int) + 1) = (i : Int) + 1 := by rw [IntKind.wrap_i64]; omega
    have i8 : (0 : Int) ≤ (i : Int) + 1 := by omega
    have i9 : i ≤ ce := by omega
    have i10 : (G.es.length : Int) ≤ ce := by omega
    clear h hV oe hm m2 hi hu EL htl hA2 hcm hg
    go_enter Try.func39, Try.ntmps39
    go_upto_region 4 with (go_at_call 78; refine P.mono ?_; rintro e w' ⟨rfl, hw⟩; have hw2 := hw.symm; subst hw2)
    refine wp_region_held_drew (S := (fun _ => True)) (by kernel_rfl) trivial (fun hHeld => ?_)
    obtain ⟨V0, hV0⟩ : ∃ V, V = w.drew := ⟨_, rfl⟩
    have HB0 : Hid (Below w.heap.size w V0) := by show Below _ _ _; rw [hV0]; exact below_drew _
    rw [← hV0]
    clear hV0 P
    have q1 := HS.out _ HB0.out
    refine wpAnyH_take (i := 0) (v := ?v1) rfl (by kernel_rfl) (by kernel_rfl) (by kernel_rfl) (fun _ _ _ h => h) (Or.inl ⟨by rfl, ?hy1⟩) (by assumption) ?rest1
    case hy1 => (intro w hSw; (try dsimp only at hSw); go_simp; try with_reducible rfl)
    try simp only [Act.put, List.setIfInBounds_toArray]
    refine wpAnyH_take (i := 1) (v := ?v2) rfl (by kernel_rfl) (by kernel_rfl) (by kernel_rfl) (fun _ _ _ h => h) (Or.inl ⟨by rfl, ?hy2⟩) (by assumption) ?rest2
    case hy2 => (intro w hSw; (try dsimp only at hSw); go_simp; try with_reducible rfl)
    try simp only [Act.put]
    refine wpAnyH_take (i := 2) (v := ?v3) rfl (by kernel_rfl) (by kernel_rfl) (by kernel_rfl) (fun _ _ _ h => h) (Or.inl ⟨by rfl, ?hy3⟩) (by assumption) ?rest3
    case hy3 => (intro w hSw; (try dsimp only at hSw); go_simp; try with_reducible rfl)
    try simp only [Act.put]
    refine wpAnyH_take (i := 3) (v := ?v4) rfl (by kernel_rfl) (by kernel_rfl) (by kernel_rfl) (fun _ _ _ h => h) (Or.inl ⟨by rfl, ?hy4⟩) (by assumption) ?rest4
    case hy4 => (intro w hSw; (try dsimp only at hSw); go_simp; try with_reducible rfl)
    try simp only [Act.put]
    refine wpAnyH_take (i := 4) (v := ?v5) rfl (by kernel_rfl) (by kernel_rfl) (by kernel_rfl) (fun _ _ _ h => h) (Or.inl ⟨by rfl, ?hy5⟩) (by assumption) ?rest5
    case hy5 => (intro w hSw; (try dsimp only at hSw); go_simp; try with_reducible rfl)
    try simp only [Act.put]
    refine wpAnyH_take (i := 6) (v := ?v6) rfl (by kernel_rfl) (by kernel_rfl) (by kernel_rfl) (fun _ _ _ h => h) (Or.inl ⟨by rfl, ?hy6⟩) (by assumption) ?rest6
    case hy6 => (intro w hSw; (try dsimp only at hSw); go_simp; try with_reducible rfl)
    try simp only [Act.put]
    refine wpAnyH_take (i := 9) (v := ?v7) rfl (by kernel_rfl) (by kernel_rfl) (by kernel_rfl) (fun _ _ _ h => h) (Or.inl ⟨by rfl, ?hy7⟩) (by assumption) ?rest7
    case hy7 => (intro w hSw; (try dsimp only at hSw); go_simp; try with_reducible rfl)
    try simp only [Act.put]
    refine wpAnyH_take (i := 10) (v := ?v8) rfl (by kernel_rfl) (by kernel_rfl) (by kernel_rfl) (fun _ _ _ h => h) (Or.inl ⟨by rfl, ?hy8⟩) (by assumption) ?rest8
    case hy8 => (intro w hSw; (try dsimp only at hSw); go_simp; try with_reducible rfl)
    try simp only [Act.put]
    refine wpAnyH_take (i := 11) (v := ?v9) rfl (by kernel_rfl) (by kernel_rfl) (by kernel_rfl) (fun _ _ _ h => h) (Or.inl ⟨by rfl, ?hy9⟩) (by assumption) ?rest9
    case hy9 => (intro w hSw; (try dsimp only at hSw); go_simp; try with_reducible rfl)
    try simp only [Act.put]
    refine wpAnyH_take (i := 12) (v := ?v10) rfl (by kernel_rfl) (by kernel_rfl) (by kernel_rfl) (fun _ _ _ h => h) (Or.inl ⟨by rfl, ?hy10⟩) (by assumption) ?rest10
    case hy10 => (intro w hSw; (try dsimp only at hSw); go_simp; try with_reducible rfl)
    try simp only [Act.put]
    refine wpAnyH_take (i := 14) (v := ?v11) rfl (by kernel_rfl) (by kernel_rfl) (by kernel_rfl) (fun _ _ _ h => h) (Or.inl ⟨by rfl, ?hy11⟩) (by assumption) ?rest11
    case hy11 => (intro w hSw; (try dsimp only at hSw); go_simp; try with_reducible rfl)
    try simp only [Act.put]
    refine wpAnyH_take (i := 15) (v := ?v12) rfl (by kernel_rfl) (by kernel_rfl) (by kernel_rfl) (fun _ _ _ h => h) (Or.inl ⟨by rfl, ?hy12⟩) (by assumption) ?rest12
    case hy12 => (intro w hSw; (try dsimp only at hSw); go_simp; try with_reducible rfl)
    try simp only [Act.put]
    refine wpAnyH_ready (rs := [5, 13]) (by kernel_rfl) (by simp) ?_
    refine AllReadyH.cons rfl (fun K hK => ?_) ?_
    · clear hHeld
      go_simp
      refine hK.out _ _ (trivial) (fun hHeld => ?_)
      clear hK K
      try simp only [Act.put, List.setIfInBounds_toArray, List.set_cons_zero, List.set_cons_succ]
      refine wpAnyH_take (i := 7) (v := ?v13) rfl (by kernel_rfl) (by kernel_rfl) (by kernel_rfl) (fun _ _ _ h => h) (Or.inl ⟨by rfl, ?hy13⟩) (by assumption) ?rest13
      case hy13 => (intro w hSw; (try dsimp only at hSw); go_simp; try with_reducible rfl)
      try simp only [Act.put, List.setIfInBounds_toArray]
      refine wpAnyH_ready (rs := [8, 13]) (by kernel_rfl) (by simp) ?_
      refine AllReadyH.cons rfl (fun K hK => ?_) ?_
      · clear hHeld
        obtain ⟨p1, c1, V1, e3, o1, hb2⟩ := CA.out V0 HB0.out
        have HB1 := hide (below_step HB0.out hb2)
        have HO1 := hide o1
        refine step_run_append (by rfl) (.const (.slice none 0 0)) (.tmp 18) 53 (by rfl) 53 (by rfl) (.slice none 0 0) (.slice (some ⟨g, 0, none⟩) i ce) (.slice p1 i c1) V1 (by rfl) (by rfl) ?_ ?_
        with_reducible exact e3
        clear e3 o1 hb2 q1
        have q1 := HS.out _ HB1.out
        refine hK.out _ _ (trivial) (fun hHeld => ?_)
        clear hK K
        try simp only [Act.put]
        refine wpAnyH_ready (rs := [13]) (by kernel_rfl) (by simp) ?_
        refine AllReadyH.cons rfl (fun K hK => ?_) ?_
        · clear hHeld
          go_simp
          refine hK.out _ _ (trivial) (fun hHeld => ?_)
          clear hK K
          try simp only [Act.put, List.setIfInBounds_toArray, List.set_cons_zero, List.set_cons_succ]
          refine wpAnyH_take (i := 16) (v := ?v14) rfl (by kernel_rfl) (by kernel_rfl) (by kernel_rfl) (fun _ _ _ h => h) (Or.inl ⟨by rfl, ?hy14⟩) (by assumption) ?rest14
          case hy14 => (intro w hSw; (try dsimp only at hSw); go_simp; try with_reducible rfl)
          try simp only [Act.put, List.setIfInBounds_toArray]
          refine wpAnyH_ready (rs := [17]) (by kernel_rfl) (by simp) ?_
          refine AllReadyH.cons rfl (fun K hK => ?_) ?_
          · clear hHeld
            obtain ⟨p2, l2, c2, V2, e4, x3, y3, g3, r3⟩ := CB.out V1 p1 c1 HB1.out HO1.out
            have HG := hide g3
            have HR := hide r3
            refine step_run_append (by rfl) (.tmp 19) (.tmp 27) 53 (by rfl) 53 (by rfl) (.slice p1 i c1) (.slice (some A) (G.es.length - (i + 1)) (ce - (i + 1))) (.slice p2 l2 c2) V2 (by rfl) (by rfl) ?_ ?_
            with_reducible exact e4
            clear g3 r3 e4 q1
            refine hK.out _ _ (trivial) (fun hHeld => ?_)
            clear hK K
            try simp only [Act.put]
            refine wpAnyH_take (i := 18) (v := ?v15) rfl (by kernel_rfl) (by kernel_rfl) (by kernel_rfl) (fun _ _ _ h => h) (Or.inl ⟨by rfl, ?hy15⟩) (by assumption) ?rest15
            case hy15 => (intro w hSw; (try dsimp only at hSw); go_simp; try with_reducible rfl)
            try simp only [Act.put]
            refine wpAnyH_take (i := 19) (v := ?v16) rfl (by kernel_rfl) (by kernel_rfl) (by kernel_rfl) (fun _ _ _ h => h) (Or.inl ⟨by rfl, ?hy16⟩) (by assumption) ?rest16
            case hy16 => (intro w hSw; (try dsimp only at hSw); go_simp; try with_reducible rfl)
            try simp only [Act.put]
            refine wpAnyH_take (i := 20) (v := ?v17) rfl (by kernel_rfl) (by kernel_rfl) (by kernel_rfl) (fun _ _ _ h => h) (Or.inl ⟨by rfl, ?hy17⟩) (by assumption) ?rest17
            case hy17 => (intro w hSw; (try dsimp only at hSw); go_simp; try with_reducible rfl)
            try simp only [Act.put]
            refine wpAnyH_ready (rs := [21]) (by kernel_rfl) (by simp) ?_
            refine AllReadyH.cons rfl (fun K hK => ?_) ?_
            · clear hHeld
              go_simp
              clear x3 y3
              refine hK.out _ _ (trivial) (fun hHeld => ?_)
              clear hK K
              try simp only [Act.put, List.setIfInBounds_toArray, List.set_cons_zero, List.set_cons_succ]
              refine wpAnyH_done (by kernel_rfl) ?_ _
              clear hHeld
              go_wp2
              go_ret
              exact ⟨rfl, _, HG.out, HR.out⟩
            exact AllReadyH.nil
          exact AllReadyH.nil
        exact AllReadyH.nil
      refine AllReadyH.cons rfl (fun K hK => ?_) ?_
      · clear hHeld
        go_simp
        refine hK.out _ _ (trivial) (fun hHeld => ?_)
        clear hK K
        try simp only [Act.put, List.setIfInBounds_toArray, List.set_cons_zero, List.set_cons_succ]
        refine wpAnyH_take (i := 16) (v := ?v18) rfl (by kernel_rfl) (by kernel_rfl) (by kernel_rfl) (fun _ _ _ h => h) (Or.inl ⟨by rfl, ?hy18⟩) (by assumption) ?rest18
        case hy18 => (intro w hSw; (try dsimp only at hSw); go_simp; try with_reducible rfl)
        try simp only [Act.put, List.setIfInBounds_toArray]
        refine wpAnyH_ready (rs := [8]) (by kernel_rfl) (by simp) ?_
        refine AllReadyH.cons rfl (fun K hK => ?_) ?_
        · clear hHeld
          obtain ⟨p1, c1, V1, e3, o1, hb2⟩ := CA.out V0 HB0.out
          have HB1 := hide (below_step HB0.out hb2)
          have HO1 := hide o1
          refine step_run_append (by rfl) (.const (.slice none 0 0)) (.tmp 18) 53 (by rfl) 53 (by rfl) (.slice none 0 0) (.slice (some ⟨g, 0, none⟩) i ce) (.slice p1 i c1) V1 (by rfl) (by rfl) ?_ ?_
          with_reducible exact e3
          clear e3 o1 hb2 q1
          have q1 := HS.out _ HB1.out
          refine hK.out _ _ (trivial) (fun hHeld => ?_)
          clear hK K
          try simp only [Act.put]
          refine wpAnyH_ready (rs := [17]) (by kernel_rfl) (by simp) ?_
          refine AllReadyH.cons rfl (fun K hK => ?_) ?_
          · clear hHeld
            obtain ⟨p2, l2, c2, V2, e4, x3, y3, g3, r3⟩ := CB.out V1 p1 c1 HB1.out HO1.out
            have HG := hide g3
            have HR := hide r3
            refine step_run_append (by rfl) (.tmp 19) (.tmp 27) 53 (by rfl) 53 (by rfl) (.slice p1 i c1) (.slice (some A) (G.es.length - (i + 1)) (ce - (i + 1))) (.slice p2 l2 c2) V2 (by rfl) (by rfl) ?_ ?_
            with_reducible exact e4
            clear g3 r3 e4 q1
            refine hK.out _ _ (trivial) (fun hHeld => ?_)
            clear hK K
            try simp only [Act.put]
            refine wpAnyH_take (i := 18) (v := ?v19) rfl (by kernel_rfl) (by kernel_rfl) (by kernel_rfl) (fun _ _ _ h => h) (Or.inl ⟨by rfl, ?hy19⟩) (by assumption) ?rest19
            case hy19 => (intro w hSw; (try dsimp only at hSw); go_simp; try with_reducible rfl)
            try simp only [Act.put]
            refine wpAnyH_take (i := 19) (v := ?v20) rfl (by kernel_rfl) (by kernel_rfl) (by kernel_rfl) (fun _ _ _ h => h) (Or.inl ⟨by rfl, ?hy20⟩) (by assumption) ?rest20
            case hy20 => (intro w hSw; (try dsimp only at hSw); go_simp; try with_reducible rfl)
            try simp only [Act.put]
            refine wpAnyH_take (i := 20) (v := ?v21) rfl (by kernel_rfl) (by kernel_rfl) (by kernel_rfl) (fun _ _ _ h => h) (Or.inl ⟨by rfl, ?hy21⟩) (by assumption) ?rest21
            case hy21 => (intro w hSw; (try dsimp only at hSw); go_simp; try with_reducible rfl)
            try simp only [Act.put]
            refine wpAnyH_ready (rs := [21]) (by kernel_rfl) (by simp) ?_
            refine AllReadyH.cons rfl (fun K hK => ?_) ?_
            · clear hHeld
              go_simp
              clear x3 y3
              refine hK.out _ _ (trivial) (fun hHeld => ?_)
              clear hK K
              try simp only [Act.put, List.setIfInBounds_toArray, List.set_cons_zero, List.set_cons_succ]
              refine wpAnyH_done (by kernel_rfl) ?_ _
              clear hHeld
              go_wp2
              go_ret
              exact ⟨rfl, _, HG.out, HR.out⟩
            exact AllReadyH.nil
          exact AllReadyH.nil
        exact AllReadyH.nil
      exact AllReadyH.nil
    refine AllReadyH.cons rfl (fun K hK => ?_) ?_
    · clear hHeld
      go_simp
      refine hK.out _ _ (trivial) (fun hHeld => ?_)
      clear hK K
      try simp only [Act.put, List.setIfInBounds_toArray, List.set_cons_zero, List.set_cons_succ]
      refine wpAnyH_take (i := 16) (v := ?v22) rfl (by kernel_rfl) (by kernel_rfl) (by kernel_rfl) (fun _ _ _ h => h) (Or.inl ⟨by rfl, ?hy22⟩) (by assumption) ?rest22
      case hy22 => (intro w hSw; (try dsimp only at hSw); go_simp; try with_reducible rfl)
      try simp only [Act.put, List.setIfInBounds_toArray]
      refine wpAnyH_ready (rs := [5]) (by kernel_rfl) (by simp) ?_
      refine AllReadyH.cons rfl (fun K hK => ?_) ?_
      · clear hHeld
        go_simp
        refine hK.out _ _ (trivial) (fun hHeld => ?_)
        clear hK K
        try simp only [Act.put, List.setIfInBounds_toArray, List.set_cons_zero, List.set_cons_succ]
        refine wpAnyH_take (i := 7) (v := ?v23) rfl (by kernel_rfl) (by kernel_rfl) (by kernel_rfl) (fun _ _ _ h => h) (Or.inl ⟨by rfl, ?hy23⟩) (by assumption) ?rest23
        case hy23 => (intro w hSw; (try dsimp only at hSw); go_simp; try with_reducible rfl)
        try simp only [Act.put, List.setIfInBounds_toArray]
        refine wpAnyH_ready (rs := [8]) (by kernel_rfl) (by simp) ?_
        refine AllReadyH.cons rfl (fun K hK => ?_) ?_
        · clear hHeld
          obtain ⟨p1, c1, V1, e3, o1, hb2⟩ := CA.out V0 HB0.out
          have HB1 := hide (below_step HB0.out hb2)
          have HO1 := hide o1
          refine step_run_append (by rfl) (.const (.slice none 0 0)) (.tmp 18) 53 (by rfl) 53 (by rfl) (.slice none 0 0) (.slice (some ⟨g, 0, none⟩) i ce) (.slice p1 i c1) V1 (by rfl) (by rfl) ?_ ?_
          with_reducible exact e3
          clear e3 o1 hb2 q1
          have q1 := HS.out _ HB1.out
          refine hK.out _ _ (trivial) (fun hHeld => ?_)
          clear hK K
          try simp only [Act.put]
          refine wpAnyH_ready (rs := [17]) (by kernel_rfl) (by simp) ?_
          refine AllReadyH.cons rfl (fun K hK => ?_) ?_
          · clear hHeld
            obtain ⟨p2, l2, c2, V2, e4, x3, y3, g3, r3⟩ := CB.out V1 p1 c1 HB1.out HO1.out
            have HG := hide g3
            have HR := hide r3
            refine step_run_append (by rfl) (.tmp 19) (.tmp 27) 53 (by rfl) 53 (by rfl) (.slice p1 i c1) (.slice (some A) (G.es.length - (i + 1)) (ce - (i + 1))) (.slice p2 l2 c2) V2 (by rfl) (by rfl) ?_ ?_
            with_reducible exact e4
            clear g3 r3 e4 q1
            refine hK.out _ _ (trivial) (fun hHeld => ?_)
            clear hK K
            try simp only [Act.put]
            refine wpAnyH_take (i := 18) (v := ?v24) rfl (by kernel_rfl) (by kernel_rfl) (by kernel_rfl) (fun _ _ _ h => h) (Or.inl ⟨by rfl, ?hy24⟩) (by assumption) ?rest24
            case hy24 => (intro w hSw; (try dsimp only at hSw); go_simp; try with_reducible rfl)
            try simp only [Act.put]
            refine wpAnyH_take (i := 19) (v := ?v25) rfl (by kernel_rfl) (by kernel_rfl) (by kernel_rfl) (fun _ _ _ h => h) (Or.inl ⟨by rfl, ?hy25⟩) (by assumption) ?rest25
            case hy25 => (intro w hSw; (try dsimp only at hSw); go_simp; try with_reducible rfl)
            try simp only [Act.put]
            refine wpAnyH_take (i := 20) (v := ?v26) rfl (by kernel_rfl) (by kernel_rfl) (by kernel_rfl) (fun _ _ _ h => h) (Or.inl ⟨by rfl, ?hy26⟩) (by assumption) ?rest26
            case hy26 => (intro w hSw; (try dsimp only at hSw); go_simp; try with_reducible rfl)
            try simp only [Act.put]
            refine wpAnyH_ready (rs := [21]) (by kernel_rfl) (by simp) ?_
            refine AllReadyH.cons rfl (fun K hK => ?_) ?_
            · clear hHeld
              go_simp
              clear x3 y3
              refine hK.out _ _ (trivial) (fun hHeld => ?_)
              clear hK K
              try simp only [Act.put, List.setIfInBounds_toArray, List.set_cons_zero, List.set_cons_succ]
              refine wpAnyH_done (by kernel_rfl) ?_ _
              clear hHeld
              go_wp2
              go_ret
              exact ⟨rfl, _, HG.out, HR.out⟩
            exact AllReadyH.nil
          exact AllReadyH.nil
        exact AllReadyH.nil
      exact AllReadyH.nil
    exact AllReadyH.nil
  · rw [if_neg hm, if_neg hm]
    have hix : ixI (eids G.es) e = -1 := if_neg hm
    rw [hix] at P
    clear h hix hm hu
    go_enter Try.func39, Try.ntmps39
    go_wp2_with (go_at_call 78; refine P.mono ?_; rintro e w' ⟨rfl, hw⟩; have hw2 := hw.symm; subst hw2)
    go_ret
    exact ⟨rfl, V, HH.out, RFr.of_below (Below.refl _ _)⟩
end Go.Proofs.Ytgfiofogcnnkhaa
