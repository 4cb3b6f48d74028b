/- The document's Mark. -/
import Derived.Test.YtgfiofogcnnkhaaR5
namespace Go.Proofs.Ytgfiofogcnnkhaa
open Go.RowKit Go.Sort
open Go

theorem ki_of {w : World} {B : Nat} {N : Nat → Prop} {p : Option Addr} {l : List Int} {c : Nat} (o : IOwns w B (.slice p l.length c) l) (hN : ∀ k, B ≤ k → ¬ N k) : KI w N (.slice p l.length c) l := by
  obtain ⟨p2, c2, e, m, _, z, hb⟩ := IOwns.form o
  simp only [Value.slice.injEq] at e
  obtain ⟨rfl, _, rfl⟩ := e
  exact ⟨p, c, rfl, z, m, fun a ha => ⟨hN _ (hb a ha).2.2.1, (hb a ha).2.2.2⟩⟩
theorem ke_of {w : World} {B : Nat} {N : Nat → Prop} {p : Option Addr} {l : List Ed} {c : Nat} (o : w.ownsRow B 102 3 (.slice p l.length c) l.length (ecells l)) (hN : ∀ k, B ≤ k → ¬ N k) : KE w N (.slice p l.length c) l := by
  refine ⟨p, c, rfl, fun hp => ?_, own_e102 o, fun a ha => ?_⟩
  · subst hp
    obtain ⟨_, ⟨k1, _⟩ | ⟨g2, c2, cur2, k1, _⟩⟩ := o
    · simp only [Value.slice.injEq] at k1; exact k1.2.2
    · simp at k1
  · subst ha
    obtain ⟨_, ⟨k1, _⟩ | ⟨g2, c2, cur2, k1, kB, k2, _⟩⟩ := o
    · simp at k1
    · simp only [Value.slice.injEq, Option.some.injEq] at k1
      rw [k1.1]
      exact ⟨hN _ kB, (Array.getElem?_eq_some_iff.1 k2).1⟩
theorem KI.one {w : World} {N : Nat → Prop} {v : Value} {l : List Int} (h : KI w N v l) : v.oneCell' = true := by
  obtain ⟨p, c, rfl, _⟩ := h
  rfl
theorem KE.one {w : World} {N : Nat → Prop} {v : Value} {l : List Ed} (h : KE w N v l) : v.oneCell' = true := by
  obtain ⟨p, c, rfl, _⟩ := h
  rfl
theorem MAll.more {w : World} {N : Nat → Prop} {mv : List MV} {M : List (Int × Gr)} {x : MV} {m : Int × Gr} (h : MAll w N mv M) (k : MAt w N x m) : MAll w N (mv ++ [x]) (M ++ [m]) := by
  refine ⟨by simp [h.1], fun j f u h1 h2 => ?_⟩
  by_cases hj : j < mv.length
  · rw [List.getElem?_append_left hj] at h1
    rw [List.getElem?_append_left (by rw [← h.1]; exact hj)] at h2
    exact h.2 j f u h1 h2
  · rw [List.getElem?_append_right (by omega)] at h1
    rw [List.getElem?_append_right (by rw [← h.1]; omega), ← h.1] at h2
    cases hd : j - mv.length with
    | zero =>
      rw [hd] at h1 h2
      simp at h1 h2
      rw [← h1, ← h2]
      exact k
    | succ m => rw [hd] at h1; simp at h1
def rmV (M : List (Int × Gr)) (L : Int) : Int := if 64 ≤ M.length then 0 else L + 1
def rmM (G : Gr) (M : List (Int × Gr)) (L : Int) : List (Int × Gr) := if 64 ≤ M.length then M else M ++ [(L + 1, G)]
def rmL (M : List (Int × Gr)) (L : Int) : Int := if 64 ≤ M.length then L else L + 1
set_option maxRecDepth 100000 in
set_option maxHeartbeats 8000000 in
theorem rMark45 (b : Nat) (V : RV) (G : Gr) (M : List (Int × Gr)) (L : Int) (w : World) (h : RAt w b V G M L) (hm : M.length ≤ 64) (h0 : 0 ≤ L) (h1 : L ≤ 1000000000) (hln : G.ns.length ≤ 5000) (hle : G.es.length ≤ 5000) : Calls Try.prog 45 #[ptr b] w (RTurns w b V (.int .i64 (rmV M L)) G (rmM G M L) (rmL M L)) := by
  obtain ⟨pn, cn, pe, ce, pm, cm, _, hV, _, _, _, _, _, _, zn, ze⟩ := h.form
  have q4' : w.cell? ⟨b, 4, none⟩ = some (.slice pm M.length cm) := by have := h.cells.2.2.2.2.1; rw [hV] at this; exact this
  have H := hide h
  unfold rmV rmM rmL
  by_cases hf : 64 ≤ M.length
  · rw [if_pos hf, if_pos hf, if_pos hf]
    have hf' : ((M.length : Int) == 64) = true := by rw [beq_iff_eq]; omega
    clear h hV
    go_enter Try.func45, Try.ntmps45
    go_wp2_with fail
    go_ret
    exact ⟨rfl, V, H.out, RFr.of_below (Below.refl _ _)⟩
  · rw [if_neg hf, if_neg hf, if_neg hf]
    have hf' : ((M.length : Int) == 64) = false := by rw [beq_eq_false_iff_ne]; omega
    have q6 := h.cells.2.2.2.2.2
    have f6 := h.free 5
    obtain ⟨g1, r1⟩ := h.setC 5 (.int .i64 (L + 1)) G (L + 1) rfl rfl rfl
    obtain ⟨W, hW⟩ : ∃ W, W = w.setCell ⟨b, 5, none⟩ (.int .i64 (L + 1)) := ⟨_, rfl⟩
    rw [← hW] at g1 r1
    have HG1 := hide g1
    have HR1 := hide r1
    have HS : Hid (∀ V', Below W.heap.size W V' → V'.cell? ⟨b, 0, none⟩ = some (.slice pn G.ns.length cn) ∧ V'.cell? ⟨b, 1, none⟩ = some (.slice pe G.es.length ce) ∧ V'.cell? ⟨b, 2, none⟩ = some (.int .i64 (G.nn - 1)) ∧ V'.cell? ⟨b, 3, none⟩ = some (.int .i64 (G.ne - 1)) ∧ V'.cell? ⟨b, 4, none⟩ = some (.slice pm M.length cm) ∧ V'.cell? ⟨b, 5, none⟩ = some (.int .i64 (L + 1))) := fun V' hV' => by
      obtain ⟨k0, k1, k2, k3, k4, k5⟩ := (HG1.out.later hV').cells
      rw [hV] at k0 k1 k4
      exact ⟨k0, k1, k2, k3, k4, k5⟩
    have CP : Hid (∀ V', Below W.heap.size W V' → Calls Try.prog 77 #[.agg #[.slice pn G.ns.length cn, .slice pe G.es.length ce, .int .i64 (G.nn - 1), .int .i64 (G.ne - 1)]] V' fun e w' => ∃ p1 c1 p2 c2, e = .returned (.agg #[.slice p1 G.ns.length c1, .slice p2 G.es.length c2, .int .i64 (G.nn - 1), .int .i64 (G.ne - 1)]) ∧ IOwns w' V'.heap.size (.slice p1 G.ns.length c1) G.ns ∧ w'.ownsRow V'.heap.size 102 3 (.slice p2 G.es.length c2) G.es.length (ecells G.es) ∧ Below V'.heap.size V' w') := fun V' hV' => by
      have hg := HG1.out.later hV'
      have on := hg.nod
      have oe := hg.edg
      rw [hV] at on oe
      exact copy77 pn G.ns cn pe G.es ce _ _ V' (own_ihas on) (own_e102 oe) zn ze hln hle
    have APP : Hid (∀ V' kb p1 c1 p2 c2, Below W.heap.size W V' → V'.heap[kb]? = some (.cells #[.int .i64 (L + 1), .slice p1 G.ns.length c1, .slice p2 G.es.length c2, .int .i64 (G.nn - 1), .int .i64 (G.ne - 1)] 106 (0, 0)) → IOwns V' W.heap.size (.slice p1 G.ns.length c1) G.ns → V'.ownsRow W.heap.size 102 3 (.slice p2 G.es.length c2) G.es.length (ecells G.es) → ∃ p l c D, (Builtin.append_ #[56, 56] 56 #[.slice pm M.length cm, .slice (some ⟨kb, 0, none⟩) 1 1]).run Try.prog V' = .ok (.slice p l c) D ∧ (D.cell? ⟨b, 0, none⟩ = some (.slice pn G.ns.length cn) ∧ D.cell? ⟨b, 1, none⟩ = some (.slice pe G.es.length ce) ∧ D.cell? ⟨b, 2, none⟩ = some (.int .i64 (G.nn - 1)) ∧ D.cell? ⟨b, 3, none⟩ = some (.int .i64 (G.ne - 1)) ∧ D.cell? ⟨b, 5, none⟩ = some (.int .i64 (L + 1))) ∧ D.cell? ⟨b, 4, none⟩ = some (.slice pm M.length cm) ∧ D.frozen? ⟨b, 4, none⟩ = false ∧ RAt (D.setCell ⟨b, 4, none⟩ (.slice p l c)) b { V with vm := .slice p l c } G (M ++ [(L + 1, G)]) (L + 1) ∧ RFr w (D.setCell ⟨b, 4, none⟩ (.slice p l c)) b V { V with vm := .slice p l c }) := fun V' kb p1 c1 p2 c2 hV' hk o1 o2 => by
      have hg := HG1.out.later hV'
      have hN : ∀ k, W.heap.size ≤ k → ¬ RN b V k := fun k hk hk2 => hk2.elim (HG1.out.fresh hk) (fun ht => by have := HG1.out.tb ht; omega)
      have hki := ki_of (N := RN b V) o1 hN
      have hke := ke_of (N := RN b V) o2 hN
      obtain ⟨mv, om, hma, _⟩ := hg.mks
      obtain ⟨p, l, c, D, e1, oD, gr, at1⟩ := append_row 56 106 (.agg #[.int .i64 0, .slice none 0 0, .slice none 0 0, .int .i64 0, .int .i64 0]) 5 72 Try.underlying56 info106 rfl (by decide) om kb [.int .i64 (L + 1), .slice p1 G.ns.length c1, .slice p2 G.es.length c2, .int .i64 (G.nn - 1), .int .i64 (G.ne - 1)] _ _ hk rfl (by simp [Value.oneCell']) (by omega) (by decide) (by omega)
      have hfr : Frame V' D (fun i => V.vm.ownBlock = some i) := Frame.grown gr (fun i e => e)
      have hmore : MAll V' (RN b V) (mv ++ [⟨L + 1, .slice p1 G.ns.length c1, .slice p2 G.es.length c2, G.nn - 1, G.ne - 1⟩]) (M ++ [(L + 1, G)]) := hma.more ⟨rfl, rfl, rfl, hki, hke⟩
      obtain ⟨g1, r1⟩ := hg.setMs (M' := M ++ [(L + 1, G)]) hfr (by rw [List.length_append, mvcells_append]; exact oD) (lie_of at1) hmore
      obtain ⟨t0, t1, t2, t3, t4, t5⟩ := HS.out V' hV'
      have hne := hg.ne.2.2
      refine ⟨p, l, c, D, by rw [hV] at e1; exact e1, ⟨hfr.cell t0 hne, hfr.cell t1 hne, hfr.cell t2 hne, hfr.cell t3 hne, hfr.cell t5 hne⟩, hfr.cell t4 hne, by rw [World.frozen?_of_block (hfr.block b hg.lt hne)]; exact hg.free 4, g1, (HR1.out.trans (RFr.of_below hV')).trans r1⟩
    clear h hV g1 r1 zn ze
    go_enter Try.func45, Try.ntmps45
    go_upto_region 4 with fail
    rw [← hW]
    obtain ⟨q0, q1, q2, q3, q4, q5⟩ := HS.out _ (Below.refl _ _)
    clear hW q4' q6 f6 q4
    refine wp_region_held_drew (S := (fun V' => V'.cell? ⟨b, 0, none⟩ = some (.slice pn G.ns.length cn) ∧ V'.cell? ⟨b, 1, none⟩ = some (.slice pe G.es.length ce) ∧ V'.cell? ⟨b, 2, none⟩ = some (.int .i64 (G.nn - 1)) ∧ V'.cell? ⟨b, 3, none⟩ = some (.int .i64 (G.ne - 1)) ∧ V'.cell? ⟨b, 5, none⟩ = some (.int .i64 (L + 1)))) (by kernel_rfl) (by exact ⟨q0, q1, q2, q3, q5⟩) (fun hHeld => ?_)
    obtain ⟨V0, hV0⟩ : ∃ V, V = W.drew := ⟨_, rfl⟩
    have HB0 : Hid (Below W.heap.size W V0) := by show Below _ _ _; rw [hV0]; exact below_drew _
    rw [← hV0] at hHeld ⊢
    clear hV0 q0 q1 q2 q3 q5
    obtain ⟨q0, q1, q2, q3, q4, q5⟩ := HS.out _ HB0.out
    refine wpAnyH_take (i := 0) (v := ?v1) rfl (by kernel_rfl) (by kernel_rfl) (by kernel_rfl) (fun _ _ _ h => h) (Or.inl ⟨by rfl, ?hy1⟩) (by assumption) ?rest1
    case hy1 => (intro w hSw; (try dsimp only at hSw); go_simp; try with_reducible rfl)
    try simp only [Act.put, List.setIfInBounds_toArray]
    refine wpAnyH_take (i := 1) (v := ?v2) rfl (by kernel_rfl) (by kernel_rfl) (by kernel_rfl) (fun _ _ _ h => h) (Or.inl ⟨by rfl, ?hy2⟩) (by assumption) ?rest2
    case hy2 => (intro w hSw; (try dsimp only at hSw); go_simp; try with_reducible rfl)
    try simp only [Act.put]
    refine wpAnyH_take (i := 2) (v := ?v3) rfl (by kernel_rfl) (by kernel_rfl) (by kernel_rfl) (fun _ _ _ h => h) (Or.inl ⟨by rfl, ?hy3⟩) (by assumption) ?rest3
    case hy3 => (intro w hSw; (try dsimp only at hSw); go_simp; try with_reducible rfl)
    try simp only [Act.put]
    refine wpAnyH_take (i := 3) (v := ?v4) rfl (by kernel_rfl) (by kernel_rfl) (by kernel_rfl) (fun _ _ _ h => h) (Or.inl ⟨by rfl, ?hy4⟩) (by assumption) ?rest4
    case hy4 => (intro w hSw; (try dsimp only at hSw); go_simp; try with_reducible rfl)
    try simp only [Act.put]
    refine wpAnyH_take (i := 5) (v := ?v5) rfl (by kernel_rfl) (by kernel_rfl) (by kernel_rfl) (fun _ _ _ h => h) (Or.inl ⟨by rfl, ?hy5⟩) (by assumption) ?rest5
    case hy5 => (intro w hSw; (try dsimp only at hSw); go_simp; try with_reducible rfl)
    try simp only [Act.put]
    refine wpAnyH_take (i := 6) (v := ?v6) rfl (by kernel_rfl) (by kernel_rfl) (by kernel_rfl) (fun _ _ _ h => h) (Or.inl ⟨by rfl, ?hy6⟩) (by assumption) ?rest6
    case hy6 => (intro w hSw; (try dsimp only at hSw); go_simp; try with_reducible rfl)
    try simp only [Act.put]
    refine wpAnyH_take (i := 7) (v := ?v7) rfl (by kernel_rfl) (by kernel_rfl) (by kernel_rfl) (fun _ _ _ h => h) (Or.inl ⟨by rfl, ?hy7⟩) (by assumption) ?rest7
    case hy7 => (intro w hSw; (try dsimp only at hSw); go_simp; try with_reducible rfl)
    try simp only [Act.put]
    refine wpAnyH_take (i := 8) (v := ?v8) rfl (by kernel_rfl) (by kernel_rfl) (by kernel_rfl) (fun _ _ _ h => h) (Or.inl ⟨by rfl, ?hy8⟩) (by assumption) ?rest8
    case hy8 => (intro w hSw; (try dsimp only at hSw); go_simp; try with_reducible rfl)
    try simp only [Act.put]
    refine wpAnyH_take (i := 9) (v := ?v9) rfl (by kernel_rfl) (by kernel_rfl) (by kernel_rfl) (fun _ _ _ h => h) (Or.inl ⟨by rfl, ?hy9⟩) (by assumption) ?rest9
    case hy9 => (intro w hSw; (try dsimp only at hSw); go_simp; try with_reducible rfl)
    try simp only [Act.put]
    refine wpAnyH_take (i := 10) (v := ?v10) rfl (by kernel_rfl) (by kernel_rfl) (by kernel_rfl) (fun _ _ _ h => h) (Or.inl ⟨by rfl, ?hy10⟩) (by assumption) ?rest10
    case hy10 => (intro w hSw; (try dsimp only at hSw); go_simp; try with_reducible rfl)
    try simp only [Act.put]
    refine wpAnyH_take (i := 11) (v := ?v11) rfl (by kernel_rfl) (by kernel_rfl) (by kernel_rfl) (fun _ _ _ h => h) (Or.inl ⟨by rfl, ?hy11⟩) (by assumption) ?rest11
    case hy11 => (intro w hSw; (try dsimp only at hSw); go_simp; try with_reducible rfl)
    try simp only [Act.put]
    refine wpAnyH_take (i := 12) (v := ?v12) rfl (by kernel_rfl) (by kernel_rfl) (by kernel_rfl) (fun _ _ _ h => h) (Or.inl ⟨by rfl, ?hy12⟩) (by assumption) ?rest12
    case hy12 => (intro w hSw; (try dsimp only at hSw); go_simp; try with_reducible rfl)
    try simp only [Act.put]
    refine wpAnyH_ready (rs := [4, 13]) (by kernel_rfl) (by simp) ?_
    refine AllReadyH.cons rfl (fun K hK => ?_) ?_
    · clear hHeld
      go_simp
      refine hK.out _ _ (by first | with_reducible exact ⟨q0, q1, q2, q3, q5⟩ | (dsimp only; with_reducible exact ⟨q0, q1, q2, q3, q5⟩) | exact ⟨cell_off q0 (by decide), cell_off q1 (by decide), cell_off q2 (by decide), cell_off q3 (by decide), cell_off q5 (by decide)⟩) (fun hHeld => ?_)
      clear hK K
      try simp only [Act.put, List.setIfInBounds_toArray, List.set_cons_zero, List.set_cons_succ]
      refine wpAnyH_ready (rs := [13]) (by kernel_rfl) (by simp) ?_
      refine AllReadyH.cons rfl (fun K hK => ?_) ?_
      · clear hHeld
        go_simp
        refine (CP.out V0 HB0.out).mono ?_
        rintro e V1 ⟨p1, c1, p2, c2, rfl, o1, o2, hb2⟩
        have HB1 := hide (below_step HB0.out hb2)
        have HC1 := hide (show IOwns V1 W.heap.size (.slice p1 G.ns.length c1) G.ns ∧ V1.ownsRow W.heap.size 102 3 (.slice p2 G.es.length c2) G.es.length (ecells G.es) from ⟨o1.base HB0.out.size, owns_base o2 HB0.out.size⟩)
        clear o1 o2 hb2 q0 q1 q2 q3 q5 q4
        obtain ⟨q0, q1, q2, q3, q4, q5⟩ := HS.out _ HB1.out
        refine hK.out _ _ (by first | with_reducible exact ⟨q0, q1, q2, q3, q5⟩ | (dsimp only; with_reducible exact ⟨q0, q1, q2, q3, q5⟩) | exact ⟨cell_off q0 (by decide), cell_off q1 (by decide), cell_off q2 (by decide), cell_off q3 (by decide), cell_off q5 (by decide)⟩) (fun hHeld => ?_)
        clear hK K
        try simp only [Act.put, List.setIfInBounds_toArray, List.set_cons_zero, List.set_cons_succ]
        refine wpAnyH_take (i := 14) (v := ?v13) rfl (by kernel_rfl) (by kernel_rfl) (by kernel_rfl) (fun _ _ _ h => h) (Or.inl ⟨by rfl, ?hy13⟩) (by assumption) ?rest13
        case hy13 => (intro w hSw; (try dsimp only at hSw); go_simp; try with_reducible rfl)
        try simp only [Act.put, List.setIfInBounds_toArray]
        refine wpAnyH_ready (rs := [15]) (by kernel_rfl) (by simp) ?_
        refine AllReadyH.cons rfl (fun K hK => ?_) ?_
        · clear hHeld
          go_simp
          obtain ⟨V2, hV⟩ : ∃ V, V = V1.alloc (.cells #[.int .i64 (L + 1), .slice p1 G.ns.length c1, .slice p2 G.es.length c2, .int .i64 (G.nn - 1), .int .i64 (G.ne - 1)] 106) := ⟨_, rfl⟩
          obtain ⟨kb, hkb⟩ : ∃ k, V1.heap.size = k := ⟨_, rfl⟩
          have hb2 : Below V1.heap.size V1 V2 := by rw [hV]; go_grown
          have HL2 : Hid (V2.heap[kb]? = some (.cells #[.int .i64 (L + 1), .slice p1 G.ns.length c1, .slice p2 G.es.length c2, .int .i64 (G.nn - 1), .int .i64 (G.ne - 1)] 106 (0, 0))) := by show _ = _; rw [hV, ← hkb]; exact heap_alloc_new V1 _
          rw [← hV, hkb]
          have HB2 := hide (below_step HB1.out hb2)
          have HC2 := hide (show IOwns V2 W.heap.size (.slice p1 G.ns.length c1) G.ns ∧ V2.ownsRow W.heap.size 102 3 (.slice p2 G.es.length c2) G.es.length (ecells G.es) from ⟨HC1.out.1.later hb2, (Frame.of_below hb2 (fun _ => False)).row HC1.out.2 (fun _ _ => id)⟩)
          clear hV hb2 hkb q0 q1 q2 q3 q5 q4
          obtain ⟨q0, q1, q2, q3, q4, q5⟩ := HS.out _ HB2.out
          refine hK.out _ _ (by first | with_reducible exact ⟨q0, q1, q2, q3, q5⟩ | (dsimp only; with_reducible exact ⟨q0, q1, q2, q3, q5⟩) | exact ⟨cell_off q0 (by decide), cell_off q1 (by decide), cell_off q2 (by decide), cell_off q3 (by decide), cell_off q5 (by decide)⟩) (fun hHeld => ?_)
          clear hK K
          try simp only [Act.put, List.setIfInBounds_toArray, List.set_cons_zero, List.set_cons_succ]
          refine wpAnyH_ready (rs := [16]) (by kernel_rfl) (by simp) ?_
          refine AllReadyH.cons rfl (fun K hK => ?_) ?_
          · clear hHeld
            obtain ⟨pp, ll, cc, V3, e4, s3, x3, y3, g3, r3⟩ := APP.out V2 kb p1 c1 p2 c2 HB2.out HL2.out HC2.out.1 HC2.out.2
            have HG := hide g3
            have HR := hide r3
            clear q0 q1 q2 q3 q5 q4
            obtain ⟨q0, q1, q2, q3, q5⟩ := s3
            refine step_run_append (by rfl) (.tmp 20) (.tmp 31) 56 (by rfl) 56 (by rfl) (.slice pm M.length cm) (.slice (some ⟨kb, 0, none⟩) 1 1) (.slice pp ll cc) V3 (by rfl) (by rfl) ?_ ?_
            with_reducible exact e4
            clear g3 r3 e4
            refine hK.out _ _ (by first | with_reducible exact ⟨q0, q1, q2, q3, q5⟩ | (dsimp only; with_reducible exact ⟨q0, q1, q2, q3, q5⟩) | exact ⟨cell_off q0 (by decide), cell_off q1 (by decide), cell_off q2 (by decide), cell_off q3 (by decide), cell_off q5 (by decide)⟩) (fun hHeld => ?_)
            clear hK K
            try simp only [Act.put, List.setIfInBounds_toArray]
            refine wpAnyH_take (i := 17) (v := ?v14) rfl (by kernel_rfl) (by kernel_rfl) (by kernel_rfl) (fun _ _ _ h => h) (Or.inl ⟨by rfl, ?hy14⟩) (by assumption) ?rest14
            case hy14 => (intro w hSw; (try dsimp only at hSw); go_simp; try with_reducible rfl)
            try simp only [Act.put]
            refine wpAnyH_take (i := 18) (v := ?v15) rfl (by kernel_rfl) (by kernel_rfl) (by kernel_rfl) (fun _ _ _ h => h) (Or.inl ⟨by rfl, ?hy15⟩) (by assumption) ?rest15
            case hy15 => (intro w hSw; (try dsimp only at hSw); go_simp; try with_reducible rfl)
            try simp only [Act.put]
            refine wpAnyH_ready (rs := [19]) (by kernel_rfl) (by simp) ?_
            refine AllReadyH.cons rfl (fun K hK => ?_) ?_
            · clear hHeld
              go_simp
              clear x3 y3
              refine hK.out _ _ (by first | with_reducible exact ⟨q0, q1, q2, q3, q5⟩ | (dsimp only; with_reducible exact ⟨q0, q1, q2, q3, q5⟩) | exact ⟨cell_off q0 (by decide), cell_off q1 (by decide), cell_off q2 (by decide), cell_off q3 (by decide), cell_off q5 (by decide)⟩) (fun hHeld => ?_)
              clear hK K
              try simp only [Act.put, List.setIfInBounds_toArray, List.set_cons_zero, List.set_cons_succ]
              refine wpAnyH_done (by kernel_rfl) ?_ _
              clear hHeld
              obtain ⟨Y, hY⟩ : ∃ Z, Z = V3.setCell ⟨b, 4, none⟩ (.slice pp ll cc) := ⟨_, rfl⟩
              rw [← hY] at HG HR
              rw [← hY]
              have k5 : Y.cell? ⟨b, 5, none⟩ = some (.int .i64 (L + 1)) := HG.out.cells.2.2.2.2.2
              clear hY q0 q1 q2 q3 q5
              go_wp2
              go_ret
              exact ⟨rfl, _, HG.out, HR.out⟩
            exact AllReadyH.nil
          exact AllReadyH.nil
        exact AllReadyH.nil
      exact AllReadyH.nil
    refine AllReadyH.cons rfl (fun K hK => ?_) ?_
    · clear hHeld
      go_simp
      refine (CP.out V0 HB0.out).mono ?_
      rintro e V1 ⟨p1, c1, p2, c2, rfl, o1, o2, hb2⟩
      have HB1 := hide (below_step HB0.out hb2)
      have HC1 := hide (show IOwns V1 W.heap.size (.slice p1 G.ns.length c1) G.ns ∧ V1.ownsRow W.heap.size 102 3 (.slice p2 G.es.length c2) G.es.length (ecells G.es) from ⟨o1.base HB0.out.size, owns_base o2 HB0.out.size⟩)
      clear o1 o2 hb2 q0 q1 q2 q3 q5 q4
      obtain ⟨q0, q1, q2, q3, q4, q5⟩ := HS.out _ HB1.out
      refine hK.out _ _ (by first | with_reducible exact ⟨q0, q1, q2, q3, q5⟩ | (dsimp only; with_reducible exact ⟨q0, q1, q2, q3, q5⟩) | exact ⟨cell_off q0 (by decide), cell_off q1 (by decide), cell_off q2 (by decide), cell_off q3 (by decide), cell_off q5 (by decide)⟩) (fun hHeld => ?_)
      clear hK K
      try simp only [Act.put, List.setIfInBounds_toArray, List.set_cons_zero, List.set_cons_succ]
      refine wpAnyH_take (i := 14) (v := ?v16) rfl (by kernel_rfl) (by kernel_rfl) (by kernel_rfl) (fun _ _ _ h => h) (Or.inl ⟨by rfl, ?hy16⟩) (by assumption) ?rest16
      case hy16 => (intro w hSw; (try dsimp only at hSw); go_simp; try with_reducible rfl)
      try simp only [Act.put, List.setIfInBounds_toArray]
      refine wpAnyH_ready (rs := [4, 15]) (by kernel_rfl) (by simp) ?_
      refine AllReadyH.cons rfl (fun K hK => ?_) ?_
      · clear hHeld
        go_simp
        refine hK.out _ _ (by first | with_reducible exact ⟨q0, q1, q2, q3, q5⟩ | (dsimp only; with_reducible exact ⟨q0, q1, q2, q3, q5⟩) | exact ⟨cell_off q0 (by decide), cell_off q1 (by decide), cell_off q2 (by decide), cell_off q3 (by decide), cell_off q5 (by decide)⟩) (fun hHeld => ?_)
        clear hK K
        try simp only [Act.put, List.setIfInBounds_toArray, List.set_cons_zero, List.set_cons_succ]
        refine wpAnyH_ready (rs := [15]) (by kernel_rfl) (by simp) ?_
        refine AllReadyH.cons rfl (fun K hK => ?_) ?_
        · clear hHeld
          go_simp
          obtain ⟨V2, hV⟩ : ∃ V, V = V1.alloc (.cells #[.int .i64 (L + 1), .slice p1 G.ns.length c1, .slice p2 G.es.length c2, .int .i64 (G.nn - 1), .int .i64 (G.ne - 1)] 106) := ⟨_, rfl⟩
          obtain ⟨kb, hkb⟩ : ∃ k, V1.heap.size = k := ⟨_, rfl⟩
          have hb2 : Below V1.heap.size V1 V2 := by rw [hV]; go_grown
          have HL2 : Hid (V2.heap[kb]? = some (.cells #[.int .i64 (L + 1), .slice p1 G.ns.length c1, .slice p2 G.es.length c2, .int .i64 (G.nn - 1), .int .i64 (G.ne - 1)] 106 (0, 0))) := by show _ = _; rw [hV, ← hkb]; exact heap_alloc_new V1 _
          rw [← hV, hkb]
          have HB2 := hide (below_step HB1.out hb2)
          have HC2 := hide (show IOwns V2 W.heap.size (.slice p1 G.ns.length c1) G.ns ∧ V2.ownsRow W.heap.size 102 3 (.slice p2 G.es.length c2) G.es.length (ecells G.es) from ⟨HC1.out.1.later hb2, (Frame.of_below hb2 (fun _ => False)).row HC1.out.2 (fun _ _ => id)⟩)
          clear hV hb2 hkb q0 q1 q2 q3 q5 q4
          obtain ⟨q0, q1, q2, q3, q4, q5⟩ := HS.out _ HB2.out
          refine hK.out _ _ (by first | with_reducible exact ⟨q0, q1, q2, q3, q5⟩ | (dsimp only; with_reducible exact ⟨q0, q1, q2, q3, q5⟩) | exact ⟨cell_off q0 (by decide), cell_off q1 (by decide), cell_off q2 (by decide), cell_off q3 (by decide), cell_off q5 (by decide)⟩) (fun hHeld => ?_)
          clear hK K
          try simp only [Act.put, List.setIfInBounds_toArray, List.set_cons_zero, List.set_cons_succ]
          refine wpAnyH_ready (rs := [16]) (by kernel_rfl) (by simp) ?_
          refine AllReadyH.cons rfl (fun K hK => ?_) ?_
          · clear hHeld
            obtain ⟨pp, ll, cc, V3, e4, s3, x3, y3, g3, r3⟩ := APP.out V2 kb p1 c1 p2 c2 HB2.out HL2.out HC2.out.1 HC2.out.2
            have HG := hide g3
            have HR := hide r3
            clear q0 q1 q2 q3 q5 q4
            obtain ⟨q0, q1, q2, q3, q5⟩ := s3
            refine step_run_append (by rfl) (.tmp 20) (.tmp 31) 56 (by rfl) 56 (by rfl) (.slice pm M.length cm) (.slice (some ⟨kb, 0, none⟩) 1 1) (.slice pp ll cc) V3 (by rfl) (by rfl) ?_ ?_
            with_reducible exact e4
            clear g3 r3 e4
            refine hK.out _ _ (by first | with_reducible exact ⟨q0, q1, q2, q3, q5⟩ | (dsimp only; with_reducible exact ⟨q0, q1, q2, q3, q5⟩) | exact ⟨cell_off q0 (by decide), cell_off q1 (by decide), cell_off q2 (by decide), cell_off q3 (by decide), cell_off q5 (by decide)⟩) (fun hHeld => ?_)
            clear hK K
            try simp only [Act.put, List.setIfInBounds_toArray]
            refine wpAnyH_take (i := 17) (v := ?v17) rfl (by kernel_rfl) (by kernel_rfl) (by kernel_rfl) (fun _ _ _ h => h) (Or.inl ⟨by rfl, ?hy17⟩) (by assumption) ?rest17
            case hy17 => (intro w hSw; (try dsimp only at hSw); go_simp; try with_reducible rfl)
            try simp only [Act.put]
            refine wpAnyH_take (i := 18) (v := ?v18) rfl (by kernel_rfl) (by kernel_rfl) (by kernel_rfl) (fun _ _ _ h => h) (Or.inl ⟨by rfl, ?hy18⟩) (by assumption) ?rest18
            case hy18 => (intro w hSw; (try dsimp only at hSw); go_simp; try with_reducible rfl)
            try simp only [Act.put]
            refine wpAnyH_ready (rs := [19]) (by kernel_rfl) (by simp) ?_
            refine AllReadyH.cons rfl (fun K hK => ?_) ?_
            · clear hHeld
              go_simp
              clear x3 y3
              refine hK.out _ _ (by first | with_reducible exact ⟨q0, q1, q2, q3, q5⟩ | (dsimp only; with_reducible exact ⟨q0, q1, q2, q3, q5⟩) | exact ⟨cell_off q0 (by decide), cell_off q1 (by decide), cell_off q2 (by decide), cell_off q3 (by decide), cell_off q5 (by decide)⟩) (fun hHeld => ?_)
              clear hK K
              try simp only [Act.put, List.setIfInBounds_toArray, List.set_cons_zero, List.set_cons_succ]
              refine wpAnyH_done (by kernel_rfl) ?_ _
              clear hHeld
              obtain ⟨Y, hY⟩ : ∃ Z, Z = V3.setCell ⟨b, 4, none⟩ (.slice pp ll cc) := ⟨_, rfl⟩
              rw [← hY] at HG HR
              rw [← hY]
              have k5 : Y.cell? ⟨b, 5, none⟩ = some (.int .i64 (L + 1)) := HG.out.cells.2.2.2.2.2
              clear hY q0 q1 q2 q3 q5
              go_wp2
              go_ret
              exact ⟨rfl, _, HG.out, HR.out⟩
            exact AllReadyH.nil
          exact AllReadyH.nil
        exact AllReadyH.nil
      refine AllReadyH.cons rfl (fun K hK => ?_) ?_
      · clear hHeld
        go_simp
        obtain ⟨V2, hV⟩ : ∃ V, V = V1.alloc (.cells #[.int .i64 (L + 1), .slice p1 G.ns.length c1, .slice p2 G.es.length c2, .int .i64 (G.nn - 1), .int .i64 (G.ne - 1)] 106) := ⟨_, rfl⟩
        obtain ⟨kb, hkb⟩ : ∃ k, V1.heap.size = k := ⟨_, rfl⟩
        have hb2 : Below V1.heap.size V1 V2 := by rw [hV]; go_grown
        have HL2 : Hid (V2.heap[kb]? = some (.cells #[.int .i64 (L + 1), .slice p1 G.ns.length c1, .slice p2 G.es.length c2, .int .i64 (G.nn - 1), .int .i64 (G.ne - 1)] 106 (0, 0))) := by show _ = _; rw [hV, ← hkb]; exact heap_alloc_new V1 _
        rw [← hV, hkb]
        have HB2 := hide (below_step HB1.out hb2)
        have HC2 := hide (show IOwns V2 W.heap.size (.slice p1 G.ns.length c1) G.ns ∧ V2.ownsRow W.heap.size 102 3 (.slice p2 G.es.length c2) G.es.length (ecells G.es) from ⟨HC1.out.1.later hb2, (Frame.of_below hb2 (fun _ => False)).row HC1.out.2 (fun _ _ => id)⟩)
        clear hV hb2 hkb q0 q1 q2 q3 q5 q4
        obtain ⟨q0, q1, q2, q3, q4, q5⟩ := HS.out _ HB2.out
        refine hK.out _ _ (by first | with_reducible exact ⟨q0, q1, q2, q3, q5⟩ | (dsimp only; with_reducible exact ⟨q0, q1, q2, q3, q5⟩) | exact ⟨cell_off q0 (by decide), cell_off q1 (by decide), cell_off q2 (by decide), cell_off q3 (by decide), cell_off q5 (by decide)⟩) (fun hHeld => ?_)
        clear hK K
        try simp only [Act.put, List.setIfInBounds_toArray, List.set_cons_zero, List.set_cons_succ]
        refine wpAnyH_ready (rs := [4]) (by kernel_rfl) (by simp) ?_
        refine AllReadyH.cons rfl (fun K hK => ?_) ?_
        · clear hHeld
          go_simp
          refine hK.out _ _ (by first | with_reducible exact ⟨q0, q1, q2, q3, q5⟩ | (dsimp only; with_reducible exact ⟨q0, q1, q2, q3, q5⟩) | exact ⟨cell_off q0 (by decide), cell_off q1 (by decide), cell_off q2 (by decide), cell_off q3 (by decide), cell_off q5 (by decide)⟩) (fun hHeld => ?_)
          clear hK K
          try simp only [Act.put, List.setIfInBounds_toArray, List.set_cons_zero, List.set_cons_succ]
          refine wpAnyH_ready (rs := [16]) (by kernel_rfl) (by simp) ?_
          refine AllReadyH.cons rfl (fun K hK => ?_) ?_
          · clear hHeld
            obtain ⟨pp, ll, cc, V3, e4, s3, x3, y3, g3, r3⟩ := APP.out V2 kb p1 c1 p2 c2 HB2.out HL2.out HC2.out.1 HC2.out.2
            have HG := hide g3
            have HR := hide r3
            clear q0 q1 q2 q3 q5 q4
            obtain ⟨q0, q1, q2, q3, q5⟩ := s3
            refine step_run_append (by rfl) (.tmp 20) (.tmp 31) 56 (by rfl) 56 (by rfl) (.slice pm M.length cm) (.slice (some ⟨kb, 0, none⟩) 1 1) (.slice pp ll cc) V3 (by rfl) (by rfl) ?_ ?_
            with_reducible exact e4
            clear g3 r3 e4
            refine hK.out _ _ (by first | with_reducible exact ⟨q0, q1, q2, q3, q5⟩ | (dsimp only; with_reducible exact ⟨q0, q1, q2, q3, q5⟩) | exact ⟨cell_off q0 (by decide), cell_off q1 (by decide), cell_off q2 (by decide), cell_off q3 (by decide), cell_off q5 (by decide)⟩) (fun hHeld => ?_)
            clear hK K
            try simp only [Act.put, List.setIfInBounds_toArray]
            refine wpAnyH_take (i := 17) (v := ?v19) rfl (by kernel_rfl) (by kernel_rfl) (by kernel_rfl) (fun _ _ _ h => h) (Or.inl ⟨by rfl, ?hy19⟩) (by assumption) ?rest19
            case hy19 => (intro w hSw; (try dsimp only at hSw); go_simp; try with_reducible rfl)
            try simp only [Act.put]
            refine wpAnyH_take (i := 18) (v := ?v20) rfl (by kernel_rfl) (by kernel_rfl) (by kernel_rfl) (fun _ _ _ h => h) (Or.inl ⟨by rfl, ?hy20⟩) (by assumption) ?rest20
            case hy20 => (intro w hSw; (try dsimp only at hSw); go_simp; try with_reducible rfl)
            try simp only [Act.put]
            refine wpAnyH_ready (rs := [19]) (by kernel_rfl) (by simp) ?_
            refine AllReadyH.cons rfl (fun K hK => ?_) ?_
            · clear hHeld
              go_simp
              clear x3 y3
              refine hK.out _ _ (by first | with_reducible exact ⟨q0, q1, q2, q3, q5⟩ | (dsimp only; with_reducible exact ⟨q0, q1, q2, q3, q5⟩) | exact ⟨cell_off q0 (by decide), cell_off q1 (by decide), cell_off q2 (by decide), cell_off q3 (by decide), cell_off q5 (by decide)⟩) (fun hHeld => ?_)
              clear hK K
              try simp only [Act.put, List.setIfInBounds_toArray, List.set_cons_zero, List.set_cons_succ]
              refine wpAnyH_done (by kernel_rfl) ?_ _
              clear hHeld
              obtain ⟨Y, hY⟩ : ∃ Z, Z = V3.setCell ⟨b, 4, none⟩ (.slice pp ll cc) := ⟨_, rfl⟩
              rw [← hY] at HG HR
              rw [← hY]
              have k5 : Y.cell? ⟨b, 5, none⟩ = some (.int .i64 (L + 1)) := HG.out.cells.2.2.2.2.2
              clear hY q0 q1 q2 q3 q5
              go_wp2
              go_ret
              exact ⟨rfl, _, HG.out, HR.out⟩
            exact AllReadyH.nil
          exact AllReadyH.nil
        exact AllReadyH.nil
      exact AllReadyH.nil
    exact AllReadyH.nil
end Go.Proofs.Ytgfiofogcnnkhaa
