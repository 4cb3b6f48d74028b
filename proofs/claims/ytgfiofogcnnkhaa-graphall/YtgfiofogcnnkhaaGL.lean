/- takeNode, takeEdge. -/
import Derived.Test.YtgfiofogcnnkhaaGK
namespace Go.Proofs.Ytgfiofogcnnkhaa
open Go.RowKit Go.Sort
open Go

theorem ecells_take : ∀ (l : List Ed) (i : Nat), (ecells l).take (i * 3) = ecells (l.take i)
  | [], i => by simp [ecells]
  | x :: r, 0 => by simp [ecells]
  | x :: r, i + 1 => by
    have e : (i + 1) * 3 = i * 3 + 1 + 1 + 1 := by omega
    rw [e]
    simp only [ecells, List.take_succ_cons, ecells_take r i]
theorem ecells_drop : ∀ (l : List Ed) (i : Nat), (ecells l).drop (i * 3) = ecells (l.drop i)
  | [], i => by simp [ecells]
  | x :: r, 0 => by simp
  | x :: r, i + 1 => by
    have e : (i + 1) * 3 = i * 3 + 1 + 1 + 1 := by omega
    rw [e]
    simp only [ecells, List.drop_succ_cons, ecells_drop r i]
theorem ecells_erase (l : List Ed) (p : Nat) : (ecells l).take (p * 3) ++ (ecells l).drop ((p + 1) * 3) = ecells (l.eraseIdx p) := by
  rw [ecells_take, ecells_drop, ← ecells_append, List.eraseIdx_eq_take_drop_succ]
theorem icells_erase (l : List Int) (p : Nat) : (icells l).take (p * 1) ++ (icells l).drop ((p + 1) * 1) = icells (l.eraseIdx p) := by
  rw [Nat.mul_one, Nat.mul_one, List.eraseIdx_eq_take_drop_succ]
  simp [icells, List.map_take, List.map_drop]
theorem ecells_one (l : List Ed) : ∀ u ∈ ecells l, u.oneCell' = true := by
  induction l with
  | nil => simp [ecells]
  | cons x r ih =>
    intro u hu
    simp only [ecells, List.mem_cons] at hu
    rcases hu with rfl | rfl | rfl | hu
    · rfl
    · rfl
    · rfl
    · exact ih u hu
theorem icells_one (l : List Int) : ∀ u ∈ icells l, u.oneCell' = true := fun u hu => by
  obtain ⟨x, _, rfl⟩ := List.mem_map.1 hu
  rfl
theorem GAt.tb {w : World} {b : Nat} {s : GV} {G : Gr} (h : GAt w b s G) {k : Nat} (hk : s.t k) : k < w.heap.size := by
  obtain ⟨_, _, _, tb⟩ := h.don
  exact tb k hk
theorem GAt.fresh {w : World} {b : Nat} {s : GV} {G : Gr} (h : GAt w b s G) {k : Nat} (hk : w.heap.size ≤ k) : ¬ GB b s k := fun hgb => by
  obtain ⟨fs, od, _⟩ := h.don
  rcases hgb with e | e | e | e | e
  · have := h.lt; omega
  · have := own_lt h.nod e; omega
  · have := own_lt h.edg e; omega
  · have := own_lt h.mks e; omega
  · have := own_lt od e; omega
set_option maxRecDepth 100000 in
set_option maxHeartbeats 8000000 in
theorem takeNode61 (b : Nat) (s : GV) (G : Gr) (p : Nat) (w : World) (h : GAt w b s G) (hl : G.dn.length ≤ 5000000) (hm : G.ms.length ≤ 64) (hn : G.ns.length ≤ 5000) (hp : p < G.ns.length) : Calls Try.prog 61 #[ptr b, .int .i64 p] w (Turns w b s (.tuple #[]) (G.takeN p)) := by
  obtain ⟨pn, cn, pe, ce, pm, cm, pd, cd, _, hs, _⟩ := h.form
  have hb := h.lt
  have oe := h.nod
  unfold IOwns at oe
  rw [hs] at oe
  obtain ⟨g, rfl, _, hg⟩ := own_some oe (by omega)
  obtain ⟨cc, hcc⟩ : ∃ c, cn = c := ⟨_, rfl⟩
  obtain ⟨x, hx⟩ : ∃ x, iat G.ns p = x := ⟨_, rfl⟩
  have cw : w.cell? ⟨g, p, none⟩ = some (.int .i64 x) := by
    rcases own_ihas (l := G.ns) oe with h | ⟨g', o', h1, h2⟩
    · rw [h] at hp; simp at hp
    · cases h1
      have := h2 p hp
      rw [hx, Nat.zero_add] at this
      exact this
  have hgb : g ≠ b := fun e => h.ne.1 (by rw [hs, e]; rfl)
  have q2 : w.cell? ⟨b, 1, none⟩ = some (.slice (some ⟨g, 0, none⟩) G.ns.length cc) := by have := h.cells.2.1; rw [hs, hcc] at this; exact this
  have hv : s.vn = .slice (some ⟨g, 0, none⟩) G.ns.length cc := by rw [hs, hcc]
  obtain ⟨W, hW⟩ : ∃ W, W = w.alloc (.cells #[.int .i64 p] 3) := ⟨_, rfl⟩
  have hbW : Below w.heap.size w W := by rw [hW]; go_grown
  have hsz : W.heap.size = w.heap.size + 1 := by rw [hW]; simp
  have HGW0 := hide h
  have HBW := hide hbW
  have a1 : W.cell? ⟨w.heap.size, 0, none⟩ = some (.int .i64 p) := by rw [hW]; go_cell
  have a3 := later hbW q2
  have a4 := later hbW cw
  have i0 : (0 : Int) ≤ p := by omega
  have i1 : (p : Int) < G.ns.length := by omega
  have HLT := hide (show b < w.heap.size ∧ g < w.heap.size from ⟨hb, hg⟩)
  have HX := hide hx
  have HSZ := hide hsz
  have HV := hide hv
  clear h hbW oe q2 hx hcc hv cw
  go_enter Try.func61, Try.ntmps61
  go_upto_region 1 with fail
  rw [← hW]
  clear hW
  have n1 := World.new_ne W _ a1
  have n3 := World.new_ne W _ a3
  have n4 := World.new_ne W _ a4
  go_region_held3 (fun V => V.cell? ⟨w.heap.size, 0, none⟩ = some (.int .i64 p) ∧ V.cell? ⟨b, 1, none⟩ = some (.slice (some ⟨g, 0, none⟩) G.ns.length cc) ∧ V.cell? ⟨g, p, none⟩ = some (.int .i64 x)) (go_keep) (fail)
  rename_i hHeld
  clear hHeld
  obtain ⟨X, hX⟩ : ∃ X, X = (W.alloc (.cells #[.int .i64 x] 3)).drew := ⟨_, rfl⟩
  have hbX : Below W.heap.size W X := by rw [hX]; go_grown
  have HK1 : Hid (X.cell? ⟨w.heap.size + 1, 0, none⟩ = some (.int .i64 x)) := by
    show _ = _
    rw [hX, ← HSZ.out]
    go_cell
  rw [← hX]
  clear hX n1 n3 n4
  have HBX := hide (below_step HBW.out hbX)
  have HGX := hide (HGW0.out.later HBX.out)
  have b1 := later hbX a1
  have m1 : w.heap.size ≠ b := by have := HLT.out; omega
  have HS : Hid (∀ V, Below X.heap.size X V → V.cell? ⟨w.heap.size, 0, none⟩ = some (.int .i64 p) ∧ V.cell? ⟨b, 1, none⟩ = some (.slice (some ⟨g, 0, none⟩) G.ns.length cc)) := fun V hV => ⟨later hV b1, later hV (later hbX a3)⟩
  have HUN : Hid (∀ Y, GFr X Y b s { s with vn := .slice (some ⟨g, 0, none⟩) (G.ns.length - 1) cc } → UnAt Y (GN b { s with vn := .slice (some ⟨g, 0, none⟩) (G.ns.length - 1) cc }) (.func (.func 92) #[] #[ptr w.heap.size, ptr (w.heap.size + 1)]) (.tn p x)) := by
    intro Y hY
    have z1 : w.heap.size < X.heap.size := block_lt_of_cell b1
    have z2 : w.heap.size + 1 < X.heap.size := block_lt_of_cell HK1.out
    have nb : ∀ k, w.heap.size ≤ k → k < X.heap.size → ¬ GN b { s with vn := .slice (some ⟨g, 0, none⟩) (G.ns.length - 1) cc } k := fun k h1 h2 h3 => h3.elim (fun h3 => (hY.lie k h3).elim (HGW0.out.fresh h1) (fun h4 => by omega)) (fun h3 => by have := HGW0.out.tb h3; omega)
    exact ⟨_, _, rfl, nb _ (by omega) z1, nb _ (by omega) z2, hY.fr.cell b1 (HGW0.out.fresh (Nat.le_refl _)), hY.fr.cell HK1.out (HGW0.out.fresh (k := w.heap.size + 1) (by omega))⟩
  have CALL : Hid (∀ V, Below X.heap.size X V → Calls Try.prog 91 #[.slice (some ⟨g, 0, none⟩) G.ns.length cc, .int .i64 p, .int .i64 ((p : Int) + 1)] V fun e w' => e = .returned (.slice (some ⟨g, 0, none⟩) (G.ns.length - 1) cc) ∧ w'.cell? ⟨w.heap.size, 0, none⟩ = some (.int .i64 p) ∧ w'.cell? ⟨b, 1, none⟩ = some (.slice (some ⟨g, 0, none⟩) G.ns.length cc) ∧ w'.frozen? ⟨b, 1, none⟩ = false ∧ GAt (w'.setCell ⟨b, 1, none⟩ (.slice (some ⟨g, 0, none⟩) (G.ns.length - 1) cc)) b { s with vn := .slice (some ⟨g, 0, none⟩) (G.ns.length - 1) cc } { G with ns := G.ns.eraseIdx p } ∧ GFr X (w'.setCell ⟨b, 1, none⟩ (.slice (some ⟨g, 0, none⟩) (G.ns.length - 1) cc)) b s { s with vn := .slice (some ⟨g, 0, none⟩) (G.ns.length - 1) cc }) := fun V hV => by
    have hg' := HGX.out.later hV
    have oe := hg'.nod
    unfold IOwns at oe
    rw [HV.out] at oe
    refine (delete91 g G.ns.length cc p (p + 1) 0 _ V oe (icells_one _) (by omega) (by omega) (by omega)).mono ?_
    rintro e w' ⟨rfl, o1, gr⟩
    have hf : Frame V w' (fun i => s.vn.ownBlock = some i) := Frame.grown gr (fun i e => by rw [HV.out]; exact e)
    have e1 : p + (G.ns.length - (p + 1)) = G.ns.length - 1 := by omega
    rw [e1, icells_erase] at o1
    have e2 : (G.ns.eraseIdx p).length = G.ns.length - 1 := List.length_eraseIdx_of_lt hp
    obtain ⟨g1, r1⟩ := hg'.setN (l := G.ns.eraseIdx p) hf (by unfold IOwns; rw [e2]; exact o1) (fun i hi => Or.inl (by rw [HV.out]; exact hi))
    obtain ⟨t0, t1⟩ := HS.out V hV
    have hne : ¬ s.vn.ownBlock = some b := hg'.ne.1
    have hne2 : ¬ s.vn.ownBlock = some w.heap.size := fun e => HGW0.out.fresh (Nat.le_refl _) (Or.inr (Or.inl e))
    refine ⟨by rw [e1], hf.cell t0 hne2, hf.cell t1 hne, by rw [World.frozen?_of_block (hf.block b hg'.lt hne)]; exact hg'.free 1, g1, (GFr.of_below hV).trans r1⟩
  clear hbX a1 a3 a4 hsz hgb
  have HSS := hide hs
  clear hs
  have hwr : IntKind.i64.wrap ((p : Int) + 1) = (p : Int) + 1 := by rw [IntKind.wrap_i64]; omega
  go_wp2_with fail
  refine wp_region_held_drew (S := (fun V => V.cell? ⟨w.heap.size, 0, none⟩ = some (.int .i64 p))) (by kernel_rfl) (by exact b1) (fun hHeld => ?_)
  obtain ⟨V0, hV0⟩ : ∃ V, V = X.drew := ⟨_, rfl⟩
  have HB0 : Hid (Below X.heap.size X V0) := by show Below _ _ _; rw [hV0]; exact below_drew _
  rw [← hV0] at hHeld ⊢
  clear hV0 b1
  obtain ⟨q0, q1⟩ := HS.out _ HB0.out
  refine wpAnyH_take (i := 0) (v := ?v1) rfl (by kernel_rfl) (by kernel_rfl) (by kernel_rfl) (fun _ _ _ h => h) (Or.inl ⟨by rfl, ?hy1⟩) (by assumption) ?rest1
  case hy1 => (intro w hSw; (try dsimp only at hSw); go_simp; try with_reducible rfl)
  try simp only [Act.put, List.setIfInBounds_toArray]
  refine wpAnyH_take (i := 1) (v := ?v2) rfl (by kernel_rfl) (by kernel_rfl) (by kernel_rfl) (fun _ _ _ h => h) (Or.inl ⟨by rfl, ?hy2⟩) (by assumption) ?rest2
  case hy2 => (intro w hSw; (try dsimp only at hSw); go_simp; try with_reducible rfl)
  try simp only [Act.put]
  refine wpAnyH_take (i := 2) (v := ?v3) rfl (by kernel_rfl) (by kernel_rfl) (by kernel_rfl) (fun _ _ _ h => h) (Or.inl ⟨by rfl, ?hy3⟩) (by assumption) ?rest3
  case hy3 => (intro w hSw; (try dsimp only at hSw); go_simp; try with_reducible rfl)
  try simp only [Act.put]
  refine wpAnyH_take (i := 3) (v := ?v4) rfl (by kernel_rfl) (by kernel_rfl) (by kernel_rfl) (fun _ _ _ h => h) (Or.inl ⟨by rfl, ?hy4⟩) (by assumption) ?rest4
  case hy4 => (intro w hSw; (try dsimp only at hSw); go_simp; try with_reducible rfl)
  try simp only [Act.put]
  refine wpAnyH_take (i := 5) (v := ?v5) rfl (by kernel_rfl) (by kernel_rfl) (by kernel_rfl) (fun _ _ _ h => h) (Or.inl ⟨by rfl, ?hy5⟩) (by assumption) ?rest5
  case hy5 => (intro w hSw; (try dsimp only at hSw); go_simp; try with_reducible rfl)
  try simp only [Act.put]
  refine wpAnyH_take (i := 6) (v := ?v6) rfl (by kernel_rfl) (by kernel_rfl) (by kernel_rfl) (fun _ _ _ h => h) (Or.inl ⟨by rfl, ?hy6⟩) (by assumption) ?rest6
  case hy6 => (intro w hSw; (try dsimp only at hSw); go_simp; try with_reducible rfl)
  try simp only [Act.put]
  refine wpAnyH_take (i := 7) (v := ?v7) rfl (by kernel_rfl) (by kernel_rfl) (by kernel_rfl) (fun _ _ _ h => h) (Or.inl ⟨by rfl, ?hy7⟩) (by assumption) ?rest7
  case hy7 => (intro w hSw; (try dsimp only at hSw); go_simp; try with_reducible rfl)
  try simp only [Act.put]
  refine wpAnyH_ready (rs := [4]) (by kernel_rfl) (by simp) ?_
  refine AllReadyH.cons rfl (fun K hK => ?_) ?_
  · clear hHeld
    go_simp
    refine hK.out _ _ (by first | with_reducible exact q0 | (dsimp only; with_reducible exact q0) | exact cell_other q0 m1) (fun hHeld => ?_)
    clear hK K
    try simp only [Act.put, List.setIfInBounds_toArray, List.set_cons_zero, List.set_cons_succ]
    refine wpAnyH_ready (rs := [8]) (by kernel_rfl) (by simp) ?_
    refine AllReadyH.cons rfl (fun K hK => ?_) ?_
    · clear hHeld
      go_simp
      refine (CALL.out V0 HB0.out).mono ?_
      rintro e V1 ⟨rfl, s3, x3, y3, g3, r3⟩
      have HG := hide g3
      have HR := hide r3
      clear q0 q1 g3 r3
      have q0 := s3
      refine hK.out _ _ (by first | with_reducible exact q0 | (dsimp only; with_reducible exact q0) | exact cell_other q0 m1) (fun hHeld => ?_)
      clear hK K
      try simp only [Act.put, List.setIfInBounds_toArray, List.set_cons_zero, List.set_cons_succ]
      refine wpAnyH_take (i := 9) (v := ?v8) rfl (by kernel_rfl) (by kernel_rfl) (by kernel_rfl) (fun _ _ _ h => h) (Or.inl ⟨by rfl, ?hy8⟩) (by assumption) ?rest8
      case hy8 => (intro w hSw; (try dsimp only at hSw); go_simp; try with_reducible rfl)
      try simp only [Act.put, List.setIfInBounds_toArray]
      refine wpAnyH_take (i := 10) (v := ?v9) rfl (by kernel_rfl) (by kernel_rfl) (by kernel_rfl) (fun _ _ _ h => h) (Or.inl ⟨by rfl, ?hy9⟩) (by assumption) ?rest9
      case hy9 => (intro w hSw; (try dsimp only at hSw); go_simp; try with_reducible rfl)
      try simp only [Act.put]
      refine wpAnyH_ready (rs := [11]) (by kernel_rfl) (by simp) ?_
      refine AllReadyH.cons rfl (fun K hK => ?_) ?_
      · clear hHeld
        go_simp
        clear x3 y3
        refine hK.out _ _ (by first | with_reducible exact q0 | (dsimp only; with_reducible exact q0) | exact cell_other q0 m1) (fun hHeld => ?_)
        clear hK K
        try simp only [Act.put, List.setIfInBounds_toArray, List.set_cons_zero, List.set_cons_succ]
        refine wpAnyH_done (by kernel_rfl) ?_ _
        clear hHeld
        obtain ⟨Y, hY⟩ : ∃ Y, Y = V1.setCell ⟨b, 1, none⟩ (.slice (some ⟨g, 0, none⟩) (G.ns.length - 1) cc) := ⟨_, rfl⟩
        rw [← hY] at HG HR
        rw [← hY]
        have HU : Hid (UnAt Y (GN b { s with vn := .slice (some ⟨g, 0, none⟩) (G.ns.length - 1) cc }) (.func (.func 92) #[] #[ptr w.heap.size, ptr (w.heap.size + 1)]) (.tn p x)) := HUN.out Y HR.out
        have RM := hide (remember73 b _ _ _ _ Y HG.out HU.out hl hm)
        clear hY q0
        go_wp2_with (go_at_call 73; refine RM.out.mono ?_; rintro e w' ⟨rfl, s', g', r'⟩; have H1 := hide g'; have H2 := hide (((GFr.of_below HBX.out).trans HR.out).trans r'); clear g' r')
        go_end0
        exact ⟨rfl, _, by unfold Gr.takeN; rw [HX.out]; exact H1.out, H2.out⟩
      exact AllReadyH.nil
    exact AllReadyH.nil
  exact AllReadyH.nil
set_option maxRecDepth 100000 in
set_option maxHeartbeats 8000000 in
theorem takeEdge60 (b : Nat) (s : GV) (G : Gr) (p : Nat) (w : World) (h : GAt w b s G) (hl : G.dn.length ≤ 5000000) (hm : G.ms.length ≤ 64) (hn : G.es.length ≤ 5000) (hp : p < G.es.length) : Calls Try.prog 60 #[ptr b, .int .i64 p] w (Turns w b s (.tuple #[]) (G.takeE p)) := by
  obtain ⟨pn, cn, pe, ce, pm, cm, pd, cd, _, hs, _⟩ := h.form
  have hb := h.lt
  have oe := h.edg
  rw [hs] at oe
  obtain ⟨g, rfl, _, hg⟩ := own_some oe (by omega)
  obtain ⟨cc, hcc⟩ : ∃ c, ce = c := ⟨_, rfl⟩
  obtain ⟨x, hx⟩ : ∃ x, eat G.es p = x := ⟨_, rfl⟩
  have cws : w.cell? ⟨g, p * 3, none⟩ = some (.int .i64 x.id) ∧ w.cell? ⟨g, p * 3 + 1, none⟩ = some (.int .i64 x.a) ∧ w.cell? ⟨g, p * 3 + 2, none⟩ = some (.int .i64 x.b) := by
    rcases own_ehas oe with h | ⟨g', h1, h2⟩
    · rw [h] at hp; simp at hp
    · cases h1
      have := h2 p hp
      rw [hx] at this
      exact this
  obtain ⟨cw, cw1, cw2⟩ := cws
  have hgb : g ≠ b := fun e => h.ne.2.1 (by rw [hs, e]; rfl)
  have q2 : w.cell? ⟨b, 2, none⟩ = some (.slice (some ⟨g, 0, none⟩) G.es.length cc) := by have := h.cells.2.2.1; rw [hs, hcc] at this; exact this
  have hv : s.ve = .slice (some ⟨g, 0, none⟩) G.es.length cc := by rw [hs, hcc]
  obtain ⟨W, hW⟩ : ∃ W, W = w.alloc (.cells #[.int .i64 p] 3) := ⟨_, rfl⟩
  have hbW : Below w.heap.size w W := by rw [hW]; go_grown
  have hsz : W.heap.size = w.heap.size + 1 := by rw [hW]; simp
  have HGW0 := hide h
  have HBW := hide hbW
  have a1 : W.cell? ⟨w.heap.size, 0, none⟩ = some (.int .i64 p) := by rw [hW]; go_cell
  have a3 := later hbW q2
  have a4 := later hbW cw
  have a5 := later hbW cw1
  have a6 := later hbW cw2
  have i0 : (0 : Int) ≤ p := by omega
  have i1 : (p : Int) < G.es.length := by omega
  have HLT := hide (show b < w.heap.size ∧ g < w.heap.size from ⟨hb, hg⟩)
  have HX := hide hx
  have HSZ := hide hsz
  have HV := hide hv
  clear h hbW oe q2 hx hcc hv cw cw1 cw2
  go_enter Try.func60, Try.ntmps60
  go_upto_region 1 with fail
  rw [← hW]
  clear hW
  have n1 := World.new_ne W _ a1
  have n3 := World.new_ne W _ a3
  have n4 := World.new_ne W _ a4
  go_region_held3 (fun V => V.cell? ⟨w.heap.size, 0, none⟩ = some (.int .i64 p) ∧ V.cell? ⟨b, 2, none⟩ = some (.slice (some ⟨g, 0, none⟩) G.es.length cc) ∧ V.cell? ⟨g, p * 3, none⟩ = some (.int .i64 x.id) ∧ V.cell? ⟨g, p * 3 + 1, none⟩ = some (.int .i64 x.a) ∧ V.cell? ⟨g, p * 3 + 2, none⟩ = some (.int .i64 x.b)) (go_keep) (fail)
  rename_i hHeld
  clear hHeld
  obtain ⟨X, hX⟩ : ∃ X, X = (W.alloc (.cells #[.int .i64 x.id, .int .i64 x.a, .int .i64 x.b] 76)).drew := ⟨_, rfl⟩
  have hbX : Below W.heap.size W X := by rw [hX]; go_grown
  have HK1 : Hid (X.cell? ⟨w.heap.size + 1, 0, none⟩ = some (.int .i64 x.id) ∧ X.cell? ⟨w.heap.size + 1, 1, none⟩ = some (.int .i64 x.a) ∧ X.cell? ⟨w.heap.size + 1, 2, none⟩ = some (.int .i64 x.b)) := by
    show _ ∧ _
    rw [hX, ← HSZ.out]
    exact ⟨by go_cell, by go_cell, by go_cell⟩
  rw [← hX]
  clear hX n1 n3 n4
  have HBX := hide (below_step HBW.out hbX)
  have HGX := hide (HGW0.out.later HBX.out)
  have b1 := later hbX a1
  have m1 : w.heap.size ≠ b := by have := HLT.out; omega
  have HS : Hid (∀ V, Below X.heap.size X V → V.cell? ⟨w.heap.size, 0, none⟩ = some (.int .i64 p) ∧ V.cell? ⟨b, 2, none⟩ = some (.slice (some ⟨g, 0, none⟩) G.es.length cc)) := fun V hV => ⟨later hV b1, later hV (later hbX a3)⟩
  have HUN : Hid (∀ Y, GFr X Y b s { s with ve := .slice (some ⟨g, 0, none⟩) (G.es.length - 1) cc } → UnAt Y (GN b { s with ve := .slice (some ⟨g, 0, none⟩) (G.es.length - 1) cc }) (.func (.func 89) #[] #[ptr w.heap.size, ptr (w.heap.size + 1)]) (.te p x)) := by
    intro Y hY
    have z1 : w.heap.size < X.heap.size := block_lt_of_cell b1
    have z2 : w.heap.size + 1 < X.heap.size := block_lt_of_cell HK1.out.1
    have nb : ∀ k, w.heap.size ≤ k → k < X.heap.size → ¬ GN b { s with ve := .slice (some ⟨g, 0, none⟩) (G.es.length - 1) cc } k := fun k h1 h2 h3 => h3.elim (fun h3 => (hY.lie k h3).elim (HGW0.out.fresh h1) (fun h4 => by omega)) (fun h3 => by have := HGW0.out.tb h3; omega)
    exact ⟨_, _, rfl, nb _ (by omega) z1, nb _ (by omega) z2, hY.fr.cell b1 (HGW0.out.fresh (Nat.le_refl _)), hY.fr.cell HK1.out.1 (HGW0.out.fresh (k := w.heap.size + 1) (by omega)), hY.fr.cell HK1.out.2.1 (HGW0.out.fresh (k := w.heap.size + 1) (by omega)), hY.fr.cell HK1.out.2.2 (HGW0.out.fresh (k := w.heap.size + 1) (by omega))⟩
  have CALL : Hid (∀ V, Below X.heap.size X V → Calls Try.prog 88 #[.slice (some ⟨g, 0, none⟩) G.es.length cc, .int .i64 p, .int .i64 ((p : Int) + 1)] V fun e w' => e = .returned (.slice (some ⟨g, 0, none⟩) (G.es.length - 1) cc) ∧ w'.cell? ⟨w.heap.size, 0, none⟩ = some (.int .i64 p) ∧ w'.cell? ⟨b, 2, none⟩ = some (.slice (some ⟨g, 0, none⟩) G.es.length cc) ∧ w'.frozen? ⟨b, 2, none⟩ = false ∧ GAt (w'.setCell ⟨b, 2, none⟩ (.slice (some ⟨g, 0, none⟩) (G.es.length - 1) cc)) b { s with ve := .slice (some ⟨g, 0, none⟩) (G.es.length - 1) cc } { G with es := G.es.eraseIdx p } ∧ GFr X (w'.setCell ⟨b, 2, none⟩ (.slice (some ⟨g, 0, none⟩) (G.es.length - 1) cc)) b s { s with ve := .slice (some ⟨g, 0, none⟩) (G.es.length - 1) cc }) := fun V hV => by
    have hg' := HGX.out.later hV
    have oe := hg'.edg
    rw [HV.out] at oe
    refine (delete88 g G.es.length cc p (p + 1) 0 _ V oe (ecells_one _) (by omega) (by omega) (by omega)).mono ?_
    rintro e w' ⟨rfl, o1, gr⟩
    have hf : Frame V w' (fun i => s.ve.ownBlock = some i) := Frame.grown gr (fun i e => by rw [HV.out]; exact e)
    have e1 : p + (G.es.length - (p + 1)) = G.es.length - 1 := by omega
    rw [e1, ecells_erase] at o1
    have e2 : (G.es.eraseIdx p).length = G.es.length - 1 := List.length_eraseIdx_of_lt hp
    obtain ⟨g1, r1⟩ := hg'.setEs (l := G.es.eraseIdx p) hf (by rw [e2]; exact o1) (fun i hi => Or.inl (by rw [HV.out]; exact hi))
    obtain ⟨t0, t1⟩ := HS.out V hV
    have hne : ¬ s.ve.ownBlock = some b := hg'.ne.2.1
    have hne2 : ¬ s.ve.ownBlock = some w.heap.size := fun e => HGW0.out.fresh (Nat.le_refl _) (Or.inr (Or.inr (Or.inl e)))
    refine ⟨by rw [e1], hf.cell t0 hne2, hf.cell t1 hne, by rw [World.frozen?_of_block (hf.block b hg'.lt hne)]; exact hg'.free 2, g1, (GFr.of_below hV).trans r1⟩
  clear hbX a1 a3 a4 a5 a6 hsz hgb
  have HSS := hide hs
  clear hs
  have hwr : IntKind.i64.wrap ((p : Int) + 1) = (p : Int) + 1 := by rw [IntKind.wrap_i64]; omega
  go_wp2_with fail
  refine wp_region_held_drew (S := (fun V => V.cell? ⟨w.heap.size, 0, none⟩ = some (.int .i64 p))) (by kernel_rfl) (by exact b1) (fun hHeld => ?_)
  obtain ⟨V0, hV0⟩ : ∃ V, V = X.drew := ⟨_, rfl⟩
  have HB0 : Hid (Below X.heap.size X V0) := by show Below _ _ _; rw [hV0]; exact below_drew _
  rw [← hV0] at hHeld ⊢
  clear hV0 b1
  obtain ⟨q0, q1⟩ := HS.out _ HB0.out
  refine wpAnyH_take (i := 0) (v := ?v10) rfl (by kernel_rfl) (by kernel_rfl) (by kernel_rfl) (fun _ _ _ h => h) (Or.inl ⟨by rfl, ?hy10⟩) (by assumption) ?rest10
  case hy10 => (intro w hSw; (try dsimp only at hSw); go_simp; try with_reducible rfl)
  try simp only [Act.put, List.setIfInBounds_toArray]
  refine wpAnyH_take (i := 1) (v := ?v11) rfl (by kernel_rfl) (by kernel_rfl) (by kernel_rfl) (fun _ _ _ h => h) (Or.inl ⟨by rfl, ?hy11⟩) (by assumption) ?rest11
  case hy11 => (intro w hSw; (try dsimp only at hSw); go_simp; try with_reducible rfl)
  try simp only [Act.put]
  refine wpAnyH_take (i := 2) (v := ?v12) rfl (by kernel_rfl) (by kernel_rfl) (by kernel_rfl) (fun _ _ _ h => h) (Or.inl ⟨by rfl, ?hy12⟩) (by assumption) ?rest12
  case hy12 => (intro w hSw; (try dsimp only at hSw); go_simp; try with_reducible rfl)
  try simp only [Act.put]
  refine wpAnyH_take (i := 3) (v := ?v13) rfl (by kernel_rfl) (by kernel_rfl) (by kernel_rfl) (fun _ _ _ h => h) (Or.inl ⟨by rfl, ?hy13⟩) (by assumption) ?rest13
  case hy13 => (intro w hSw; (try dsimp only at hSw); go_simp; try with_reducible rfl)
  try simp only [Act.put]
  refine wpAnyH_take (i := 5) (v := ?v14) rfl (by kernel_rfl) (by kernel_rfl) (by kernel_rfl) (fun _ _ _ h => h) (Or.inl ⟨by rfl, ?hy14⟩) (by assumption) ?rest14
  case hy14 => (intro w hSw; (try dsimp only at hSw); go_simp; try with_reducible rfl)
  try simp only [Act.put]
  refine wpAnyH_take (i := 6) (v := ?v15) rfl (by kernel_rfl) (by kernel_rfl) (by kernel_rfl) (fun _ _ _ h => h) (Or.inl ⟨by rfl, ?hy15⟩) (by assumption) ?rest15
  case hy15 => (intro w hSw; (try dsimp only at hSw); go_simp; try with_reducible rfl)
  try simp only [Act.put]
  refine wpAnyH_take (i := 7) (v := ?v16) rfl (by kernel_rfl) (by kernel_rfl) (by kernel_rfl) (fun _ _ _ h => h) (Or.inl ⟨by rfl, ?hy16⟩) (by assumption) ?rest16
  case hy16 => (intro w hSw; (try dsimp only at hSw); go_simp; try with_reducible rfl)
  try simp only [Act.put]
  refine wpAnyH_ready (rs := [4]) (by kernel_rfl) (by simp) ?_
  refine AllReadyH.cons rfl (fun K hK => ?_) ?_
  · clear hHeld
    go_simp
    refine hK.out _ _ (by first | with_reducible exact q0 | (dsimp only; with_reducible exact q0) | exact cell_other q0 m1) (fun hHeld => ?_)
    clear hK K
    try simp only [Act.put, List.setIfInBounds_toArray, List.set_cons_zero, List.set_cons_succ]
    refine wpAnyH_ready (rs := [8]) (by kernel_rfl) (by simp) ?_
    refine AllReadyH.cons rfl (fun K hK => ?_) ?_
    · clear hHeld
      go_simp
      refine (CALL.out V0 HB0.out).mono ?_
      rintro e V1 ⟨rfl, s3, x3, y3, g3, r3⟩
      have HG := hide g3
      have HR := hide r3
      clear q0 q1 g3 r3
      have q0 := s3
      refine hK.out _ _ (by first | with_reducible exact q0 | (dsimp only; with_reducible exact q0) | exact cell_other q0 m1) (fun hHeld => ?_)
      clear hK K
      try simp only [Act.put, List.setIfInBounds_toArray, List.set_cons_zero, List.set_cons_succ]
      refine wpAnyH_take (i := 9) (v := ?v17) rfl (by kernel_rfl) (by kernel_rfl) (by kernel_rfl) (fun _ _ _ h => h) (Or.inl ⟨by rfl, ?hy17⟩) (by assumption) ?rest17
      case hy17 => (intro w hSw; (try dsimp only at hSw); go_simp; try with_reducible rfl)
      try simp only [Act.put, List.setIfInBounds_toArray]
      refine wpAnyH_take (i := 10) (v := ?v18) rfl (by kernel_rfl) (by kernel_rfl) (by kernel_rfl) (fun _ _ _ h => h) (Or.inl ⟨by rfl, ?hy18⟩) (by assumption) ?rest18
      case hy18 => (intro w hSw; (try dsimp only at hSw); go_simp; try with_reducible rfl)
      try simp only [Act.put]
      refine wpAnyH_ready (rs := [11]) (by kernel_rfl) (by simp) ?_
      refine AllReadyH.cons rfl (fun K hK => ?_) ?_
      · clear hHeld
        go_simp
        clear x3 y3
        refine hK.out _ _ (by first | with_reducible exact q0 | (dsimp only; with_reducible exact q0) | exact cell_other q0 m1) (fun hHeld => ?_)
        clear hK K
        try simp only [Act.put, List.setIfInBounds_toArray, List.set_cons_zero, List.set_cons_succ]
        refine wpAnyH_done (by kernel_rfl) ?_ _
        clear hHeld
        obtain ⟨Y, hY⟩ : ∃ Y, Y = V1.setCell ⟨b, 2, none⟩ (.slice (some ⟨g, 0, none⟩) (G.es.length - 1) cc) := ⟨_, rfl⟩
        rw [← hY] at HG HR
        rw [← hY]
        have HU : Hid (UnAt Y (GN b { s with ve := .slice (some ⟨g, 0, none⟩) (G.es.length - 1) cc }) (.func (.func 89) #[] #[ptr w.heap.size, ptr (w.heap.size + 1)]) (.te p x)) := HUN.out Y HR.out
        have RM := hide (remember73 b _ _ _ _ Y HG.out HU.out hl hm)
        clear hY q0
        go_wp2_with (go_at_call 73; refine RM.out.mono ?_; rintro e w' ⟨rfl, s', g', r'⟩; have H1 := hide g'; have H2 := hide (((GFr.of_below HBX.out).trans HR.out).trans r'); clear g' r')
        go_end0
        exact ⟨rfl, _, by unfold Gr.takeE; rw [HX.out]; exact H1.out, H2.out⟩
      exact AllReadyH.nil
    exact AllReadyH.nil
  exact AllReadyH.nil
end Go.Proofs.Ytgfiofogcnnkhaa
