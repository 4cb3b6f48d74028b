/- Net. -/
import Derived.Test.YtgfiofogcnnkhaaNQ
namespace Go.Proofs.Ytgfiofogcnnkhaa
open Go.RowKit Go.Sort
open Go

/-- One of those that may come up, where it has no guard: the step stands as it is. -/
theorem ready_cons {P : Program} {md : Region.Mode} {ops : Array Oper} {Q : Exit → Act → World → Prop} {S : World → Prop} {fuel : Nat} {listed : Array Bool} {a : Act} {w : World} {i : Nat} (o : Oper) {rs : List Nat} (ho : ops[i]? = some o) (hg : o.guard = none)
    (h : ∀ K' : Act → World → Prop, Go.Shut (∀ a w, S w → (S w → wpAnyH P md ops Q S fuel (listed.setIfInBounds i true) a w) → K' a w) → Oper.wp P o a w K' Q)
    (hs : AllReadyH P md ops Q S fuel listed a w rs) : AllReadyH P md ops Q S fuel listed a w (i :: rs) :=
  AllReadyH.cons ho (fun K hK => by rw [if_pos (by simp [Region.wanted, hg])]; exact h K hK) hs
theorem oper_make {P : Program} (w : World) {o : Oper} {a : Act} {K : Act → World → Prop} {Q : Exit → Act → World → Prop} (l c : Operand) (t : TypeId) (hop : o.op = Op.makeSlice t l c)
    (base : Nat) (e : TypeId) (i : TypeInfo) (z : Value) (size : Nat) (h1 : P.underlying t = some (.slice e)) (h2 : P.info? e = some i) (h3 : i.zero = some z) (h4 : i.size = size)
    (kl kc : IntKind) (L C : Int) (n : Nat) (hl : a.eval l = .int kl L) (hc : a.eval c = .int kc C) (hL : L = (n : Int)) (hC : C = (n : Int)) (b2 : i.bytes * n ≤ 281474976710656) (b3 : n ≤ maxLen) (b4 : base ≤ w.heap.size)
    (hK : ∀ w', w'.ownsRow base e size (.slice (some ⟨w.heap.size, 0, none⟩) n n) n (madeCells z.cells (n * size)).toList → w.grownBy w' none → K (a.put o.dst (.slice (some ⟨w.heap.size, 0, none⟩) n n)) w') : Oper.wp P o a w K Q := by
  obtain ⟨w', hrun, r1, r2⟩ := run_make_full (P := P) w base t e i z size h1 h2 h3 h4 kl kc n b2 b3 b4
  subst hL
  subst hC
  unfold Oper.wp
  simp [execOp, hop, hl, hc, hrun, Result.andThen]
  exact hK w' r1 r2
theorem cells_set0 : ∀ (ps : List Pt) (j : Nat) (v : Int), (cells ps).set (j * 2) (.int .i64 v) = cells (ps.set j ⟨v, (at' ps j).y⟩)
  | [], j, v => by simp [cells]
  | p :: r, 0, v => rfl
  | p :: r, j + 1, v => by
    have ih := cells_set0 r j v
    have e : (j + 1) * 2 = j * 2 + 1 + 1 := by omega
    rw [e]
    simp only [cells, List.set_cons_succ, ih]
    rfl
theorem cells_set1 : ∀ (ps : List Pt) (j : Nat) (v : Int), (cells ps).set (j * 2 + 1) (.int .i64 v) = cells (ps.set j ⟨(at' ps j).x, v⟩)
  | [], j, v => by simp [cells]
  | p :: r, 0, v => rfl
  | p :: r, j + 1, v => by
    have ih := cells_set1 r j v
    have e : (j + 1) * 2 + 1 = (j * 2 + 1) + 1 + 1 := by omega
    rw [e]
    simp only [cells, List.set_cons_succ, ih]
    rfl
theorem PRow.put0 {w : World} {base g n : Nat} {ps : List Pt} (h : PRow w base g n ps) (j : Nat) (v : Int) : PRow (w.setCell ⟨g, j * 2, none⟩ (.int .i64 v)) base g n (ps.set j ⟨v, (at' ps j).y⟩) := by
  refine ⟨by rw [List.length_set]; exact h.1, ?_⟩
  have k := (World.ownsRow.stored h.2 (j * 2) (.int .i64 v)).1
  unfold Owns
  rw [← cells_set0, List.length_set]
  exact k
theorem PRow.put1 {w : World} {base g n : Nat} {ps : List Pt} (h : PRow w base g n ps) (j : Nat) (v : Int) : PRow (w.setCell ⟨g, j * 2 + 1, none⟩ (.int .i64 v)) base g n (ps.set j ⟨(at' ps j).x, v⟩) := by
  refine ⟨by rw [List.length_set]; exact h.1, ?_⟩
  have k := (World.ownsRow.stored h.2 (j * 2 + 1) (.int .i64 v)).1
  unfold Owns
  rw [← cells_set1, List.length_set]
  exact k
def inN (l : List Pt) (k : Nat) (p : Pt) : Nat → List Pt
  | 0 => l
  | 1 => l.set k ⟨p.x, (at' l k).y⟩
  | _ + 2 => l.set k p
theorem index68a (a b : Int) (w : World) : (Instr.index 68 (.agg #[.int .i64 a, .int .i64 b]) (.int .i64 0)).run Try.prog w = .ok (.int .i64 a) w := by kernel_rfl
theorem index68b (a b : Int) (w : World) : (Instr.index 68 (.agg #[.int .i64 a, .int .i64 b]) (.int .i64 1)).run Try.prog w = .ok (.int .i64 b) w := by kernel_rfl
def nE (G : Gr) (j : Nat) : Pt := ⟨pl G.ns (eat G.es j).a, pl G.ns (eat G.es j).b⟩
def netN (G : Gr) : Nat → List Pt
  | 0 => List.replicate G.es.length ⟨0, 0⟩
  | k + 1 => (netN G k).set k (nE G k)
def idsN (G : Gr) : Nat → List Int
  | 0 => List.replicate G.es.length 0
  | k + 1 => (idsN G k).set k (eat G.es k).id
def netL (G : Gr) : List Pt := netN G G.es.length
theorem netN_length (G : Gr) : ∀ k, (netN G k).length = G.es.length
  | 0 => List.length_replicate
  | k + 1 => by simp only [netN, List.length_set]; exact netN_length G k
theorem idsN_length (G : Gr) : ∀ k, (idsN G k).length = G.es.length
  | 0 => List.length_replicate
  | k + 1 => by simp only [idsN, List.length_set]; exact idsN_length G k
theorem at_set (l : List Pt) (j k : Nat) (x : Pt) (hk : k < l.length) : at' (l.set j x) k = if j = k then x else at' l k := by
  unfold at'
  rw [List.getD_eq_getElem?_getD, List.getElem?_set, List.getD_eq_getElem?_getD]
  by_cases h : j = k
  · subst h; simp [hk]
  · simp [h]
theorem netN_at (G : Gr) : ∀ (k : Nat), k ≤ G.es.length → ∀ j, j < k → at' (netN G k) j = nE G j
  | 0, _, j, hj => by omega
  | k + 1, hk, j, hj => by
    simp only [netN]
    rw [at_set _ _ _ _ (by rw [netN_length]; omega)]
    by_cases h : k = j
    · rw [if_pos h, h]
    · rw [if_neg h]; exact netN_at G k (by omega) j (by omega)
theorem idsN_at (G : Gr) : ∀ (k : Nat), k ≤ G.es.length → ∀ j, j < k → iat (idsN G k) j = (eat G.es j).id
  | 0, _, j, hj => by omega
  | k + 1, hk, j, hj => by
    simp only [idsN]
    rw [iat_set _ _ _ _ (by rw [idsN_length]; omega)]
    by_cases h : k = j
    · rw [if_pos h, h]
    · rw [if_neg h]; exact idsN_at G k (by omega) j (by omega)
theorem iat_ext {a b : List Int} (hl : a.length = b.length) (h : ∀ j, j < a.length → iat a j = iat b j) : a = b := by
  apply List.ext_getElem? 
  intro j
  by_cases hj : j < a.length
  · have := h j hj
    unfold iat at this
    rw [List.getD_eq_getElem?_getD, List.getD_eq_getElem?_getD, List.getElem?_eq_getElem hj, List.getElem?_eq_getElem (by omega)] at this
    rw [List.getElem?_eq_getElem hj, List.getElem?_eq_getElem (by omega)]
    simpa using this
  · rw [List.getElem?_eq_none (by omega), List.getElem?_eq_none (by omega)]
theorem idsN_all (G : Gr) : idsN G G.es.length = eids G.es := by
  apply iat_ext
  · rw [idsN_length, eids_length]
  · intro j hj
    rw [idsN_length] at hj
    rw [idsN_at G _ (Nat.le_refl _) j hj, eids_at hj]
set_option maxRecDepth 100000 in
set_option maxHeartbeats 8000000 in
theorem net19a (b : Nat) (s : GV) (G : Gr) (w : World) (h : GAt w b s G) (hn : G.ns.length ≤ 1024) (he : G.es.length ≤ 3072) (hu : Up G.ns) : Calls Try.prog 19 #[ptr b] w fun e w' => ∃ ge gi p c, e = .returned (.tuple #[nv G.ns.length (some ⟨ge, 0, none⟩) G.es.length G.es.length, .slice p G.ns.length c, .slice (some ⟨gi, 0, none⟩) G.es.length G.es.length]) ∧ PRow w' w.heap.size ge G.es.length (netL G) ∧ IOwns w' w.heap.size (.slice p G.ns.length c) G.ns ∧ IRow w' w.heap.size gi G.es.length (eids G.es) ∧ Below w.heap.size w w' := by
  obtain ⟨i0, hi0, hz0, hz1, hz2⟩ := info_parts info60
  obtain ⟨pn, cn, pe, ce, pm, cm, pd, cd, _, hs, _⟩ := h.form
  obtain ⟨W, hW⟩ : ∃ W, W = w.alloc (nbx 0 none 0 0) := ⟨_, rfl⟩
  have hbW : Below w.heap.size w W := by rw [hW]; go_grown
  have A := none50 b s G W (h.later hbW)
  have HZ0 : Hid (W.heap.size = w.heap.size + 1 ∧ b < w.heap.size) := ⟨by rw [hW]; simp, h.lt⟩
  have hbl := h.lt
  have HN0 : Hid (NOwn W w.heap.size 0 none 0 0) := by show NOwn _ _ _ _ _ _; rw [hW]; exact ⟨by go_cell, by go_cell, by simp [go_sem], by simp [go_sem]⟩
  have HGW := hide (h.later hbW)
  have HBW := hide hbW
  have HS : Hid (∀ V, Below W.heap.size W V → V.cell? ⟨b, 1, none⟩ = some (.slice pn G.ns.length cn) ∧ V.cell? ⟨b, 2, none⟩ = some (.slice pe G.es.length ce)) := fun V hV => by
    obtain ⟨_, k1, k2, _⟩ := (HGW.out.later hV).cells
    rw [hs] at k1 k2
    exact ⟨k1, k2⟩
  have HSS := hide hs
  have HU := hide hu
  have HW := hide hW
  clear h hbW hs hu hW
  go_enter Try.func19, Try.ntmps19
  go_upto_region 3 with (go_at_call 50; rw [← HW.out]; refine A.mono ?_; rintro e w' ⟨rfl, hw⟩; have hw2 := hw.symm; subst hw2)
  obtain ⟨q1, q2⟩ := HS.out _ (Below.refl _ _)
  clear A HW
  go_cut [5] (fun s5 wx => ∃ k5 ge, s5 = .pointer (some ⟨k5, 0, none⟩) ∧ Below W.heap.size W wx ∧ PRow wx w.heap.size ge G.es.length (List.replicate G.es.length ⟨0, 0⟩) ∧ NOwn wx k5 G.ns.length (some ⟨ge, 0, none⟩) G.es.length G.es.length ∧ w.heap.size + 1 ≤ k5 ∧ ge ≠ k5 ∧ w.heap.size + 1 ≤ ge)
  case first =>
    refine wp_region_held_drew (S := (fun V => V.cell? ⟨b, 1, none⟩ = some (.slice pn G.ns.length cn) ∧ V.cell? ⟨b, 2, none⟩ = some (.slice pe G.es.length ce))) (by kernel_rfl) (by exact ⟨q1, q2⟩) (fun hHeld => ?_)
    obtain ⟨V0, hV0⟩ : ∃ V, V = W.drew := ⟨_, rfl⟩
    have HB0 : Hid (Below W.heap.size W V0) := by show Below _ _ _; rw [hV0]; exact below_drew _
    rw [← hV0] at hHeld ⊢
    clear hV0 q1 q2
    obtain ⟨q1, q2⟩ := HS.out _ HB0.out
    refine wpAnyH_take (i := 0) (v := ?v1) rfl (by kernel_rfl) (by kernel_rfl) (by kernel_rfl) (fun _ _ _ h => h) (Or.inl ⟨by rfl, ?hy1⟩) (by assumption) ?rest1
    case hy1 => (intro w hSw; (try dsimp only at hSw); go_simp; try with_reducible rfl)
    try simp only [Act.put, List.getElem_toArray, List.getElem_cons_zero, List.setIfInBounds_toArray, List.set_cons_zero, List.set_cons_succ]
    refine wpAnyH_take (i := 1) (v := ?v2) rfl (by kernel_rfl) (by kernel_rfl) (by kernel_rfl) (fun _ _ _ h => h) (Or.inl ⟨by rfl, ?hy2⟩) (by assumption) ?rest2
    case hy2 => (intro w hSw; (try dsimp only at hSw); go_simp; try with_reducible rfl)
    try simp only [Act.put, List.getElem_toArray, List.getElem_cons_zero, List.getElem_cons_succ, List.setIfInBounds_toArray, List.set_cons_zero, List.set_cons_succ]
    refine wpAnyH_take (i := 2) (v := ?v3) rfl (by kernel_rfl) (by kernel_rfl) (by kernel_rfl) (fun _ _ _ h => h) (Or.inl ⟨by rfl, ?hy3⟩) (by assumption) ?rest3
    case hy3 => (intro w hSw; (try dsimp only at hSw); go_simp; try with_reducible rfl)
    try simp only [Act.put, List.getElem_toArray, List.getElem_cons_zero, List.getElem_cons_succ, List.setIfInBounds_toArray, List.set_cons_zero, List.set_cons_succ]
    refine wpAnyH_take (i := 3) (v := ?v4) rfl (by kernel_rfl) (by kernel_rfl) (by kernel_rfl) (fun _ _ _ h => h) (Or.inl ⟨by rfl, ?hy4⟩) (by assumption) ?rest4
    case hy4 => (intro w hSw; (try dsimp only at hSw); go_simp; try with_reducible rfl)
    try simp only [Act.put, List.getElem_toArray, List.getElem_cons_zero, List.getElem_cons_succ, List.setIfInBounds_toArray, List.set_cons_zero, List.set_cons_succ]
    refine wpAnyH_take (i := 4) (v := ?v5) rfl (by kernel_rfl) (by kernel_rfl) (by kernel_rfl) (fun _ _ _ h => h) (Or.inl ⟨by rfl, ?hy5⟩) (by assumption) ?rest5
    case hy5 => (intro w hSw; (try dsimp only at hSw); go_simp; try with_reducible rfl)
    try simp only [Act.put, List.getElem_toArray, List.getElem_cons_zero, List.getElem_cons_succ, List.setIfInBounds_toArray, List.set_cons_zero, List.set_cons_succ]
    refine wpAnyH_take (i := 5) (v := ?v6) rfl (by kernel_rfl) (by kernel_rfl) (by kernel_rfl) (fun _ _ _ h => h) (Or.inl ⟨by rfl, ?hy6⟩) (by assumption) ?rest6
    case hy6 => (intro w hSw; (try dsimp only at hSw); go_simp; try with_reducible rfl)
    try simp only [Act.put, List.getElem_toArray, List.getElem_cons_zero, List.getElem_cons_succ, List.setIfInBounds_toArray, List.set_cons_zero, List.set_cons_succ]
    refine wpAnyH_take (i := 6) (v := ?v7) rfl (by kernel_rfl) (by kernel_rfl) (by kernel_rfl) (fun _ _ _ h => h) (Or.inl ⟨by rfl, ?hy7⟩) (by assumption) ?rest7
    case hy7 => (intro w hSw; (try dsimp only at hSw); go_simp; try with_reducible rfl)
    try simp only [Act.put, List.getElem_toArray, List.getElem_cons_zero, List.getElem_cons_succ, List.setIfInBounds_toArray, List.set_cons_zero, List.set_cons_succ]
    refine wpAnyH_take (i := 7) (v := ?v8) rfl (by kernel_rfl) (by kernel_rfl) (by kernel_rfl) (fun _ _ _ h => h) (Or.inl ⟨by rfl, ?hy8⟩) (by assumption) ?rest8
    case hy8 => (intro w hSw; (try dsimp only at hSw); go_simp; try with_reducible rfl)
    try simp only [Act.put, List.getElem_toArray, List.getElem_cons_zero, List.getElem_cons_succ, List.setIfInBounds_toArray, List.set_cons_zero, List.set_cons_succ]
    refine wpAnyH_take (i := 8) (v := ?v9) rfl (by kernel_rfl) (by kernel_rfl) (by kernel_rfl) (fun _ _ _ h => h) (Or.inl ⟨by rfl, ?hy9⟩) (by assumption) ?rest9
    case hy9 => (intro w hSw; (try dsimp only at hSw); go_simp; try with_reducible rfl)
    try simp only [Act.put, List.getElem_toArray, List.getElem_cons_zero, List.getElem_cons_succ, List.setIfInBounds_toArray, List.set_cons_zero, List.set_cons_succ]
    refine wpAnyH_take (i := 9) (v := ?v10) rfl (by kernel_rfl) (by kernel_rfl) (by kernel_rfl) (fun _ _ _ h => h) (Or.inl ⟨by rfl, ?hy10⟩) (by assumption) ?rest10
    case hy10 => (intro w hSw; (try dsimp only at hSw); go_simp; try with_reducible rfl)
    try simp only [Act.put, List.getElem_toArray, List.getElem_cons_zero, List.getElem_cons_succ, List.setIfInBounds_toArray, List.set_cons_zero, List.set_cons_succ]
    refine wpAnyH_ready (rs := [10, 12]) (by kernel_rfl) (by simp) ?_
    refine ready_cons ({ dst := some 24, op := Op.makeSlice 22 (.tmp 23) (.tmp 23), type := 22, pos := "graph.go:118", after := #[{ on := 9, ground := Ground.data }, { on := 9, ground := Ground.data }], guard := none }) rfl rfl (fun K hK => ?_) ?_
    · clear hHeld
      refine oper_make V0 (.tmp 23) (.tmp 23) 22 (by rfl) w.heap.size 68 i0 (.agg #[.int .i64 0, .int .i64 0]) 2 Try.underlying22 hi0 hz0 hz1 .i64 .i64 (G.es.length : Int) (G.es.length : Int) G.es.length (by rfl) (by rfl) rfl rfl (by rw [hz2]; omega) (by unfold maxLen; omega) (by have := HB0.out.size; have := HZ0.out; omega) ?_
      intro V1 hown hgrow
      obtain ⟨ge, hge⟩ : ∃ g, V0.heap.size = g := ⟨_, rfl⟩
      have hb2 := below_made hgrow
      have HGE : Hid (w.heap.size + 1 ≤ ge) := by show _ ≤ _; have := HB0.out.size; have := HZ0.out; omega
      have HP1 : Hid (PRow V1 w.heap.size ge G.es.length (List.replicate G.es.length ⟨0, 0⟩)) := by show PRow _ _ _ _ _; rw [hge] at hown; exact prow_made hown
      have HB1 := hide (below_step HB0.out hb2)
      rw [hge]
      clear hown hgrow hb2 hge q1 q2
      obtain ⟨q1, q2⟩ := HS.out _ HB1.out
      refine hK.out _ _ (by first | with_reducible exact ⟨q1, q2⟩ | (dsimp only; with_reducible exact ⟨q1, q2⟩) | exact ⟨cell_other (cell_other q1 (Ne.symm hkb)) (Ne.symm hkb), cell_other (cell_other q2 (Ne.symm hkb)) (Ne.symm hkb)⟩) (fun hHeld => ?_)
      clear hK K
      try simp only [Act.put, List.setIfInBounds_toArray, List.set_cons_zero, List.set_cons_succ]
      refine wpAnyH_take (i := 11) (v := ?v11) rfl (by kernel_rfl) (by kernel_rfl) (by kernel_rfl) (fun _ _ _ h => h) (Or.inl ⟨by rfl, ?hy11⟩) (by assumption) ?rest11
      case hy11 => (intro w hSw; (try dsimp only at hSw); go_simp; try with_reducible rfl)
      try simp only [Act.put, List.getElem_toArray, List.getElem_cons_zero, List.getElem_cons_succ, List.setIfInBounds_toArray, List.set_cons_zero, List.set_cons_succ]
      refine wpAnyH_ready (rs := [12]) (by kernel_rfl) (by simp) ?_
      refine ready_cons ({ dst := some 5, op := Op.alloc 24, type := 0, pos := "graph.go:118", after := #[], guard := none }) rfl rfl (fun K hK => ?_) ?_
      · clear hHeld
        go_simp
        obtain ⟨V2, hV⟩ : ∃ V, V = V1.alloc (nbx 0 none 0 0) := ⟨_, rfl⟩
        obtain ⟨k5, hk5⟩ : ∃ k, V1.heap.size = k := ⟨_, rfl⟩
        have hb2 : Below V1.heap.size V1 V2 := by rw [hV]; go_grown
        have HN2 : Hid (NOwn V2 k5 0 none 0 0) := by show NOwn _ _ _ _ _ _; rw [hV, ← hk5]; exact ⟨by go_cell, by go_cell, by simp [go_sem], by simp [go_sem]⟩
        have HK5 : Hid (w.heap.size + 1 ≤ k5) := by show _ ≤ _; have := HB1.out.size; have := HZ0.out; omega
        rw [← hV, hk5]
        have HB2 := hide (below_step HB1.out hb2)
        have HNE : Hid (ge ≠ k5) := by show _ ≠ _; have := HP1.out.lt; omega
        have HP2 := hide (HP1.out.later hb2)
        clear hV hb2 hk5 q1 q2
        obtain ⟨q1, q2⟩ := HS.out _ HB2.out
        refine hK.out _ _ (by first | with_reducible exact ⟨q1, q2⟩ | (dsimp only; with_reducible exact ⟨q1, q2⟩) | exact ⟨cell_other (cell_other q1 (Ne.symm hkb)) (Ne.symm hkb), cell_other (cell_other q2 (Ne.symm hkb)) (Ne.symm hkb)⟩) (fun hHeld => ?_)
        clear hK K
        try simp only [Act.put, List.getElem_toArray, List.getElem_cons_zero, List.getElem_cons_succ, List.setIfInBounds_toArray, List.set_cons_zero, List.set_cons_succ]
        refine wpAnyH_ready (rs := [13]) (by kernel_rfl) (by simp) ?_
        refine ready_cons ({ dst := none, op := Op.store 24 (.tmp 5) (.tmp 25), type := 0, pos := "graph.go:118", after := #[{ on := 12, ground := Ground.data }, { on := 11, ground := Ground.data }, { on := 0, ground := Ground.phase }, { on := 1, ground := Ground.phase }, { on := 2, ground := Ground.phase }, { on := 3, ground := Ground.phase }, { on := 4, ground := Ground.phase }, { on := 5, ground := Ground.phase }, { on := 6, ground := Ground.phase }, { on := 7, ground := Ground.phase }, { on := 8, ground := Ground.phase }, { on := 9, ground := Ground.phase }, { on := 10, ground := Ground.phase }, { on := 11, ground := Ground.phase }, { on := 12, ground := Ground.phase }], guard := none }) rfl rfl (fun K hK => ?_) ?_
        · clear hHeld
          obtain ⟨o0, o1, o2, o3⟩ := HN2.out
          have hkb : k5 ≠ b := by have := HK5.out; omega
          go_simp
          clear o0 o1 o2 o3
          refine hK.out _ _ (by first | with_reducible exact ⟨q1, q2⟩ | (dsimp only; with_reducible exact ⟨q1, q2⟩) | exact ⟨cell_other (cell_other q1 (Ne.symm hkb)) (Ne.symm hkb), cell_other (cell_other q2 (Ne.symm hkb)) (Ne.symm hkb)⟩) (fun hHeld => ?_)
          clear hK K
          try simp only [Act.put, List.getElem_toArray, List.getElem_cons_zero, List.getElem_cons_succ, List.setIfInBounds_toArray, List.set_cons_zero, List.set_cons_succ]
          refine wpAnyH_done (by kernel_rfl) ?_ _
          clear hHeld
          have hne := HNE.out
          go_wp2_with fail
          go_meet
          exact ⟨k5, ge, rfl, (HB2.out.setCell (p := ⟨k5, 0, none⟩) (by have := HK5.out; have := HZ0.out; simp; omega) _).setCell (p := ⟨k5, 1, none⟩) (by have := HK5.out; have := HZ0.out; simp; omega) _, prow_other (prow_other HP2.out (Ne.symm hne) _) (Ne.symm hne) _, HN2.out.set _ _ _ _, HK5.out, hne, HGE.out⟩
        exact AllReadyH.nil
      exact AllReadyH.nil
    refine ready_cons ({ dst := some 5, op := Op.alloc 24, type := 0, pos := "graph.go:118", after := #[], guard := none }) rfl rfl (fun K hK => ?_) ?_
    · clear hHeld
      go_simp
      obtain ⟨V1, hV⟩ : ∃ V, V = V0.alloc (nbx 0 none 0 0) := ⟨_, rfl⟩
      obtain ⟨k5, hk5⟩ : ∃ k, V0.heap.size = k := ⟨_, rfl⟩
      have hb2 : Below V0.heap.size V0 V1 := by rw [hV]; go_grown
      have HN1 : Hid (NOwn V1 k5 0 none 0 0) := by show NOwn _ _ _ _ _ _; rw [hV, ← hk5]; exact ⟨by go_cell, by go_cell, by simp [go_sem], by simp [go_sem]⟩
      have HK5 : Hid (w.heap.size + 1 ≤ k5) := by show _ ≤ _; have := HB0.out.size; have := HZ0.out; omega
      rw [← hV, hk5]
      have HB1 := hide (below_step HB0.out hb2)
      clear hV hb2 hk5 q1 q2
      obtain ⟨q1, q2⟩ := HS.out _ HB1.out
      refine hK.out _ _ (by first | with_reducible exact ⟨q1, q2⟩ | (dsimp only; with_reducible exact ⟨q1, q2⟩) | exact ⟨cell_other (cell_other q1 (Ne.symm hkb)) (Ne.symm hkb), cell_other (cell_other q2 (Ne.symm hkb)) (Ne.symm hkb)⟩) (fun hHeld => ?_)
      clear hK K
      try simp only [Act.put, List.getElem_toArray, List.getElem_cons_zero, List.getElem_cons_succ, List.setIfInBounds_toArray, List.set_cons_zero, List.set_cons_succ]
      refine wpAnyH_ready (rs := [10]) (by kernel_rfl) (by simp) ?_
      refine ready_cons ({ dst := some 24, op := Op.makeSlice 22 (.tmp 23) (.tmp 23), type := 22, pos := "graph.go:118", after := #[{ on := 9, ground := Ground.data }, { on := 9, ground := Ground.data }], guard := none }) rfl rfl (fun K hK => ?_) ?_
      · clear hHeld
        refine oper_make V1 (.tmp 23) (.tmp 23) 22 (by rfl) w.heap.size 68 i0 (.agg #[.int .i64 0, .int .i64 0]) 2 Try.underlying22 hi0 hz0 hz1 .i64 .i64 (G.es.length : Int) (G.es.length : Int) G.es.length (by rfl) (by rfl) rfl rfl (by rw [hz2]; omega) (by unfold maxLen; omega) (by have := HB1.out.size; have := HZ0.out; omega) ?_
        intro V2 hown hgrow
        obtain ⟨ge, hge⟩ : ∃ g, V1.heap.size = g := ⟨_, rfl⟩
        have hb2 := below_made hgrow
        have HGE : Hid (w.heap.size + 1 ≤ ge) := by show _ ≤ _; have := HB1.out.size; have := HZ0.out; omega
        have HP2 : Hid (PRow V2 w.heap.size ge G.es.length (List.replicate G.es.length ⟨0, 0⟩)) := by show PRow _ _ _ _ _; rw [hge] at hown; exact prow_made hown
        have HB2 := hide (below_step HB1.out hb2)
        have HNE : Hid (ge ≠ k5) := by show _ ≠ _; have := block_lt_of_cell HN1.out.1; simp at this; omega
        have HN2 := hide (HN1.out.later hb2)
        rw [hge]
        clear hown hgrow hb2 hge q1 q2
        obtain ⟨q1, q2⟩ := HS.out _ HB2.out
        refine hK.out _ _ (by first | with_reducible exact ⟨q1, q2⟩ | (dsimp only; with_reducible exact ⟨q1, q2⟩) | exact ⟨cell_other (cell_other q1 (Ne.symm hkb)) (Ne.symm hkb), cell_other (cell_other q2 (Ne.symm hkb)) (Ne.symm hkb)⟩) (fun hHeld => ?_)
        clear hK K
        try simp only [Act.put, List.setIfInBounds_toArray, List.set_cons_zero, List.set_cons_succ]
        refine wpAnyH_take (i := 11) (v := ?v12) rfl (by kernel_rfl) (by kernel_rfl) (by kernel_rfl) (fun _ _ _ h => h) (Or.inl ⟨by rfl, ?hy12⟩) (by assumption) ?rest12
        case hy12 => (intro w hSw; (try dsimp only at hSw); go_simp; try with_reducible rfl)
        try simp only [Act.put, List.getElem_toArray, List.getElem_cons_zero, List.getElem_cons_succ, List.setIfInBounds_toArray, List.set_cons_zero, List.set_cons_succ]
        refine wpAnyH_ready (rs := [13]) (by kernel_rfl) (by simp) ?_
        refine ready_cons ({ dst := none, op := Op.store 24 (.tmp 5) (.tmp 25), type := 0, pos := "graph.go:118", after := #[{ on := 12, ground := Ground.data }, { on := 11, ground := Ground.data }, { on := 0, ground := Ground.phase }, { on := 1, ground := Ground.phase }, { on := 2, ground := Ground.phase }, { on := 3, ground := Ground.phase }, { on := 4, ground := Ground.phase }, { on := 5, ground := Ground.phase }, { on := 6, ground := Ground.phase }, { on := 7, ground := Ground.phase }, { on := 8, ground := Ground.phase }, { on := 9, ground := Ground.phase }, { on := 10, ground := Ground.phase }, { on := 11, ground := Ground.phase }, { on := 12, ground := Ground.phase }], guard := none }) rfl rfl (fun K hK => ?_) ?_
        · clear hHeld
          obtain ⟨o0, o1, o2, o3⟩ := HN2.out
          have hkb : k5 ≠ b := by have := HK5.out; omega
          go_simp
          clear o0 o1 o2 o3
          refine hK.out _ _ (by first | with_reducible exact ⟨q1, q2⟩ | (dsimp only; with_reducible exact ⟨q1, q2⟩) | exact ⟨cell_other (cell_other q1 (Ne.symm hkb)) (Ne.symm hkb), cell_other (cell_other q2 (Ne.symm hkb)) (Ne.symm hkb)⟩) (fun hHeld => ?_)
          clear hK K
          try simp only [Act.put, List.getElem_toArray, List.getElem_cons_zero, List.getElem_cons_succ, List.setIfInBounds_toArray, List.set_cons_zero, List.set_cons_succ]
          refine wpAnyH_done (by kernel_rfl) ?_ _
          clear hHeld
          have hne := HNE.out
          go_wp2_with fail
          go_meet
          exact ⟨k5, ge, rfl, (HB2.out.setCell (p := ⟨k5, 0, none⟩) (by have := HK5.out; have := HZ0.out; simp; omega) _).setCell (p := ⟨k5, 1, none⟩) (by have := HK5.out; have := HZ0.out; simp; omega) _, prow_other (prow_other HP2.out (Ne.symm hne) _) (Ne.symm hne) _, HN2.out.set _ _ _ _, HK5.out, hne, HGE.out⟩
        exact AllReadyH.nil
      exact AllReadyH.nil
    exact AllReadyH.nil
  case rest =>
    obtain ⟨k5, ge, rfl, hbc, hP, hN, hk5, hne0, hge0⟩ := hcut
    obtain ⟨j0, hj0, hy0, hy1, hy2⟩ := info_parts info3
    obtain ⟨w3, hw3⟩ : ∃ z, z = wc := ⟨_, rfl⟩
    subst hw3
    have HB3 := hide hbc
    have HP3 := hide hP
    have HN3 := hide hN
    clear q1 q2 hi0 hz0 hz1 hz2 i0
    obtain ⟨q1, q2⟩ := HS.out _ hbc
    clear hbc hP hN
    go_wp2_with (refine wpList_make_full _ rfl (.tmp 30) (.tmp 30) 38 rfl w.heap.size 3 j0 (.int .i64 0) 1 Try.underlying38 hj0 hy0 hy1 .i64 .i64 _ _ G.es.length rfl rfl rfl rfl ?c1 ?c2 ?c3 ?_)
    case c1 => rw [hy2]; omega
    case c2 => unfold maxLen; omega
    case c3 => have := HB3.out.size; have := HZ0.out; omega
    intro w4 hown hgrow
    obtain ⟨gi, hgi⟩ : ∃ g, w3.heap.size = g := ⟨_, rfl⟩
    have HI4 : Hid (IRow w4 w.heap.size gi G.es.length (List.replicate G.es.length 0)) := by
      show IRow _ _ _ _ _
      rw [hgi] at hown
      exact irow_made (by simpa using hown)
    have HNE : Hid (gi ≠ ge ∧ gi ≠ k5 ∧ gi ≠ b ∧ gi ≠ w.heap.size) := by
      have h1 := HP3.out.lt
      have h2 := block_lt_of_cell HN3.out.1
      have h3 := HB3.out.size
      have h4 := HZ0.out
      simp at h2
      exact ⟨by omega, by omega, by omega, by omega⟩
    have hb4 := below_made hgrow
    have HB4 := hide (below_step HB3.out hb4)
    have HP4 := hide (HP3.out.later hb4)
    have HN4 := hide (HN3.out.later hb4)
    have HNE2 : Hid (ge ≠ k5 ∧ ge ≠ b ∧ ge ≠ w.heap.size ∧ k5 ≠ b) := ⟨hne0, by omega, by omega, by omega⟩
    try rw [hgi]
    clear hown hgrow hb4 hgi HB3 HP3 HN3 q1 q2 hj0 hy0 hy1 hy2 j0
    obtain ⟨q1, q2⟩ := HS.out _ HB4.out
    go_wp2_with fail
    go_loopw [37] (fun t37 wr => ∃ k : Nat, k ≤ G.es.length ∧ t37 = .int .i64 k ∧ Hid (Below W.heap.size W wr) ∧ Hid (PRow wr w.heap.size ge G.es.length (netN G k)) ∧ Hid (IRow wr w.heap.size gi G.es.length (idsN G k)) ∧ Hid (NOwn wr k5 G.ns.length (some ⟨ge, 0, none⟩) G.es.length G.es.length)) (fun t37 _ => G.es.length - (intOf t37).toNat)
    case atStart => exact ⟨0, by omega, rfl, HB4.out, HP4.out, HI4.out, HN4.out⟩
    case round =>
      obtain ⟨k, hk, rfl, HBr, HPr, HIr, HNr⟩ := hrel
      clear HB4 HP4 HI4 HN4 q1 q2
      by_cases hlt : k < G.es.length
      · have oe := (HGW.out.later HBr.out).edg
        rw [HSS.out] at oe
        have oe' := own_ehas oe
        clear oe
        rcases oe' with h | ⟨g, rfl, hc⟩
        · rw [h] at hlt; simp at hlt
        obtain ⟨c0, c1, c2⟩ := hc k hlt
        clear hc
        obtain ⟨x, hx⟩ : ∃ x, eat G.es k = x := ⟨_, rfl⟩
        rw [hx] at c0 c1 c2
        have HX := hide hx
        have z0 : g < wr.heap.size := block_lt_of_cell c0
        have e0 : (0 : Int) ≤ k := by omega
        have e1 : (k : Int) < G.es.length := by omega
        obtain ⟨f0, f1⟩ := HIr.out.cell hlt
        have l1 := HIr.out.lt.2
        have l2 : gi ≠ wr.heap.size := by omega
        have hxv : ∀ V, (loadVar 68 ⟨wr.heap.size, 1, none⟩).run Try.prog V = (loadVar 68 ⟨wr.heap.size, 1, none⟩).run Try.prog V := fun _ => rfl
        clear hx hxv
        go_wp2_with fail
        obtain ⟨U, hU⟩ : ∃ U, U = (wr.setCell ⟨gi, k, none⟩ (.int .i64 x.id)).alloc (.cells #[.int .i64 x.id, .int .i64 x.a, .int .i64 x.b] 76) := ⟨_, rfl⟩
        obtain ⟨m1, m2, m3, m4⟩ := HNE.out
        obtain ⟨m5, m6, m7, m8⟩ := HNE2.out
        have hbs : Below W.heap.size W (wr.setCell ⟨gi, k, none⟩ (.int .i64 x.id)) := HBr.out.setCell (p := ⟨gi, k, none⟩) (show W.heap.size ≤ gi from by have := HIr.out.lt.1; have := HZ0.out; omega) _
        have hba : Below (wr.setCell ⟨gi, k, none⟩ (.int .i64 x.id)).heap.size (wr.setCell ⟨gi, k, none⟩ (.int .i64 x.id)) U := by rw [hU]; go_grown
        have HBU := hide (below_step hbs hba)
        have HPU := hide ((prow_other HPr.out (k := gi) (i := k) m1 (.int .i64 x.id)).later hba)
        have HIU : Hid (IRow U w.heap.size gi G.es.length (idsN G (k + 1))) := by
          show IRow _ _ _ _ _
          simp only [idsN]
          rw [HX.out]
          exact (HIr.out.set k x.id).later hba
        have HNU := hide ((HNr.out.other (k := gi) (i := k) m2 (.int .i64 x.id)).later hba)
        rw [← hU]
        clear hU hbs hba f0 f1 c0 c1 c2 HBr HPr HIr HNr l1 l2 z0
        have ix0 := index68a x.a x.b
        have ix1 := index68b x.a x.b
        go_loopw [49] (fun t49 wi => ∃ sd : Nat, sd ≤ 2 ∧ t49 = .int .i64 sd ∧ Hid (Below W.heap.size W wi) ∧ Hid (PRow wi w.heap.size ge G.es.length (inN (netN G k) k (nE G k) sd)) ∧ Hid (IRow wi w.heap.size gi G.es.length (idsN G (k + 1))) ∧ Hid (NOwn wi k5 G.ns.length (some ⟨ge, 0, none⟩) G.es.length G.es.length)) (fun t49 _ => 2 - (intOf t49).toNat)
        case atStart => exact ⟨0, by omega, rfl, HBU.out, HPU.out, HIU.out, HNU.out⟩
        case round =>
          obtain ⟨sd, hsd, rfl, HBi, HPi, HIi, HNi⟩ := hrel
          clear HBU HPU HIU HNU
          obtain ⟨o0, o1, o2, o3⟩ := HNi.out
          have HO1 := hide o1
          have l3 := HPi.out.lt.2
          by_cases hs2 : sd < 2
          · obtain rfl | rfl : sd = 0 ∨ sd = 1 := by omega
            · obtain ⟨p0, p1, p2, p3⟩ := HPi.out.cell hlt
              have NP : Hid (∀ V, Below W.heap.size W V → Calls Try.prog 55 #[ptr b, .int .i64 x.a] V fun e w' => e = .returned (.tuple #[.int .i64 (pl G.ns x.a), .bool (decide (x.a ∈ G.ns))]) ∧ w' = V) := fun V hV => nodePlace55 b s G x.a V (HGW.out.later hV) (by omega) HU.out
              go_wp2_with fail
              go_region_held3 (fun V => V.cell? ⟨k5, 1, none⟩ = some (.slice (some ⟨ge, 0, none⟩) G.es.length G.es.length)) (first | exact HO1.out | exact cell_other HO1.out (Ne.symm m5))
                ((go_at_call 55; refine (NP.out _ (below_step HBi.out (below_drew _))).mono ?_; rintro e w' ⟨rfl, hw⟩; have hw2 := hw.symm; subst hw2))
              rename_i hHeld
              clear hHeld
              obtain ⟨Y, hY⟩ : ∃ Y, Y = (wr.setCell ⟨ge, k * 2, none⟩ (.int .i64 (pl G.ns x.a))).drew := ⟨_, rfl⟩
              have hbY : Below (wr.setCell ⟨ge, k * 2, none⟩ (.int .i64 (pl G.ns x.a))).heap.size (wr.setCell ⟨ge, k * 2, none⟩ (.int .i64 (pl G.ns x.a))) Y := by rw [hY]; exact below_drew _
              have HBY : Hid (Below W.heap.size W Y) := below_step (HBi.out.setCell (p := ⟨ge, k * 2, none⟩) (show W.heap.size ≤ ge by have := HZ0.out; omega) _) hbY
              have HPY := hide ((HPi.out.put0 k (pl G.ns x.a)).later hbY)
              have HIY := hide ((irow_other HIi.out (k := ge) (i := k * 2) (Ne.symm m1) (.int .i64 (pl G.ns x.a))).later hbY)
              have HNY := hide ((HNi.out.other (k := ge) (i := k * 2) m5 (.int .i64 (pl G.ns x.a))).later hbY)
              have HIN : Hid (∀ l, (inN (netN G k) k (nE G k) 0).set k ⟨(pl G.ns x.a : Int), (at' (inN (netN G k) k (nE G k) 0) k).y⟩ = l → l = inN (netN G k) k (nE G k) 1) := by
                intro l hl
                rw [← hl]
                simp only [inN, nE, HX.out]
              rw [← hY]
              clear hY hbY
              go_wp2_with fail
              go_roundw
              case rel => exact ⟨1, by omega, by go_num, HBY.out, by show PRow _ _ _ _ _; rw [← HIN.out _ rfl]; exact HPY.out, HIY.out, HNY.out⟩
              case measure => simp [intOf]
            · obtain ⟨p0, p1, p2, p3⟩ := HPi.out.cell hlt
              have NP : Hid (∀ V, Below W.heap.size W V → Calls Try.prog 55 #[ptr b, .int .i64 x.b] V fun e w' => e = .returned (.tuple #[.int .i64 (pl G.ns x.b), .bool (decide (x.b ∈ G.ns))]) ∧ w' = V) := fun V hV => nodePlace55 b s G x.b V (HGW.out.later hV) (by omega) HU.out
              go_wp2_with fail
              go_region_held3 (fun V => V.cell? ⟨k5, 1, none⟩ = some (.slice (some ⟨ge, 0, none⟩) G.es.length G.es.length)) (first | exact HO1.out | exact cell_other HO1.out (Ne.symm m5))
                ((go_at_call 55; refine (NP.out _ (below_step HBi.out (below_drew _))).mono ?_; rintro e w' ⟨rfl, hw⟩; have hw2 := hw.symm; subst hw2))
              rename_i hHeld
              clear hHeld
              obtain ⟨Y, hY⟩ : ∃ Y, Y = (wr.setCell ⟨ge, k * 2 + 1, none⟩ (.int .i64 (pl G.ns x.b))).drew := ⟨_, rfl⟩
              have hbY : Below (wr.setCell ⟨ge, k * 2 + 1, none⟩ (.int .i64 (pl G.ns x.b))).heap.size (wr.setCell ⟨ge, k * 2 + 1, none⟩ (.int .i64 (pl G.ns x.b))) Y := by rw [hY]; exact below_drew _
              have HBY : Hid (Below W.heap.size W Y) := below_step (HBi.out.setCell (p := ⟨ge, k * 2 + 1, none⟩) (show W.heap.size ≤ ge by have := HZ0.out; omega) _) hbY
              have HPY := hide ((HPi.out.put1 k (pl G.ns x.b)).later hbY)
              have HIY := hide ((irow_other HIi.out (k := ge) (i := k * 2 + 1) (Ne.symm m1) (.int .i64 (pl G.ns x.b))).later hbY)
              have HNY := hide ((HNi.out.other (k := ge) (i := k * 2 + 1) m5 (.int .i64 (pl G.ns x.b))).later hbY)
              have HIN : Hid (∀ l, (inN (netN G k) k (nE G k) 1).set k ⟨(at' (inN (netN G k) k (nE G k) 1) k).x, (pl G.ns x.b : Int)⟩ = l → l = inN (netN G k) k (nE G k) 2) := by
                intro l hl
                rw [← hl]
                simp only [inN, nE, HX.out]
                rw [at_set _ _ _ _ (by rw [netN_length]; exact hlt), if_pos rfl, List.set_set]
              rw [← hY]
              clear hY hbY
              go_wp2_with fail
              go_roundw
              case rel => exact ⟨2, by omega, by go_num, HBY.out, by show PRow _ _ _ _ _; rw [← HIN.out _ rfl]; exact HPY.out, HIY.out, HNY.out⟩
              case measure => simp [intOf]
          · have : sd = 2 := by omega
            subst this
            go_wp2_with fail
            go_roundw
            case rel => exact ⟨k + 1, by omega, by go_num, HBi.out, HPi.out, HIi.out, HNi.out⟩
            case measure => simp [intOf]; omega
      · have e1 : ¬ (k : Int) < G.es.length := by omega
        have hke : k = G.es.length := by omega
        have HL : Hid (PRow wr w.heap.size ge G.es.length (netL G)) := by
          show PRow _ _ _ _ _
          have h := HPr.out
          rw [hke] at h
          exact h
        have HJ : Hid (IRow wr w.heap.size gi G.es.length (eids G.es)) := by
          show IRow _ _ _ _ _
          have h := HIr.out
          rw [hke, idsN_all] at h
          exact h
        clear HPr HIr hke
        have HNb := hide (HN0.out.later HBr.out)
        have HSr : Hid (∀ V, Below wr.heap.size wr V → V.cell? ⟨k5, 0, none⟩ = some (.int .i64 G.ns.length) ∧ V.cell? ⟨k5, 1, none⟩ = some (.slice (some ⟨ge, 0, none⟩) G.es.length G.es.length) ∧ V.cell? ⟨b, 1, none⟩ = some (.slice pn G.ns.length cn)) := fun V hV => by
          obtain ⟨o0, o1, _, _⟩ := HNr.out.later hV
          exact ⟨o0, o1, (HS.out _ (below_step HBr.out hV)).1⟩
        have CL : Hid (∀ V, Below wr.heap.size wr V → Calls Try.prog 62 #[.slice pn G.ns.length cn] V fun e w' => ∃ p c, e = .returned (.slice p G.ns.length c) ∧ IOwns w' V.heap.size (.slice p G.ns.length c) G.ns ∧ Below V.heap.size V w') := fun V hV => by
          have o := (HGW.out.later (below_step HBr.out hV)).nod
          rw [HSS.out] at o
          obtain ⟨p, c, e, m, _, z, _⟩ := IOwns.form o
          simp only [Value.slice.injEq] at e
          obtain ⟨e1, _, e3⟩ := e
          rw [e1, e3]
          refine (clone61 _ _ _ V m z (by omega)).mono ?_
          rintro e w' ⟨v, rfl, ho, hb⟩
          obtain ⟨p2, c2, e2, _⟩ := ho.form
          subst e2
          exact ⟨p2, c2, rfl, ho, hb⟩
        obtain ⟨o0, o1, q1⟩ := HSr.out _ (Below.refl _ _)
        have hbk : b ≠ w.heap.size := by omega
        have hkk : k5 ≠ w.heap.size := by omega
        obtain ⟨m1, m2, m3, m4⟩ := HNE.out
        obtain ⟨m5, m6, m7, m8⟩ := HNE2.out
        clear HNr
        go_wp2_with fail
        go_region_held3 (fun V => V.cell? ⟨k5, 0, none⟩ = some (.int .i64 G.ns.length) ∧ V.cell? ⟨k5, 1, none⟩ = some (.slice (some ⟨ge, 0, none⟩) G.es.length G.es.length) ∧ V.cell? ⟨b, 1, none⟩ = some (.slice pn G.ns.length cn)) (first | exact HSr.out _ (Below.refl _ _) | exact HSr.out _ (below_drew _) | exact HSr.out _ HBV.out | exact ⟨cell_other (cell_other (HSr.out _ HBV.out).1 hkk) hkk, cell_other (cell_other (HSr.out _ HBV.out).2.1 hkk) hkk, cell_other (cell_other (HSr.out _ HBV.out).2.2 hbk) hbk⟩)
          ((go_at_call 62; refine (CL.out _ (below_drew _)).mono ?_; rintro e w' ⟨pc, cc, rfl, ho, hb⟩; have HBV := hide (below_step (below_drew wr) hb); have HO := hide ho; obtain ⟨x0, x1, x2, x3⟩ := HNb.out.later HBV.out; clear ho hb))
        rename_i hHeld
        clear hHeld
        obtain ⟨w5, hw5⟩ : ∃ z, z = (w'.setCell ⟨w.heap.size, 0, none⟩ (.int .i64 G.ns.length)).setCell ⟨w.heap.size, 1, none⟩ (.slice (some ⟨ge, 0, none⟩) G.es.length G.es.length) := ⟨_, rfl⟩
        have hsz : w.heap.size + 1 ≤ wr.heap.size := by have := HBr.out.size; have := HZ0.out; omega
        have kV : NOwn w5 w.heap.size G.ns.length (some ⟨ge, 0, none⟩) G.es.length G.es.length := by rw [hw5]; exact NOwn.set ⟨x0, x1, x2, x3⟩ _ _ _ _
        have hB0 := below_step (below_step HBW.out HBr.out) HBV.out
        have HB5 : Hid (Below w.heap.size w w5) := by
          show Below _ _ _
          rw [hw5]
          exact (hB0.setCell (p := ⟨w.heap.size, 0, none⟩) (Nat.le_refl _) _).setCell (p := ⟨w.heap.size, 1, none⟩) (Nat.le_refl _) _
        have HL5 : Hid (PRow w5 w.heap.size ge G.es.length (netL G)) := by
          show PRow _ _ _ _ _
          rw [hw5]
          exact prow_other (prow_other (HL.out.later HBV.out) (Ne.symm m7) _) (Ne.symm m7) _
        have HJ5 : Hid (IRow w5 w.heap.size gi G.es.length (eids G.es)) := by
          show IRow _ _ _ _ _
          rw [hw5]
          exact irow_other (irow_other (HJ.out.later HBV.out) (Ne.symm m4) _) (Ne.symm m4) _
        have HO5 : Hid (IOwns w5 w.heap.size (.slice pc G.ns.length cc) G.ns) := by
          have hno : (Value.slice pc G.ns.length cc).ownBlock ≠ some w.heap.size := fun e => by
            have h1 := (World.ownsRow.lt HO.out _ e).1
            have h2 : wr.drew.heap.size = wr.heap.size := rfl
            omega
          show IOwns _ _ _ _
          rw [hw5]
          exact ownsRow_setCell_other (ownsRow_setCell_other (HO.out.base (show w.heap.size ≤ wr.drew.heap.size from by have h2 : wr.drew.heap.size = wr.heap.size := rfl; omega)) hno _) hno _
        rw [← hw5]
        clear hw5 x0 x1 x2 x3
        go_wp2
        exact bodyPost_ret (ret_net3 Try.results19 rfl rfl rfl kV) rfl ⟨ge, gi, pc, cc, rfl, HL5.out, HO5.out, HJ5.out, HB5.out⟩
end Go.Proofs.Ytgfiofogcnnkhaa
