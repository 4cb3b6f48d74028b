/- The document's copy of a state; append of a list of edges. -/
import Derived.Test.YtgfiofogcnnkhaaR2
namespace Go.Proofs.Ytgfiofogcnnkhaa
open Go.RowKit Go.Sort
open Go

theorem append_eds {w : World} {base : Nat} {v : Value} {l : List Ed} (ho : w.ownsRow base 102 3 v l.length (ecells l)) (p : Option Addr) (cap : Nat) (qs : List Ed) (hnil : p = none → cap = 0) (hq : EHas w p qs) (hb : base ≤ w.heap.size) (hl : l.length + qs.length ≤ 90000) :
    ∃ v' w', (Builtin.append_ #[53, 53] 53 #[v, .slice p qs.length cap]).run Try.prog w = .ok v' w' ∧ w'.ownsRow base 102 3 v' (l ++ qs).length (ecells (l ++ qs)) ∧ w.grownBy w' v.ownBlock := by
  obtain ⟨i0, hi0, hz0, hz1, hz2⟩ := info_parts info102
  cases p with
  | none =>
    have hqs : qs = [] := by
      rcases hq with h | ⟨b, h, _⟩
      · exact h
      · cases h
    subst hqs
    rw [hnil rfl]
    exact ⟨v, w, run_append_owned_none (P := Try.prog) (w := w) base 53 53 102 i0 3 Try.underlying53 hi0 v l.length (ecells l) ho, by rw [List.append_nil]; exact ho, grownBy_refl _ _⟩
  | some a =>
    have hnews : ∀ j u, (ecells qs)[j]? = some u → w.cell? (a.add j) = some u := by
      rcases hq with h | ⟨b, h, hL⟩
      · subst h; intro j u hj; simp [ecells] at hj
      · cases h
        intro j u hj
        have hjl : j < qs.length * 3 := by
          have := (List.getElem?_eq_some_iff.1 hj).1
          rw [ecells_length] at this
          exact this
        rw [Go.WideShapes.add_plain, Nat.zero_add]
        obtain ⟨k0, k1, k2⟩ := ecells_at qs (j / 3) (by omega)
        obtain ⟨c0, c1, c2⟩ := hL (j / 3) (by omega)
        have h3 : j % 3 = 0 ∨ j % 3 = 1 ∨ j % 3 = 2 := by omega
        rcases h3 with h3 | h3 | h3
        · have e : j = j / 3 * 3 := by omega
          rw [e] at hj ⊢
          rw [k0] at hj
          rw [c0]
          exact hj
        · have e : j = j / 3 * 3 + 1 := by omega
          rw [e] at hj ⊢
          rw [k1] at hj
          rw [c1]
          exact hj
        · have e : j = j / 3 * 3 + 2 := by omega
          rw [e] at hj ⊢
          rw [k2] at hj
          rw [c2]
          exact hj
    obtain ⟨v', w', h1, h2, h3, _⟩ := run_append_own (P := Try.prog) w base 53 53 102 i0 (.agg #[.int .i64 0, .int .i64 0, .int .i64 0]) 3 24 Try.underlying53 hi0 hz0 hz1 hz2 rfl (by decide) v l.length (ecells l) ho a qs.length cap (ecells qs) (ecells_length qs) hnews (ecells_one qs) (by unfold maxLen; omega) (by omega) hb
    refine ⟨v', w', h1, ?_, h3⟩
    rw [List.length_append, ecells_append]
    exact h2
theorem load55 {V : World} {g : Nat} {v0 v1 v2 v3 : Value} (h : V.cell? ⟨g, 0, none⟩ = some v0 ∧ V.cell? ⟨g, 1, none⟩ = some v1 ∧ V.cell? ⟨g, 2, none⟩ = some v2 ∧ V.cell? ⟨g, 3, none⟩ = some v3) : (loadVar 55 ⟨g, 0, none⟩).run Try.prog V = .ok (.agg #[v0, v1, v2, v3]) V := by
  obtain ⟨q0, q1, q2, q3⟩ := h
  have l0 : (load ⟨g, 0, none⟩).run Try.prog V = .ok v0 V := by simp [go_sem, q0]
  have l1 : (load ⟨g, 1, none⟩).run Try.prog V = .ok v1 V := by simp [go_sem, q1]
  have l2 : (load ⟨g, 2, none⟩).run Try.prog V = .ok v2 V := by simp [go_sem, q2]
  have l3 : (load ⟨g, 3, none⟩).run Try.prog V = .ok v3 V := by simp [go_sem, q3]
  simp only [loadVar, Sem.run_bind, Try.isAgg55, Result.andThen_ok, if_true, Try.sizeOf55]
  simp only [loadCells, go_sem]
  simp only [Sem.run_bind, Nat.zero_add, l0, l1, l2, l3, Result.andThen_ok, Sem.run_pure]
  rfl
theorem results_c {fn : Func} {p : Tmp} {ty : TypeId} (h : fn.results = #[.cell p ty]) (tmps : Array Value) (P : Program) (w : World) :
    (results fn tmps).run P w = ((asAddr (tmps.getD p undef)).run P w).andThen fun a w₁ => (loadVar ty a).run P w₁ := by
  simp only [results, h]
  simp [Sem.run_bind, Result.andThen]
theorem ret_st {fn : Func} {c : Tmp} (hr : fn.results = #[.cell c 55]) {tmps : Array Value} {V : World} {g : Nat} {v0 v1 v2 v3 : Value} (h2 : tmps.getD c undef = .pointer (some ⟨g, 0, none⟩)) (h : V.cell? ⟨g, 0, none⟩ = some v0 ∧ V.cell? ⟨g, 1, none⟩ = some v1 ∧ V.cell? ⟨g, 2, none⟩ = some v2 ∧ V.cell? ⟨g, 3, none⟩ = some v3) :
    (results fn tmps).run Try.prog V = .ok (.agg #[v0, v1, v2, v3]) V := by
  rw [results_c hr, h2, asA, Result.andThen_ok, load55 h]
set_option maxRecDepth 100000 in
set_option maxHeartbeats 8000000 in
theorem copy77 (pn : Option Addr) (ns : List Int) (cn : Nat) (pe : Option Addr) (es : List Ed) (ce : Nat) (nd ei : Int) (w : World) (hn : IHas w pn ns) (he : EHas w pe es) (zn : pn = none → cn = 0) (ze : pe = none → ce = 0) (hln : ns.length ≤ 5000) (hle : es.length ≤ 5000) : Calls Try.prog 77 #[.agg #[.slice pn ns.length cn, .slice pe es.length ce, .int .i64 nd, .int .i64 ei]] w fun e w' => ∃ p1 c1 p2 c2, e = .returned (.agg #[.slice p1 ns.length c1, .slice p2 es.length c2, .int .i64 nd, .int .i64 ei]) ∧ IOwns w' w.heap.size (.slice p1 ns.length c1) ns ∧ w'.ownsRow w.heap.size 102 3 (.slice p2 es.length c2) es.length (ecells es) ∧ Below w.heap.size w w' := by
  obtain ⟨W, hW⟩ : ∃ W, W = (w.alloc (.cells #[.slice pn ns.length cn, .slice pe es.length ce, .int .i64 nd, .int .i64 ei] 55)).alloc (.cells #[.slice none 0 0, .slice none 0 0, .int .i64 0, .int .i64 0] 55) := ⟨_, rfl⟩
  have hbW : Below w.heap.size w W := by rw [hW]; go_grown
  have hsz : W.heap.size = w.heap.size + 2 := by rw [hW]; simp
  obtain ⟨k, hk⟩ : ∃ k, w.heap.size = k := ⟨_, rfl⟩
  -- the nodes
  obtain ⟨v1, D1, a1, o1, gr1⟩ := append_ints (IOwns.nil W W.heap.size) pn cn ns zn (hn.later hbW) (Nat.le_refl _) (by simp; omega)
  rw [List.nil_append] at o1
  obtain ⟨p1, c1, f1, _⟩ := o1.form
  subst f1
  have hb1 : Below W.heap.size W D1 := ⟨gr1.os, gr1.tape, gr1.output, gr1.size, fun i hi => gr1.block i hi (by simp [Value.ownBlock])⟩
  obtain ⟨X, hX⟩ : ∃ X, X = D1.setCell ⟨k, 0, none⟩ (.slice p1 ns.length c1) := ⟨_, rfl⟩
  have hfX : Frame W X (fun i => i = k) := by rw [hX]; exact (Frame.of_below hb1 _).trans (Frame.set _ _ _ rfl)
  have hsX : W.heap.size ≤ X.heap.size := hfX.size
  have hnb : ∀ g', (Value.slice p1 ns.length c1).ownBlock = some g' → W.heap.size ≤ g' ∧ g' < D1.heap.size := fun g' h' => World.ownsRow.lt o1 g' h'
  have o1X : IOwns X W.heap.size (.slice p1 ns.length c1) ns := by
    rw [hX]
    exact ownsRow_setCell_other o1 (fun e => by have h' : W.heap.size ≤ k := (hnb _ e).1; omega) _
  have heX : EHas X pe es := by
    rcases he.later hbW with h0 | ⟨g, h1, h2⟩
    · exact Or.inl h0
    · refine Or.inr ⟨g, h1, fun j hj => ?_⟩
      have hgl : ∀ {c}, w.cell? ⟨g, j * 3, none⟩ = some c → g < w.heap.size := fun hc => block_lt_of_cell hc
      rcases he with h0 | ⟨g2, h3, h4⟩
      · rw [h0] at hj; simp at hj
      · have hg : g2 = g := by rw [h1] at h3; simpa using h3.symm
        rw [hg] at h4
        have hlt : g < w.heap.size := block_lt_of_cell (h4 j hj).1
        have hne : ¬ g = k := by omega
        exact ⟨hfX.cell (h2 j hj).1 hne, hfX.cell (h2 j hj).2.1 hne, hfX.cell (h2 j hj).2.2 hne⟩
  obtain ⟨v2, D2, a2, o2, gr2⟩ := append_eds (l := []) (World.ownsRow_nil X X.heap.size 102 3) pe ce es ze heX (Nat.le_refl _) (by simp; omega)
  rw [List.nil_append] at o2
  obtain ⟨p2, c2, f2, _⟩ := row_form o2
  subst f2
  have hb2 : Below X.heap.size X D2 := ⟨gr2.os, gr2.tape, gr2.output, gr2.size, fun i hi => gr2.block i hi (by simp [Value.ownBlock])⟩
  -- the cells of both boxes
  have w0 : W.cell? ⟨k, 0, none⟩ = some (.slice pn ns.length cn) ∧ W.cell? ⟨k, 1, none⟩ = some (.slice pe es.length ce) ∧ W.cell? ⟨k, 2, none⟩ = some (.int .i64 nd) ∧ W.cell? ⟨k, 3, none⟩ = some (.int .i64 ei) := by rw [hW, ← hk]; exact ⟨by go_cell, by go_cell, by go_cell, by go_cell⟩
  have w1 : ∀ i, W.frozen? ⟨k, i, none⟩ = false ∧ W.frozen? ⟨k + 1, i, none⟩ = false := fun i => by rw [hW, ← hk]; exact ⟨by go_cell, by go_cell⟩
  have w2 : W.cell? ⟨k + 1, 0, none⟩ = some (.slice none 0 0) ∧ W.cell? ⟨k + 1, 1, none⟩ = some (.slice none 0 0) ∧ W.cell? ⟨k + 1, 2, none⟩ = some (.int .i64 0) ∧ W.cell? ⟨k + 1, 3, none⟩ = some (.int .i64 0) := by rw [hW, ← hk]; exact ⟨by go_cell, by go_cell, by go_cell, by go_cell⟩
  have d0 : D1.cell? ⟨k, 0, none⟩ = some (.slice pn ns.length cn) := later hb1 w0.1
  have d0f : D1.frozen? ⟨k, 0, none⟩ = false := laterF hb1 w0.1 (w1 0).1
  have xb : Below W.heap.size W D1 := hb1
  have x1 : X.cell? ⟨k, 1, none⟩ = some (.slice pe es.length ce) := by rw [hX]; exact cell_off (later hb1 w0.2.1) (by decide)
  have e0 : D2.cell? ⟨k, 0, none⟩ = some (.slice p1 ns.length c1) := later hb2 (by rw [hX]; exact World.cell?_setCell_same' _ _ _ (by rw [d0]; rfl))
  have e1 : D2.cell? ⟨k, 1, none⟩ = some (.slice pe es.length ce) := later hb2 x1
  have e1f : D2.frozen? ⟨k, 1, none⟩ = false := laterF hb2 x1 (by rw [hX, World.frozen?_setCell]; exact laterF hb1 w0.2.1 (w1 1).1)
  have e2 : D2.cell? ⟨k, 2, none⟩ = some (.int .i64 nd) := later hb2 (by rw [hX]; exact cell_off (later hb1 w0.2.2.1) (by decide))
  have e3 : D2.cell? ⟨k, 3, none⟩ = some (.int .i64 ei) := later hb2 (by rw [hX]; exact cell_off (later hb1 w0.2.2.2) (by decide))
  have hkk : k + 1 ≠ k := by omega
  have r0 : D2.cell? ⟨k + 1, 0, none⟩ = some (.slice none 0 0) := later hb2 (by rw [hX]; exact cell_other (later hb1 w2.1) hkk)
  have r1 : D2.cell? ⟨k + 1, 1, none⟩ = some (.slice none 0 0) := later hb2 (by rw [hX]; exact cell_other (later hb1 w2.2.1) hkk)
  have r2 : D2.cell? ⟨k + 1, 2, none⟩ = some (.int .i64 0) := later hb2 (by rw [hX]; exact cell_other (later hb1 w2.2.2.1) hkk)
  have r3 : D2.cell? ⟨k + 1, 3, none⟩ = some (.int .i64 0) := later hb2 (by rw [hX]; exact cell_other (later hb1 w2.2.2.2) hkk)
  have rf : ∀ i v, W.cell? ⟨k + 1, i, none⟩ = some v → D2.frozen? ⟨k + 1, i, none⟩ = false := fun i v hv => by
    have hX1 : X.cell? ⟨k + 1, i, none⟩ = some v := by rw [hX]; exact cell_other (later hb1 hv) hkk
    exact laterF hb2 hX1 (by rw [hX, World.frozen?_setCell]; exact laterF hb1 hv (w1 i).2)
  have rf0 := rf 0 _ w2.1
  have rf1 := rf 1 _ w2.2.1
  have rf2 := rf 2 _ w2.2.2.1
  have rf3 := rf 3 _ w2.2.2.2
  obtain ⟨Y, hY⟩ : ∃ Y, Y = D2.setCell ⟨k, 1, none⟩ (.slice p2 es.length c2) := ⟨_, rfl⟩
  have hD2s : k + 2 ≤ D2.heap.size := by have := hb2.size; omega
  have HOUT : Hid (IOwns Y w.heap.size (.slice p1 ns.length c1) ns ∧ Y.ownsRow w.heap.size 102 3 (.slice p2 es.length c2) es.length (ecells es) ∧ Below w.heap.size w Y) := by
    rw [hY]
    refine ⟨?_, ?_, ?_⟩
    · have := (o1X.later hb2).base (b' := w.heap.size) (by omega)
      exact ownsRow_setCell_other this (fun e => by have h' : W.heap.size ≤ k := (hnb _ e).1; omega) _
    · have := owns_base o2 (b' := w.heap.size) (by omega)
      exact ownsRow_setCell_other this (fun e => by have h' : X.heap.size ≤ k := (World.ownsRow.lt o2 _ e).1; omega) _
    · have hWX : Below w.heap.size w X := hbW.trans (hfX.below (by omega) (fun i hi => by omega))
      exact (below_step hWX hb2).setCell (p := ⟨k, 1, none⟩) (show w.heap.size ≤ k by omega) _
  have HY : Hid (Y.heap.size = D2.heap.size ∧ k + 2 ≤ D2.heap.size ∧ k = w.heap.size) := ⟨by rw [hY]; simp [World.setCell], hD2s, hk.symm⟩
  have HO1 : Hid (∀ i, (Value.slice p1 ns.length c1).ownBlock = some i ∨ (Value.slice p2 es.length c2).ownBlock = some i → k + 2 ≤ i) := by
    rintro i (e | e)
    · have := (hnb i e).1; omega
    · have := (World.ownsRow.lt o2 i e).1; omega
  have HYC : Hid ((Y.cell? ⟨k, 0, none⟩ = some (.slice p1 ns.length c1) ∧ Y.cell? ⟨k, 1, none⟩ = some (.slice p2 es.length c2) ∧ Y.cell? ⟨k, 2, none⟩ = some (.int .i64 nd) ∧ Y.cell? ⟨k, 3, none⟩ = some (.int .i64 ei)) ∧ (Y.cell? ⟨k + 1, 0, none⟩ = some (.slice none 0 0) ∧ Y.cell? ⟨k + 1, 1, none⟩ = some (.slice none 0 0) ∧ Y.cell? ⟨k + 1, 2, none⟩ = some (.int .i64 0) ∧ Y.cell? ⟨k + 1, 3, none⟩ = some (.int .i64 0)) ∧ (Y.frozen? ⟨k + 1, 0, none⟩ = false ∧ Y.frozen? ⟨k + 1, 1, none⟩ = false ∧ Y.frozen? ⟨k + 1, 2, none⟩ = false ∧ Y.frozen? ⟨k + 1, 3, none⟩ = false)) := by
    rw [hY]
    refine ⟨⟨cell_off e0 (by decide), World.cell?_setCell_same' _ _ _ (by rw [e1]; rfl), cell_off e2 (by decide), cell_off e3 (by decide)⟩, ⟨cell_other r0 hkk, cell_other r1 hkk, cell_other r2 hkk, cell_other r3 hkk⟩, ?_⟩
    simp only [World.frozen?_setCell]
    exact ⟨rf0, rf1, rf2, rf3⟩
  have wc0 := w0.1
  clear o1 o2 gr1 gr2 hb1 hb2 hfX hsX hnb o1X heX hn he zn ze hbW rf w0 w1 w2 xb hD2s e0 e2 e3 r0 r1 r2 r3 rf0 rf1 rf2 rf3
  subst hk
  have HX := hide hX
  have HYY := hide hY
  clear hX hY hsz hln hle
  go_enter Try.func77, Try.ntmps77
  go_upto_region 1 with fail
  rw [← hW]
  clear hW
  go_upto_region 2 with (at_builtin; refine wpList_run_append rfl (.const (.slice none 0 0)) (.tmp 4) 38 rfl 38 rfl _ _ _ D1 rfl rfl a1 ?_)
  rw [← HX.out]
  clear HX wc0 d0 d0f a1
  go_upto_region 3 with (at_builtin; refine wpList_run_append rfl (.const (.slice none 0 0)) (.tmp 8) 53 rfl 53 rfl _ _ _ D2 rfl rfl a2 ?_)
  rw [← HYY.out]
  clear HYY e1 e1f x1 a2
  obtain ⟨⟨y0, y1, y2, y3⟩, ⟨z0, z1, z2, z3⟩, ⟨u0, u1, u2, u3⟩⟩ := HYC.out
  have hne : w.heap.size ≠ w.heap.size + 1 := by omega
  go_wp2_with fail
  refine bodyPost_ret (ret_st (g := w.heap.size + 1) (v0 := .slice p1 ns.length c1) (v1 := .slice p2 es.length c2) (v2 := .int .i64 nd) (v3 := .int .i64 ei) Try.results77 rfl ⟨by go_cell, by go_cell, by go_cell, by go_cell⟩) rfl ⟨p1, c1, p2, c2, rfl, ?_, ?_, ?_⟩
  · exact ownsRow_setCell_other (ownsRow_setCell_other (ownsRow_setCell_other (ownsRow_setCell_other HOUT.out.1 (fun e => by have h' : w.heap.size + 2 ≤ w.heap.size + 1 := HO1.out _ (Or.inl e); omega) _) (fun e => by have h' : w.heap.size + 2 ≤ w.heap.size + 1 := HO1.out _ (Or.inl e); omega) _) (fun e => by have h' : w.heap.size + 2 ≤ w.heap.size + 1 := HO1.out _ (Or.inl e); omega) _) (fun e => by have h' : w.heap.size + 2 ≤ w.heap.size + 1 := HO1.out _ (Or.inl e); omega) _
  · exact ownsRow_setCell_other (ownsRow_setCell_other (ownsRow_setCell_other (ownsRow_setCell_other HOUT.out.2.1 (fun e => by have h' : w.heap.size + 2 ≤ w.heap.size + 1 := HO1.out _ (Or.inr e); omega) _) (fun e => by have h' : w.heap.size + 2 ≤ w.heap.size + 1 := HO1.out _ (Or.inr e); omega) _) (fun e => by have h' : w.heap.size + 2 ≤ w.heap.size + 1 := HO1.out _ (Or.inr e); omega) _) (fun e => by have h' : w.heap.size + 2 ≤ w.heap.size + 1 := HO1.out _ (Or.inr e); omega) _
  · exact (((HOUT.out.2.2.setCell (p := ⟨w.heap.size + 1, 0, none⟩) (by show w.heap.size ≤ w.heap.size + 1; omega) _).setCell (p := ⟨w.heap.size + 1, 1, none⟩) (by show w.heap.size ≤ w.heap.size + 1; omega) _).setCell (p := ⟨w.heap.size + 1, 2, none⟩) (by show w.heap.size ≤ w.heap.size + 1; omega) _).setCell (p := ⟨w.heap.size + 1, 3, none⟩) (by show w.heap.size ≤ w.heap.size + 1; omega) _
end Go.Proofs.Ytgfiofogcnnkhaa
