/- Lists of pairs that are appended to, as one step; Copy and Twin, in every world. -/
import Derived.Test.YtmmbbfmkhbengaaM8
namespace Go.Proofs.Ytmmbbfmkhbengaa
open Go.RowKit Go.Sort
open Go

theorem cells_lie {w : World} {b off : Nat} {es : List Pt} (hsrc : Lies w b off es) : ∀ j v, (cells es)[j]? = some v → w.cell? ((⟨b, off, none⟩ : Addr).add j) = some v := by
  intro j v hj
  have hjl : j < es.length * 2 := by
    have := (List.getElem?_eq_some_iff.1 hj).1
    rw [cells_length] at this
    exact this
  rw [Go.WideShapes.add_plain]
  rcases Nat.mod_two_eq_zero_or_one j with h | h
  · obtain ⟨i, rfl⟩ : ∃ i, j = i * 2 := ⟨j / 2, by omega⟩
    have k := (cells_at es i (by omega)).1
    rw [k] at hj
    cases hj
    exact (hsrc i (by omega)).1
  · obtain ⟨i, rfl⟩ : ∃ i, j = i * 2 + 1 := ⟨j / 2, by omega⟩
    have k := (cells_at es i (by omega)).2
    rw [k] at hj
    cases hj
    rw [show off + (i * 2 + 1) = off + i * 2 + 1 by omega]
    exact (hsrc i (by omega)).2
theorem grownBy_refl (w : World) (r : Option Nat) : w.grownBy w r := ⟨rfl, rfl, rfl, Nat.le_refl _, fun _ _ _ => rfl⟩
theorem append_prs {w : World} {base : Nat} {v : Value} {l : List Pt} (ho : Owns w base v l) (p : Option Addr) (cap : Nat) (qs : List Pt) (hnil : p = none → cap = 0) (hq : Has w p qs) (hb : base ≤ w.heap.size) (hl : l.length + qs.length ≤ 100000) :
    ∃ v' w', (Builtin.append_ #[22, 22] 22 #[v, .slice p qs.length cap]).run Try.prog w = .ok v' w' ∧ Owns w' base v' (l ++ qs) ∧ w.grownBy w' v.ownBlock := by
  obtain ⟨i0, hi0, hz0, hz1, hz2⟩ := info_parts info60
  cases p with
  | none =>
    have hqs : qs = [] := by
      rcases hq with h | ⟨b, off, h, _⟩
      · exact h
      · cases h
    subst hqs
    rw [hnil rfl]
    exact ⟨v, w, run_append_owned_none (P := Try.prog) (w := w) base 22 22 60 i0 2 Try.underlying22 hi0 v l.length (cells l) ho, by rw [List.append_nil]; exact ho, grownBy_refl _ _⟩
  | some a =>
    have hnews : ∀ j u, (cells qs)[j]? = some u → w.cell? (a.add j) = some u := by
      rcases hq with h | ⟨b, off, h, hL⟩
      · subst h; intro j u hj; simp [cells] at hj
      · cases h; exact cells_lie hL
    obtain ⟨v', w', h1, h2, h3, _⟩ := run_append_own (P := Try.prog) w base 22 22 60 i0 (.agg #[.int .i64 0, .int .i64 0]) 2 16 Try.underlying22 hi0 hz0 hz1 hz2 rfl (by decide) v l.length (cells l) ho a qs.length cap (cells qs) (cells_length qs) hnews (cells_one qs) (by unfold maxLen; omega) (by omega) hb
    refine ⟨v', w', h1, ?_, h3⟩
    unfold Owns
    rw [List.length_append, cells_append]
    exact h2
theorem step_run_append {P : Program} {w : World} {ops : Array Oper} {o : Oper} {a : Act} {K : Act → World → Prop} {Q : Exit → Act → World → Prop} {E : Prop} (hgd : o.guard = none) (s x : Operand) (t : TypeId)
    (ho : o.op = .call { callee := .builtin .append, args := #[s, x], argTypes := #[t, t] }) (ty : TypeId) (hty : o.type = ty) (vs vx v' : Value) (w' : World) (hs : a.eval s = vs) (hx : a.eval x = vx)
    (hr : (Builtin.append_ #[t, t] ty #[vs, vx]).run P w = .ok v' w') (h : K (a.put o.dst v') w') :
    if Region.wanted o (yielded ops a.tmps) = true then Oper.wp P o a w K Q else E := by
  subst hty
  have hw : Region.wanted o (yielded ops a.tmps) = true := by simp [Region.wanted, hgd]
  rw [if_pos hw]
  unfold Oper.wp execOp
  simp only [ho, resolve, invoke, builtin, Sem.run_bind, Sem.run_pure, Result.andThen_ok, List.map_toArray, List.map_cons, List.map_nil, hs, hx, hr]
  exact h
theorem results_c {fn : Func} {p : Tmp} {ty : TypeId} (h : fn.results = #[.cell p ty]) (tmps : Array Value) (P : Program) (w : World) :
    (results fn tmps).run P w = ((asAddr (tmps.getD p undef)).run P w).andThen fun a w₁ => (loadVar ty a).run P w₁ := by
  simp only [results, h]
  simp [Sem.run_bind, Result.andThen]
theorem ret_net1 {fn : Func} {c : Tmp} (hr : fn.results = #[.cell c 24]) {tmps : Array Value} {V : World} {g : Nat} {n : Int} {p : Option Addr} {l k : Nat} (h2 : tmps.getD c undef = .pointer (some ⟨g, 0, none⟩)) (h : NOwn V g n p l k) :
    (results fn tmps).run Try.prog V = .ok (nv n p l k) V := by
  rw [results_c hr, h2, asA, Result.andThen_ok, load24 h]
theorem owns_other {w : World} {b : Nat} {v : Value} {l : List Pt} (h : Owns w b v l) {k i : Nat} (hk : k < b) (u : Value) : Owns (w.setCell ⟨k, i, none⟩ u) b v l := ownsRow_setCell_below h (by exact hk) u
theorem Owns.base {w : World} {b b' : Nat} {v : Value} {l : List Pt} (h : Owns w b v l) (hb : b' ≤ b) : Owns w b' v l := owns_base h hb
set_option maxRecDepth 100000 in
set_option maxHeartbeats 4000000 in
theorem copy53 (n : Int) (p : Option Addr) (es : List Pt) (cp : Nat) (w : World) (hnil : p = none → cp = 0) (hl : es.length ≤ 90000) (h : Has w p es) : Calls Try.prog 53 #[nv n p es.length cp] w fun e w' => ∃ q c, e = .returned (nv n q es.length c) ∧ Owns w' w.heap.size (.slice q es.length c) es ∧ Below w.heap.size w w' := by
  obtain ⟨W, hW, hb, a0, b0⟩ := two_nets w n p es.length cp
  have HB := hide hb
  have HA := hide a0
  have HN := hide b0
  have hws : w.heap.size + 1 < W.heap.size := block_lt_of_cell b0.1
  obtain ⟨v1, D1, e1, o1, gr1⟩ := append_prs (w := W.drew) (base := W.heap.size) (v := .slice none 0 0) (l := []) (Owns.nil _ _) p cp es hnil ((h.later hb).later (below_drew _)) (by simp) (by simp; omega)
  have hb1 : Below W.heap.size W D1 := below_grown (w := W.drew) (below_drew _) (Owns.nil W.drew W.heap.size) (Nat.le_refl _) (by simp) gr1
  rw [List.nil_append] at o1
  obtain ⟨q, c, rfl, _, _, _, _⟩ := o1.form
  have HO1 := hide o1
  have HB1 := hide (below_step hb hb1)
  have HN1 := hide (b0.later hb1)
  have HA1 := hide (a0.later hb1)
  clear hb h o1 gr1 hb1
  obtain ⟨q0, q1, _, _⟩ := a0
  obtain ⟨r0, r1, r2, r3⟩ := HN1.out
  clear b0
  go_enter Try.func53, Try.ntmps53
  go_wp2_with fail
  rw [← hW]
  clear hW
  go_region_held3 (fun W => W.cell? ⟨w.heap.size, 0, none⟩ = some (.int .i64 n) ∧ W.cell? ⟨w.heap.size, 1, none⟩ = some (.slice p es.length cp))
    (first | exact ⟨HA.out.1, HA.out.2.1⟩ | exact ⟨HA1.out.1, HA1.out.2.1⟩ | exact ⟨other2 HA1.out.1 (by simp), other2 HA1.out.2.1 (by simp)⟩)
    (first | (refine step_run_append (by rfl) (.const (.slice none 0 0)) (.tmp 6) 22 (by rfl) 22 (by rfl) (.slice none 0 0) (.slice p es.length cp) (.slice q es.length c) D1 (by rfl) (by rfl) ?_ ?_; with_reducible exact e1))
  rename_i hHeld
  clear hHeld
  obtain ⟨V, hV⟩ : ∃ V, V = (D1.setCell ⟨w.heap.size + 1, 0, none⟩ (.int .i64 n)).setCell ⟨w.heap.size + 1, 1, none⟩ (.slice q es.length c) := ⟨_, rfl⟩
  have kV : NOwn V (w.heap.size + 1) n q es.length c := by rw [hV]; exact HN1.out.set _ _ _ _
  have bV : Below w.heap.size w V := by rw [hV]; exact (HB1.out.setCell (by simp) _).setCell (by simp) _
  have oV : Owns V w.heap.size (.slice q es.length c) es := by rw [hV]; exact (owns_other (owns_other HO1.out hws _) hws _).base HB.out.size
  rw [← hV]
  go_wp2_with fail
  exact bodyPost_ret (ret_net1 Try.results53 rfl kV) rfl ⟨q, c, rfl, oV, bV⟩
def mk : Pt := ⟨-7, 7⟩
theorem mk_lies (W : World) (n : Nat) (hn : n = W.heap.size) : Lies (W.alloc (.cells #[.int .i64 (-7), .int .i64 7] 60)) n 0 [mk] := by
  subst hn
  intro j hj
  simp at hj
  subst hj
  exact ⟨by simp only [at', mk, List.getD_cons_zero]; go_cell, by simp only [at', mk, List.getD_cons_zero]; go_cell⟩
theorem owns_block {w : World} {base : Nat} {v : Value} {l : List Pt} (h : Owns w base v l) (h0 : 0 < l.length) : ∃ g c, v = .slice (some ⟨g, 0, none⟩) l.length c ∧ l.length ≤ c ∧ base ≤ g ∧ g < w.heap.size := by
  obtain ⟨g, c, rfl, h1, h2⟩ := World.ownsRow.form h h0
  obtain ⟨p, c', hv, _, h3, _, _⟩ := Owns.form h
  simp at hv
  exact ⟨g, c, rfl, by rw [hv.2]; exact h3, h1, h2⟩
set_option maxRecDepth 100000 in
set_option maxHeartbeats 8000000 in
theorem twin11 (n : Int) (p : Option Addr) (es : List Pt) (cp : Nat) (w : World) (hnil : p = none → cp = 0) (hl : es.length ≤ 90000) (h : Has w p es) : Calls Try.prog 11 #[nv n p es.length cp] w fun e w' => ∃ g c, e = .returned (nv n (some ⟨g, 0, none⟩) es.length c) ∧ Owns w' w.heap.size (.slice (some ⟨g, 0, none⟩) (es.length + 1) c) (es ++ [mk]) ∧ es.length + 1 ≤ c ∧ Below w.heap.size w w' := by
  obtain ⟨W, hW, hb, a0, b0⟩ := two_nets w n p es.length cp
  have HB := hide hb
  have HA := hide a0
  have hws : w.heap.size + 1 < W.heap.size := block_lt_of_cell b0.1
  have hW0 := h.later hb
  have hel : (es ++ [mk]).length = es.length + 1 := by simp
  obtain ⟨v1, D1, e1, o1, gr1⟩ := append_prs (w := W.drew) (base := W.heap.size) (v := .slice none 0 0) (l := []) (Owns.nil _ _) p cp es hnil (hW0.later (below_drew _)) (by simp) (by simp; omega)
  have hb1 : Below W.heap.size W D1 := below_grown (w := W.drew) (below_drew _) (Owns.nil W.drew W.heap.size) (Nat.le_refl _) (by simp) gr1
  rw [List.nil_append] at o1
  obtain ⟨q, c, rfl, _, _, _, _⟩ := o1.form
  have hb1' : Below W.heap.size W (D1.alloc (.cells #[.int .i64 (-7), .int .i64 7] 60)) := hb1.alloc hb1.size _
  have o1' := o1.later (w' := D1.alloc (.cells #[.int .i64 (-7), .int .i64 7] 60)) (by go_grown)
  obtain ⟨v2, D2, e2, o2, gr2⟩ := append_prs o1' (some ⟨D1.heap.size, 0, none⟩) 1 [mk] (fun h => by cases h) (Or.inr ⟨_, _, rfl, mk_lies D1 _ rfl⟩) hb1'.size (by simp; omega)
  have hb2 : Below W.heap.size W D2 := below_grown hb1' o1' (Nat.le_refl _) hb1'.size gr2
  obtain ⟨g2, c2, rfl, hc2, _, _⟩ := owns_block o2 (by simp)
  rw [hel] at o2 e2 hc2
  have hbW : Below W.heap.size W (W.alloc (.cells #[.int .i64 (-7), .int .i64 7] 60)).drew := by go_grown
  obtain ⟨v3, F1, e3, o3, gr3⟩ := append_prs (w := (W.alloc (.cells #[.int .i64 (-7), .int .i64 7] 60)).drew) (base := W.heap.size) (v := .slice none 0 0) (l := []) (Owns.nil _ _) p cp es hnil (hW0.later hbW) hbW.size (by simp; omega)
  have hg3 : Below (W.alloc (.cells #[.int .i64 (-7), .int .i64 7] 60)).drew.heap.size (W.alloc (.cells #[.int .i64 (-7), .int .i64 7] 60)).drew F1 := below_grown (Below.refl _ _) (Owns.nil (W.alloc (.cells #[.int .i64 (-7), .int .i64 7] 60)).drew (W.alloc (.cells #[.int .i64 (-7), .int .i64 7] 60)).drew.heap.size) (Nat.le_refl _) (Nat.le_refl _) gr3
  have hb3 : Below W.heap.size W F1 := Below.trans hbW (hg3.mono hbW.size)
  rw [List.nil_append] at o3
  obtain ⟨q3, c3, rfl, _, _, _, _⟩ := o3.form
  obtain ⟨v4, F2, e4, o4, gr4⟩ := append_prs o3 (some ⟨W.heap.size, 0, none⟩) 1 [mk] (fun h => by cases h) (Or.inr ⟨_, _, rfl, ((mk_lies W _ rfl).later (below_drew _)).later hg3⟩) hb3.size (by simp; omega)
  have hb4 : Below W.heap.size W F2 := below_grown hb3 o3 (Nat.le_refl _) hb3.size gr4
  obtain ⟨g4, c4, rfl, hc4, _, _⟩ := owns_block o4 (by simp)
  rw [hel] at o4 e4 hc4
  simp only [List.length_cons, List.length_nil, Nat.zero_add] at e2 e4
  have HO2 := hide o2
  have HO4 := hide o4
  have HN2 := hide (b0.later hb2)
  have HN4 := hide (b0.later hb4)
  have HA1 := hide (a0.later hb1)
  have HA1' := hide (a0.later hb1')
  have HA2 := hide (a0.later hb2)
  have HAW := hide (a0.later hbW)
  have HA3 := hide (a0.later hb3)
  have HA4 := hide (a0.later hb4)
  have HB2 := hide (below_step hb hb2)
  have HB4 := hide (below_step hb hb4)
  have k1 : (es.length : Int) ≤ c2 := by omega
  have k2 : (es.length : Int) ≤ c4 := by omega
  have k3 : (0 : Int) ≤ es.length := by omega
  have zw : w.heap.size < W.heap.size := by omega
  obtain ⟨q0, q1, _, _⟩ := a0
  obtain ⟨r0, r1, r2, r3⟩ := HN2.out
  obtain ⟨s0, s1, s2, s3⟩ := HN4.out
  clear hb h o1 o1' o2 o3 o4 gr1 gr2 gr3 gr4 hb1 hb1' hb2 hb3 hb4 hbW hg3 hW0 b0 hel
  go_enter Try.func11, Try.ntmps11
  go_wp2_with fail
  rw [← hW]
  clear hW
  go_region_held3 (fun W => W.cell? ⟨w.heap.size, 0, none⟩ = some (.int .i64 n) ∧ W.cell? ⟨w.heap.size, 1, none⟩ = some (.slice p es.length cp))
    (first | exact ⟨HA.out.1, HA.out.2.1⟩ | exact ⟨HA1.out.1, HA1.out.2.1⟩ | exact ⟨HA1'.out.1, HA1'.out.2.1⟩ | exact ⟨HA2.out.1, HA2.out.2.1⟩ | exact ⟨HAW.out.1, HAW.out.2.1⟩ | exact ⟨HA3.out.1, HA3.out.2.1⟩ | exact ⟨HA4.out.1, HA4.out.2.1⟩ | exact ⟨other2 HA2.out.1 (by simp), other2 HA2.out.2.1 (by simp)⟩ | exact ⟨other2 HA4.out.1 (by simp), other2 HA4.out.2.1 (by simp)⟩)
    (first | (refine step_run_append (by rfl) (.const (.slice none 0 0)) (.tmp 6) 22 (by rfl) 22 (by rfl) (.slice none 0 0) (.slice p es.length cp) (.slice q es.length c) D1 (by rfl) (by rfl) ?_ ?_; with_reducible exact e1) | (refine step_run_append (by rfl) (.const (.slice none 0 0)) (.tmp 6) 22 (by rfl) 22 (by rfl) (.slice none 0 0) (.slice p es.length cp) (.slice q3 es.length c3) F1 (by rfl) (by rfl) ?_ ?_; with_reducible exact e3) | (refine step_run_append (by rfl) (.tmp 7) (.tmp 9) 22 (by rfl) 22 (by rfl) (.slice q es.length c) (.slice (some ⟨D1.heap.size, 0, none⟩) 1 1) (.slice (some ⟨g2, 0, none⟩) (es.length + 1) c2) D2 (by rfl) (by rfl) ?_ ?_; with_reducible exact e2) | (refine step_run_append (by rfl) (.tmp 7) (.tmp 9) 22 (by rfl) 22 (by rfl) (.slice q3 es.length c3) (.slice (some ⟨W.heap.size, 0, none⟩) 1 1) (.slice (some ⟨g4, 0, none⟩) (es.length + 1) c4) F2 (by rfl) (by rfl) ?_ ?_; with_reducible exact e4))
  all_goals
    rename_i hHeld
    clear hHeld
  · obtain ⟨V, hV⟩ : ∃ V, V = (D2.setCell ⟨w.heap.size + 1, 0, none⟩ (.int .i64 n)).setCell ⟨w.heap.size + 1, 1, none⟩ (.slice (some ⟨g2, 0, none⟩) es.length c2) := ⟨_, rfl⟩
    have kV : NOwn V (w.heap.size + 1) n (some ⟨g2, 0, none⟩) es.length c2 := by rw [hV]; exact HN2.out.set _ _ _ _
    have bV : Below w.heap.size w V := by rw [hV]; exact (HB2.out.setCell (by simp) _).setCell (by simp) _
    have oV : Owns V w.heap.size (.slice (some ⟨g2, 0, none⟩) (es.length + 1) c2) (es ++ [mk]) := by rw [hV]; exact (owns_other (owns_other HO2.out hws _) hws _).base HB.out.size
    rw [← hV]
    go_wp2_with fail
    exact bodyPost_ret (ret_net1 Try.results11 rfl kV) rfl ⟨g2, c2, rfl, oV, hc2, bV⟩
  · obtain ⟨V, hV⟩ : ∃ V, V = (F2.setCell ⟨w.heap.size + 1, 0, none⟩ (.int .i64 n)).setCell ⟨w.heap.size + 1, 1, none⟩ (.slice (some ⟨g4, 0, none⟩) es.length c4) := ⟨_, rfl⟩
    have kV : NOwn V (w.heap.size + 1) n (some ⟨g4, 0, none⟩) es.length c4 := by rw [hV]; exact HN4.out.set _ _ _ _
    have bV : Below w.heap.size w V := by rw [hV]; exact (HB4.out.setCell (by simp) _).setCell (by simp) _
    have oV : Owns V w.heap.size (.slice (some ⟨g4, 0, none⟩) (es.length + 1) c4) (es ++ [mk]) := by rw [hV]; exact (owns_other (owns_other HO4.out hws _) hws _).base HB.out.size
    rw [← hV]
    go_wp2_with fail
    exact bodyPost_ret (ret_net1 Try.results11 rfl kV) rfl ⟨g4, c4, rfl, oV, hc4, bV⟩
end Go.Proofs.Ytmmbbfmkhbengaa
