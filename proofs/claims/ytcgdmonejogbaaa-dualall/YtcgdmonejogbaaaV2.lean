/- The document's Degrees, in every world. -/
import Derived.Test.YtcgdmonejogbaaaN6
import Derived.Laws.IdiomCopy
import Derived.Deep.RegionHeld3
import Derived.Lib.QuietBelow
import Derived.BigQuiet
import Derived.Deep.QuietTactic
/- Split, in every world. -/
namespace Go.Proofs.Ytcgdmonejogbaaa
open Go.RowKit Go.Sort
open Go
theorem owns_setCells {base g cap n : Nat} {e : TypeId} {size : Nat} : ∀ (vs : List Value) (o : Nat) (w : World) (xs : List Value), w.ownsRow base e size (.slice (some ⟨g, 0, none⟩) n cap) n xs → o + vs.length ≤ xs.length → (w.setCells g o vs).ownsRow base e size (.slice (some ⟨g, 0, none⟩) n cap) n (xs.take o ++ vs ++ xs.drop (o + vs.length))
  | [], o, w, xs, h, _ => by
    simp only [World.setCells, List.append_nil, List.length_nil, Nat.add_zero, List.take_append_drop]
    exact h
  | v :: r, o, w, xs, h, hl => by
    have hl' : o + (r.length + 1) ≤ xs.length := by simpa using hl
    have ih := owns_setCells (base := base) (g := g) (cap := cap) (n := n) (e := e) (size := size) r (o + 1) (w.setCell ⟨g, o, none⟩ v) (xs.set o v) (World.ownsRow.stored h o v).1 (by rw [List.length_set]; omega)
    simp only [World.setCells]
    rw [list_seg_step xs o v r hl'] at ih
    exact ih
theorem grown_setCells {g : Nat} : ∀ (vs : List Value) (o : Nat) (w w0 : World) (B : Nat), Below B w0 w → B ≤ g → Below B w0 (w.setCells g o vs)
  | [], _, _, _, _, h, _ => h
  | v :: r, o, w, w0, B, h, hB => grown_setCells r (o + 1) _ w0 B (h.setCell (by exact hB) v) hB
theorem cells_one : ∀ (ps : List Pt), ∀ v ∈ cells ps, v.oneCell' = true
  | [], v, h => by simp [cells] at h
  | p :: r, v, h => by
    simp only [cells, List.mem_cons] at h
    rcases h with rfl | rfl | h
    · rfl
    · rfl
    · exact cells_one r v h
theorem run_copy22 (w : World) (ty : TypeId) (base g b off cp : Nat) (es : List Pt) (hsrc : Lies w b off es) (hR : PRow w base g (es.length + 1) (List.replicate (es.length + 1) ⟨0, 0⟩)) :
    (Builtin.copy_ #[22, 22] ty #[.slice (some ⟨g, 0, none⟩) (es.length + 1) (es.length + 1), .slice (some ⟨b, off, none⟩) es.length cp]).run Try.prog w = .ok (goInt es.length) (w.setCells g 0 (cells es)) ∧ PRow (w.setCells g 0 (cells es)) base g (es.length + 1) (es ++ [⟨0, 0⟩]) := by
  have hcl := cells_length es
  have hlist : ∀ j v, (cells es)[j]? = some v → w.cell? ((⟨b, off, none⟩ : Addr).add j) = some v := by
    intro j v hj
    have hjl : j < es.length * 2 := by
      have := (List.getElem?_eq_some_iff.1 hj).1
      omega
    rw [Go.WideShapes.add_plain]
    rcases Nat.mod_two_eq_zero_or_one j with h | h
    · obtain ⟨i, rfl⟩ : ∃ i, j = i * 2 := ⟨j / 2, by omega⟩
      have k := (cells_at es i (by omega)).1
      rw [k] at hj
      cases hj
      exact (hsrc i (by omega)).1
    · obtain ⟨i, rfl⟩ : ∃ i, j = i * 2 + 1 := ⟨j / 2, by omega⟩
      have k := (cells_at es i (by omega)).2
      rw [k] at hj
      cases hj
      rw [show off + (i * 2 + 1) = off + i * 2 + 1 by omega]
      exact (hsrc i (by omega)).2
  have hl := run_loadCells_list (P := Try.prog) w ⟨b, off, none⟩ (cells es) hlist
  have hrow : w.ownsRow base 64 2 (.slice (some ⟨g, 0, none⟩) (es.length + 1) (es.length + 1)) (es.length + 1) (cells (List.replicate (es.length + 1) ⟨0, 0⟩)) := by
    have := hR.2
    unfold Owns at this
    rw [hR.1] at this
    exact this
  have hrl : (cells (List.replicate (es.length + 1) (⟨0, 0⟩ : Pt))).length = (es.length + 1) * 2 := by rw [cells_length, List.length_replicate]
  have hst := run_storeCells_cells (P := Try.prog) g 0 (cells es) 0 w (fun j hj => by
    rw [Nat.zero_add, World.ownsRow.cellAt hrow j (by omega), List.getElem?_eq_getElem (by omega)]
    rfl) (fun j _ => by rw [Nat.zero_add]; exact World.ownsRow.frozenAt hrow j) (cells_one es)
  obtain ⟨i0, hi0, hz0, hz1, hz2⟩ := info_parts info60
  refine ⟨?_, ?_⟩
  · have hmin : Nat.min es.length (es.length + 1) = es.length := by show min _ _ = _; omega
    rw [hcl] at hl
    simp [Builtin.copy_, run_underlying Try.underlying22, Builtin.lenOf, Builtin.firstCells, sizeOf, typeInfo, hi0, hz1, hmin, hl, hst]
  · refine ⟨by simp, ?_⟩
    have k := owns_setCells (cells es) 0 w _ hrow (by omega)
    rw [Nat.zero_add, List.take_zero, List.nil_append, cells_zero, hcl, List.drop_replicate, show (es.length + 1) * 2 - es.length * 2 = 2 by omega] at k
    unfold Owns
    rw [cells_append, List.length_append]
    exact k
def splitE (n : Int) (es : List Pt) (e : Int) : Int := if netB n es then (if belowB e es.length then (if fitsB (n + 1) ((es.length : Int) + 1) then 0 else 3) else 2) else 1
def splitL (n : Int) (es : List Pt) (e : Nat) : List Pt := ((es ++ [(⟨0, 0⟩ : Pt)]).set e ⟨(at' es e).x, n⟩).set es.length ⟨n, (at' es e).y⟩
theorem splitL_length (n : Int) (es : List Pt) (e : Nat) : (splitL n es e).length = es.length + 1 := by simp [splitL]
def SplitPost (n : Int) (es : List Pt) (e0 : Int) (w : World) (e : Ending) (w' : World) : Prop :=
  (splitE n es e0 = 0 ∧ ∃ g, e = .returned (.tuple #[nv (n + 1) (some ⟨g, 0, none⟩) (es.length + 1) (es.length + 1), .int .i64 0]) ∧ PRow w' w.heap.size g (es.length + 1) (splitL n es e0.toNat)) ∨ (splitE n es e0 ≠ 0 ∧ e = .returned (.tuple #[nv 0 none 0 0, .int .i64 (splitE n es e0)]))
theorem splitE_is {n : Int} {es : List Pt} {e : Int} (h : splitE n es e = 0) : netB n es = true ∧ (0 ≤ e ∧ e < es.length) ∧ n + 1 ≤ 1024 ∧ (es.length : Int) + 1 ≤ 3072 := by
  unfold splitE at h
  by_cases k : netB n es = true
  · rw [if_pos k] at h
    by_cases k2 : belowB e es.length = true
    · rw [if_pos k2] at h
      by_cases k3 : fitsB (n + 1) ((es.length : Int) + 1) = true
      · simp [fitsB] at k3
        exact ⟨k, belowB_is k2, k3.1, by omega⟩
      · rw [if_neg k3] at h; omega
    · rw [if_neg k2] at h; omega
  · rw [if_neg k] at h; omega
end Go.Proofs.Ytcgdmonejogbaaa
namespace Go.Proofs.Ytcgdmonejogbaaa
open Go.RowKit Go.Sort
open Go
theorem cells_lie {w : World} {b off : Nat} {es : List Pt} (hsrc : Lies w b off es) : ∀ j v, (cells es)[j]? = some v → w.cell? ((⟨b, off, none⟩ : Addr).add j) = some v := by
  intro j v hj
  have hjl : j < es.length * 2 := by
    have := (List.getElem?_eq_some_iff.1 hj).1
    rw [cells_length] at this
    exact this
  rw [Go.WideShapes.add_plain]
  rcases Nat.mod_two_eq_zero_or_one j with h | h
  · obtain ⟨i, rfl⟩ : ∃ i, j = i * 2 := ⟨j / 2, by omega⟩
    have k := (cells_at es i (by omega)).1
    rw [k] at hj
    cases hj
    exact (hsrc i (by omega)).1
  · obtain ⟨i, rfl⟩ : ∃ i, j = i * 2 + 1 := ⟨j / 2, by omega⟩
    have k := (cells_at es i (by omega)).2
    rw [k] at hj
    cases hj
    rw [show off + (i * 2 + 1) = off + i * 2 + 1 by omega]
    exact (hsrc i (by omega)).2
theorem grownBy_refl (w : World) (r : Option Nat) : w.grownBy w r := ⟨rfl, rfl, rfl, Nat.le_refl _, fun _ _ _ => rfl⟩
theorem append_prs {w : World} {base : Nat} {v : Value} {l : List Pt} (ho : Owns w base v l) (p : Option Addr) (cap : Nat) (qs : List Pt) (hnil : p = none → cap = 0) (hq : Has w p qs) (hb : base ≤ w.heap.size) (hl : l.length + qs.length ≤ 100000) :
    ∃ v' w', (Builtin.append_ #[22, 22] 22 #[v, .slice p qs.length cap]).run Try.prog w = .ok v' w' ∧ Owns w' base v' (l ++ qs) ∧ w.grownBy w' v.ownBlock := by
  obtain ⟨i0, hi0, hz0, hz1, hz2⟩ := info_parts info60
  cases p with
  | none =>
    have hqs : qs = [] := by
      rcases hq with h | ⟨b, off, h, _⟩
      · exact h
      · cases h
    subst hqs
    rw [hnil rfl]
    exact ⟨v, w, run_append_owned_none (P := Try.prog) (w := w) base 22 22 64 i0 2 Try.underlying22 hi0 v l.length (cells l) ho, by rw [List.append_nil]; exact ho, grownBy_refl _ _⟩
  | some a =>
    have hnews : ∀ j u, (cells qs)[j]? = some u → w.cell? (a.add j) = some u := by
      rcases hq with h | ⟨b, off, h, hL⟩
      · subst h; intro j u hj; simp [cells] at hj
      · cases h; exact cells_lie hL
    obtain ⟨v', w', h1, h2, h3, _⟩ := run_append_own (P := Try.prog) w base 22 22 64 i0 (.agg #[.int .i64 0, .int .i64 0]) 2 16 Try.underlying22 hi0 hz0 hz1 hz2 rfl (by decide) v l.length (cells l) ho a qs.length cap (cells qs) (cells_length qs) hnews (cells_one qs) (by unfold maxLen; omega) (by omega) hb
    refine ⟨v', w', h1, ?_, h3⟩
    unfold Owns
    rw [List.length_append, cells_append]
    exact h2
theorem step_run_append {P : Program} {w : World} {ops : Array Oper} {o : Oper} {a : Act} {K : Act → World → Prop} {Q : Exit → Act → World → Prop} {E : Prop} (hgd : o.guard = none) (s x : Operand) (t : TypeId)
    (ho : o.op = .call { callee := .builtin .append, args := #[s, x], argTypes := #[t, t] }) (ty : TypeId) (hty : o.type = ty) (vs vx v' : Value) (w' : World) (hs : a.eval s = vs) (hx : a.eval x = vx)
    (hr : (Builtin.append_ #[t, t] ty #[vs, vx]).run P w = .ok v' w') (h : K (a.put o.dst v') w') :
    if Region.wanted o (yielded ops a.tmps) = true then Oper.wp P o a w K Q else E := by
  subst hty
  have hw : Region.wanted o (yielded ops a.tmps) = true := by simp [Region.wanted, hgd]
  rw [if_pos hw]
  unfold Oper.wp execOp
  simp only [ho, resolve, invoke, builtin, Sem.run_bind, Sem.run_pure, Result.andThen_ok, List.map_toArray, List.map_cons, List.map_nil, hs, hx, hr]
  exact h
theorem results_c {fn : Func} {p : Tmp} {ty : TypeId} (h : fn.results = #[.cell p ty]) (tmps : Array Value) (P : Program) (w : World) :
    (results fn tmps).run P w = ((asAddr (tmps.getD p undef)).run P w).andThen fun a w₁ => (loadVar ty a).run P w₁ := by
  simp only [results, h]
  simp [Sem.run_bind, Result.andThen]
theorem ret_net1 {fn : Func} {c : Tmp} (hr : fn.results = #[.cell c 24]) {tmps : Array Value} {V : World} {g : Nat} {n : Int} {p : Option Addr} {l k : Nat} (h2 : tmps.getD c undef = .pointer (some ⟨g, 0, none⟩)) (h : NOwn V g n p l k) :
    (results fn tmps).run Try.prog V = .ok (nv n p l k) V := by
  rw [results_c hr, h2, asA, Result.andThen_ok, load24 h]
theorem owns_other {w : World} {b : Nat} {v : Value} {l : List Pt} (h : Owns w b v l) {k i : Nat} (hk : k < b) (u : Value) : Owns (w.setCell ⟨k, i, none⟩ u) b v l := ownsRow_setCell_below h (by exact hk) u
theorem Owns.base {w : World} {b b' : Nat} {v : Value} {l : List Pt} (h : Owns w b v l) (hb : b' ≤ b) : Owns w b' v l := owns_base h hb
def mk : Pt := ⟨-7, 7⟩
theorem mk_lies (W : World) (n : Nat) (hn : n = W.heap.size) : Lies (W.alloc (.cells #[.int .i64 (-7), .int .i64 7] 64)) n 0 [mk] := by
  subst hn
  intro j hj
  simp at hj
  subst hj
  exact ⟨by simp only [at', mk, List.getD_cons_zero]; go_cell, by simp only [at', mk, List.getD_cons_zero]; go_cell⟩
theorem owns_block {w : World} {base : Nat} {v : Value} {l : List Pt} (h : Owns w base v l) (h0 : 0 < l.length) : ∃ g c, v = .slice (some ⟨g, 0, none⟩) l.length c ∧ l.length ≤ c ∧ base ≤ g ∧ g < w.heap.size := by
  obtain ⟨g, c, rfl, h1, h2⟩ := World.ownsRow.form h h0
  obtain ⟨p, c', hv, _, h3, _, _⟩ := Owns.form h
  simp at hv
  exact ⟨g, c, rfl, by rw [hv.2]; exact h3, h1, h2⟩
end Go.Proofs.Ytcgdmonejogbaaa
namespace Go.Proofs.Ytcgdmonejogbaaa
open Go.RowKit Go.Sort
open Go
theorem wpList_run_append {P : Program} {w : World} {ops : Array Oper} {rest : List Oper} {o : Oper} {a : Act} {Q : Exit → Act → World → Prop} (hgd : o.guard = none) (s x : Operand) (t : TypeId)
    (ho : o.op = .call { callee := .builtin .append, args := #[s, x], argTypes := #[t, t] }) (ty : TypeId) (hty : o.type = ty) (vs vx v' : Value) (w' : World) (hs : a.eval s = vs) (hx : a.eval x = vx)
    (hr : (Builtin.append_ #[t, t] ty #[vs, vx]).run P w = .ok v' w') (h : wpList P ops Q rest (a.put o.dst v') w') : wpList P ops Q (o :: rest) a w := by
  subst hty
  refine wpList_plain hgd fun K hK => ?_
  unfold Oper.wp execOp
  simp only [ho, resolve, invoke, builtin, Sem.run_bind, Sem.run_pure, Result.andThen_ok, List.map_toArray, List.map_cons, List.map_nil, hs, hx, hr]
  exact hK _ _ h
end Go.Proofs.Ytcgdmonejogbaaa
namespace Go.Proofs.Ytcgdmonejogbaaa
open Go.RowKit Go.Sort
open Go
set_option maxHeartbeats 1000000 in
theorem light9 (n : Int) (p : Option Addr) (es : List Pt) (cap : Nat) (w : World) (h : Has w p es) : Calls Try.prog 43 #[nv n p es.length cap] w fun e w' => e = .returned (.bool (lightB n es)) ∧ Below w.heap.size w w' := by
  obtain ⟨W, hW, hb, a0⟩ := one_net w n p es.length cap
  have M := hide (may12 n p es cap W (h.later hb))
  have HB := hide hb
  obtain ⟨q0, q1, _, _⟩ := a0
  clear h hb
  by_cases hl : es.length ≤ 300
  · have hl' : (es.length : Int) ≤ 300 := by omega
    by_cases hn : n ≤ 300
    · go_enter Try.func43, Try.ntmps43
      go_wp2_with fail
      go_ret
      exact ⟨retB (by simp [lightB, hl, hn]), by go_grown⟩
    · have hn' : 300 < n := by omega
      go_enter Try.func43, Try.ntmps43
      go_wp2_with fail
      rw [← hW]
      clear hW
      refine M.out.mono ?_
      rintro e w1 ⟨rfl, hb1⟩
      have HB1 := hide (below_step HB.out hb1)
      clear hb1 q0 q1
      go_wp2
      go_ret
      exact ⟨retB (by simp [lightB, hl]; omega), HB1.out⟩
  · have hl' : 300 < (es.length : Int) := by omega
    go_enter Try.func43, Try.ntmps43
    go_wp2_with fail
    go_ret
    exact ⟨retB (by simp [lightB, hl]), by go_grown⟩
set_option maxRecDepth 100000 in
set_option maxHeartbeats 8000000 in
theorem twin11 (n : Int) (p : Option Addr) (es : List Pt) (cp : Nat) (w : World) (hnil : p = none → cp = 0) (hl : es.length ≤ 90000) (h : Has w p es) : Calls Try.prog 12 #[nv n p es.length cp] w fun e w' => ∃ g c, e = .returned (nv n (some ⟨g, 0, none⟩) es.length c) ∧ Owns w' w.heap.size (.slice (some ⟨g, 0, none⟩) (es.length + 1) c) (es ++ [mk]) ∧ es.length + 1 ≤ c ∧ Below w.heap.size w w' := by
  obtain ⟨W, hW, hb, a0, b0⟩ := two_nets w n p es.length cp
  have HB := hide hb
  have HA := hide a0
  have hws : w.heap.size + 1 < W.heap.size := block_lt_of_cell b0.1
  have hW0 := h.later hb
  have hel : (es ++ [mk]).length = es.length + 1 := by simp
  obtain ⟨v1, D1, e1, o1, gr1⟩ := append_prs (w := W.drew) (base := W.heap.size) (v := .slice none 0 0) (l := []) (Owns.nil _ _) p cp es hnil (hW0.later (below_drew _)) (by simp) (by simp; omega)
  have hb1 : Below W.heap.size W D1 := below_grown (w := W.drew) (below_drew _) (Owns.nil W.drew W.heap.size) (Nat.le_refl _) (by simp) gr1
  rw [List.nil_append] at o1
  obtain ⟨q, c, rfl, _, _, _, _⟩ := o1.form
  have hb1' : Below W.heap.size W (D1.alloc (.cells #[.int .i64 (-7), .int .i64 7] 64)) := hb1.alloc hb1.size _
  have o1' := o1.later (w' := D1.alloc (.cells #[.int .i64 (-7), .int .i64 7] 64)) (by go_grown)
  obtain ⟨v2, D2, e2, o2, gr2⟩ := append_prs o1' (some ⟨D1.heap.size, 0, none⟩) 1 [mk] (fun h => by cases h) (Or.inr ⟨_, _, rfl, mk_lies D1 _ rfl⟩) hb1'.size (by simp; omega)
  have hb2 : Below W.heap.size W D2 := below_grown hb1' o1' (Nat.le_refl _) hb1'.size gr2
  obtain ⟨g2, c2, rfl, hc2, _, _⟩ := owns_block o2 (by simp)
  rw [hel] at o2 e2 hc2
  have hbW : Below W.heap.size W (W.alloc (.cells #[.int .i64 (-7), .int .i64 7] 64)).drew := by go_grown
  obtain ⟨v3, F1, e3, o3, gr3⟩ := append_prs (w := (W.alloc (.cells #[.int .i64 (-7), .int .i64 7] 64)).drew) (base := W.heap.size) (v := .slice none 0 0) (l := []) (Owns.nil _ _) p cp es hnil (hW0.later hbW) hbW.size (by simp; omega)
  have hg3 : Below (W.alloc (.cells #[.int .i64 (-7), .int .i64 7] 64)).drew.heap.size (W.alloc (.cells #[.int .i64 (-7), .int .i64 7] 64)).drew F1 := below_grown (Below.refl _ _) (Owns.nil (W.alloc (.cells #[.int .i64 (-7), .int .i64 7] 64)).drew (W.alloc (.cells #[.int .i64 (-7), .int .i64 7] 64)).drew.heap.size) (Nat.le_refl _) (Nat.le_refl _) gr3
  have hb3 : Below W.heap.size W F1 := Below.trans hbW (hg3.mono hbW.size)
  rw [List.nil_append] at o3
  obtain ⟨q3, c3, rfl, _, _, _, _⟩ := o3.form
  obtain ⟨v4, F2, e4, o4, gr4⟩ := append_prs o3 (some ⟨W.heap.size, 0, none⟩) 1 [mk] (fun h => by cases h) (Or.inr ⟨_, _, rfl, ((mk_lies W _ rfl).later (below_drew _)).later hg3⟩) hb3.size (by simp; omega)
  have hb4 : Below W.heap.size W F2 := below_grown hb3 o3 (Nat.le_refl _) hb3.size gr4
  obtain ⟨g4, c4, rfl, hc4, _, _⟩ := owns_block o4 (by simp)
  rw [hel] at o4 e4 hc4
  simp only [List.length_cons, List.length_nil, Nat.zero_add] at e2 e4
  have HO2 := hide o2
  have HO4 := hide o4
  have HN2 := hide (b0.later hb2)
  have HN4 := hide (b0.later hb4)
  have HA1 := hide (a0.later hb1)
  have HA1' := hide (a0.later hb1')
  have HA2 := hide (a0.later hb2)
  have HAW := hide (a0.later hbW)
  have HA3 := hide (a0.later hb3)
  have HA4 := hide (a0.later hb4)
  have HB2 := hide (below_step hb hb2)
  have HB4 := hide (below_step hb hb4)
  have k1 : (es.length : Int) ≤ c2 := by omega
  have k2 : (es.length : Int) ≤ c4 := by omega
  have k3 : (0 : Int) ≤ es.length := by omega
  have zw : w.heap.size < W.heap.size := by omega
  obtain ⟨q0, q1, _, _⟩ := a0
  obtain ⟨r0, r1, r2, r3⟩ := HN2.out
  obtain ⟨s0, s1, s2, s3⟩ := HN4.out
  clear hb h o1 o1' o2 o3 o4 gr1 gr2 gr3 gr4 hb1 hb1' hb2 hb3 hb4 hbW hg3 hW0 b0 hel
  go_enter Try.func12, Try.ntmps12
  go_wp2_with fail
  rw [← hW]
  clear hW
  go_region_held3 (fun W => W.cell? ⟨w.heap.size, 0, none⟩ = some (.int .i64 n) ∧ W.cell? ⟨w.heap.size, 1, none⟩ = some (.slice p es.length cp))
    (first | exact ⟨HA.out.1, HA.out.2.1⟩ | exact ⟨HA1.out.1, HA1.out.2.1⟩ | exact ⟨HA1'.out.1, HA1'.out.2.1⟩ | exact ⟨HA2.out.1, HA2.out.2.1⟩ | exact ⟨HAW.out.1, HAW.out.2.1⟩ | exact ⟨HA3.out.1, HA3.out.2.1⟩ | exact ⟨HA4.out.1, HA4.out.2.1⟩ | exact ⟨other2 HA2.out.1 (by simp), other2 HA2.out.2.1 (by simp)⟩ | exact ⟨other2 HA4.out.1 (by simp), other2 HA4.out.2.1 (by simp)⟩)
    (first | (refine step_run_append (by rfl) (.const (.slice none 0 0)) (.tmp 6) 22 (by rfl) 22 (by rfl) (.slice none 0 0) (.slice p es.length cp) (.slice q es.length c) D1 (by rfl) (by rfl) ?_ ?_; with_reducible exact e1) | (refine step_run_append (by rfl) (.const (.slice none 0 0)) (.tmp 6) 22 (by rfl) 22 (by rfl) (.slice none 0 0) (.slice p es.length cp) (.slice q3 es.length c3) F1 (by rfl) (by rfl) ?_ ?_; with_reducible exact e3) | (refine step_run_append (by rfl) (.tmp 7) (.tmp 9) 22 (by rfl) 22 (by rfl) (.slice q es.length c) (.slice (some ⟨D1.heap.size, 0, none⟩) 1 1) (.slice (some ⟨g2, 0, none⟩) (es.length + 1) c2) D2 (by rfl) (by rfl) ?_ ?_; with_reducible exact e2) | (refine step_run_append (by rfl) (.tmp 7) (.tmp 9) 22 (by rfl) 22 (by rfl) (.slice q3 es.length c3) (.slice (some ⟨W.heap.size, 0, none⟩) 1 1) (.slice (some ⟨g4, 0, none⟩) (es.length + 1) c4) F2 (by rfl) (by rfl) ?_ ?_; with_reducible exact e4))
  all_goals
    rename_i hHeld
    clear hHeld
  · obtain ⟨V, hV⟩ : ∃ V, V = (D2.setCell ⟨w.heap.size + 1, 0, none⟩ (.int .i64 n)).setCell ⟨w.heap.size + 1, 1, none⟩ (.slice (some ⟨g2, 0, none⟩) es.length c2) := ⟨_, rfl⟩
    have kV : NOwn V (w.heap.size + 1) n (some ⟨g2, 0, none⟩) es.length c2 := by rw [hV]; exact HN2.out.set _ _ _ _
    have bV : Below w.heap.size w V := by rw [hV]; exact (HB2.out.setCell (by simp) _).setCell (by simp) _
    have oV : Owns V w.heap.size (.slice (some ⟨g2, 0, none⟩) (es.length + 1) c2) (es ++ [mk]) := by rw [hV]; exact (owns_other (owns_other HO2.out hws _) hws _).base HB.out.size
    rw [← hV]
    go_wp2_with fail
    exact bodyPost_ret (ret_net1 Try.results12 rfl kV) rfl ⟨g2, c2, rfl, oV, hc2, bV⟩
  · obtain ⟨V, hV⟩ : ∃ V, V = (F2.setCell ⟨w.heap.size + 1, 0, none⟩ (.int .i64 n)).setCell ⟨w.heap.size + 1, 1, none⟩ (.slice (some ⟨g4, 0, none⟩) es.length c4) := ⟨_, rfl⟩
    have kV : NOwn V (w.heap.size + 1) n (some ⟨g4, 0, none⟩) es.length c4 := by rw [hV]; exact HN4.out.set _ _ _ _
    have bV : Below w.heap.size w V := by rw [hV]; exact (HB4.out.setCell (by simp) _).setCell (by simp) _
    have oV : Owns V w.heap.size (.slice (some ⟨g4, 0, none⟩) (es.length + 1) c4) (es ++ [mk]) := by rw [hV]; exact (owns_other (owns_other HO4.out hws _) hws _).base HB.out.size
    rw [← hV]
    go_wp2_with fail
    exact bodyPost_ret (ret_net1 Try.results12 rfl kV) rfl ⟨g4, c4, rfl, oV, hc4, bV⟩
theorem lies_left {w : World} {b off : Nat} {a c : List Pt} (h : Lies w b off (a ++ c)) : Lies w b off a := fun j hj => by
  have := h j (by rw [List.length_append]; omega)
  have e : at' (a ++ c) j = at' a j := by unfold at'; rw [List.getD_eq_getElem?_getD, List.getD_eq_getElem?_getD, List.getElem?_append_left hj]
  rw [e] at this
  exact this
theorem at_last (es : List Pt) (p : Pt) : at' (es ++ [p]) es.length = p := by
  unfold at'; rw [List.getD_eq_getElem?_getD, List.getElem?_append_right (Nat.le_refl _)]; simp
set_option maxRecDepth 100000 in
set_option maxHeartbeats 8000000 in
theorem kept17 (n : Int) (g c : Nat) (p : Option Addr) (es : List Pt) (cp : Nat) (w : World) (hl : es.length ≤ 90000) (hc : es.length + 1 ≤ c) (ht : Lies w g 0 (es ++ [mk])) (h : Has w p es) : Calls Try.prog 22 #[nv n (some ⟨g, 0, none⟩) es.length c, nv n p es.length cp] w fun e w' => e = .returned (.bool true) ∧ Below w.heap.size w w' := by
  obtain ⟨U, hU, hb, a0, b0⟩ := two_args w n n (some ⟨g, 0, none⟩) p es.length es.length c cp
  have hm := ht es.length (by simp)
  rw [at_last, Nat.zero_add] at hm
  have m0 : U.cell? ⟨g, es.length * 2, none⟩ = some (.int .i64 (-7)) := later hb hm.1
  have m1 : U.cell? ⟨g, es.length * 2 + 1, none⟩ = some (.int .i64 7) := later hb hm.2
  have HB := hide hb
  have hT := hide ((lies_left ht).later hb)
  have hH := hide (h.later hb)
  obtain ⟨q0, q1, _, _⟩ := a0
  obtain ⟨r0, r1, _, _⟩ := b0
  clear h ht hb hm
  have CA : ∀ dd os, Calls Try.prog 37 #[nv n (some ⟨g, 0, none⟩) es.length c, nv n p es.length cp] (grow (redrawn U dd) os) fun e w'' => e = .returned (.bool true) ∧ ∃ p : Regrown, w'' = grow (redrawn U p.d) p.os := fun dd os => Calls.regrown_of (by
    have := same22 n n (some ⟨g, 0, none⟩) p es es c cp (grow (redrawn U dd) os) (by omega) (Or.inr ⟨g, 0, rfl, hT.out.later (below_regrown U dd os)⟩) (hH.out.later (below_regrown U dd os))
    rw [show sameB n n es es = true by unfold sameB; simp] at this
    exact this)
  have heq : ∀ w, (Op.equalIn 10000 64 (.agg #[.int .i64 (-7), .int .i64 7]) (.agg #[.int .i64 (-7), .int .i64 7])).run Try.prog w = .ok true w := fun w => by
    have := eq60 mk mk w
    rw [decide_eq_true (rfl : mk = mk)] at this
    exact this
  have k1 : (es.length : Int) + 1 ≤ c := by omega
  have k2 : (0 : Int) ≤ es.length := by omega
  have k3 : (es.length : Int) < (es.length : Int) + 1 := by omega
  have f0 := cell_regrown q0
  have f1 := cell_regrown q1
  have f2 := cell_regrown r0
  have f3 := cell_regrown r1
  have f4 := cell_regrown m0
  have f5 := cell_regrown m1
  go_enter Try.func22, Try.ntmps22
  go_wp2_with fail
  rw [← hU]
  clear hU
  refine wp_region_quiet_below (by kernel_rfl) (by kernel_rfl) ?_
  repeat (go_big_quiet_step (first | with_reducible exact CA _ _))
  refine wpQuiet_nil ?_
  intro x1 hw'
  have hbx1 : Below U.heap.size U x1 := by
    obtain ⟨⟨dq, osq⟩, hw''⟩ := hw'
    rw [hw'']
    exact below_regrown U dq osq
  clear hw' f0 f1 f2 f3 f4 f5 CA
  go_wp2_with fail
  go_ret
  exact ⟨rfl, below_step HB.out hbx1⟩
end Go.Proofs.Ytcgdmonejogbaaa
/- The document's small functions of a net: From, pair, in every world. -/
namespace Go.Proofs.Ytcgdmonejogbaaa
open Go.RowKit Go.Sort
open Go
/-- The end of an edge that a half-edge leaves. -/
def fromL (es : List Pt) (h : Nat) : Int := if h % 2 = 0 then (at' es (h / 2)).x else (at' es (h / 2)).y
set_option maxHeartbeats 1000000 in
theorem from50 (n : Int) (p : Option Addr) (es : List Pt) (cap h : Nat) (w : World) (hh : Has w p es) (hl : h < 2 * es.length) (hb : es.length ≤ 100000) : Calls Try.prog 44 #[nv n p es.length cap, .int .i64 h] w fun e w' => e = .returned (.int .i64 (fromL es h)) ∧ Below w.heap.size w w' := by
  have hk : h / 2 < es.length := by omega
  rcases hh with h0 | ⟨b, off, rfl, hL⟩
  · subst h0; simp at hk
  obtain ⟨c0, c1⟩ := hL (h / 2) hk
  have zb : b < w.heap.size := block_lt_of_cell c0
  have hd : Int.tdiv (h : Int) 2 = ((h / 2 : Nat) : Int) := by rw [Int.tdiv_eq_ediv_of_nonneg (by omega)]; exact (Int.natCast_ediv h 2).symm
  have hr : Int.tmod (h : Int) 2 = ((h % 2 : Nat) : Int) := by rw [Int.tmod_eq_emod_of_nonneg (by omega)]; exact (Int.natCast_emod h 2).symm
  have HF : Hid (fromL es h = if h % 2 = 0 then (at' es (h / 2)).x else (at' es (h / 2)).y) := rfl
  obtain ⟨x, hx⟩ : ∃ x, at' es (h / 2) = x := ⟨_, rfl⟩
  rw [hx] at c0 c1 HF
  have hr2 : h % 2 < 2 := by omega
  have hkl : h / 2 ≤ 100000 := by omega
  obtain ⟨q, hq⟩ : ∃ q, h / 2 = q := ⟨_, rfl⟩
  obtain ⟨r, hre⟩ : ∃ r, h % 2 = r := ⟨_, rfl⟩
  rw [hq] at c0 c1 hd hk hkl
  rw [hre] at hr HF hr2
  have i1 : (q : Int) < es.length := by omega
  have i2 : (0 : Int) ≤ q := by omega
  clear hx hL hq hre
  have h01 : r = 0 ∨ r = 1 := by omega
  rcases h01 with rfl | rfl
  · go_enter Try.func44, Try.ntmps44
    go_wp2
    go_ret
    exact ⟨retI (by rw [HF.out]; simp), by go_grown⟩
  · go_enter Try.func44, Try.ntmps44
    go_wp2
    go_ret
    exact ⟨retI (by rw [HF.out]; simp), by go_grown⟩
end Go.Proofs.Ytcgdmonejogbaaa
namespace Go.Proofs.Ytcgdmonejogbaaa
open Go.RowKit Go.Sort
open Go
theorem fromL_in {m : Int} {es : List Pt} (hm : netB m es = true) (h : Nat) (hl : h < 2 * es.length) : 0 ≤ fromL es h ∧ fromL es h < m := by
  obtain ⟨_, _, _, hE⟩ := netB_is hm
  have := hE (h / 2) (by omega)
  unfold fromL
  split <;> omega
end Go.Proofs.Ytcgdmonejogbaaa
