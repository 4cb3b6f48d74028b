/- Lists of pairs that are appended to, as one step; Copy and Twin, in every world. -/
import Derived.Test.YtaebbfilgfkckaaN6
import Derived.Laws.IdiomCopy
/- Split, in every world. -/
namespace Go.Proofs.Ytaebbfilgfkckaa
open Go.RowKit Go.Sort
open Go


theorem owns_setCells {base g cap n : Nat} {e : TypeId} {size : Nat} : ∀ (vs : List Value) (o : Nat) (w : World) (xs : List Value), w.ownsRow base e size (.slice (some ⟨g, 0, none⟩) n cap) n xs → o + vs.length ≤ xs.length → (w.setCells g o vs).ownsRow base e size (.slice (some ⟨g, 0, none⟩) n cap) n (xs.take o ++ vs ++ xs.drop (o + vs.length))
  | [], o, w, xs, h, _ => by
    simp only [World.setCells, List.append_nil, List.length_nil, Nat.add_zero, List.take_append_drop]
    exact h
  | v :: r, o, w, xs, h, hl => by
    have hl' : o + (r.length + 1) ≤ xs.length := by simpa using hl
    have ih := owns_setCells (base := base) (g := g) (cap := cap) (n := n) (e := e) (size := size) r (o + 1) (w.setCell ⟨g, o, none⟩ v) (xs.set o v) (World.ownsRow.stored h o v).1 (by rw [List.length_set]; omega)
    simp only [World.setCells]
    rw [list_seg_step xs o v r hl'] at ih
    exact ih
theorem grown_setCells {g : Nat} : ∀ (vs : List Value) (o : Nat) (w w0 : World) (B : Nat), Below B w0 w → B ≤ g → Below B w0 (w.setCells g o vs)
  | [], _, _, _, _, h, _ => h
  | v :: r, o, w, w0, B, h, hB => grown_setCells r (o + 1) _ w0 B (h.setCell (by exact hB) v) hB
theorem cells_one : ∀ (ps : List Pt), ∀ v ∈ cells ps, v.oneCell' = true
  | [], v, h => by simp [cells] at h
  | p :: r, v, h => by
    simp only [cells, List.mem_cons] at h
    rcases h with rfl | rfl | h
    · rfl
    · rfl
    · exact cells_one r v h
theorem run_copy22 (w : World) (ty : TypeId) (base g b off cp : Nat) (es : List Pt) (hsrc : Lies w b off es) (hR : PRow w base g (es.length + 1) (List.replicate (es.length + 1) ⟨0, 0⟩)) :
    (Builtin.copy_ #[22, 22] ty #[.slice (some ⟨g, 0, none⟩) (es.length + 1) (es.length + 1), .slice (some ⟨b, off, none⟩) es.length cp]).run Try.prog w = .ok (goInt es.length) (w.setCells g 0 (cells es)) ∧ PRow (w.setCells g 0 (cells es)) base g (es.length + 1) (es ++ [⟨0, 0⟩]) := by
  have hcl := cells_length es
  have hlist : ∀ j v, (cells es)[j]? = some v → w.cell? ((⟨b, off, none⟩ : Addr).add j) = some v := by
    intro j v hj
    have hjl : j < es.length * 2 := by
      have := (List.getElem?_eq_some_iff.1 hj).1
      omega
    rw [Go.WideShapes.add_plain]
    rcases Nat.mod_two_eq_zero_or_one j with h | h
    · obtain ⟨i, rfl⟩ : ∃ i, j = i * 2 := ⟨j / 2, by omega⟩
      have k := (cells_at es i (by omega)).1
      rw [k] at hj
      cases hj
      exact (hsrc i (by omega)).1
    · obtain ⟨i, rfl⟩ : ∃ i, j = i * 2 + 1 := ⟨j / 2, by omega⟩
      have k := (cells_at es i (by omega)).2
      rw [k] at hj
      cases hj
      rw [show off + (i * 2 + 1) = off + i * 2 + 1 by omega]
      exact (hsrc i (by omega)).2
  have hl := run_loadCells_list (P := Try.prog) w ⟨b, off, none⟩ (cells es) hlist
  have hrow : w.ownsRow base 57 2 (.slice (some ⟨g, 0, none⟩) (es.length + 1) (es.length + 1)) (es.length + 1) (cells (List.replicate (es.length + 1) ⟨0, 0⟩)) := by
    have := hR.2
    unfold Owns at this
    rw [hR.1] at this
    exact this
  have hrl : (cells (List.replicate (es.length + 1) (⟨0, 0⟩ : Pt))).length = (es.length + 1) * 2 := by rw [cells_length, List.length_replicate]
  have hst := run_storeCells_cells (P := Try.prog) g 0 (cells es) 0 w (fun j hj => by
    rw [Nat.zero_add, World.ownsRow.cellAt hrow j (by omega), List.getElem?_eq_getElem (by omega)]
    rfl) (fun j _ => by rw [Nat.zero_add]; exact World.ownsRow.frozenAt hrow j) (cells_one es)
  obtain ⟨i0, hi0, hz0, hz1, hz2⟩ := info_parts info60
  refine ⟨?_, ?_⟩
  · have hmin : Nat.min es.length (es.length + 1) = es.length := by show min _ _ = _; omega
    rw [hcl] at hl
    simp [Builtin.copy_, run_underlying Try.underlying22, Builtin.lenOf, Builtin.firstCells, sizeOf, typeInfo, hi0, hz1, hmin, hl, hst]
  · refine ⟨by simp, ?_⟩
    have k := owns_setCells (cells es) 0 w _ hrow (by omega)
    rw [Nat.zero_add, List.take_zero, List.nil_append, cells_zero, hcl, List.drop_replicate, show (es.length + 1) * 2 - es.length * 2 = 2 by omega] at k
    unfold Owns
    rw [cells_append, List.length_append]
    exact k
def splitE (n : Int) (es : List Pt) (e : Int) : Int := if netB n es then (if belowB e es.length then (if fitsB (n + 1) ((es.length : Int) + 1) then 0 else 3) else 2) else 1
def splitL (n : Int) (es : List Pt) (e : Nat) : List Pt := ((es ++ [(⟨0, 0⟩ : Pt)]).set e ⟨(at' es e).x, n⟩).set es.length ⟨n, (at' es e).y⟩
theorem splitL_length (n : Int) (es : List Pt) (e : Nat) : (splitL n es e).length = es.length + 1 := by simp [splitL]
def SplitPost (n : Int) (es : List Pt) (e0 : Int) (w : World) (e : Ending) (w' : World) : Prop :=
  (splitE n es e0 = 0 ∧ ∃ g, e = .returned (.tuple #[nv (n + 1) (some ⟨g, 0, none⟩) (es.length + 1) (es.length + 1), .int .i64 0]) ∧ PRow w' w.heap.size g (es.length + 1) (splitL n es e0.toNat)) ∨ (splitE n es e0 ≠ 0 ∧ e = .returned (.tuple #[nv 0 none 0 0, .int .i64 (splitE n es e0)]))
theorem splitE_is {n : Int} {es : List Pt} {e : Int} (h : splitE n es e = 0) : netB n es = true ∧ (0 ≤ e ∧ e < es.length) ∧ n + 1 ≤ 1024 ∧ (es.length : Int) + 1 ≤ 3072 := by
  unfold splitE at h
  by_cases k : netB n es = true
  · rw [if_pos k] at h
    by_cases k2 : belowB e es.length = true
    · rw [if_pos k2] at h
      by_cases k3 : fitsB (n + 1) ((es.length : Int) + 1) = true
      · simp [fitsB] at k3
        exact ⟨k, belowB_is k2, k3.1, by omega⟩
      · rw [if_neg k3] at h; omega
    · rw [if_neg k2] at h; omega
  · rw [if_neg k] at h; omega

end Go.Proofs.Ytaebbfilgfkckaa

namespace Go.Proofs.Ytaebbfilgfkckaa
open Go.RowKit Go.Sort
open Go


theorem cells_lie {w : World} {b off : Nat} {es : List Pt} (hsrc : Lies w b off es) : ∀ j v, (cells es)[j]? = some v → w.cell? ((⟨b, off, none⟩ : Addr).add j) = some v := by
  intro j v hj
  have hjl : j < es.length * 2 := by
    have := (List.getElem?_eq_some_iff.1 hj).1
    rw [cells_length] at this
    exact this
  rw [Go.WideShapes.add_plain]
  rcases Nat.mod_two_eq_zero_or_one j with h | h
  · obtain ⟨i, rfl⟩ : ∃ i, j = i * 2 := ⟨j / 2, by omega⟩
    have k := (cells_at es i (by omega)).1
    rw [k] at hj
    cases hj
    exact (hsrc i (by omega)).1
  · obtain ⟨i, rfl⟩ : ∃ i, j = i * 2 + 1 := ⟨j / 2, by omega⟩
    have k := (cells_at es i (by omega)).2
    rw [k] at hj
    cases hj
    rw [show off + (i * 2 + 1) = off + i * 2 + 1 by omega]
    exact (hsrc i (by omega)).2
theorem grownBy_refl (w : World) (r : Option Nat) : w.grownBy w r := ⟨rfl, rfl, rfl, Nat.le_refl _, fun _ _ _ => rfl⟩
theorem append_prs {w : World} {base : Nat} {v : Value} {l : List Pt} (ho : Owns w base v l) (p : Option Addr) (cap : Nat) (qs : List Pt) (hnil : p = none → cap = 0) (hq : Has w p qs) (hb : base ≤ w.heap.size) (hl : l.length + qs.length ≤ 100000) :
    ∃ v' w', (Builtin.append_ #[22, 22] 22 #[v, .slice p qs.length cap]).run Try.prog w = .ok v' w' ∧ Owns w' base v' (l ++ qs) ∧ w.grownBy w' v.ownBlock := by
  obtain ⟨i0, hi0, hz0, hz1, hz2⟩ := info_parts info60
  cases p with
  | none =>
    have hqs : qs = [] := by
      rcases hq with h | ⟨b, off, h, _⟩
      · exact h
      · cases h
    subst hqs
    rw [hnil rfl]
    exact ⟨v, w, run_append_owned_none (P := Try.prog) (w := w) base 22 22 57 i0 2 Try.underlying22 hi0 v l.length (cells l) ho, by rw [List.append_nil]; exact ho, grownBy_refl _ _⟩
  | some a =>
    have hnews : ∀ j u, (cells qs)[j]? = some u → w.cell? (a.add j) = some u := by
      rcases hq with h | ⟨b, off, h, hL⟩
      · subst h; intro j u hj; simp [cells] at hj
      · cases h; exact cells_lie hL
    obtain ⟨v', w', h1, h2, h3, _⟩ := run_append_own (P := Try.prog) w base 22 22 57 i0 (.agg #[.int .i64 0, .int .i64 0]) 2 16 Try.underlying22 hi0 hz0 hz1 hz2 rfl (by decide) v l.length (cells l) ho a qs.length cap (cells qs) (cells_length qs) hnews (cells_one qs) (by unfold maxLen; omega) (by omega) hb
    refine ⟨v', w', h1, ?_, h3⟩
    unfold Owns
    rw [List.length_append, cells_append]
    exact h2
theorem step_run_append {P : Program} {w : World} {ops : Array Oper} {o : Oper} {a : Act} {K : Act → World → Prop} {Q : Exit → Act → World → Prop} {E : Prop} (hgd : o.guard = none) (s x : Operand) (t : TypeId)
    (ho : o.op = .call { callee := .builtin .append, args := #[s, x], argTypes := #[t, t] }) (ty : TypeId) (hty : o.type = ty) (vs vx v' : Value) (w' : World) (hs : a.eval s = vs) (hx : a.eval x = vx)
    (hr : (Builtin.append_ #[t, t] ty #[vs, vx]).run P w = .ok v' w') (h : K (a.put o.dst v') w') :
    if Region.wanted o (yielded ops a.tmps) = true then Oper.wp P o a w K Q else E := by
  subst hty
  have hw : Region.wanted o (yielded ops a.tmps) = true := by simp [Region.wanted, hgd]
  rw [if_pos hw]
  unfold Oper.wp execOp
  simp only [ho, resolve, invoke, builtin, Sem.run_bind, Sem.run_pure, Result.andThen_ok, List.map_toArray, List.map_cons, List.map_nil, hs, hx, hr]
  exact h
theorem results_c {fn : Func} {p : Tmp} {ty : TypeId} (h : fn.results = #[.cell p ty]) (tmps : Array Value) (P : Program) (w : World) :
    (results fn tmps).run P w = ((asAddr (tmps.getD p undef)).run P w).andThen fun a w₁ => (loadVar ty a).run P w₁ := by
  simp only [results, h]
  simp [Sem.run_bind, Result.andThen]
theorem ret_net1 {fn : Func} {c : Tmp} (hr : fn.results = #[.cell c 24]) {tmps : Array Value} {V : World} {g : Nat} {n : Int} {p : Option Addr} {l k : Nat} (h2 : tmps.getD c undef = .pointer (some ⟨g, 0, none⟩)) (h : NOwn V g n p l k) :
    (results fn tmps).run Try.prog V = .ok (nv n p l k) V := by
  rw [results_c hr, h2, asA, Result.andThen_ok, load24 h]
theorem owns_other {w : World} {b : Nat} {v : Value} {l : List Pt} (h : Owns w b v l) {k i : Nat} (hk : k < b) (u : Value) : Owns (w.setCell ⟨k, i, none⟩ u) b v l := ownsRow_setCell_below h (by exact hk) u
theorem Owns.base {w : World} {b b' : Nat} {v : Value} {l : List Pt} (h : Owns w b v l) (hb : b' ≤ b) : Owns w b' v l := owns_base h hb
def mk : Pt := ⟨-7, 7⟩
theorem mk_lies (W : World) (n : Nat) (hn : n = W.heap.size) : Lies (W.alloc (.cells #[.int .i64 (-7), .int .i64 7] 57)) n 0 [mk] := by
  subst hn
  intro j hj
  simp at hj
  subst hj
  exact ⟨by simp only [at', mk, List.getD_cons_zero]; go_cell, by simp only [at', mk, List.getD_cons_zero]; go_cell⟩
theorem owns_block {w : World} {base : Nat} {v : Value} {l : List Pt} (h : Owns w base v l) (h0 : 0 < l.length) : ∃ g c, v = .slice (some ⟨g, 0, none⟩) l.length c ∧ l.length ≤ c ∧ base ≤ g ∧ g < w.heap.size := by
  obtain ⟨g, c, rfl, h1, h2⟩ := World.ownsRow.form h h0
  obtain ⟨p, c', hv, _, h3, _, _⟩ := Owns.form h
  simp at hv
  exact ⟨g, c, rfl, by rw [hv.2]; exact h3, h1, h2⟩
end Go.Proofs.Ytaebbfilgfkckaa
