/- Points appended to points, as one step. -/
import Derived.Test.YtgnojjbdioldbaaA2
namespace Go.Proofs.Ytgnojjbdioldbaa
open Go.RowKit Go.Sort
open Go

theorem cells_one : ∀ (ps : List Pt), ∀ v ∈ cells ps, v.oneCell' = true
  | [], v, h => by simp [cells] at h
  | p :: r, v, h => by
    simp only [cells, List.mem_cons] at h
    rcases h with rfl | rfl | h
    · rfl
    · rfl
    · exact cells_one r v h
theorem cells_lie {w : World} {b off : Nat} {es : List Pt} (hsrc : Lies w b off es) : ∀ j v, (cells es)[j]? = some v → w.cell? ((⟨b, off, none⟩ : Addr).add j) = some v := by
  intro j v hj
  have hjl : j < es.length * 2 := by
    have := (List.getElem?_eq_some_iff.1 hj).1
    rw [cells_length] at this
    exact this
  rw [Go.WideShapes.add_plain]
  rcases Nat.mod_two_eq_zero_or_one j with h | h
  · obtain ⟨i, rfl⟩ : ∃ i, j = i * 2 := ⟨j / 2, by omega⟩
    have k := (cells_at es i (by omega)).1
    rw [k] at hj
    cases hj
    exact (hsrc i (by omega)).1
  · obtain ⟨i, rfl⟩ : ∃ i, j = i * 2 + 1 := ⟨j / 2, by omega⟩
    have k := (cells_at es i (by omega)).2
    rw [k] at hj
    cases hj
    rw [show off + (i * 2 + 1) = off + i * 2 + 1 by omega]
    exact (hsrc i (by omega)).2
theorem append_pts {w : World} {base : Nat} {v : Value} {l : List Pt} (ho : Owns w base v l) (b off cap : Nat) (qs : List Pt) (hL : Lies w b off qs) (h0 : 0 < qs.length) (hb : base ≤ w.heap.size) (hl : l.length + qs.length ≤ 1000) :
    ∃ g c w', (Builtin.append_ #[27, 27] 27 #[v, .slice (some ⟨b, off, none⟩) qs.length cap]).run Try.prog w = .ok (.slice (some ⟨g, 0, none⟩) (l.length + qs.length) c) w' ∧ Owns w' base (.slice (some ⟨g, 0, none⟩) (l ++ qs).length c) (l ++ qs) ∧ w.grownBy w' v.ownBlock := by
  obtain ⟨i0, hi0, hz0, hz1, hz2⟩ := info_parts info23
  obtain ⟨g, c, w', h1, h2, h3, _, _⟩ := run_append_lies (P := Try.prog) w 27 27 base 23 i0 (.agg #[.int .i64 0, .int .i64 0]) 2 16 Try.underlying27 hi0 hz0 hz1 hz2 rfl (by decide) v l.length (cells l) ho ⟨b, off, none⟩ qs.length cap (cells qs) (cells_length qs) (cells_lie hL) (cells_one qs) h0 (by unfold maxLen; omega) (by omega) hb _ rfl
  refine ⟨g, c, w', h1, ?_, h3⟩
  unfold Owns
  rw [List.length_append, cells_append]
  exact h2
theorem lies_drop {w : World} {b off : Nat} {ps : List Pt} (h : Lies w b off ps) (k : Nat) : Lies w b (off + k * 2) (ps.drop k) := by
  intro j hj
  rw [List.length_drop] at hj
  rw [at_drop, show off + k * 2 + j * 2 = off + (k + j) * 2 by omega]
  exact h (k + j) (by omega)
theorem lies_take {w : World} {b off : Nat} {ps : List Pt} (h : Lies w b off ps) (k : Nat) : Lies w b off (ps.take k) := by
  intro j hj
  rw [List.length_take] at hj
  rw [at_take _ (by omega)]
  exact h j (by omega)
theorem may_sub {ps qs : List Pt} (h : mayB ps = true) (hl : qs.length ≤ 4096) (hs : ∀ q ∈ qs, q ∈ ps) : mayB qs = true := by
  simp only [mayB, Bool.and_eq_true, decide_eq_true_eq, List.all_eq_true] at h ⊢
  exact ⟨hl, fun q hq => h.2 q (hs q hq)⟩
theorem err_of_may {ps : List Pt} (h : mayB ps = true) : errI ps = 0 := by unfold errI; rw [h]; rfl
/-- An append whose run is known, as one step of a region that draws. -/
theorem step_run_append {P : Program} {w : World} {ops : Array Oper} {o : Oper} {a : Act} {K : Act → World → Prop} {Q : Exit → Act → World → Prop} {E : Prop} (hgd : o.guard = none) (s x : Operand) (t : TypeId)
    (ho : o.op = .call { callee := .builtin .append, args := #[s, x], argTypes := #[t, t] }) (ty : TypeId) (hty : o.type = ty) (vs vx v' : Value) (w' : World) (hs : a.eval s = vs) (hx : a.eval x = vx)
    (hr : (Builtin.append_ #[t, t] ty #[vs, vx]).run P w = .ok v' w') (h : K (a.put o.dst v') w') :
    if Region.wanted o (yielded ops a.tmps) = true then Oper.wp P o a w K Q else E := by
  subst hty
  have hw : Region.wanted o (yielded ops a.tmps) = true := by simp [Region.wanted, hgd]
  rw [if_pos hw]
  unfold Oper.wp execOp
  simp only [ho, resolve, invoke, builtin, Sem.run_bind, Sem.run_pure, Result.andThen_ok, List.map_toArray, List.map_cons, List.map_nil, hs, hx, hr]
  exact h
end Go.Proofs.Ytgnojjbdioldbaa
