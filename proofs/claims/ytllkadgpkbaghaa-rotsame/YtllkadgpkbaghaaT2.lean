/- Lists of pairs that are appended to, as one step; Copy and Twin, in every world. -/
import Derived.Test.YtllkadgpkbaghaaM8
namespace Go.Proofs.Ytllkadgpkbaghaa
open Go.RowKit Go.Sort
open Go


theorem cells_lie {w : World} {b off : Nat} {es : List Pt} (hsrc : Lies w b off es) : ∀ j v, (cells es)[j]? = some v → w.cell? ((⟨b, off, none⟩ : Addr).add j) = some v := by
  intro j v hj
  have hjl : j < es.length * 2 := by
    have := (List.getElem?_eq_some_iff.1 hj).1
    rw [cells_length] at this
    exact this
  rw [Go.WideShapes.add_plain]
  rcases Nat.mod_two_eq_zero_or_one j with h | h
  · obtain ⟨i, rfl⟩ : ∃ i, j = i * 2 := ⟨j / 2, by omega⟩
    have k := (cells_at es i (by omega)).1
    rw [k] at hj
    cases hj
    exact (hsrc i (by omega)).1
  · obtain ⟨i, rfl⟩ : ∃ i, j = i * 2 + 1 := ⟨j / 2, by omega⟩
    have k := (cells_at es i (by omega)).2
    rw [k] at hj
    cases hj
    rw [show off + (i * 2 + 1) = off + i * 2 + 1 by omega]
    exact (hsrc i (by omega)).2
theorem grownBy_refl (w : World) (r : Option Nat) : w.grownBy w r := ⟨rfl, rfl, rfl, Nat.le_refl _, fun _ _ _ => rfl⟩
theorem append_prs {w : World} {base : Nat} {v : Value} {l : List Pt} (ho : Owns w base v l) (p : Option Addr) (cap : Nat) (qs : List Pt) (hnil : p = none → cap = 0) (hq : Has w p qs) (hb : base ≤ w.heap.size) (hl : l.length + qs.length ≤ 100000) :
    ∃ v' w', (Builtin.append_ #[22, 22] 22 #[v, .slice p qs.length cap]).run Try.prog w = .ok v' w' ∧ Owns w' base v' (l ++ qs) ∧ w.grownBy w' v.ownBlock := by
  obtain ⟨i0, hi0, hz0, hz1, hz2⟩ := info_parts info60
  cases p with
  | none =>
    have hqs : qs = [] := by
      rcases hq with h | ⟨b, off, h, _⟩
      · exact h
      · cases h
    subst hqs
    rw [hnil rfl]
    exact ⟨v, w, run_append_owned_none (P := Try.prog) (w := w) base 22 22 64 i0 2 Try.underlying22 hi0 v l.length (cells l) ho, by rw [List.append_nil]; exact ho, grownBy_refl _ _⟩
  | some a =>
    have hnews : ∀ j u, (cells qs)[j]? = some u → w.cell? (a.add j) = some u := by
      rcases hq with h | ⟨b, off, h, hL⟩
      · subst h; intro j u hj; simp [cells] at hj
      · cases h; exact cells_lie hL
    obtain ⟨v', w', h1, h2, h3, _⟩ := run_append_own (P := Try.prog) w base 22 22 64 i0 (.agg #[.int .i64 0, .int .i64 0]) 2 16 Try.underlying22 hi0 hz0 hz1 hz2 rfl (by decide) v l.length (cells l) ho a qs.length cap (cells qs) (cells_length qs) hnews (cells_one qs) (by unfold maxLen; omega) (by omega) hb
    refine ⟨v', w', h1, ?_, h3⟩
    unfold Owns
    rw [List.length_append, cells_append]
    exact h2
theorem step_run_append {P : Program} {w : World} {ops : Array Oper} {o : Oper} {a : Act} {K : Act → World → Prop} {Q : Exit → Act → World → Prop} {E : Prop} (hgd : o.guard = none) (s x : Operand) (t : TypeId)
    (ho : o.op = .call { callee := .builtin .append, args := #[s, x], argTypes := #[t, t] }) (ty : TypeId) (hty : o.type = ty) (vs vx v' : Value) (w' : World) (hs : a.eval s = vs) (hx : a.eval x = vx)
    (hr : (Builtin.append_ #[t, t] ty #[vs, vx]).run P w = .ok v' w') (h : K (a.put o.dst v') w') :
    if Region.wanted o (yielded ops a.tmps) = true then Oper.wp P o a w K Q else E := by
  subst hty
  have hw : Region.wanted o (yielded ops a.tmps) = true := by simp [Region.wanted, hgd]
  rw [if_pos hw]
  unfold Oper.wp execOp
  simp only [ho, resolve, invoke, builtin, Sem.run_bind, Sem.run_pure, Result.andThen_ok, List.map_toArray, List.map_cons, List.map_nil, hs, hx, hr]
  exact h
theorem results_c {fn : Func} {p : Tmp} {ty : TypeId} (h : fn.results = #[.cell p ty]) (tmps : Array Value) (P : Program) (w : World) :
    (results fn tmps).run P w = ((asAddr (tmps.getD p undef)).run P w).andThen fun a w₁ => (loadVar ty a).run P w₁ := by
  simp only [results, h]
  simp [Sem.run_bind, Result.andThen]
theorem ret_net1 {fn : Func} {c : Tmp} (hr : fn.results = #[.cell c 24]) {tmps : Array Value} {V : World} {g : Nat} {n : Int} {p : Option Addr} {l k : Nat} (h2 : tmps.getD c undef = .pointer (some ⟨g, 0, none⟩)) (h : NOwn V g n p l k) :
    (results fn tmps).run Try.prog V = .ok (nv n p l k) V := by
  rw [results_c hr, h2, asA, Result.andThen_ok, load24 h]
theorem owns_other {w : World} {b : Nat} {v : Value} {l : List Pt} (h : Owns w b v l) {k i : Nat} (hk : k < b) (u : Value) : Owns (w.setCell ⟨k, i, none⟩ u) b v l := ownsRow_setCell_below h (by exact hk) u
theorem Owns.base {w : World} {b b' : Nat} {v : Value} {l : List Pt} (h : Owns w b v l) (hb : b' ≤ b) : Owns w b' v l := owns_base h hb
def mk : Pt := ⟨-7, 7⟩
theorem mk_lies (W : World) (n : Nat) (hn : n = W.heap.size) : Lies (W.alloc (.cells #[.int .i64 (-7), .int .i64 7] 64)) n 0 [mk] := by
  subst hn
  intro j hj
  simp at hj
  subst hj
  exact ⟨by simp only [at', mk, List.getD_cons_zero]; go_cell, by simp only [at', mk, List.getD_cons_zero]; go_cell⟩
theorem owns_block {w : World} {base : Nat} {v : Value} {l : List Pt} (h : Owns w base v l) (h0 : 0 < l.length) : ∃ g c, v = .slice (some ⟨g, 0, none⟩) l.length c ∧ l.length ≤ c ∧ base ≤ g ∧ g < w.heap.size := by
  obtain ⟨g, c, rfl, h1, h2⟩ := World.ownsRow.form h h0
  obtain ⟨p, c', hv, _, h3, _, _⟩ := Owns.form h
  simp at hv
  exact ⟨g, c, rfl, by rw [hv.2]; exact h3, h1, h2⟩
end Go.Proofs.Ytllkadgpkbaghaa
