/- Twin and Kept of points, in every world. -/
import Derived.Test.YtgnojjbdioldbaaI2
import Derived.Deep.RegionHeld3
import Derived.Deep.CutBlock
namespace Go.Proofs.Ytgnojjbdioldbaa
open Go.RowKit Go.Sort
open Go

def mk : Pt := ⟨-7, 7⟩
theorem mk_lies (W : World) (n : Nat) (hn : n = W.heap.size) : Lies (W.alloc (.cells #[.int .i64 (-7), .int .i64 7] 23)) n 0 [mk] := by
  subst hn
  intro j hj
  simp at hj
  subst hj
  exact ⟨by simp only [at', mk, List.getD_cons_zero]; go_cell, by simp only [at', mk, List.getD_cons_zero]; go_cell⟩
theorem wpList_run_append {P : Program} {w : World} {ops : Array Oper} {rest : List Oper} {o : Oper} {a : Act} {Q : Exit → Act → World → Prop} (hgd : o.guard = none) (s x : Operand) (t : TypeId)
    (ho : o.op = .call { callee := .builtin .append, args := #[s, x], argTypes := #[t, t] }) (ty : TypeId) (hty : o.type = ty) (vs vx v' : Value) (w' : World) (hs : a.eval s = vs) (hx : a.eval x = vx)
    (hr : (Builtin.append_ #[t, t] ty #[vs, vx]).run P w = .ok v' w') (h : wpList P ops Q rest (a.put o.dst v') w') : wpList P ops Q (o :: rest) a w := by
  subst hty
  refine wpList_plain hgd fun K hK => ?_
  unfold Oper.wp execOp
  simp only [ho, resolve, invoke, builtin, Sem.run_bind, Sem.run_pure, Result.andThen_ok, List.map_toArray, List.map_cons, List.map_nil, hs, hx, hr]
  exact hK _ _ h
theorem twin_facts {w : World} {B g c : Nat} {es : List Pt} (o : Owns w B (.slice (some ⟨g, 0, none⟩) (es.length + 1) c) (es ++ [mk])) : Lies w g 0 (es ++ [mk]) ∧ B ≤ g ∧ g < w.heap.size := by
  have hel : (es ++ [mk]).length = es.length + 1 := by simp
  rw [← hel] at o
  obtain ⟨g1, c1, hv, _, h1, h2⟩ := owns_block o (by simp)
  simp only [Value.slice.injEq, Option.some.injEq, Addr.mk.injEq] at hv
  rw [hv.1.1]
  rw [hv.1.1] at o
  exact ⟨o.lies, h1, h2⟩
set_option maxRecDepth 100000 in
set_option maxHeartbeats 8000000 in
theorem twin19 (p : Option Addr) (es : List Pt) (cp : Nat) (w : World) (hnil : p = none → cp = 0) (hl : es.length ≤ 90000) (h : Has w p es) : Calls Try.prog 19 #[.slice p es.length cp] w fun e w' => ∃ g c, e = .returned (.slice (some ⟨g, 0, none⟩) es.length c) ∧ Lies w' g 0 (es ++ [mk]) ∧ es.length + 1 ≤ c ∧ Below w.heap.size w w' := by
  have hel : (es ++ [mk]).length = es.length + 1 := by simp
  obtain ⟨v1, D1, e1, o1, gr1⟩ := append_prs (w := w) (base := w.heap.size) (v := .slice none 0 0) (l := []) (Owns.nil _ _) p cp es hnil h (Nat.le_refl _) (by simp; omega)
  have hb1 : Below w.heap.size w D1 := below_grown (w := w) (Below.refl _ _) (Owns.nil w w.heap.size) (Nat.le_refl _) (Nat.le_refl _) gr1
  rw [List.nil_append] at o1
  obtain ⟨q, c, rfl, _, _, _, _⟩ := o1.form
  have PT := pt18
  go_enter Try.func19, Try.ntmps19
  go_wp2_with (first | (at_builtin; refine wpList_run_append (by rfl) (.const (.slice none 0 0)) (.tmp 3) 27 (by rfl) 27 (by rfl) (.slice none 0 0) (.slice p es.length cp) (.slice q es.length c) D1 (by rfl) (by rfl) e1 ?_))
  refine (PT _ _ _).mono ?_
  rintro e w1 ⟨rfl, hb2⟩
  have o2 := o1.later hb2
  have hb12 := below_step9 hb1 hb2
  have hbA : Below w1.heap.size w1 (w1.alloc (.cells #[.int .i64 (-7), .int .i64 7] 23)) := by go_grown
  have o3 := o2.later hbA
  obtain ⟨v2, D2, e2, o4, gr2⟩ := append_prs o3 (some ⟨w1.heap.size, 0, none⟩) 1 [mk] (fun h => by cases h) (Or.inr ⟨_, _, rfl, mk_lies w1 _ rfl⟩) (Nat.le_trans hb12.size hbA.size) (by simp; omega)
  have hb3 : Below w.heap.size w D2 := below_grown (below_step9 hb12 hbA) o3 (Nat.le_refl _) (Nat.le_trans hb12.size hbA.size) gr2
  obtain ⟨g2, c2, rfl, hc2, _, _⟩ := owns_block o4 (by simp)
  rw [hel] at o4 e2 hc2
  simp only [List.length_cons, List.length_nil, Nat.zero_add] at e2
  obtain ⟨hlies, _, _⟩ := twin_facts o4
  have HLI := hide hlies
  have HB3 := hide hb3
  have k1 : (es.length : Int) ≤ c2 := by omega
  have k3 : (0 : Int) ≤ es.length := by omega
  clear hlies hb3 gr2 gr1 o1 o2 o3 o4 e1 hb1 hb2 hb12 hbA PT hel
  go_wp2_with (first | (at_builtin; refine wpList_run_append (by rfl) (.tmp 4) (.tmp 6) 27 (by rfl) 27 (by rfl) (.slice q es.length c) (.slice (some ⟨w1.heap.size, 0, none⟩) 1 1) (.slice (some ⟨g2, 0, none⟩) (es.length + 1) c2) D2 (by rfl) (by rfl) e2 ?_))
  go_ret
  exact ⟨g2, c2, rfl, HLI.out, hc2, HB3.out⟩
theorem below_drew4 (w : World) : Below w.heap.size w w.drew := by go_grown
theorem lies_left {w : World} {b off : Nat} {a c : List Pt} (h : Lies w b off (a ++ c)) : Lies w b off a := fun j hj => by
  have := h j (by rw [List.length_append]; omega)
  rw [at_append_lt hj] at this
  exact this
set_option maxRecDepth 100000 in
set_option maxHeartbeats 8000000 in
theorem kept21 (g c : Nat) (p : Option Addr) (es : List Pt) (cp : Nat) (w : World) (hl : es.length ≤ 90000) (hc : es.length + 1 ≤ c) (ht : Lies w g 0 (es ++ [mk])) (h : Has w p es) : Calls Try.prog 21 #[.slice (some ⟨g, 0, none⟩) es.length c, .slice p es.length cp] w fun e w' => e = .returned (.bool true) ∧ Below w.heap.size w w' := by
  have HT := hide ht
  have HH := hide h
  clear ht h
  go_enter Try.func21, Try.ntmps21
  go_wp2_with fail
  go_loopw [5] (fun t wr => ∃ i : Nat, i ≤ es.length ∧ t = .int .i64 i ∧ Hid (Below w.heap.size w wr)) (fun t _ => es.length - (intOf t).toNat)
  case atStart => exact ⟨0, by omega, rfl, Below.refl _ _⟩
  case round =>
    obtain ⟨i, hi, rfl, HB⟩ := hrel
    by_cases hlt : i < es.length
    · rcases HH.out.later HB.out with h | ⟨b, off, rfl, hL⟩
      · subst h; simp at hlt
      obtain ⟨c0, c1⟩ := hL i hlt
      obtain ⟨d0, d1⟩ := (lies_left HT.out).later HB.out i hlt
      obtain ⟨y, hy⟩ : ∃ y, at' es i = y := ⟨_, rfl⟩
      rw [hy] at c0 c1 d0 d1
      rw [Nat.zero_add] at d0 d1
      have heq : ∀ w, (Op.equalIn 10000 23 (pv y.x y.y) (pv y.x y.y)).run Try.prog w = .ok true w := fun w => by
        have := eq23 y y w
        rw [decide_eq_true rfl] at this
        exact this
      have i1 : (i : Int) < es.length := by omega
      have i2 : (0 : Int) ≤ i := by omega
      clear hL hy
      go_wp2_with fail
      go_region
      go_wp2
      go_roundw
      case rel => exact ⟨i + 1, by omega, by go_num, Below.trans HB.out ((below_drew4 _).mono HB.out.size)⟩
      case measure => simp [intOf]; omega
    · have hin : i = es.length := by omega
      subst hin
      have hm := HT.out.later HB.out es.length (by simp)
      rw [at_append_eq, Nat.zero_add] at hm
      have m0 : wr.cell? ⟨g, es.length * 2, none⟩ = some (.int .i64 (-7)) := hm.1
      have m1 : wr.cell? ⟨g, es.length * 2 + 1, none⟩ = some (.int .i64 7) := hm.2
      have f4 := cell_regrown m0
      have f5 := cell_regrown m1
      have CP : ∀ x y dd os, Calls Try.prog 18 #[.int .i64 x, .int .i64 y] (grow (redrawn wr dd) os) fun e w'' => e = .returned (pv x y) ∧ ∃ p : Regrown, w'' = grow (redrawn wr p.d) p.os := fun x y dd os => Calls.regrown_of (pt18 x y _)
      have heq : ∀ w, (Op.equalIn 10000 23 (.agg #[.int .i64 (-7), .int .i64 7]) (.agg #[.int .i64 (-7), .int .i64 7])).run Try.prog w = .ok true w := fun w => by
        have := eq23 mk mk w
        rw [decide_eq_true rfl] at this
        exact this
      have k1 : (es.length : Int) + 1 ≤ c := by omega
      have k2 : (0 : Int) ≤ es.length := by omega
      have k3 : (es.length : Int) < (es.length : Int) + 1 := by omega
      clear hm m0 m1
      go_upto_region 6 with fail
      refine wp_region_quiet_below (by kernel_rfl) (by kernel_rfl) ?_
      repeat (go_big_quiet_step (first | with_reducible exact CP _ _ _ _))
      refine wpQuiet_nil ?_
      intro x1 hw'
      have hbx1 : Below wr.heap.size wr x1 := by
        obtain ⟨⟨dq, osq⟩, hw''⟩ := hw'
        rw [hw'']
        exact below_regrown wr dq osq
      clear hw' f4 f5 CP
      go_wp2_with fail
      go_ret
      exact ⟨rfl, below_step9 HB.out hbx1⟩
end Go.Proofs.Ytgnojjbdioldbaa
