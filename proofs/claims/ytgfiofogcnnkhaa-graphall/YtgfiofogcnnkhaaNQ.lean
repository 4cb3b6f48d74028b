/- Rows that a call makes; a net in its box; slices.Clone of numbers. -/
import Derived.Test.YtgfiofogcnnkhaaGP
namespace Go.Proofs.Ytgfiofogcnnkhaa
open Go.RowKit Go.Sort
open Go

theorem IOwns.frozen {w : World} {base g cap : Nat} {l : List Int} (h : IOwns w base (.slice (some ⟨g, 0, none⟩) l.length cap) l) (j : Nat) : w.frozen? ⟨g, j, none⟩ = false := World.ownsRow.frozenAt h j
theorem IOwns.at_ {w : World} {base g cap : Nat} {l : List Int} (h : IOwns w base (.slice (some ⟨g, 0, none⟩) l.length cap) l) {j : Nat} (hj : j < l.length) : w.cell? ⟨g, j, none⟩ = some (.int .i64 (iat l j)) := by
  have := h.lies j hj
  rw [Nat.zero_add] at this
  exact this
/-- n numbers in block g of one's own. -/
def IRow (w : World) (base g n : Nat) (l : List Int) : Prop := l.length = n ∧ IOwns w base (.slice (some ⟨g, 0, none⟩) l.length n) l
theorem IRow.cell {w : World} {base g n : Nat} {l : List Int} (h : IRow w base g n l) {j : Nat} (hj : j < n) : w.cell? ⟨g, j, none⟩ = some (.int .i64 (iat l j)) ∧ w.frozen? ⟨g, j, none⟩ = false := ⟨h.2.at_ (by rw [h.1]; exact hj), h.2.frozen j⟩
theorem IRow.set {w : World} {base g n : Nat} {l : List Int} (h : IRow w base g n l) (j : Nat) (x : Int) : IRow (w.setCell ⟨g, j, none⟩ (.int .i64 x)) base g n (l.set j x) := ⟨by rw [List.length_set]; exact h.1, h.2.set j x⟩
theorem IRow.later {w w' : World} {base g n : Nat} {l : List Int} (h : IRow w base g n l) (hb : Below w.heap.size w w') : IRow w' base g n l := ⟨h.1, h.2.later hb⟩
theorem IRow.lt {w : World} {base g n : Nat} {l : List Int} (h : IRow w base g n l) : base ≤ g ∧ g < w.heap.size := World.ownsRow.lt h.2 g rfl
theorem IRow.owns {w : World} {base g n : Nat} {l : List Int} (h : IRow w base g n l) : IOwns w base (.slice (some ⟨g, 0, none⟩) n n) l := by
  have := h.2
  rw [h.1] at this
  exact this
theorem irow_made {w : World} {base g n : Nat} (h : w.ownsRow base 3 1 (.slice (some ⟨g, 0, none⟩) n n) n (madeCells #[.int .i64 0] n).toList) : IRow w base g n (List.replicate n 0) := by
  rw [toList_madeCells_one] at h
  refine ⟨List.length_replicate, ?_⟩
  unfold IOwns
  rw [List.length_replicate, icells_zero]
  exact h
theorem below_made {w w' : World} (h : w.grownBy w' none) : Below w.heap.size w w' := ⟨h.os, h.tape, h.output, h.size, fun k hk => h.block k hk (by simp)⟩

theorem iat_set (l : List Int) (j k : Nat) (x : Int) (hk : k < l.length) : iat (l.set j x) k = if j = k then x else iat l k := by
  unfold iat
  rw [List.getD_eq_getElem?_getD, List.getD_eq_getElem?_getD, List.getElem?_set]
  by_cases h : j = k
  · subst h; simp [hk]
  · simp [h]
theorem iat_replicate (m k : Nat) (x : Int) (hk : k < m) : iat (List.replicate m x) k = x := by
  unfold iat
  rw [List.getD_eq_getElem?_getD, List.getElem?_replicate, if_pos hk]; rfl
/-- n pairs in block g of one's own. -/
def PRow (w : World) (base g n : Nat) (ps : List Pt) : Prop := ps.length = n ∧ Owns w base (.slice (some ⟨g, 0, none⟩) ps.length n) ps
theorem PRow.cell {w : World} {base g n : Nat} {ps : List Pt} (h : PRow w base g n ps) {j : Nat} (hj : j < n) : w.cell? ⟨g, j * 2, none⟩ = some (.int .i64 (at' ps j).x) ∧ w.cell? ⟨g, j * 2 + 1, none⟩ = some (.int .i64 (at' ps j).y) ∧ w.frozen? ⟨g, j * 2, none⟩ = false ∧ w.frozen? ⟨g, j * 2 + 1, none⟩ = false := by
  have := h.2.lies j (by rw [h.1]; exact hj)
  rw [Nat.zero_add] at this
  exact ⟨this.1, this.2, World.ownsRow.frozenAt h.2 _, World.ownsRow.frozenAt h.2 _⟩
theorem PRow.set {w : World} {base g n : Nat} {ps : List Pt} (h : PRow w base g n ps) (j : Nat) (q : Pt) : PRow ((w.setCell ⟨g, j * 2, none⟩ (.int .i64 q.x)).setCell ⟨g, j * 2 + 1, none⟩ (.int .i64 q.y)) base g n (ps.set j q) := ⟨by rw [List.length_set]; exact h.1, h.2.set j q⟩
theorem PRow.later {w w' : World} {base g n : Nat} {ps : List Pt} (h : PRow w base g n ps) (hb : Below w.heap.size w w') : PRow w' base g n ps := ⟨h.1, h.2.later hb⟩
theorem PRow.lt {w : World} {base g n : Nat} {ps : List Pt} (h : PRow w base g n ps) : base ≤ g ∧ g < w.heap.size := World.ownsRow.lt h.2 g rfl
theorem PRow.has {w : World} {base g n : Nat} {ps : List Pt} (h : PRow w base g n ps) : Has w (some ⟨g, 0, none⟩) ps := Or.inr ⟨g, 0, rfl, h.2.lies⟩
theorem made_pairs (n : Nat) : (madeCells #[Value.int .i64 0, Value.int .i64 0] (n * 2)).toList = List.replicate (n * 2) (.int .i64 0) := by
  apply List.ext_getElem
  · simp [madeCells]
  · intro j h1 h2
    simp only [madeCells, Array.toList_map, List.getElem_map, List.getElem_replicate]
    simp only [Array.getElem_toList, Array.getElem_range]
    rcases Nat.mod_two_eq_zero_or_one j with h | h <;> simp [h]
theorem prow_made {w : World} {base g n : Nat} (h : w.ownsRow base 68 2 (.slice (some ⟨g, 0, none⟩) n n) n (madeCells #[.int .i64 0, .int .i64 0] (n * 2)).toList) : PRow w base g n (List.replicate n ⟨0, 0⟩) := by
  rw [made_pairs] at h
  refine ⟨List.length_replicate, ?_⟩
  unfold Owns
  rw [List.length_replicate, cells_zero]
  exact h
/-- A net's box of one's own. -/
def NOwn (V : World) (g : Nat) (n : Int) (p : Option Addr) (l c : Nat) : Prop := V.cell? ⟨g, 0, none⟩ = some (.int .i64 n) ∧ V.cell? ⟨g, 1, none⟩ = some (.slice p l c) ∧ V.frozen? ⟨g, 0, none⟩ = false ∧ V.frozen? ⟨g, 1, none⟩ = false
abbrev nbx (n : Int) (p : Option Addr) (l c : Nat) : Obj := .cells #[.int .i64 n, .slice p l c] 24
theorem laterF {w w' : World} {a : Addr} {v : Value} {f : Bool} (hb : Below w.heap.size w w') (h : w.cell? a = some v) (k : w.frozen? a = f) : w'.frozen? a = f := by
  have hl : a.block < w.heap.size := block_lt_of_cell h
  rw [hb.frozen hl]
  exact k
theorem NOwn.later {W W' : World} {g : Nat} {n : Int} {p : Option Addr} {l c : Nat} (h : NOwn W g n p l c) (hb : Below W.heap.size W W') : NOwn W' g n p l c :=
  ⟨Ytgfiofogcnnkhaa.later hb h.1, Ytgfiofogcnnkhaa.later hb h.2.1, laterF hb h.1 h.2.2.1, laterF hb h.2.1 h.2.2.2⟩
theorem NOwn.set {W : World} {g : Nat} {n : Int} {p : Option Addr} {l c : Nat} (h : NOwn W g n p l c) (n' : Int) (p' : Option Addr) (l' c' : Nat) : NOwn ((W.setCell ⟨g, 0, none⟩ (.int .i64 n')).setCell ⟨g, 1, none⟩ (.slice p' l' c')) g n' p' l' c' := by
  obtain ⟨q0, q1, q2, q3⟩ := h
  refine ⟨?_, ?_, ?_, ?_⟩
  all_goals go_cell
theorem NOwn.other {W : World} {g : Nat} {n : Int} {p : Option Addr} {l c : Nat} (h : NOwn W g n p l c) {k i : Nat} (hne : k ≠ g) (v : Value) : NOwn (W.setCell ⟨k, i, none⟩ v) g n p l c := by
  obtain ⟨q0, q1, q2, q3⟩ := h
  have ne : ∀ j, (⟨k, i, none⟩ : Addr) ≠ ⟨g, j, none⟩ := fun j e => by injection e with e1 e2; exact hne e1
  exact ⟨by rw [World.cell?_setCell_other _ _ _ _ (ne 0)]; exact q0, by rw [World.cell?_setCell_other _ _ _ _ (ne 1)]; exact q1, by rw [World.frozen?_setCell]; exact q2, by rw [World.frozen?_setCell]; exact q3⟩
theorem load24 {V : World} {g : Nat} {n : Int} {p : Option Addr} {l c : Nat} (h : NOwn V g n p l c) : (loadVar 24 ⟨g, 0, none⟩).run Try.prog V = .ok (nv n p l c) V := by
  obtain ⟨q0, q1, _, _⟩ := h
  have l0 : (load ⟨g, 0, none⟩).run Try.prog V = .ok (.int .i64 n) V := by simp [go_sem, q0]
  have l1 : (load ⟨g, 1, none⟩).run Try.prog V = .ok (.slice p l c) V := by simp [go_sem, q1]
  simp only [loadVar, Sem.run_bind, Try.isAgg24, Result.andThen_ok, if_true, Try.sizeOf24]
  simp only [loadCells, go_sem]
  simp only [Sem.run_bind, Nat.zero_add, l0, l1, Result.andThen_ok, Sem.run_pure]
  rfl
theorem asA (V : World) (a : Addr) : (asAddr (.pointer (some a))).run Try.prog V = .ok a V := rfl
theorem results_cT {fn : Func} {p u : Tmp} {ty : TypeId} (h : fn.results = #[.cell p ty, .tmp u]) (tmps : Array Value) (P : Program) (w : World) :
    (results fn tmps).run P w = ((asAddr (tmps.getD p undef)).run P w).andThen fun a w₁ => ((loadVar ty a).run P w₁).andThen fun v w₂ => .ok (.tuple #[v, tmps.getD u undef]) w₂ := by
  simp only [results, h]
  simp [Sem.run_bind, Result.andThen]
theorem results_cTT {fn : Func} {p u v : Tmp} {ty : TypeId} (h : fn.results = #[.cell p ty, .tmp u, .tmp v]) (tmps : Array Value) (P : Program) (w : World) :
    (results fn tmps).run P w = ((asAddr (tmps.getD p undef)).run P w).andThen fun a w₁ => ((loadVar ty a).run P w₁).andThen fun x w₂ => .ok (.tuple #[x, tmps.getD u undef, tmps.getD v undef]) w₂ := by
  simp only [results, h]
  simp [Sem.run_bind, Result.andThen]
theorem ret_net {fn : Func} {c u : Tmp} (hr : fn.results = #[.cell c 24, .tmp u]) {tmps : Array Value} {V : World} {g : Nat} {n : Int} {p : Option Addr} {l k : Nat} {e : Value} (h2 : tmps.getD c undef = .pointer (some ⟨g, 0, none⟩)) (h4 : tmps.getD u undef = e) (h : NOwn V g n p l k) :
    (results fn tmps).run Try.prog V = .ok (.tuple #[nv n p l k, e]) V := by
  rw [results_cT hr, h2, h4, asA, Result.andThen_ok, load24 h, Result.andThen_ok]
theorem ret_net3 {fn : Func} {c u v : Tmp} (hr : fn.results = #[.cell c 24, .tmp u, .tmp v]) {tmps : Array Value} {V : World} {g : Nat} {n : Int} {p : Option Addr} {l k : Nat} {e f : Value} (h2 : tmps.getD c undef = .pointer (some ⟨g, 0, none⟩)) (h4 : tmps.getD u undef = e) (h5 : tmps.getD v undef = f) (h : NOwn V g n p l k) :
    (results fn tmps).run Try.prog V = .ok (.tuple #[nv n p l k, e, f]) V := by
  rw [results_cTT hr, h2, h4, h5, asA, Result.andThen_ok, load24 h, Result.andThen_ok]

theorem owns_base {w : World} {b b' : Nat} {e : TypeId} {size : Nat} {v : Value} {n : Nat} {xs : List Value} (h : w.ownsRow b e size v n xs) (hb : b' ≤ b) : w.ownsRow b' e size v n xs := by
  obtain ⟨h1, h2 | ⟨g, cap, cur, rfl, h3, h4⟩⟩ := h
  · exact ⟨h1, Or.inl h2⟩
  · exact ⟨h1, Or.inr ⟨g, cap, cur, rfl, Nat.le_trans hb h3, h4⟩⟩
theorem PRow.base {w : World} {b b' g n : Nat} {ps : List Pt} (h : PRow w b g n ps) (hb : b' ≤ b) : PRow w b' g n ps := ⟨h.1, owns_base h.2 hb⟩
theorem IRow.base {w : World} {b b' g n : Nat} {l : List Int} (h : IRow w b g n l) (hb : b' ≤ b) : IRow w b' g n l := ⟨h.1, owns_base h.2 hb⟩
theorem IOwns.base {w : World} {b b' : Nat} {v : Value} {l : List Int} (h : IOwns w b v l) (hb : b' ≤ b) : IOwns w b' v l := owns_base h hb
theorem prow_other {w : World} {b g n : Nat} {ps : List Pt} (h : PRow w b g n ps) {k i : Nat} (hne : k ≠ g) (v : Value) : PRow (w.setCell ⟨k, i, none⟩ v) b g n ps := ⟨h.1, ownsRow_setCell_other h.2 (fun e => hne (by have : some g = some k := e; injection this with this; exact this.symm)) v⟩
theorem irow_other {w : World} {b g n : Nat} {ps : List Int} (h : IRow w b g n ps) {k i : Nat} (hne : k ≠ g) (v : Value) : IRow (w.setCell ⟨k, i, none⟩ v) b g n ps := ⟨h.1, ownsRow_setCell_other h.2 (fun e => hne (by have : some g = some k := e; injection this with this; exact this.symm)) v⟩
theorem grownBy_refl (w : World) (r : Option Nat) : w.grownBy w r := ⟨rfl, rfl, rfl, Nat.le_refl _, fun _ _ _ => rfl⟩
theorem append_ints {w : World} {base : Nat} {v : Value} {l : List Int} (ho : IOwns w base v l) (p : Option Addr) (cap : Nat) (qs : List Int) (hnil : p = none → cap = 0) (hq : IHas w p qs) (hb : base ≤ w.heap.size) (hl : l.length + qs.length ≤ 90000) :
    ∃ v' w', (Builtin.append_ #[38, 38] 38 #[v, .slice p qs.length cap]).run Try.prog w = .ok v' w' ∧ IOwns w' base v' (l ++ qs) ∧ w.grownBy w' v.ownBlock := by
  obtain ⟨i0, hi0, hz0, hz1, hz2⟩ := info_parts info3
  cases p with
  | none =>
    have hqs : qs = [] := by
      rcases hq with h | ⟨b, off, h, _⟩
      · exact h
      · cases h
    subst hqs
    rw [hnil rfl]
    exact ⟨v, w, run_append_owned_none (P := Try.prog) (w := w) base 38 38 3 i0 1 Try.underlying38 hi0 v l.length (icells l) ho, by rw [List.append_nil]; exact ho, grownBy_refl _ _⟩
  | some a =>
    have hnews : ∀ j u, (icells qs)[j]? = some u → w.cell? (a.add j) = some u := by
      rcases hq with h | ⟨b, off, h, hL⟩
      · subst h; intro j u hj; simp [icells] at hj
      · cases h
        intro j u hj
        rw [icells, List.getElem?_map] at hj
        cases hq2 : qs[j]? with
        | none => rw [hq2] at hj; cases hj
        | some x =>
          rw [hq2] at hj
          cases hj
          have hjl : j < qs.length := (List.getElem?_eq_some_iff.1 hq2).1
          rw [Go.WideShapes.add_plain, hL j hjl]
          unfold iat
          rw [List.getD_eq_getElem?_getD, hq2]
          rfl
    obtain ⟨v', w', h1, h2, h3, _⟩ := run_append_own (P := Try.prog) w base 38 38 3 i0 (.int .i64 0) 1 8 Try.underlying38 hi0 hz0 hz1 hz2 rfl (by decide) v l.length (icells l) ho a qs.length cap (icells qs) (by simp [icells]) hnews (by intro u hu; rw [icells, List.mem_map] at hu; obtain ⟨x, _, rfl⟩ := hu; rfl) (by unfold maxLen; omega) (by omega) hb
    refine ⟨v', w', h1, ?_, h3⟩
    unfold IOwns
    rw [List.length_append, show icells (l ++ qs) = icells l ++ icells qs by simp [icells]]
    exact h2
set_option maxRecDepth 100000 in
set_option maxHeartbeats 8000000 in
theorem clone61 (p : Option Addr) (l : List Int) (c : Nat) (w : World) (m : IHas w p l) (hnil : p = none → c = 0) (hl : l.length ≤ 90000) : Calls Try.prog 62 #[.slice p l.length c] w fun e w' => ∃ v, e = .returned v ∧ IOwns w' w.heap.size v l ∧ Below w.heap.size w w' := by
  have hq := Lib.run_eql_slice_nil (P := Try.prog) w 38 3 p l.length c 0 0 Try.underlying38
  cases p with
  | none =>
    have hl0 : l = [] := by
      rcases m with h | ⟨b, off, h, _⟩
      · exact h
      · cases h
    subst hl0
    clear m hnil
    simp only [List.length_nil] at hq ⊢
    go_enter Try.func62, Try.ntmps62
    go_wp2
    go_ret
    exact ⟨_, rfl, IOwns.nil _ _, Below.refl _ _⟩
  | some ad =>
    have hb0 : Below w.heap.size w (w.alloc (.cells #[] 3)) := by go_grown
    have o0 : IOwns (w.alloc (.cells #[] 3)) w.heap.size (.slice (some ⟨w.heap.size, 0, none⟩) 0 0) [] := ⟨rfl, Or.inr ⟨w.heap.size, 0, #[], rfl, Nat.le_refl _, (by show (w.heap.push _)[w.heap.size]? = _; rw [Array.getElem?_push, if_pos rfl]), Nat.le_refl _, Nat.zero_le _, rfl, rfl⟩⟩
    obtain ⟨v1, D, ea, o1, g1⟩ := append_ints o0 (some ad) c l hnil (m.later hb0) hb0.size (by simp; omega)
    rw [List.nil_append] at o1
    have HB : Hid (Below w.heap.size w D) := below_grown hb0 o0 (Nat.le_refl _) hb0.size g1
    have HO := hide o1
    clear m hnil o0 o1 g1 hb0
    go_enter Try.func62, Try.ntmps62
    go_wp2_with (at_builtin; refine wpList_run_append rfl (.tmp 5) (.tmp 6) 38 rfl 38 rfl _ _ _ D rfl rfl ea ?_)
    go_ret
    exact ⟨_, rfl, HO.out, HB.out⟩
end Go.Proofs.Ytgfiofogcnnkhaa
