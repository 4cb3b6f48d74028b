/- Sub, in every world. -/
import Derived.Test.YtllkadgpkbaghaaN4
namespace Go.Proofs.Ytllkadgpkbaghaa
open Go.RowKit Go.Sort
open Go


/-- A net's box of one's own. -/
def NOwn (V : World) (g : Nat) (n : Int) (p : Option Addr) (l c : Nat) : Prop := V.cell? ⟨g, 0, none⟩ = some (.int .i64 n) ∧ V.cell? ⟨g, 1, none⟩ = some (.slice p l c) ∧ V.frozen? ⟨g, 0, none⟩ = false ∧ V.frozen? ⟨g, 1, none⟩ = false
abbrev nbx (n : Int) (p : Option Addr) (l c : Nat) : Obj := .cells #[.int .i64 n, .slice p l c] 24
theorem laterF {w w' : World} {a : Addr} {v : Value} {f : Bool} (hb : Below w.heap.size w w') (h : w.cell? a = some v) (k : w.frozen? a = f) : w'.frozen? a = f := by
  have hl : a.block < w.heap.size := block_lt_of_cell h
  rw [hb.frozen hl]
  exact k
theorem NOwn.later {W W' : World} {g : Nat} {n : Int} {p : Option Addr} {l c : Nat} (h : NOwn W g n p l c) (hb : Below W.heap.size W W') : NOwn W' g n p l c :=
  ⟨Ytllkadgpkbaghaa.later hb h.1, Ytllkadgpkbaghaa.later hb h.2.1, laterF hb h.1 h.2.2.1, laterF hb h.2.1 h.2.2.2⟩
theorem NOwn.set {W : World} {g : Nat} {n : Int} {p : Option Addr} {l c : Nat} (h : NOwn W g n p l c) (n' : Int) (p' : Option Addr) (l' c' : Nat) : NOwn ((W.setCell ⟨g, 0, none⟩ (.int .i64 n')).setCell ⟨g, 1, none⟩ (.slice p' l' c')) g n' p' l' c' := by
  obtain ⟨q0, q1, q2, q3⟩ := h
  refine ⟨?_, ?_, ?_, ?_⟩
  all_goals go_cell
theorem NOwn.other {W : World} {g : Nat} {n : Int} {p : Option Addr} {l c : Nat} (h : NOwn W g n p l c) {k i : Nat} (hne : k ≠ g) (v : Value) : NOwn (W.setCell ⟨k, i, none⟩ v) g n p l c := by
  obtain ⟨q0, q1, q2, q3⟩ := h
  have ne : ∀ j, (⟨k, i, none⟩ : Addr) ≠ ⟨g, j, none⟩ := fun j e => by injection e with e1 e2; exact hne e1
  exact ⟨by rw [World.cell?_setCell_other _ _ _ _ (ne 0)]; exact q0, by rw [World.cell?_setCell_other _ _ _ _ (ne 1)]; exact q1, by rw [World.frozen?_setCell]; exact q2, by rw [World.frozen?_setCell]; exact q3⟩
theorem load24 {V : World} {g : Nat} {n : Int} {p : Option Addr} {l c : Nat} (h : NOwn V g n p l c) : (loadVar 24 ⟨g, 0, none⟩).run Try.prog V = .ok (nv n p l c) V := by
  obtain ⟨q0, q1, _, _⟩ := h
  have l0 : (load ⟨g, 0, none⟩).run Try.prog V = .ok (.int .i64 n) V := by simp [go_sem, q0]
  have l1 : (load ⟨g, 1, none⟩).run Try.prog V = .ok (.slice p l c) V := by simp [go_sem, q1]
  simp only [loadVar, Sem.run_bind, Try.isAgg24, Result.andThen_ok, if_true, Try.sizeOf24]
  simp only [loadCells, go_sem]
  simp only [Sem.run_bind, Nat.zero_add, l0, l1, Result.andThen_ok, Sem.run_pure]
  rfl
theorem asA (V : World) (a : Addr) : (asAddr (.pointer (some a))).run Try.prog V = .ok a V := rfl
theorem results_cT {fn : Func} {p u : Tmp} {ty : TypeId} (h : fn.results = #[.cell p ty, .tmp u]) (tmps : Array Value) (P : Program) (w : World) :
    (results fn tmps).run P w = ((asAddr (tmps.getD p undef)).run P w).andThen fun a w₁ => ((loadVar ty a).run P w₁).andThen fun v w₂ => .ok (.tuple #[v, tmps.getD u undef]) w₂ := by
  simp only [results, h]
  simp [Sem.run_bind, Result.andThen]
theorem results_cTT {fn : Func} {p u v : Tmp} {ty : TypeId} (h : fn.results = #[.cell p ty, .tmp u, .tmp v]) (tmps : Array Value) (P : Program) (w : World) :
    (results fn tmps).run P w = ((asAddr (tmps.getD p undef)).run P w).andThen fun a w₁ => ((loadVar ty a).run P w₁).andThen fun x w₂ => .ok (.tuple #[x, tmps.getD u undef, tmps.getD v undef]) w₂ := by
  simp only [results, h]
  simp [Sem.run_bind, Result.andThen]
theorem ret_net {fn : Func} {c u : Tmp} (hr : fn.results = #[.cell c 24, .tmp u]) {tmps : Array Value} {V : World} {g : Nat} {n : Int} {p : Option Addr} {l k : Nat} {e : Value} (h2 : tmps.getD c undef = .pointer (some ⟨g, 0, none⟩)) (h4 : tmps.getD u undef = e) (h : NOwn V g n p l k) :
    (results fn tmps).run Try.prog V = .ok (.tuple #[nv n p l k, e]) V := by
  rw [results_cT hr, h2, h4, asA, Result.andThen_ok, load24 h, Result.andThen_ok]
theorem ret_net3 {fn : Func} {c u v : Tmp} (hr : fn.results = #[.cell c 24, .tmp u, .tmp v]) {tmps : Array Value} {V : World} {g : Nat} {n : Int} {p : Option Addr} {l k : Nat} {e f : Value} (h2 : tmps.getD c undef = .pointer (some ⟨g, 0, none⟩)) (h4 : tmps.getD u undef = e) (h5 : tmps.getD v undef = f) (h : NOwn V g n p l k) :
    (results fn tmps).run Try.prog V = .ok (.tuple #[nv n p l k, e, f]) V := by
  rw [results_cTT hr, h2, h4, h5, asA, Result.andThen_ok, load24 h, Result.andThen_ok]

/-- As many numbers as are not -1. -/
theorem plN_count {l : List Int} {m : Nat} : ∀ {i : Nat}, (∀ j, j < i → chk l m j = 0) → (plN l m i).countP (fun x => decide (x ≠ -1)) = i
  | 0, _ => by simp [plN]
  | i + 1, h => by
    have ih := plN_count (l := l) (m := m) (i := i) (fun j hj => h j (by omega))
    have hc := chk_zero (h i (by omega))
    have hl := plN_length l m i
    obtain ⟨x, hx⟩ : ∃ x : Nat, iat l i = x := ⟨(iat l i).toNat, by omega⟩
    have hxm : x < m := by omega
    have hf := (plN_free (l := l) (m := m) (i := i) (x := x) (fun j hj => h j (by omega)) hxm).2 (fun k hk => by rw [← hx]; exact hc.2 k hk)
    simp only [plN]
    rw [hx, Int.toNat_natCast, List.countP_set (by rw [hl]; exact hxm), ih]
    have e : (plN l m i)[x]'(by rw [hl]; exact hxm) = -1 := by
      unfold iat at hf
      rw [List.getD_eq_getElem?_getD, List.getElem?_eq_getElem (by rw [hl]; exact hxm)] at hf
      exact hf
    rw [e]
    simp
theorem chosen_le {l : List Int} {m : Nat} (h : errL l m = 0) : l.length ≤ m := by
  have k := plN_count (errN_all _ h)
  have := List.countP_le_length (p := fun x => decide (x ≠ -1)) (l := plN l m l.length)
  rw [plN_length] at this
  omega
theorem chosen_in {l : List Int} {m : Nat} (h : errL l m = 0) : ∀ j, j < l.length → 0 ≤ iat l j ∧ iat l j < m := fun j hj => (chk_zero (errN_all _ h j hj)).1

theorem below_drew (w : World) : Below w.heap.size w w.drew := by go_grown
theorem owns_base {w : World} {b b' : Nat} {e : TypeId} {size : Nat} {v : Value} {n : Nat} {xs : List Value} (h : w.ownsRow b e size v n xs) (hb : b' ≤ b) : w.ownsRow b' e size v n xs := by
  obtain ⟨h1, h2 | ⟨g, cap, cur, rfl, h3, h4⟩⟩ := h
  · exact ⟨h1, Or.inl h2⟩
  · exact ⟨h1, Or.inr ⟨g, cap, cur, rfl, Nat.le_trans hb h3, h4⟩⟩
theorem PRow.base {w : World} {b b' g n : Nat} {ps : List Pt} (h : PRow w b g n ps) (hb : b' ≤ b) : PRow w b' g n ps := ⟨h.1, owns_base h.2 hb⟩
theorem IRow.base {w : World} {b b' g n : Nat} {l : List Int} (h : IRow w b g n l) (hb : b' ≤ b) : IRow w b' g n l := ⟨h.1, owns_base h.2 hb⟩
theorem IOwns.base {w : World} {b b' : Nat} {v : Value} {l : List Int} (h : IOwns w b v l) (hb : b' ≤ b) : IOwns w b' v l := owns_base h hb
theorem prow_other {w : World} {b g n : Nat} {ps : List Pt} (h : PRow w b g n ps) {k i : Nat} (hne : k ≠ g) (v : Value) : PRow (w.setCell ⟨k, i, none⟩ v) b g n ps := ⟨h.1, ownsRow_setCell_other h.2 (fun e => hne (by have : some g = some k := e; injection this with this; exact this.symm)) v⟩
theorem irow_other {w : World} {b g n : Nat} {ps : List Int} (h : IRow w b g n ps) {k i : Nat} (hne : k ≠ g) (v : Value) : IRow (w.setCell ⟨k, i, none⟩ v) b g n ps := ⟨h.1, ownsRow_setCell_other h.2 (fun e => hne (by have : some g = some k := e; injection this with this; exact this.symm)) v⟩
def subE (n : Int) (es : List Pt) (l : List Int) : Int := if netB n es then errL l es.length else 1
def SubPost (n : Int) (es : List Pt) (l : List Int) (w : World) (e : Ending) (w' : World) : Prop :=
  (subE n es l = 0 ∧ ∃ g, e = .returned (.tuple #[nv n (some ⟨g, 0, none⟩) l.length l.length, .int .i64 0]) ∧ PRow w' w.heap.size g l.length (pick es l)) ∨ (subE n es l ≠ 0 ∧ e = .returned (.tuple #[nv 0 none 0 0, .int .i64 (subE n es l)]))
theorem two_nets (w : World) (n : Int) (p : Option Addr) (l c : Nat) : ∃ W, W = (w.alloc (nbx n p l c)).alloc (nbx 0 none 0 0) ∧ Below w.heap.size w W ∧ NOwn W w.heap.size n p l c ∧ NOwn W (w.heap.size + 1) 0 none 0 0 :=
  ⟨_, rfl, by go_grown, ⟨by go_cell, by go_cell, by simp [go_sem], by simp [go_sem]⟩, by go_cell, by go_cell, by simp [go_sem], by simp [go_sem]⟩

end Go.Proofs.Ytllkadgpkbaghaa
