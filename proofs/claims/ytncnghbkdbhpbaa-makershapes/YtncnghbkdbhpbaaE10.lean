/- Triangles in memory; Stack, in every world. -/
import Derived.Test.YtncnghbkdbhpbaaE9
namespace Go.Proofs.Ytncnghbkdbhpbaa
open Go.RowKit Go.Sort
open Go

structure Tr where
  a : Int
  b : Int
  c : Int
  deriving DecidableEq, Inhabited
def tat (ts : List Tr) (j : Nat) : Tr := ts.getD j ⟨0, 0, 0⟩
def tcells : List Tr → List Value
  | [] => []
  | p :: r => .int .i64 p.a :: .int .i64 p.b :: .int .i64 p.c :: tcells r
theorem tcells_length : ∀ ts : List Tr, (tcells ts).length = ts.length * 3
  | [] => rfl
  | p :: r => by simp only [tcells, List.length_cons, tcells_length r]; omega
theorem tcells_append : ∀ ps qs : List Tr, tcells (ps ++ qs) = tcells ps ++ tcells qs
  | [], _ => rfl
  | p :: r, qs => by simp only [List.cons_append, tcells, tcells_append r qs]
theorem tcells_at : ∀ (ts : List Tr) (j : Nat), j < ts.length → (tcells ts)[j * 3]? = some (.int .i64 (tat ts j).a) ∧ (tcells ts)[j * 3 + 1]? = some (.int .i64 (tat ts j).b) ∧ (tcells ts)[j * 3 + 2]? = some (.int .i64 (tat ts j).c)
  | [], j, h => by simp at h
  | p :: r, 0, _ => ⟨rfl, rfl, rfl⟩
  | p :: r, j + 1, h => by
    have := tcells_at r j (by simpa using h)
    have e : (j + 1) * 3 = j * 3 + 1 + 1 + 1 := by omega
    rw [e]
    exact this
theorem tcells_set : ∀ (ts : List Tr) (j : Nat) (q : Tr), (((tcells ts).set (j * 3) (.int .i64 q.a)).set (j * 3 + 1) (.int .i64 q.b)).set (j * 3 + 2) (.int .i64 q.c) = tcells (ts.set j q)
  | [], j, q => by simp [tcells]
  | p :: r, 0, q => by simp [tcells]
  | p :: r, j + 1, q => by
    have := tcells_set r j q
    have e : (j + 1) * 3 = j * 3 + 1 + 1 + 1 := by omega
    rw [e]
    simp only [tcells, List.set_cons_succ]
    rw [this]
def TOwns (w : World) (base : Nat) (v : Value) (ts : List Tr) : Prop := w.ownsRow base 67 3 v ts.length (tcells ts)
theorem TOwns.at {w : World} {base g cap : Nat} {ts : List Tr} (h : TOwns w base (.slice (some ⟨g, 0, none⟩) ts.length cap) ts) (j : Nat) (hj : j < ts.length) : w.cell? ⟨g, j * 3, none⟩ = some (.int .i64 (tat ts j).a) ∧ w.cell? ⟨g, j * 3 + 1, none⟩ = some (.int .i64 (tat ts j).b) ∧ w.cell? ⟨g, j * 3 + 2, none⟩ = some (.int .i64 (tat ts j).c) ∧ w.frozen? ⟨g, j * 3, none⟩ = false ∧ w.frozen? ⟨g, j * 3 + 1, none⟩ = false ∧ w.frozen? ⟨g, j * 3 + 2, none⟩ = false := by
  obtain ⟨k1, k2, k3⟩ := tcells_at ts j hj
  refine ⟨?_, ?_, ?_, World.ownsRow.frozenAt h _, World.ownsRow.frozenAt h _, World.ownsRow.frozenAt h _⟩
  · rw [World.ownsRow.cellAt h (j * 3) (by omega)]; exact k1
  · rw [World.ownsRow.cellAt h (j * 3 + 1) (by omega)]; exact k2
  · rw [World.ownsRow.cellAt h (j * 3 + 2) (by omega)]; exact k3
theorem TOwns.set {w : World} {base g cap : Nat} {ts : List Tr} (h : TOwns w base (.slice (some ⟨g, 0, none⟩) ts.length cap) ts) (j : Nat) (q : Tr) : TOwns (((w.setCell ⟨g, j * 3, none⟩ (.int .i64 q.a)).setCell ⟨g, j * 3 + 1, none⟩ (.int .i64 q.b)).setCell ⟨g, j * 3 + 2, none⟩ (.int .i64 q.c)) base (.slice (some ⟨g, 0, none⟩) (ts.set j q).length cap) (ts.set j q) := by
  have k := (World.ownsRow.stored (World.ownsRow.stored (World.ownsRow.stored h (j * 3) (.int .i64 q.a)).1 (j * 3 + 1) (.int .i64 q.b)).1 (j * 3 + 2) (.int .i64 q.c)).1
  unfold TOwns
  rw [← tcells_set, List.length_set]
  exact k
theorem towns_more {w : World} {base : Nat} {v : Value} {ts : List Tr} {p q : Tr} (h : w.ownsRow base 67 3 v (ts.length + 2) (tcells ts ++ [.int .i64 p.a, .int .i64 p.b, .int .i64 p.c, .int .i64 q.a, .int .i64 q.b, .int .i64 q.c])) : TOwns w base v (ts ++ [p, q]) := by
  unfold TOwns
  rw [tcells_append, List.length_append]
  exact h
theorem TOwns.form {w : World} {base : Nat} {v : Value} {ts : List Tr} (h : TOwns w base v ts) (h0 : 0 < ts.length) : ∃ g c, v = .slice (some ⟨g, 0, none⟩) ts.length c ∧ base ≤ g ∧ ∃ cur, w.heap[g]? = some (.cells cur 67 (0, 0)) := by
  obtain ⟨_, ⟨_, k1⟩ | ⟨g2, c2, cur2, k1, k2, k3, _⟩⟩ := h
  · omega
  · exact ⟨g2, c2, k1, k2, _, k3⟩
theorem row_apart {w : World} {g : Nat} {cur : Array Value} {ty : TypeId} {fz : Nat × Nat} {base e size n : Nat} {v : Value} {xs : List Value} (h : w.heap[g]? = some (.cells cur ty fz)) (o : w.ownsRow base e size v n xs) (he : e ≠ ty) : v.ownBlock ≠ some g := by
  intro hc
  obtain ⟨_, ⟨k1, _⟩ | ⟨g2, c2, cur2, k1, _, k2, _⟩⟩ := o
  · rw [k1] at hc; simp [Value.ownBlock] at hc
  · rw [k1] at hc
    simp only [Value.ownBlock, Option.some.injEq] at hc
    rw [hc, h] at k2
    cases k2
    exact he rfl
/-- A store into a block of triangles leaves a net and a source. -/
theorem GB.tri {w : World} {k B g i : Nat} {n : Int} {es : List Pt} {cur : Array Value} (h : GB w k B n es) (hg : w.heap[g]? = some (.cells cur 67 (0, 0))) (v : Value) : GB (w.setCell ⟨g, i, none⟩ v) k B n es := by
  obtain ⟨h0, p, c, h1, h2⟩ := h
  exact ⟨h0, p, c, ownsRow_setCell_other (a := ⟨g, i, none⟩) h1 (row_apart hg h1 (by decide)) v, ownsRow_setCell_other (a := ⟨g, i, none⟩) h2 (row_apart hg h2 (by decide)) v⟩
theorem SrcBox.tri {w : World} {k g i : Nat} {s : Int} {cur : Array Value} (h : SrcBox w k s) (hg : w.heap[g]? = some (.cells cur 67 (0, 0))) (v : Value) : SrcBox (w.setCell ⟨g, i, none⟩ v) k s := by
  have hne : k ≠ g := by
    rintro rfl
    rw [show w.heap[k]? = _ from h] at hg
    cases hg
  show (w.setCell ⟨g, i, none⟩ v).heap[k]? = _
  rw [Below.heap_setCell _ _ _ _ (by exact hne)]
  exact h
theorem tri_set {w : World} {g i : Nat} {cur : Array Value} (hg : w.heap[g]? = some (.cells cur 67 (0, 0))) (v : Value) : ∃ cur', (w.setCell ⟨g, i, none⟩ v).heap[g]? = some (.cells cur' 67 (0, 0)) := ⟨_, heap_setCell_same w g i cur 67 v hg⟩
theorem GB.grown {w w' : World} {k B B2 : Nat} {n : Int} {es : List Pt} {v : Value} {ts : List Tr} (h : GB w k B n es) (o : TOwns w B2 v ts) (hg : w.grownBy w' v.ownBlock) : GB w' k B n es := by
  obtain ⟨h0, p, c, h1, h2⟩ := h
  refine ⟨h0, p, c, World.ownsRow.kept h1 hg ?_, World.ownsRow.kept h2 hg ?_⟩
  · refine Or.inr fun hc => ?_
    obtain ⟨cur, hk⟩ := SBox.block h1
    exact row_apart hk o (by decide) hc.symm
  · by_cases hp : (Value.slice p es.length c).ownBlock = none
    · exact Or.inl hp
    · refine Or.inr fun hc => ?_
      obtain ⟨_, ⟨k1, _⟩ | ⟨g2, c2, cur2, k1, _, k2, _⟩⟩ := h2
      · rw [k1] at hp; simp [Value.ownBlock] at hp
      · rw [k1] at hc
        exact row_apart k2 o (by decide) hc.symm
theorem SrcBox.grown {w w' : World} {k B2 : Nat} {s : Int} {v : Value} {ts : List Tr} (h : SrcBox w k s) (o : TOwns w B2 v ts) (hg : w.grownBy w' v.ownBlock) : SrcBox w' k s := by
  have hk : w.heap[k]? = _ := h
  show w'.heap[k]? = _
  rw [hg.block k (Array.getElem?_eq_some_iff.1 hk).1 (fun hc => row_apart hk o (by decide) hc.symm)]
  exact h
theorem TOwns.later {w w' : World} {base : Nat} {v : Value} {ts : List Tr} (h : TOwns w base v ts) (hb : Below w.heap.size w w') : TOwns w' base v ts :=
  World.ownsRow.kept h (grown_below hb) (by cases h' : v.ownBlock <;> simp)
theorem info67 : (Try.prog.info? 67).map (fun i => (i.zero, i.size, i.bytes)) = some (some (.agg #[.int .i64 0, .int .i64 0, .int .i64 0]), 3, 24) := by kernel_rfl
/-- A source drawn from: triangles stay. -/
theorem TOwns.src {w : World} {B sb : Nat} {s : Int} {v : Value} {ts : List Tr} (h : TOwns w B v ts) (hs : SrcBox w sb s) (u : Value) : TOwns (w.setCell ⟨sb, 0, none⟩ u) B v ts := ownsRow_setCell_other (a := ⟨sb, 0, none⟩) h (hs.apart h (by decide)) u

structure Stk where
  st : Int
  ts : List Tr
  es : List Pt
def stk (seed : Int) : Nat → Stk
  | 0 => ⟨seed, [⟨0, 1, 2⟩, ⟨0, 2, 1⟩], [⟨0, 1⟩, ⟨1, 2⟩, ⟨2, 0⟩]⟩
  | j + 1 =>
    let s := stk seed j
    let x := tat s.ts (drawS (nextS s.st) s.ts.length)
    ⟨nextS s.st, s.ts.set (drawS (nextS s.st) s.ts.length) ⟨x.a, x.b, 3 + j⟩ ++ [⟨x.b, x.c, 3 + j⟩, ⟨x.c, x.a, 3 + j⟩], s.es ++ [⟨3 + j, x.a⟩] ++ [⟨3 + j, x.b⟩] ++ [⟨3 + j, x.c⟩]⟩
theorem stk_length (seed : Int) (j : Nat) : (stk seed j).ts.length = 2 + 2 * j ∧ (stk seed j).es.length = 3 + 3 * j := by
  induction j with
  | zero => exact ⟨rfl, rfl⟩
  | succ k ih => simp only [stk, List.length_append, List.length_set, List.length_cons, List.length_nil, ih.1, ih.2]; omega
end Go.Proofs.Ytncnghbkdbhpbaa
