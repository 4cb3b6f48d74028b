/- Stacked triangulations: the three edges of each node from the fourth on; bools in memory, row by row. -/
import Derived.Test.YtncnghbkdbhpbaaV4
namespace Go.Proofs.Ytncnghbkdbhpbaa
open Go.RowKit Go.Sort
open Go

theorem at_left {a b : List Pt} {i : Nat} (h : i < a.length) : at' (a ++ b) i = at' a i := by
  unfold at'
  rw [List.getD_eq_getElem?_getD, List.getD_eq_getElem?_getD, List.getElem?_append_left h]
theorem at_right {a b : List Pt} {i : Nat} : at' (a ++ b) (a.length + i) = at' b i := by
  unfold at'
  rw [List.getD_eq_getElem?_getD, List.getD_eq_getElem?_getD, List.getElem?_append_right (by omega)]
  simp
/-- The three edges of the node v, and that their other ends were joined. -/
def Three (es : List Pt) (v : Nat) : Prop := ∃ a b c : Nat, a < v ∧ b < v ∧ c < v ∧ at' es (3 * v - 6) = ⟨v, a⟩ ∧ at' es (3 * v - 5) = ⟨v, b⟩ ∧ at' es (3 * v - 4) = ⟨v, c⟩ ∧ Jn es a b ∧ Jn es b c ∧ Jn es c a
theorem stk_three (seed : Int) (j : Nat) : ∀ v, 3 ≤ v → v < 3 + j → Three (stk seed j).es v := by
  induction j with
  | zero => intro v h1 h2; omega
  | succ k ih =>
    intro v h1 h2
    obtain ⟨i1, _, _⟩ := stk_good seed k
    obtain ⟨b1, _⟩ := stk_in seed k
    have hlen := (stk_length seed k).2
    have hd := drawS_lt (nextS (stk seed k).st) (stk seed k).ts.length (by rw [(stk_length seed k).1]; omega)
    have hx := i1 _ (tat_mem hd)
    have hb := b1 _ (tat_mem hd)
    obtain ⟨x, hxe⟩ : ∃ x, tat (stk seed k).ts (drawS (nextS (stk seed k).st) (stk seed k).ts.length) = x := ⟨_, rfl⟩
    rw [hxe] at hx hb
    obtain ⟨_, _, _, j1, j2, j3⟩ := hx
    have hS : (stk seed (k + 1)).es = (stk seed k).es ++ [⟨3 + k, x.a⟩, ⟨3 + k, x.b⟩, ⟨3 + k, x.c⟩] := by simp only [stk, hxe, List.append_assoc, List.cons_append, List.nil_append]
    rw [hS]
    by_cases hv : v < 3 + k
    · obtain ⟨a, b, c, h3, h4, h5, e1, e2, e3, m1, m2, m3⟩ := ih v h1 hv
      exact ⟨a, b, c, h3, h4, h5, by rw [at_left (by omega)]; exact e1, by rw [at_left (by omega)]; exact e2, by rw [at_left (by omega)]; exact e3, m1.more _, m2.more _, m3.more _⟩
    · have hv2 : v = 3 + k := by omega
      subst hv2
      obtain ⟨a, ha⟩ : ∃ a : Nat, x.a = a := ⟨x.a.toNat, by omega⟩
      obtain ⟨b, hb'⟩ : ∃ b : Nat, x.b = b := ⟨x.b.toNat, by omega⟩
      obtain ⟨c, hc⟩ : ∃ c : Nat, x.c = c := ⟨x.c.toNat, by omega⟩
      simp only [ha, hb', hc] at hb j1 j2 j3 ⊢
      refine ⟨a, b, c, by omega, by omega, by omega, ?_, ?_, ?_, j1.more _, j2.more _, j3.more _⟩
      · rw [show 3 * (3 + k) - 6 = (stk seed k).es.length + 0 by omega, at_right]; simp [at']
      · rw [show 3 * (3 + k) - 5 = (stk seed k).es.length + 1 by omega, at_right]; simp [at']
      · rw [show 3 * (3 + k) - 4 = (stk seed k).es.length + 2 by omega, at_right]; simp [at']
/-- A row of bools. -/
def BRow (w : World) (B r n : Nat) (f : Nat → Bool) : Prop := w.ownsRow B 4 1 (.slice (some ⟨r, 0, none⟩) n n) n ((List.range n).map fun j => .bool (f j))
theorem BRow.cell {w : World} {B r n j : Nat} {f : Nat → Bool} (h : BRow w B r n f) (hj : j < n) : w.cell? ⟨r, j, none⟩ = some (.bool (f j)) ∧ w.frozen? ⟨r, j, none⟩ = false := by
  refine ⟨?_, World.ownsRow.frozenAt h j⟩
  rw [World.ownsRow.cellAt h j (by omega)]
  simp [hj]
theorem BRow.set {w : World} {B r n j : Nat} {f : Nat → Bool} (h : BRow w B r n f) : BRow (w.setCell ⟨r, j, none⟩ (.bool true)) B r n (fun i => f i || decide (i = j)) := by
  have k := (World.ownsRow.stored h j (.bool true)).1
  unfold BRow
  rw [show ((List.range n).map fun i => Value.bool (f i || decide (i = j))) = ((List.range n).map fun i => Value.bool (f i)).set j (.bool true) from ?_]
  · exact k
  apply List.ext_getElem
  · simp
  intro i h1 h2
  simp only [List.getElem_map, List.getElem_range, List.getElem_set]
  by_cases hij : j = i
  · subst hij; simp
  · rw [if_neg hij, decide_eq_false (fun h => hij h.symm), Bool.or_false]
theorem BRow.block {w : World} {B r n : Nat} {f : Nat → Bool} (h : BRow w B r n f) : B ≤ r ∧ r < w.heap.size ∧ ∃ cur, w.heap[r]? = some (.cells cur 4 (0, 0)) := by
  obtain ⟨_, ⟨h1, _⟩ | ⟨g1, c1, cur1, h1, h2, h3, _⟩⟩ := h
  · cases h1
  simp only [Value.slice.injEq, Option.some.injEq, Addr.mk.injEq] at h1
  rw [h1.1.1]
  exact ⟨h2, (Array.getElem?_eq_some_iff.1 h3).1, _, h3⟩
/-- The rows' slices, as far as they are laid. -/
def rowV (rs : Nat → Nat) (n k v : Nat) : Value := if v < k then .slice (some ⟨rs v, 0, none⟩) n n else .slice none 0 0
def SRow (w : World) (B g n k : Nat) (rs : Nat → Nat) : Prop := w.ownsRow B 47 1 (.slice (some ⟨g, 0, none⟩) n n) n ((List.range n).map (rowV rs n k))
theorem SRow.cell {w : World} {B g n k v : Nat} {rs : Nat → Nat} (h : SRow w B g n k rs) (hv : v < n) : w.cell? ⟨g, v, none⟩ = some (rowV rs n k v) ∧ w.frozen? ⟨g, v, none⟩ = false := by
  refine ⟨?_, World.ownsRow.frozenAt h v⟩
  rw [World.ownsRow.cellAt h v (by omega)]
  simp [hv]
theorem SRow.block {w : World} {B g n k : Nat} {rs : Nat → Nat} (h : SRow w B g n k rs) : B ≤ g ∧ g < w.heap.size ∧ ∃ cur, w.heap[g]? = some (.cells cur 47 (0, 0)) := by
  obtain ⟨_, ⟨h1, _⟩ | ⟨g1, c1, cur1, h1, h2, h3, _⟩⟩ := h
  · cases h1
  simp only [Value.slice.injEq, Option.some.injEq, Addr.mk.injEq] at h1
  rw [h1.1.1]
  exact ⟨h2, (Array.getElem?_eq_some_iff.1 h3).1, _, h3⟩
theorem SRow.next {w : World} {B g n k r : Nat} {rs : Nat → Nat} (h : SRow w B g n k rs) (_hk : k < n) : SRow (w.setCell ⟨g, k, none⟩ (.slice (some ⟨r, 0, none⟩) n n)) B g n (k + 1) (fun v => if v = k then r else rs v) := by
  have q := (World.ownsRow.stored h k (.slice (some ⟨r, 0, none⟩) n n)).1
  unfold SRow
  rw [show ((List.range n).map (rowV (fun v => if v = k then r else rs v) n (k + 1))) = ((List.range n).map (rowV rs n k)).set k (.slice (some ⟨r, 0, none⟩) n n) from ?_]
  · exact q
  apply List.ext_getElem
  · simp
  intro i h1 h2
  simp only [List.getElem_map, List.getElem_range, List.getElem_set]
  unfold rowV
  by_cases hik : k = i
  · subst hik
    simp
  · have h4 : ¬ i = k := fun h => hik h.symm
    rw [if_neg hik]
    simp only [h4, if_false]
    by_cases h3 : i < k
    · rw [if_pos h3, if_pos (by omega)]
    · rw [if_neg h3, if_neg (by omega)]
/-- A square of bools: rows in blocks of their own. -/
def Mat (w : World) (B g n k : Nat) (rs : Nat → Nat) (f : Nat → Nat → Bool) : Prop := SRow w B g n k rs ∧ (∀ u v, u < k → v < k → rs u = rs v → u = v) ∧ ∀ v, v < k → BRow w B (rs v) n (f v)
theorem Mat.later {w w' : World} {B g n k : Nat} {rs : Nat → Nat} {f : Nat → Nat → Bool} (h : Mat w B g n k rs f) (hb : Below w.heap.size w w') : Mat w' B g n k rs f :=
  ⟨World.ownsRow.kept h.1 (grown_below hb) (Or.inr (by simp [Value.ownBlock])), h.2.1, fun v hv => World.ownsRow.kept (h.2.2 v hv) (grown_below hb) (Or.inr (by simp [Value.ownBlock]))⟩
theorem Mat.next {w : World} {B g n k r : Nat} {rs : Nat → Nat} {f : Nat → Nat → Bool} (h : Mat w B g n k rs f) (hk : k < n) (hr : BRow w B r n fun _ => false) (hne : ∀ v, v < k → rs v ≠ r) : Mat (w.setCell ⟨g, k, none⟩ (.slice (some ⟨r, 0, none⟩) n n)) B g n (k + 1) (fun v => if v = k then r else rs v) (fun v => if v = k then fun _ => false else f v) := by
  obtain ⟨h1, h2, h3⟩ := h
  obtain ⟨_, _, cur, hg⟩ := h1.block
  refine ⟨h1.next hk, ?_, ?_⟩
  · intro u v hu hv e
    by_cases hu2 : u = k <;> by_cases hv2 : v = k
    · omega
    · simp only [hu2, hv2, if_true, if_false] at e; exact absurd e.symm (hne v (by omega))
    · simp only [hu2, hv2, if_true, if_false] at e; exact absurd e (hne u (by omega))
    · simp only [hu2, hv2, if_false] at e; exact h2 u v (by omega) (by omega) e
  · intro v hv
    by_cases hv2 : v = k
    · simp only [hv2, if_true]
      exact ownsRow_setCell_other (a := ⟨g, k, none⟩) hr (row_apart hg hr (by decide)) _
    · simp only [if_neg hv2]
      exact ownsRow_setCell_other (a := ⟨g, k, none⟩) (h3 v (by omega)) (row_apart hg (h3 v (by omega)) (by decide)) _
theorem Mat.set {w : World} {B g n k a b : Nat} {rs : Nat → Nat} {f : Nat → Nat → Bool} (h : Mat w B g n k rs f) (ha : a < k) : Mat (w.setCell ⟨rs a, b, none⟩ (.bool true)) B g n k rs (fun u => if u = a then fun i => f a i || decide (i = b) else f u) := by
  obtain ⟨h1, h2, h3⟩ := h
  obtain ⟨_, _, cur, hg⟩ := (h3 a ha).block
  refine ⟨ownsRow_setCell_other (a := ⟨rs a, b, none⟩) h1 (row_apart hg h1 (by decide)) _, h2, ?_⟩
  intro v hv
  by_cases hva : v = a
  · subst hva
    simp only [if_true]
    exact (h3 v hv).set
  · simp only [if_neg hva]
    exact ownsRow_setCell_other (a := ⟨rs a, b, none⟩) (h3 v hv) (by simp [Value.ownBlock]; exact fun e => hva (h2 v a hv ha e)) _
end Go.Proofs.Ytncnghbkdbhpbaa
