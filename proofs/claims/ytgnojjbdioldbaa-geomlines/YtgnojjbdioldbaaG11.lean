/- Lists of points that a call makes for itself. -/
import Derived.Test.YtgnojjbdioldbaaG10
import Derived.Deep.AppendLies
import Derived.OwnWalk
import Derived.Laws.OwnMore
namespace Go.Proofs.Ytgnojjbdioldbaa
open Go.RowKit Go.Sort
open Go

def cells : List Pt → List Value
  | [] => []
  | p :: r => .int .i64 p.x :: .int .i64 p.y :: cells r
theorem cells_length : ∀ ps : List Pt, (cells ps).length = ps.length * 2
  | [] => rfl
  | p :: r => by simp only [cells, List.length_cons, cells_length r]; omega
theorem cells_append : ∀ ps qs : List Pt, cells (ps ++ qs) = cells ps ++ cells qs
  | [], _ => rfl
  | p :: r, qs => by simp only [List.cons_append, cells, cells_append r qs]
theorem cells_at : ∀ (ps : List Pt) (j : Nat), j < ps.length → (cells ps)[j * 2]? = some (.int .i64 (at' ps j).x) ∧ (cells ps)[j * 2 + 1]? = some (.int .i64 (at' ps j).y)
  | [], j, h => by simp at h
  | p :: r, 0, _ => ⟨rfl, rfl⟩
  | p :: r, j + 1, h => by
    have := cells_at r j (by simpa using h)
    have e : (j + 1) * 2 = j * 2 + 1 + 1 := by omega
    rw [e]
    exact this
def Owns (w : World) (base : Nat) (v : Value) (ps : List Pt) : Prop := w.ownsRow base 23 2 v ps.length (cells ps)
theorem Owns.lies {w : World} {base g cap : Nat} {ps : List Pt} (h : Owns w base (.slice (some ⟨g, 0, none⟩) ps.length cap) ps) : Lies w g 0 ps := by
  intro j hj
  have k := cells_at ps j hj
  refine ⟨?_, ?_⟩
  · rw [show (0 : Nat) + j * 2 = j * 2 by omega, World.ownsRow.cellAt h (j * 2) (by omega)]; exact k.1
  · rw [show (0 : Nat) + j * 2 + 1 = j * 2 + 1 by omega, World.ownsRow.cellAt h (j * 2 + 1) (by omega)]; exact k.2
theorem Owns.form {w : World} {base : Nat} {v : Value} {ps : List Pt} (h : Owns w base v ps) : ∃ p cap, v = .slice p ps.length cap ∧ Has w p ps ∧ ps.length ≤ cap ∧ (p = none → cap = 0) ∧ (∀ a, p = some a → a.off = 0 ∧ a.spot = none ∧ base ≤ a.block ∧ a.block < w.heap.size) := by
  have h' := h
  obtain ⟨h1, ⟨rfl, h2⟩ | ⟨g, cap, cur, rfl, h3, h4, h5, _⟩⟩ := h'
  · exact ⟨none, 0, by rw [h2], Or.inl (List.length_eq_zero_iff.1 h2), by omega, fun _ => rfl, fun a ha => by cases ha⟩
  · refine ⟨_, _, rfl, Or.inr ⟨g, 0, rfl, h.lies⟩, h5, fun k => (by cases k), fun a ha => ?_⟩
    cases ha
    exact ⟨rfl, rfl, h3, (Array.getElem?_eq_some_iff.1 h4).1⟩
theorem grown_below {w w' : World} (h : Below w.heap.size w w') : w.grownBy w' none := ⟨h.os, h.tape, h.output, h.size, fun k hk _ => h.block k hk⟩
theorem Owns.later {w w' : World} {base : Nat} {v : Value} {ps : List Pt} (h : Owns w base v ps) (hb : Below w.heap.size w w') : Owns w' base v ps :=
  World.ownsRow.kept h (grown_below hb) (by cases h' : v.ownBlock <;> simp)
theorem Owns.nil (w : World) (base : Nat) : Owns w base (.slice none 0 0) [] := World.ownsRow_nil _ _ _ _
theorem owns_more {w : World} {base : Nat} {v : Value} {ps : List Pt} {p : Pt} (h : w.ownsRow base 23 2 v (ps.length + 1) (cells ps ++ [.int .i64 p.x, .int .i64 p.y])) : Owns w base v (ps ++ [p]) := by
  unfold Owns
  rw [cells_append, List.length_append]
  exact h
theorem info23 : (Try.prog.info? 23).map (fun i => (i.zero, i.size, i.bytes)) = some (some (.agg #[.int .i64 0, .int .i64 0]), 2, 16) := by kernel_rfl
/-- What was there stays, but for the row that is one's own. -/
theorem below_grown {B : Nat} {a w w' : World} {v : Value} {base n : Nat} {xs : List Value} (h : Below B a w) (ho : w.ownsRow base 23 2 v n xs) (hB : B ≤ base) (hw : B ≤ w.heap.size) (hg : w.grownBy w' v.ownBlock) : Below B a w' :=
  h.grown hg hw fun k hk => Nat.le_trans hB (World.ownsRow.lt ho k hk).1
theorem at_append_lt {ps qs : List Pt} {j : Nat} (h : j < ps.length) : at' (ps ++ qs) j = at' ps j := by
  unfold at'; rw [List.getD_eq_getElem?_getD, List.getD_eq_getElem?_getD, List.getElem?_append_left h]
theorem at_append_eq {ps : List Pt} {p : Pt} : at' (ps ++ [p]) ps.length = p := by
  unfold at'; rw [List.getD_eq_getElem?_getD, List.getElem?_append_right (Nat.le_refl _)]; simp
end Go.Proofs.Ytgnojjbdioldbaa
