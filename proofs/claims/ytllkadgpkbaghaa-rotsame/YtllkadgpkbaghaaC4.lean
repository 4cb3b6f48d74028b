/- Breadth, in every world. -/
import Derived.Test.YtllkadgpkbaghaaC3
import Derived.Deep.RegionHeld3
namespace Go.Proofs.Ytllkadgpkbaghaa
open Go.RowKit Go.Sort
open Go

abbrev nilS : Value := .slice none 0 0
/-- The net's box and the answer's. -/
theorem two_boxes35 (w : World) (n : Int) (p : Option Addr) (l c : Nat) : ∃ W, W = (w.alloc (nbx n p l c)).alloc (.cells #[nilS, nilS, nilS, nilS] 93) ∧ Below w.heap.size w W ∧ NOwn W w.heap.size n p l c ∧ W.ownsRow 0 93 4 (.slice (some ⟨w.heap.size + 1, 0, none⟩) 1 1) 1 [nilS, nilS, nilS, nilS] ∧ W.heap.size = w.heap.size + 2 := by
  refine ⟨_, rfl, by go_grown, ⟨by unfold nbx; go_cell, by unfold nbx; go_cell, by unfold nbx; go_cell, by unfold nbx; go_cell⟩, ?_, by simp⟩
  have := box35 (w.alloc (nbx n p l c)) nilS nilS nilS nilS
  rw [show (w.alloc (nbx n p l c)).heap.size = w.heap.size + 1 by simp] at this
  exact this
theorem box_later {w w' : World} {k : Nat} {a b c d : Value} (h : w.ownsRow 0 93 4 (.slice (some ⟨k, 0, none⟩) 1 1) 1 [a, b, c, d]) (hb : Below w.heap.size w w') : w'.ownsRow 0 93 4 (.slice (some ⟨k, 0, none⟩) 1 1) 1 [a, b, c, d] := World.ownsRow.kept h (grown_below hb) (Or.inr (by simp [Value.ownBlock]))
theorem box_cells {w : World} {k : Nat} {a b c d : Value} (h : w.ownsRow 0 93 4 (.slice (some ⟨k, 0, none⟩) 1 1) 1 [a, b, c, d]) : w.cell? ⟨k, 0, none⟩ = some a ∧ w.cell? ⟨k, 1, none⟩ = some b ∧ w.cell? ⟨k, 2, none⟩ = some c ∧ w.cell? ⟨k, 3, none⟩ = some d ∧ w.frozen? ⟨k, 0, none⟩ = false ∧ w.frozen? ⟨k, 1, none⟩ = false ∧ w.frozen? ⟨k, 2, none⟩ = false ∧ w.frozen? ⟨k, 3, none⟩ = false :=
  ⟨World.ownsRow.cellAt h 0 (by omega), World.ownsRow.cellAt h 1 (by omega), World.ownsRow.cellAt h 2 (by omega), World.ownsRow.cellAt h 3 (by omega), World.ownsRow.frozenAt h 0, World.ownsRow.frozenAt h 1, World.ownsRow.frozenAt h 2, World.ownsRow.frozenAt h 3⟩
end Go.Proofs.Ytllkadgpkbaghaa
