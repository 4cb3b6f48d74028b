/- The document's Outs: of all nodes the half-edges that leave them. -/
import Derived.Test.YtaebbfilgfkckaaX2
import Derived.Deep.DeepCutAuto
namespace Go.Proofs.Ytaebbfilgfkckaa
open Go.RowKit Go.Sort
open Go


theorem info41 : (Try.prog.info? 25).map (fun i => (i.zero, i.size, i.bytes)) = some (some (.slice none 0 0), 1, 24) := by kernel_rfl
theorem rows_made {w : World} {base g n : Nat} (es : List Pt) (h : w.ownsRow base 25 1 (.slice (some ⟨g, 0, none⟩) n n) n (madeCells #[.slice none 0 0] n).toList) : Rows w base g n (fun _ => .slice none 0 0) (outL es 0) := by
  rw [toList_madeCells_one] at h
  refine ⟨?_, fun u v k _ _ e => by simp [Value.ownBlock] at e, fun v _ => IOwns.nil _ _⟩
  rw [show ((List.range n).map fun _ => Value.slice none 0 0) = List.replicate n (.slice none 0 0) from by apply List.ext_getElem <;> simp]
  exact h
theorem cell_other {U : World} {g j : Nat} {b v : Value} {A : Addr} (h : U.cell? A = some v) (hne : A.block ≠ g) : (U.setCell ⟨g, j, none⟩ b).cell? A = some v := by
  have n2 : (⟨g, j, none⟩ : Addr) ≠ A := fun e => hne (by rw [← e])
  rw [World.cell?_setCell_other _ _ _ _ n2]; exact h
theorem Rows.slot {w w' : World} {B g n a : Nat} {rv : Nat → Value} {L : Nat → List Int} (h : Rows w B g n rv L) (ha : a < n) (gr : w.grownBy w' (rv a).ownBlock) : g < w'.heap.size ∧ w'.cell? ⟨g, a, none⟩ = some (rv a) ∧ w'.frozen? ⟨g, a, none⟩ = false := by
  obtain ⟨h1, _, h3⟩ := h
  obtain ⟨cur, hg⟩ := row_kind h1
  have hap : (rv a).ownBlock ≠ some g := row_apart hg (h3 a ha) (by decide)
  have h1' := World.ownsRow.kept h1 gr (Or.inr (fun e => hap e.symm))
  refine ⟨(World.ownsRow.lt h1' g rfl).2, ?_, World.ownsRow.frozenAt h1' a⟩
  rw [World.ownsRow.cellAt h1' a (by omega)]
  simp [ha]
end Go.Proofs.Ytaebbfilgfkckaa
