/- Edges picked by their numbers; edges whose ends get other names. -/
import Derived.Test.YtllkadgpkbaghaaN3
import Derived.Deep.RegionHeld3
namespace Go.Proofs.Ytllkadgpkbaghaa
open Go.RowKit Go.Sort
open Go


/-- n pairs in block g of one's own. -/
def PRow (w : World) (base g n : Nat) (ps : List Pt) : Prop := ps.length = n ∧ Owns w base (.slice (some ⟨g, 0, none⟩) ps.length n) ps
theorem PRow.cell {w : World} {base g n : Nat} {ps : List Pt} (h : PRow w base g n ps) {j : Nat} (hj : j < n) : w.cell? ⟨g, j * 2, none⟩ = some (.int .i64 (at' ps j).x) ∧ w.cell? ⟨g, j * 2 + 1, none⟩ = some (.int .i64 (at' ps j).y) ∧ w.frozen? ⟨g, j * 2, none⟩ = false ∧ w.frozen? ⟨g, j * 2 + 1, none⟩ = false := by
  have := h.2.lies j (by rw [h.1]; exact hj)
  rw [Nat.zero_add] at this
  exact ⟨this.1, this.2, World.ownsRow.frozenAt h.2 _, World.ownsRow.frozenAt h.2 _⟩
theorem PRow.set {w : World} {base g n : Nat} {ps : List Pt} (h : PRow w base g n ps) (j : Nat) (q : Pt) : PRow ((w.setCell ⟨g, j * 2, none⟩ (.int .i64 q.x)).setCell ⟨g, j * 2 + 1, none⟩ (.int .i64 q.y)) base g n (ps.set j q) := ⟨by rw [List.length_set]; exact h.1, h.2.set j q⟩
theorem PRow.later {w w' : World} {base g n : Nat} {ps : List Pt} (h : PRow w base g n ps) (hb : Below w.heap.size w w') : PRow w' base g n ps := ⟨h.1, h.2.later hb⟩
theorem PRow.lt {w : World} {base g n : Nat} {ps : List Pt} (h : PRow w base g n ps) : base ≤ g ∧ g < w.heap.size := World.ownsRow.lt h.2 g rfl
theorem PRow.has {w : World} {base g n : Nat} {ps : List Pt} (h : PRow w base g n ps) : Has w (some ⟨g, 0, none⟩) ps := Or.inr ⟨g, 0, rfl, h.2.lies⟩
theorem IRow.has {w : World} {base g n : Nat} {l : List Int} (h : IRow w base g n l) : IHas w (some ⟨g, 0, none⟩) l := Or.inr ⟨g, 0, rfl, h.2.lies⟩
theorem made_pairs (n : Nat) : (madeCells #[Value.int .i64 0, Value.int .i64 0] (n * 2)).toList = List.replicate (n * 2) (.int .i64 0) := by
  apply List.ext_getElem
  · simp [madeCells]
  · intro j h1 h2
    simp only [madeCells, Array.toList_map, List.getElem_map, List.getElem_replicate]
    simp only [Array.getElem_toList, Array.getElem_range]
    rcases Nat.mod_two_eq_zero_or_one j with h | h <;> simp [h]
theorem prow_made {w : World} {base g n : Nat} (h : w.ownsRow base 64 2 (.slice (some ⟨g, 0, none⟩) n n) n (madeCells #[.int .i64 0, .int .i64 0] (n * 2)).toList) : PRow w base g n (List.replicate n ⟨0, 0⟩) := by
  rw [made_pairs] at h
  refine ⟨List.length_replicate, ?_⟩
  unfold Owns
  rw [List.length_replicate, cells_zero]
  exact h
theorem at_set (l : List Pt) (j k : Nat) (x : Pt) (hk : k < l.length) : at' (l.set j x) k = if j = k then x else at' l k := by
  unfold at'
  rw [List.getD_eq_getElem?_getD, List.getD_eq_getElem?_getD, List.getElem?_set]
  by_cases h : j = k
  · subst h; simp [hk]
  · simp [h]
theorem at_map {α : Type} (f : α → Pt) (l : List α) (d : α) {j : Nat} (h : j < l.length) : at' (l.map f) j = f (l.getD j d) := by
  unfold at'
  rw [List.getD_eq_getElem?_getD, List.getD_eq_getElem?_getD, List.getElem?_map, List.getElem?_eq_getElem h]
  rfl
theorem iat_map {α : Type} (f : α → Int) (l : List α) (d : α) {j : Nat} (h : j < l.length) : iat (l.map f) j = f (l.getD j d) := by
  unfold iat
  rw [List.getD_eq_getElem?_getD, List.getD_eq_getElem?_getD, List.getElem?_map, List.getElem?_eq_getElem h]
  rfl
def pick (es : List Pt) (l : List Int) : List Pt := l.map fun x => at' es x.toNat
def rename (es : List Pt) (t : List Int) : List Pt := es.map fun p => ⟨iat t p.x.toNat, iat t p.y.toNat⟩
theorem pick_length (es : List Pt) (l : List Int) : (pick es l).length = l.length := List.length_map ..
theorem rename_length (es : List Pt) (t : List Int) : (rename es t).length = es.length := List.length_map ..
theorem pick_at (es : List Pt) (l : List Int) {j : Nat} (h : j < l.length) : at' (pick es l) j = at' es (iat l j).toNat := at_map _ l 0 h
theorem rename_at (es : List Pt) (t : List Int) {j : Nat} (h : j < es.length) : at' (rename es t) j = ⟨iat t (at' es j).x.toNat, iat t (at' es j).y.toNat⟩ := at_map _ es ⟨0, 0⟩ h

theorem other2 {U : World} {g i j : Nat} {a b v : Value} {A : Addr} (h : U.cell? A = some v) (hne : A.block ≠ g) : ((U.setCell ⟨g, i, none⟩ a).setCell ⟨g, j, none⟩ b).drew.cell? A = some v := by
  have n1 : (⟨g, i, none⟩ : Addr) ≠ A := fun e => hne (by rw [← e])
  have n2 : (⟨g, j, none⟩ : Addr) ≠ A := fun e => hne (by rw [← e])
  show ((U.setCell ⟨g, i, none⟩ a).setCell ⟨g, j, none⟩ b).cell? A = some v
  rw [World.cell?_setCell_other _ _ _ _ n2, World.cell?_setCell_other _ _ _ _ n1]; exact h
end Go.Proofs.Ytllkadgpkbaghaa
