/- A row of slices that lie anywhere (carried). -/
import Derived.Test.YtaebbfilgfkckaaKBB
namespace Go.Proofs.Ytaebbfilgfkckaa
open Go.RowKit Go.Sort
open Go

theorem other1' {U : World} {g i : Nat} {a v : Value} {A : Addr} (h : U.cell? A = some v) (hne : A.block ≠ g) : (U.setCell ⟨g, i, none⟩ a).cell? A = some v := by
  rw [World.cell?_setCell_other _ _ _ _ (fun e => hne (by rw [← e]))]
  exact h
structure QRow (w : World) (B g n : Nat) (rv : Nat → Value) (L : Nat → List Int) : Prop where
  own : w.ownsRow B 25 1 (.slice (some ⟨g, 0, none⟩) n n) n ((List.range n).map rv)
  row : ∀ x, x < n → ∃ a c, rv x = .slice a (L x).length c ∧ IHas w a (L x) ∧ (L x).length ≤ maxLen ∧ (L x).length ≤ c ∧ (a = none → c = 0) ∧ (L x ≠ [] → ∀ ad, a = some ad → ad.block ≠ g)
theorem QRow.cell {w : World} {B g n x : Nat} {rv : Nat → Value} {L : Nat → List Int} (h : QRow w B g n rv L) (hx : x < n) : w.cell? ⟨g, x, none⟩ = some (rv x) ∧ w.frozen? ⟨g, x, none⟩ = false := by
  refine ⟨?_, World.ownsRow.frozenAt h.own x⟩
  rw [World.ownsRow.cellAt h.own x (by omega)]
  simp [hx]
theorem QRow.lt {w : World} {B g n : Nat} {rv : Nat → Value} {L : Nat → List Int} (h : QRow w B g n rv L) : B ≤ g ∧ g < w.heap.size := World.ownsRow.lt h.own g rfl
theorem QRow.later {w w' : World} {B g n : Nat} {rv : Nat → Value} {L : Nat → List Int} (h : QRow w B g n rv L) (hb : Below w.heap.size w w') : QRow w' B g n rv L :=
  ⟨World.ownsRow.kept h.own (grown_below hb) (Or.inr (by simp [Value.ownBlock])), fun x hx => by
    obtain ⟨a, c, h1, h2, h3⟩ := h.row x hx
    exact ⟨a, c, h1, h2.later hb, h3⟩⟩
theorem ihas_other {w : World} {a : Option Addr} {l : List Int} {g i : Nat} {u : Value} (h : IHas w a l) (hne : l ≠ [] → ∀ ad, a = some ad → ad.block ≠ g) : IHas (w.setCell ⟨g, i, none⟩ u) a l := by
  rcases h with h | ⟨b, off, rfl, hL⟩
  · exact Or.inl h
  · by_cases hl : l = []
    · exact Or.inl hl
    refine Or.inr ⟨b, off, rfl, fun j hj => ?_⟩
    exact other1' (hL j hj) (show b ≠ g from hne hl ⟨b, off, none⟩ rfl)
theorem QRow.set {w : World} {B g n k : Nat} {rv : Nat → Value} {L : Nat → List Int} (h : QRow w B g n rv L) {a : Option Addr} {c : Nat} {l : List Int} (h1 : IHas w a l) (h2 : l.length ≤ maxLen) (h3 : l.length ≤ c) (h4 : a = none → c = 0) (h5 : l ≠ [] → ∀ ad, a = some ad → ad.block ≠ g) : QRow (w.setCell ⟨g, k, none⟩ (.slice a l.length c)) B g n (upd rv k (.slice a l.length c)) (upd L k l) := by
  refine ⟨?_, fun x hx => ?_⟩
  · have q := (World.ownsRow.stored h.own k (.slice a l.length c)).1
    rw [show ((List.range n).map (upd rv k (.slice a l.length c))) = ((List.range n).map rv).set k (.slice a l.length c) from ?_]
    · exact q
    apply List.ext_getElem
    · simp
    intro i h4 h5
    simp only [List.getElem_map, List.getElem_range, List.getElem_set]
    by_cases hia : k = i
    · subst hia; simp [upd]
    · rw [if_neg hia, upd_other _ _ (fun e => hia e.symm)]
  · by_cases hkx : x = k
    · subst hkx; rw [upd_same, upd_same]; exact ⟨a, c, rfl, ihas_other h1 h5, h2, h3, h4, h5⟩
    · rw [upd_other _ _ hkx, upd_other _ _ hkx]
      obtain ⟨a', c', e1, e2, e3, e4, e5, e6⟩ := h.row x hx
      exact ⟨a', c', e1, ihas_other e2 e6, e3, e4, e5, e6⟩
theorem QRow.congr {w : World} {B g n : Nat} {rv : Nat → Value} {L L' : Nat → List Int} (h : QRow w B g n rv L) (he : ∀ x, x < n → L x = L' x) : QRow w B g n rv L' := ⟨h.own, fun x hx => by rw [← he x hx]; exact h.row x hx⟩
theorem QRow.has {w : World} {B g n : Nat} {rv : Nat → Value} {L : Nat → List Int} {rs : List (List Int)} (h : QRow w B g n rv L) (hn : rs.length = n) (hL : ∀ v, v < n → L v = lat rs v) : RHas w (some ⟨g, 0, none⟩) rs := by
  refine Or.inr ⟨g, 0, rfl, fun v hv => ?_⟩
  rw [hn] at hv
  obtain ⟨a, c, e, m, z1, z2, z3, _⟩ := h.row v hv
  rw [hL v hv] at e m z1 z2
  exact ⟨a, c, by rw [Nat.zero_add, (h.cell hv).1, e], m, z1, z2, z3⟩
theorem qrow_made {w : World} {base g n : Nat} (h : w.ownsRow base 25 1 (.slice (some ⟨g, 0, none⟩) n n) n (madeCells #[.slice none 0 0] n).toList) : QRow w base g n (fun _ => .slice none 0 0) (fun _ => []) := by
  rw [toList_madeCells_one] at h
  refine ⟨?_, fun x hx => ?_⟩
  · rw [show ((List.range n).map fun _ => Value.slice none 0 0) = List.replicate n (.slice none 0 0) from by apply List.ext_getElem <;> simp]
    exact h
  · exact ⟨none, 0, rfl, Or.inl rfl, by simp, by simp, fun _ => rfl, fun h => absurd rfl h⟩
/-- A list that stands in an elder world lies in an elder block. -/
theorem ihas_lt {w : World} {a : Option Addr} {l : List Int} (h : IHas w a l) (hl : l ≠ []) : ∀ ad, a = some ad → ad.block < w.heap.size := fun ad hd => by
  rcases h with h | ⟨b, off, rfl, hL⟩
  · exact absurd h hl
  · injection hd with hd
    subst hd
    have h0 : 0 < l.length := List.length_pos_iff.2 hl
    exact block_lt_of_cell (hL 0 h0)

end Go.Proofs.Ytaebbfilgfkckaa
