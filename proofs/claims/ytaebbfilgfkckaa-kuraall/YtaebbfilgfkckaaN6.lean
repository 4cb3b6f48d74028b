/- Part, in every world. -/
import Derived.Test.YtaebbfilgfkckaaN5
namespace Go.Proofs.Ytaebbfilgfkckaa
open Go.RowKit Go.Sort
open Go


def insB (pl : List Int) (p : Pt) : Bool := decide (iat pl p.x.toNat ≠ -1) && decide (iat pl p.y.toNat ≠ -1)
/-- The numbers below i that f takes. -/
def takeN (f : Nat → Bool) : Nat → List Int
  | 0 => []
  | i + 1 => if f i then takeN f i ++ [(i : Int)] else takeN f i
theorem takeN_length (f : Nat → Bool) : ∀ i, (takeN f i).length ≤ i
  | 0 => by simp [takeN]
  | i + 1 => by
    have := takeN_length f i
    simp only [takeN]
    split
    · rw [List.length_append]; simp; omega
    · omega
theorem takeN_mem (f : Nat → Bool) : ∀ i (x : Int), x ∈ takeN f i ↔ ∃ j : Nat, j < i ∧ f j = true ∧ x = j
  | 0, x => by simp [takeN]
  | i + 1, x => by
    have ih := takeN_mem f i x
    simp only [takeN]
    by_cases h : f i = true
    · rw [if_pos h, List.mem_append, ih, List.mem_singleton]
      constructor
      · rintro (⟨j, hj, h1, h2⟩ | rfl)
        · exact ⟨j, by omega, h1, h2⟩
        · exact ⟨i, by omega, h, rfl⟩
      · rintro ⟨j, hj, h1, h2⟩
        rcases Nat.lt_succ_iff_lt_or_eq.1 hj with k | k
        · exact Or.inl ⟨j, k, h1, h2⟩
        · subst k; exact Or.inr h2
    · rw [if_neg h, ih]
      constructor
      · rintro ⟨j, hj, h1, h2⟩; exact ⟨j, by omega, h1, h2⟩
      · rintro ⟨j, hj, h1, h2⟩
        rcases Nat.lt_succ_iff_lt_or_eq.1 hj with k | k
        · exact ⟨j, k, h1, h2⟩
        · subst k; exact absurd h1 h
theorem takeN_in (f : Nat → Bool) (i : Nat) : ∀ j, j < (takeN f i).length → 0 ≤ iat (takeN f i) j ∧ iat (takeN f i) j < i := by
  intro j hj
  obtain ⟨k, hk, _, e⟩ := (takeN_mem f i _).1 (iat_mem hj)
  omega
def which (es : List Pt) (pl : List Int) : List Int := takeN (fun j => insB pl (at' es j)) es.length
def partE (n : Int) (es : List Pt) (l : List Int) : Int := if netB n es then errL l n else 1
def placesOf (n : Int) (l : List Int) : List Int := plN l n.toNat l.length
def partN (n : Int) (es : List Pt) (l : List Int) : List Pt := rename (pick es (which es (placesOf n l))) (placesOf n l)
theorem partN_length (n : Int) (es : List Pt) (l : List Int) : (partN n es l).length = (which es (placesOf n l)).length := by rw [partN, rename_length, pick_length]
def PartPost (n : Int) (es : List Pt) (l : List Int) (w : World) (e : Ending) (w' : World) : Prop :=
  (partE n es l = 0 ∧ ∃ g v, e = .returned (.tuple #[nv l.length (some ⟨g, 0, none⟩) (partN n es l).length (partN n es l).length, v, .int .i64 0]) ∧ PRow w' w.heap.size g (partN n es l).length (partN n es l) ∧ IOwns w' w.heap.size v (which es (placesOf n l))) ∨ (partE n es l ≠ 0 ∧ e = .returned (.tuple #[nv 0 none 0 0, .slice none 0 0, .int .i64 (partE n es l)]))
theorem iowns_other {w : World} {b : Nat} {v : Value} {l : List Int} (h : IOwns w b v l) {k i : Nat} (hk : k < b) (u : Value) : IOwns (w.setCell ⟨k, i, none⟩ u) b v l := ownsRow_setCell_below h (by exact hk) u
theorem below_grown {B : Nat} {a w w' : World} {v : Value} {base n : Nat} {xs : List Value} {e : TypeId} {size : Nat} (h : Below B a w) (ho : w.ownsRow base e size v n xs) (hB : B ≤ base) (hw : B ≤ w.heap.size) (hg : w.grownBy w' v.ownBlock) : Below B a w' :=
  h.grown hg hw fun k hk => Nat.le_trans hB (World.ownsRow.lt ho k hk).1

end Go.Proofs.Ytaebbfilgfkckaa
