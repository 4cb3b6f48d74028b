/- Degrees, in every world. -/
import Derived.Test.YtaebbfilgfkckaaN5
namespace Go.Proofs.Ytaebbfilgfkckaa
open Go.RowKit Go.Sort
open Go


def bump (l : List Int) (j : Nat) : List Int := l.set j (iat l j + 1)
theorem bump_length (l : List Int) (j : Nat) : (bump l j).length = l.length := List.length_set ..
theorem bump_at (l : List Int) (j k : Nat) (hk : k < l.length) : iat (bump l j) k = iat l k + if j = k then 1 else 0 := by
  unfold bump
  rw [iat_set _ _ _ _ hk]
  by_cases h : j = k
  · subst h; rw [if_pos rfl, if_pos rfl]
  · rw [if_neg h, if_neg h]; omega
def degN (es : List Pt) (m : Nat) : Nat → List Int
  | 0 => List.replicate m 0
  | i + 1 => bump (bump (degN es m i) (at' es i).x.toNat) (at' es i).y.toNat
theorem degN_length (es : List Pt) (m : Nat) : ∀ i, (degN es m i).length = m
  | 0 => by simp [degN]
  | i + 1 => by simp [degN, bump_length, degN_length es m i]
theorem degN_in (es : List Pt) (m : Nat) : ∀ i j, j < m → 0 ≤ iat (degN es m i) j ∧ iat (degN es m i) j ≤ 2 * i
  | 0, j, hj => by simp only [degN]; rw [iat_replicate _ _ _ hj]; omega
  | i + 1, j, hj => by
    have ih := degN_in es m i j hj
    have hl := degN_length es m i
    simp only [degN]
    rw [bump_at _ _ _ (by rw [bump_length]; omega), bump_at _ _ _ (by omega)]
    split <;> split <;> omega
def DegPost (n : Int) (es : List Pt) (w : World) (e : Ending) (w' : World) : Prop :=
  (netB n es = true ∧ ∃ g, e = .returned (.tuple #[.slice (some ⟨g, 0, none⟩) n.toNat n.toNat, .int .i64 0]) ∧ IRow w' w.heap.size g n.toNat (degN es n.toNat es.length)) ∨ (netB n es = false ∧ e = .returned (.tuple #[.slice none 0 0, .int .i64 1]))
theorem one_net (w : World) (n : Int) (p : Option Addr) (l c : Nat) : ∃ W, W = w.alloc (nbx n p l c) ∧ Below w.heap.size w W ∧ NOwn W w.heap.size n p l c :=
  ⟨_, rfl, by go_grown, by go_cell, by go_cell, by simp [go_sem], by simp [go_sem]⟩

end Go.Proofs.Ytaebbfilgfkckaa
