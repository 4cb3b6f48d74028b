/- The document's Degrees, in every world. -/
import Derived.Test.YtllkadgpkbaghaaV1
import Derived.Test.YtllkadgpkbaghaaN7
namespace Go.Proofs.Ytllkadgpkbaghaa
open Go.RowKit Go.Sort
open Go


/-- Degrees, half-edge by half-edge. -/
def dgH (es : List Pt) (m : Nat) : Nat → List Int
  | 0 => List.replicate m 0
  | h + 1 => bump (dgH es m h) (fromL es h).toNat
theorem dgH_even (es : List Pt) (m : Nat) : ∀ i, dgH es m (2 * i) = degN es m i
  | 0 => rfl
  | i + 1 => by
    have ih := dgH_even es m i
    rw [show 2 * (i + 1) = 2 * i + 1 + 1 by omega]
    simp only [dgH, degN]
    rw [ih]
    have e1 : fromL es (2 * i) = (at' es i).x := by unfold fromL; rw [if_pos (by omega), show 2 * i / 2 = i by omega]
    have e2 : fromL es (2 * i + 1) = (at' es i).y := by unfold fromL; rw [if_neg (by omega), show (2 * i + 1) / 2 = i by omega]
    rw [e1, e2]
theorem dgH_length (es : List Pt) (m : Nat) : ∀ h, (dgH es m h).length = m
  | 0 => by simp [dgH]
  | h + 1 => by simp [dgH, bump_length, dgH_length es m h]
theorem dgH_in (es : List Pt) (m : Nat) : ∀ h j, j < m → 0 ≤ iat (dgH es m h) j ∧ iat (dgH es m h) j ≤ h
  | 0, j, hj => by simp only [dgH]; rw [iat_replicate _ _ _ hj]; omega
  | h + 1, j, hj => by
    have ih := dgH_in es m h j hj
    have hl := dgH_length es m h
    simp only [dgH]
    rw [bump_at _ _ _ (by omega)]
    split <;> omega
theorem fromL_in {m : Int} {es : List Pt} (hm : netB m es = true) (h : Nat) (hl : h < 2 * es.length) : 0 ≤ fromL es h ∧ fromL es h < m := by
  obtain ⟨_, _, _, hE⟩ := netB_is hm
  have := hE (h / 2) (by omega)
  unfold fromL
  split <;> omega
end Go.Proofs.Ytllkadgpkbaghaa
