/- What a depth-first tour reaches at the lowest: as a function, the way it is reckoned. -/
import Derived.Test.YtghffodjffkijaaB4
namespace Go.Proofs.Ytghffodjffkijaa
open Go.RowKit Go.Sort
open Go

/-- The place of each of the first nodes; the others keep what they had. -/
def whN (O : List Int) (n : Nat) (c : Int) : Nat → List Int
  | 0 => List.replicate n c
  | i + 1 => (whN O n c i).set (iat O i).toNat i
theorem whN_len (O : List Int) (n : Nat) (c : Int) : ∀ i, (whN O n c i).length = n
  | 0 => by simp [whN]
  | i + 1 => by simp only [whN, List.length_set]; exact whN_len O n c i
theorem whN_in (O : List Int) (n v : Nat) (c : Int) (hv : v < n) (hc : -1 ≤ c) (hc2 : c ≤ 0) : ∀ i, -1 ≤ iat (whN O n c i) v ∧ iat (whN O n c i) v ≤ i
  | 0 => by simp [whN, iat, hv]; omega
  | i + 1 => by
    have ih := whN_in O n v c hv hc hc2 i
    simp only [whN]
    by_cases e : v = (iat O i).toNat
    · rw [← e, iat_put (by rw [whN_len]; exact hv)]; omega
    · rw [iat_put_ne e]; omega
/-- One node: by the half-edges that go out of it, the first j of them. -/
def lwRow (es : List Pt) (st : St) (P : List Int) (v : Nat) (L : List Int) : Nat → List Int
  | 0 => L
  | j + 1 =>
    if iat (outL es (2 * es.length) v) j = twn (iat st.By v) then lwRow es st P v L j
    else (lwRow es st P v L j).set v (min (iat (lwRow es st P v L j) v) (iat P (toL es (iat (outL es (2 * es.length) v) j).toNat).toNat))
/-- One node, and what it hands up. -/
def lwOne (es : List Pt) (st : St) (P : List Int) (L : List Int) (v : Nat) : List Int :=
  if 0 ≤ iat st.By v then (lwRow es st P v L (outL es (2 * es.length) v).length).set (par es st v) (min (iat (lwRow es st P v L (outL es (2 * es.length) v).length) (par es st v)) (iat (lwRow es st P v L (outL es (2 * es.length) v).length) v))
  else lwRow es st P v L (outL es (2 * es.length) v).length
/-- The last k nodes of the order, from its end on. -/
def lwN (es : List Pt) (st : St) (n : Nat) : Nat → List Int
  | 0 => whN st.O n (-1) st.O.length
  | k + 1 => lwOne es st (whN st.O n 0 st.O.length) (lwN es st n k) (iat st.O (st.O.length - 1 - k)).toNat
theorem lwRow_len (es : List Pt) (st : St) (P : List Int) (v : Nat) (L : List Int) : ∀ j, (lwRow es st P v L j).length = L.length
  | 0 => rfl
  | j + 1 => by
    have ih := lwRow_len es st P v L j
    simp only [lwRow]
    split
    · exact ih
    · rw [List.length_set]; exact ih
theorem lwOne_len (es : List Pt) (st : St) (P : List Int) (L : List Int) (v : Nat) : (lwOne es st P L v).length = L.length := by
  unfold lwOne
  split
  · rw [List.length_set]; exact lwRow_len es st P v L _
  · exact lwRow_len es st P v L _
theorem lwN_len (es : List Pt) (st : St) (n : Nat) : ∀ k, (lwN es st n k).length = n
  | 0 => whN_len _ _ _ _
  | k + 1 => by simp only [lwN]; rw [lwOne_len]; exact lwN_len es st n k
end Go.Proofs.Ytghffodjffkijaa
