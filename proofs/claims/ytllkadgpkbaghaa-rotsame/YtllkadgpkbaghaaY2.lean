/- What a rotation is, as a plain fact: each half-edge stands once, at the node that it leaves. Pure. -/
import Derived.Test.YtllkadgpkbaghaaY1
namespace Go.Proofs.Ytllkadgpkbaghaa
open Go.RowKit Go.Sort
open Go

/-- What stands ahead of the j-th of the v-th list. -/
def ahead (rs : List (List Int)) (v j : Nat) : List Int := (rs.take v).flatten ++ (lat rs v).take j
/-- The half-edge h may stand there. -/
def stands (es : List Pt) (rs : List (List Int)) (v j : Nat) (h : Int) : Prop := 0 ≤ h ∧ h < 2 * es.length ∧ h ∉ ahead rs v j ∧ fromL es h.toNat = v
instance (es : List Pt) (rs : List (List Int)) (v j : Nat) (h : Int) : Decidable (stands es rs v j h) := by unfold stands; infer_instance
/-- All that was looked at when j of the v-th list are over. -/
def Fits (es : List Pt) (rs : List (List Int)) (v j : Nat) : Prop := (∀ u, u < v → ∀ i, i < (lat rs u).length → stands es rs u i (iat (lat rs u) i)) ∧ ∀ i, i < j → stands es rs v i (iat (lat rs v) i)
def holdsP (es : List Pt) (rs : List (List Int)) : Prop := (∀ u, u < rs.length → ∀ i, i < (lat rs u).length → stands es rs u i (iat (lat rs u) i)) ∧ rs.flatten.length = 2 * es.length
instance (es : List Pt) (rs : List (List Int)) : Decidable (holdsP es rs) := by unfold holdsP; infer_instance
def holdsB (es : List Pt) (rs : List (List Int)) : Bool := decide (holdsP es rs)
/-- rot.May. -/
def rotI (n : Int) (es : List Pt) (rs : List (List Int)) : Int := if netB n es then (if (rs.length : Int) = n then (if holdsB es rs then 0 else 4) else 4) else 1
theorem lat_drop {rs : List (List Int)} {v : Nat} (hv : v < rs.length) : rs.take (v + 1) = rs.take v ++ [lat rs v] := by
  rw [List.take_add_one, List.getElem?_eq_getElem hv]
  unfold lat
  rw [List.getD_eq_getElem?_getD, List.getElem?_eq_getElem hv]
  rfl
theorem iat_take {l : List Int} {j : Nat} (hj : j < l.length) : l.take (j + 1) = l.take j ++ [iat l j] := by
  rw [List.take_add_one, List.getElem?_eq_getElem hj]
  unfold iat
  rw [List.getD_eq_getElem?_getD, List.getElem?_eq_getElem hj]
  rfl
theorem ahead_zero (rs : List (List Int)) : ahead rs 0 0 = [] := by simp [ahead]
theorem ahead_succ {rs : List (List Int)} {v j : Nat} (hj : j < (lat rs v).length) : ahead rs v (j + 1) = ahead rs v j ++ [iat (lat rs v) j] := by
  unfold ahead
  rw [iat_take hj, List.append_assoc]
theorem ahead_next {rs : List (List Int)} {v : Nat} (hv : v < rs.length) : ahead rs (v + 1) 0 = ahead rs v (lat rs v).length := by
  unfold ahead
  rw [lat_drop hv, List.take_length, List.flatten_append]
  simp
theorem ahead_all (rs : List (List Int)) : ahead rs rs.length 0 = rs.flatten := by simp [ahead]
theorem Fits.zero (es : List Pt) (rs : List (List Int)) : Fits es rs 0 0 := ⟨fun u hu => by omega, fun i hi => by omega⟩
theorem Fits.succ {es : List Pt} {rs : List (List Int)} {v j : Nat} (h : Fits es rs v j) (hs : stands es rs v j (iat (lat rs v) j)) : Fits es rs v (j + 1) :=
  ⟨h.1, fun i hi => by
    by_cases e : i = j
    · rw [e]; exact hs
    · exact h.2 i (by omega)⟩
theorem Fits.next {es : List Pt} {rs : List (List Int)} {v : Nat} (h : Fits es rs v (lat rs v).length) : Fits es rs (v + 1) 0 :=
  ⟨fun u hu i hi => by
    by_cases e : u = v
    · subst e; exact h.2 i hi
    · exact h.1 u (by omega) i hi, fun i hi => by omega⟩
/-- What fits has no half-edge twice, and none out of bounds. -/
theorem Fits.nodup {es : List Pt} {rs : List (List Int)} : ∀ {v j : Nat}, v ≤ rs.length → j ≤ (lat rs v).length → Fits es rs v j → (ahead rs v j).Nodup ∧ ∀ x ∈ ahead rs v j, 0 ≤ x ∧ x < 2 * es.length := by
  suffices H : ∀ v, v ≤ rs.length → (∀ j, j ≤ (lat rs v).length → Fits es rs v j → (ahead rs v j).Nodup ∧ ∀ x ∈ ahead rs v j, 0 ≤ x ∧ x < 2 * es.length) from fun {v} {j} hv hj h => H v hv j hj h
  intro v
  induction v with
  | zero =>
    intro _ j
    induction j with
    | zero => intro _ _; rw [ahead_zero]; simp
    | succ j ih =>
      intro hj h
      have h0 := ih (by omega) ⟨h.1, fun i hi => h.2 i (by omega)⟩
      obtain ⟨s1, s2, s3, _⟩ := h.2 j (by omega)
      rw [ahead_succ (by omega)]
      refine ⟨List.nodup_append.2 ⟨h0.1, by simp, fun a ha b hb => by simp at hb; subst hb; exact fun e => s3 (e ▸ ha)⟩, fun x hx => ?_⟩
      rcases List.mem_append.1 hx with hx | hx
      · exact h0.2 x hx
      · simp at hx; subst hx; exact ⟨s1, s2⟩
  | succ v ihv =>
    intro hv j
    induction j with
    | zero =>
      intro _ h
      rw [ahead_next (by omega)]
      exact ihv (by omega) _ (Nat.le_refl _) ⟨fun u hu i hi => h.1 u (by omega) i hi, fun i hi => h.1 v (by omega) i hi⟩
    | succ j ih =>
      intro hj h
      have h0 := ih (by omega) ⟨h.1, fun i hi => h.2 i (by omega)⟩
      obtain ⟨s1, s2, s3, _⟩ := h.2 j (by omega)
      rw [ahead_succ (by omega)]
      refine ⟨List.nodup_append.2 ⟨h0.1, by simp, fun a ha b hb => by simp at hb; subst hb; exact fun e => s3 (e ▸ ha)⟩, fun x hx => ?_⟩
      rcases List.mem_append.1 hx with hx | hx
      · exact h0.2 x hx
      · simp at hx; subst hx; exact ⟨s1, s2⟩
theorem nodup_nat : ∀ (m : Nat) (l : List Nat), l.Nodup → (∀ x ∈ l, x < m) → l.length ≤ m
  | 0, l, _, h => by
    cases l with
    | nil => simp
    | cons x xs => exact absurd (h x (by simp)) (by omega)
  | m + 1, l, hn, h => by
    by_cases hm : m ∈ l
    · have h1 := nodup_nat m (l.erase m) (hn.erase m) (fun x hx => by
        have h2 := h x (List.mem_of_mem_erase hx)
        have h3 : x ≠ m := fun e => by subst e; exact (List.Nodup.not_mem_erase hn) hx
        omega)
      have h4 := List.length_erase_of_mem hm
      omega
    · have := nodup_nat m l hn (fun x hx => by
        have h2 := h x hx
        have h3 : x ≠ m := fun e => hm (e ▸ hx)
        omega)
      omega
/-- Numbers that are below m, none twice, are m at most. -/
theorem nodup_le {l : List Int} {m : Nat} (hn : l.Nodup) (hb : ∀ x ∈ l, 0 ≤ x ∧ x < m) : l.length ≤ m := by
  have h1 : (l.map Int.toNat).Nodup := by
    rw [List.nodup_iff_pairwise_ne] at hn ⊢
    rw [List.pairwise_map]
    refine hn.imp_of_mem ?_
    intro a b ha hb' hab
    have := hb a ha
    have := hb b hb'
    omega
  have := nodup_nat m _ h1 (fun x hx => by
    obtain ⟨y, hy, rfl⟩ := List.mem_map.1 hx
    have := hb y hy
    omega)
  simpa using this
theorem Fits.count {es : List Pt} {rs : List (List Int)} {v j : Nat} (hv : v ≤ rs.length) (hj : j ≤ (lat rs v).length) (h : Fits es rs v j) : (ahead rs v j).length ≤ 2 * es.length := by
  obtain ⟨h1, h2⟩ := h.nodup hv hj
  exact nodup_le h1 (fun x hx => by have := h2 x hx; omega)
end Go.Proofs.Ytllkadgpkbaghaa
