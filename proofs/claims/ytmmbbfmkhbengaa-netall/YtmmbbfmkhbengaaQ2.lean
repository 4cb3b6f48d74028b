/- Sums of degrees; all nodes, all edges; there and back: the lists. -/
import Derived.Test.YtmmbbfmkhbengaaN8
import Derived.Test.YtmmbbfmkhbengaaN9
import Derived.Test.YtmmbbfmkhbengaaQ1
namespace Go.Proofs.Ytmmbbfmkhbengaa
open Go.RowKit
open Go

theorem sideN_len (T : List Int) (i : Nat) (r : Pt) (v : Int) : ((sideN T i r v 2).length : Int) = T.length + (if r.x = v then 1 else 0) + (if r.y = v then 1 else 0) := by
  simp only [sideN, List.length_append]
  split <;> split <;> simp <;> omega
theorem out_deg {es : List Pt} {n : Nat} (hes : ∀ j, j < es.length → 0 ≤ (at' es j).x ∧ (at' es j).x < n ∧ 0 ≤ (at' es j).y ∧ (at' es j).y < n) {v : Nat} (hv : v < n) : ∀ i, i ≤ es.length → ((outN es v i).length : Int) = iat (degN es n i) v
  | 0, _ => by simp only [outN, degN]; rw [iat_replicate _ _ _ hv]; rfl
  | i + 1, hi => by
    have ih := out_deg hes hv i (by omega)
    have hl := degN_length es n i
    have h := hes i (by omega)
    simp only [outN, degN]
    rw [sideN_len, ih, bump_at _ _ _ (by rw [bump_length]; omega), bump_at _ _ _ (by omega)]
    have e1 : ((at' es i).x = (v : Int)) ↔ ((at' es i).x.toNat = v) := by omega
    have e2 : ((at' es i).y = (v : Int)) ↔ ((at' es i).y.toNat = v) := by omega
    simp only [e1, e2]
def sumN (l : List Int) : Nat → Int
  | 0 => 0
  | i + 1 => sumN l i + iat l i
theorem sumN_bump (l : List Int) (j : Nat) : ∀ i, i ≤ l.length → sumN (bump l j) i = sumN l i + if j < i then 1 else 0
  | 0, _ => by simp [sumN]
  | i + 1, hi => by
    simp only [sumN]
    rw [sumN_bump l j i (by omega), bump_at _ _ _ (by omega)]
    by_cases h1 : j < i
    · rw [if_pos h1, if_neg (by omega), if_pos (by omega)]; omega
    · by_cases h2 : j = i
      · rw [if_neg h1, if_pos h2, if_pos (by omega)]; omega
      · rw [if_neg h1, if_neg h2, if_neg (by omega)]; omega
theorem sumN_zero (m : Nat) : ∀ i, i ≤ m → sumN (List.replicate m 0) i = 0
  | 0, _ => rfl
  | i + 1, hi => by simp only [sumN]; rw [sumN_zero m i (by omega), iat_replicate _ _ _ (by omega)]; rfl
theorem deg_sum {es : List Pt} {n : Nat} (hes : ∀ j, j < es.length → 0 ≤ (at' es j).x ∧ (at' es j).x < n ∧ 0 ≤ (at' es j).y ∧ (at' es j).y < n) : ∀ i, i ≤ es.length → sumN (degN es n i) n = 2 * i
  | 0, _ => by simp only [degN]; rw [sumN_zero n n (Nat.le_refl _)]; rfl
  | i + 1, hi => by
    have ih := deg_sum hes i (by omega)
    have hl := degN_length es n i
    have h := hes i (by omega)
    simp only [degN]
    rw [sumN_bump _ _ _ (by rw [bump_length]; omega), sumN_bump _ _ _ (by omega), ih, if_pos (by omega), if_pos (by omega)]
    omega
theorem sumN_in {es : List Pt} {n : Nat} (k : Nat) : ∀ i, i ≤ n → 0 ≤ sumN (degN es n k) i ∧ sumN (degN es n k) i ≤ i * (2 * k)
  | 0, _ => by simp [sumN]
  | i + 1, hi => by
    have ih := sumN_in (es := es) (n := n) k i (by omega)
    have := degN_in es n k i (by omega)
    simp only [sumN]
    rw [show ((i + 1 : Nat) : Int) * (2 * k) = i * (2 * k) + 2 * k by push_cast; rw [Int.add_mul, Int.one_mul]]
    omega
/-- 0 to m - 1. -/
def rangeI : Nat → List Int
  | 0 => []
  | i + 1 => rangeI i ++ [(i : Int)]
theorem rangeI_length : ∀ m, (rangeI m).length = m
  | 0 => rfl
  | m + 1 => by simp [rangeI, rangeI_length m]
theorem rangeI_map : ∀ m, rangeI m = (List.range m).map fun j : Nat => (j : Int)
  | 0 => rfl
  | m + 1 => by rw [List.range_succ, List.map_append, ← rangeI_map m]; rfl
theorem rangeI_at {m j : Nat} (h : j < m) : iat (rangeI m) j = j := by
  rw [rangeI_map, iat_map _ _ 0 (by simpa using h), List.getD_eq_getElem?_getD, List.getElem?_range h]
  rfl
theorem rangeI_ok (m : Nat) : errL (rangeI m) m = 0 := errL_of fun j hj => by
  rw [rangeI_length] at hj
  rw [rangeI_at hj]
  refine ⟨by omega, fun k hk => ?_⟩
  rw [rangeI_at (by omega)]
  omega
theorem pick_all (es : List Pt) : pick es (rangeI es.length) = es := by
  apply at_ext
  · rw [pick_length, rangeI_length]
  · intro j hj
    rw [pick_length, rangeI_length] at hj
    rw [pick_at _ _ (by rw [rangeI_length]; exact hj), rangeI_at hj, Int.toNat_natCast]
theorem places_all {n x : Nat} (hx : x < n) : iat (placesOf n (rangeI n)) x = x := (places_at (rangeI_ok n) hx).1 x (by rw [rangeI_length]; exact hx) (rangeI_at hx)
theorem part_all {es : List Pt} {n : Nat} (hes : ∀ j, j < es.length → 0 ≤ (at' es j).x ∧ (at' es j).x < n ∧ 0 ≤ (at' es j).y ∧ (at' es j).y < n) : partN n es (rangeI n) = es := by
  have hp : ∀ p ∈ es, insB (placesOf n (rangeI n)) p = true ∧ ren (placesOf n (rangeI n)) p = p := by
    intro p hp
    obtain ⟨j, hj, e⟩ := mem_at hp
    have h := hes j hj
    rw [e] at h
    have e1 := places_all (n := n) (x := p.x.toNat) (by omega)
    have e2 := places_all (n := n) (x := p.y.toNat) (by omega)
    obtain ⟨px, py⟩ := p
    simp only at h e1 e2
    unfold insB ren
    simp only
    rw [e1, e2]
    refine ⟨by simp; omega, ?_⟩
    rw [show ((px.toNat : Nat) : Int) = px by omega, show ((py.toNat : Nat) : Int) = py by omega]
  rw [partN_filter, List.filter_eq_self.2 (fun p h => (hp p h).1)]
  conv => rhs; rw [← List.map_id es]
  exact List.map_congr_left fun p h => (hp p h).2
theorem which_all_len {es : List Pt} {n : Nat} (hes : ∀ j, j < es.length → 0 ≤ (at' es j).x ∧ (at' es j).x < n ∧ 0 ≤ (at' es j).y ∧ (at' es j).y < n) : (which es (placesOf n (rangeI n))).length = es.length := by
  rw [← partN_length, part_all hes]
/-- There and back. -/
def bkN (t : List Int) (m : Nat) : Nat → List Int
  | 0 => List.replicate m 0
  | i + 1 => (bkN t m i).set (iat t i).toNat i
theorem bkN_length (t : List Int) (m : Nat) : ∀ i, (bkN t m i).length = m
  | 0 => by simp [bkN]
  | i + 1 => by simp [bkN, bkN_length t m i]
theorem bkN_at {t : List Int} {m : Nat} (h : errL t m = 0) : ∀ i, i ≤ t.length → ∀ k, k < i → iat (bkN t m i) (iat t k).toNat = k
  | 0, _, k, hk => by omega
  | i + 1, hi, k, hk => by
    have hl := bkN_length t m i
    obtain ⟨⟨a1, a2⟩, a3⟩ := errL_is h i (by omega)
    obtain ⟨⟨b1, b2⟩, _⟩ := errL_is h k (by omega)
    simp only [bkN]
    rw [iat_set _ _ _ _ (by omega)]
    by_cases hki : k = i
    · subst hki; rw [if_pos rfl]
    · have := a3 k (by omega)
      rw [if_neg (by omega)]
      exact bkN_at h i (by omega) k (by omega)
theorem full_hit {t : List Int} {m : Nat} (h : errL t m = 0) (hl : t.length = m) {x : Nat} (hx : x < m) : ∃ k, k < t.length ∧ iat t k = (x : Int) := by
  have hc := plN_count (errN_all _ h)
  have hpl := plN_length t m t.length
  have hall : ∀ a ∈ plN t m t.length, decide (a ≠ -1) = true := by
    rw [← List.countP_eq_length, hc, hpl, hl]
  apply Classical.byContradiction
  intro hn
  have hf := (plN_free (errN_all _ h) hx).2 fun k hk e => hn ⟨k, hk, e⟩
  have := hall _ (iat_mem (l := plN t m t.length) (j := x) (by omega))
  rw [hf] at this
  simp at this
theorem back_inv {t : List Int} {m : Nat} (h : errL t m = 0) (hl : t.length = m) {x : Nat} (hx : x < m) : ∃ k : Nat, k < m ∧ iat (bkN t m m) x = k ∧ iat t k = x := by
  obtain ⟨k, hk, e⟩ := full_hit h hl hx
  have := bkN_at h m (by omega) k (by omega)
  rw [e, Int.toNat_natCast] at this
  exact ⟨k, by omega, this, e⟩
theorem back_ok {t : List Int} {m : Nat} (h : errL t m = 0) (hl : t.length = m) : errL (bkN t m m) m = 0 := errL_of fun j hj => by
  rw [bkN_length] at hj
  obtain ⟨k, hk, e1, e2⟩ := back_inv h hl hj
  rw [e1]
  refine ⟨by omega, fun i hi e => ?_⟩
  obtain ⟨k', _, f1, f2⟩ := back_inv h hl (x := i) (by omega)
  rw [f1] at e
  have : k' = k := by omega
  subst this
  omega
theorem rename_ends {es : List Pt} {n : Nat} {t : List Int} (hes : ∀ j, j < es.length → 0 ≤ (at' es j).x ∧ (at' es j).x < n ∧ 0 ≤ (at' es j).y ∧ (at' es j).y < n) (ht : errL t n = 0) (hl : t.length = n) : ∀ j, j < (rename es t).length → 0 ≤ (at' (rename es t) j).x ∧ (at' (rename es t) j).x < n ∧ 0 ≤ (at' (rename es t) j).y ∧ (at' (rename es t) j).y < n := fun j hj => by
  rw [rename_length] at hj
  have h := hes j hj
  rw [rename_at _ _ hj]
  have h1 := (errL_is ht (at' es j).x.toNat (by omega)).1
  have h2 := (errL_is ht (at' es j).y.toNat (by omega)).1
  exact ⟨h1.1, h1.2, h2.1, h2.2⟩
theorem netB_of {n : Int} {es : List Pt} (h0 : 0 ≤ n) (h1 : n ≤ 1024) (h2 : es.length ≤ 3072) (h : ∀ j, j < es.length → 0 ≤ (at' es j).x ∧ (at' es j).x < n ∧ 0 ≤ (at' es j).y ∧ (at' es j).y < n) : netB n es = true :=
  net_yes h0 (by simp [fitsB]; omega) fun j hj => by have := h j hj; simp [edB, belowB]; omega
theorem rename_back {es : List Pt} {n : Nat} {t : List Int} (hes : ∀ j, j < es.length → 0 ≤ (at' es j).x ∧ (at' es j).x < n ∧ 0 ≤ (at' es j).y ∧ (at' es j).y < n) (ht : errL t n = 0) (hl : t.length = n) : rename (rename es t) (bkN t n n) = es := by
  apply at_ext
  · rw [rename_length, rename_length]
  · intro j hj
    rw [rename_length, rename_length] at hj
    have h := hes j hj
    rw [rename_at _ _ (by rw [rename_length]; exact hj), rename_at _ _ hj]
    have e1 := bkN_at ht n (by omega) (at' es j).x.toNat (by omega)
    have e2 := bkN_at ht n (by omega) (at' es j).y.toNat (by omega)
    simp only
    rw [e1, e2, show (((at' es j).x.toNat : Nat) : Int) = (at' es j).x by omega, show (((at' es j).y.toNat : Nat) : Int) = (at' es j).y by omega]
end Go.Proofs.Ytmmbbfmkhbengaa
