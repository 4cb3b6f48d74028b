/- Pure: a subdivision's edges, one less, or one more. -/
import Derived.Test.YtaebbfilgfkckaaKD3
import Derived.Test.YtaebbfilgfkckaaEP
namespace Go.Proofs.Ytaebbfilgfkckaa
open Go.RowKit Go.Sort
open Go
theorem pick_append (es : List Pt) (a b : List Int) : pick es (a ++ b) = pick es a ++ pick es b := List.map_append
theorem iat_get {l : List Int} {i : Nat} (h : i < l.length) : iat l i = l[i] := by
  unfold iat; rw [List.getD_eq_getElem?_getD, List.getElem?_eq_getElem h]; rfl
theorem sub_of {n : Int} {es : List Pt} {l : List Int} (hm : netB n es = true) (h1 : ∀ i, i < l.length → 0 ≤ iat l i ∧ iat l i < es.length) (h2 : ∀ i k, k < i → i < l.length → iat l k ≠ iat l i) : subE n es l = 0 := by
  unfold subE
  rw [if_pos hm]
  exact errN_zero _ fun j hj => chk_of (h1 j hj) fun k hk => h2 j k hk hj
/-- A list without what stands at a place. -/
def lessL (l : List Int) (at_ : Nat) : List Int := l.take at_ ++ l.drop (at_ + 1)
theorem lessL_length {l : List Int} {a : Nat} (h : a < l.length) : (lessL l a).length = l.length - 1 := by
  unfold lessL; rw [List.length_append, List.length_take, List.length_drop]; omega
theorem lessL_at {l : List Int} {a : Nat} (h : a < l.length) {i : Nat} (_ : i < l.length - 1) : iat (lessL l a) i = iat l (if i < a then i else i + 1) := by
  unfold iat lessL
  rw [List.getD_eq_getElem?_getD, List.getD_eq_getElem?_getD]
  by_cases h1 : i < a
  · rw [if_pos h1, List.getElem?_append_left (by rw [List.length_take]; omega), List.getElem?_take_of_lt h1]
  · rw [if_neg h1, List.getElem?_append_right (by rw [List.length_take]; omega), List.length_take, List.getElem?_drop, show a + 1 + (i - min a l.length) = i + 1 by omega]
theorem pick_less {es : List Pt} {l : List Int} {a : Nat} (h : a < l.length) : pick es l = insE (pick es (lessL l a)) a (at' es (iat l a).toNat) ∧ a ≤ (pick es (lessL l a)).length := by
  constructor
  · unfold insE lessL
    rw [pick_append]
    have h1 : (pick es (l.take a)).length = a := by rw [pick_length, List.length_take]; omega
    rw [List.take_append_of_le_length (by omega), List.take_of_length_le (by omega), List.drop_append_of_le_length (by omega), List.drop_of_length_le (by omega), List.nil_append]
    have e : l = l.take a ++ l[a] :: l.drop (a + 1) := by rw [← List.drop_eq_getElem_cons h, List.take_append_drop]
    conv => lhs; rw [e]
    rw [pick_append, iat_get h]
    rfl
  · rw [pick_length, lessL_length h]; omega
/-- One edge less. -/
theorem kn_less {n : Int} {es : List Pt} {l : List Int} {a : Nat} (h : isK n es l) (ha : a < l.length) : knI n es (lessL l a) = 0 ∧ subE n es (lessL l a) = 0 := by
  obtain ⟨h1, h2⟩ := h
  obtain ⟨hm, hin, hun⟩ := sub_ok h1
  have hl := lessL_length ha
  have hs : subE n es (lessL l a) = 0 := sub_of hm (fun i hi => by
    rw [lessL_at ha (by omega)]
    refine hin _ ?_
    split <;> omega) (fun i k hk hi => by
    rw [lessL_at ha (by omega), lessL_at ha (by omega)]
    refine hun _ _ ?_ ?_
    · split <;> split <;> omega
    · split <;> omega)
  refine ⟨?_, hs⟩
  have hp := net_pick h1
  have hp' := net_pick hs
  obtain ⟨n0, _⟩ := netB_is hm
  obtain ⟨m, rfl⟩ : ∃ m : Nat, n = m := ⟨n.toNat, by omega⟩
  obtain ⟨e, hj⟩ := pick_less (es := es) ha
  unfold knI
  rw [if_neg]
  intro hk
  rw [Int.toNat_natCast] at h2
  have hk2 : okS (m : Int).toNat _ := hk.2
  rw [Int.toNat_natCast] at hk2
  rw [e] at hp h2
  exact ok_more hp' hp hj hk2 h2
/-- One edge more. -/
theorem kn_more {n : Int} {es : List Pt} {l : List Int} (x : Int) (h : isK n es l) : knI n es (l ++ [x]) = 0 ∧ (subE n es (l ++ [x]) = 0 ∨ subE n es (l ++ [x]) = 2 ∨ subE n es (l ++ [x]) = 18) := by
  obtain ⟨h1, h2⟩ := h
  obtain ⟨hm, hin, hun⟩ := sub_ok h1
  have hc : ∀ (l : List Int) (m : Int) i, chk l m i = 0 ∨ chk l m i = 2 ∨ chk l m i = 18 := fun l m i => by
    unfold chk
    split
    · split
      · exact Or.inr (Or.inr rfl)
      · exact Or.inl rfl
    · exact Or.inr (Or.inl rfl)
  have he : ∀ (f : Nat → Int) (hf : ∀ i, f i = 0 ∨ f i = 2 ∨ f i = 18) k, errN f k = 0 ∨ errN f k = 2 ∨ errN f k = 18 := fun f hf k => by
    induction k with
    | zero => exact Or.inl rfl
    | succ k ih =>
      simp only [errN]
      split
      · exact hf k
      · exact ih
  refine ⟨?_, ?_⟩
  · unfold knI
    rw [if_neg]
    intro hk
    have hp := net_pick h1
    have hp' := net_pick hk.1
    obtain ⟨n0, _⟩ := netB_is hm
    obtain ⟨m, rfl⟩ : ∃ m : Nat, n = m := ⟨n.toNat, by omega⟩
    rw [Int.toNat_natCast] at h2
    have hk2 : okS (m : Int).toNat _ := hk.2
    rw [Int.toNat_natCast] at hk2
    have e : pick es (l ++ [x]) = insE (pick es l) (pick es l).length (at' es x.toNat) := by
      unfold insE
      rw [pick_append, List.take_length, List.drop_length]
      rfl
    rw [e] at hp' hk2
    exact ok_more hp hp' (Nat.le_refl _) h2 hk2
  · unfold subE
    rw [if_pos hm]
    exact he _ (hc _ _) _
theorem k_pos {n : Int} {es : List Pt} {l : List Int} (h : isK n es l) : 0 < l.length := by
  obtain ⟨h1, h2⟩ := h
  obtain ⟨hm, _⟩ := sub_ok h1
  obtain ⟨n0, _⟩ := netB_is hm
  obtain ⟨m, rfl⟩ : ∃ m : Nat, n = m := ⟨n.toNat, by omega⟩
  rw [Int.toNat_natCast] at h2
  have := pk_pos (net_pick h1) h2.1
  rwa [pick_length] at this
end Go.Proofs.Ytaebbfilgfkckaa
