/- The law's behind, the document's Twin; the lengths of two lists of faces, counted against each other. -/
import Derived.Test.YtllkadgpkbaghaaE8
import Derived.Test.YtllkadgpkbaghaaY15
namespace Go.Proofs.Ytllkadgpkbaghaa
open Go.RowKit Go.Sort
open Go
set_option maxRecDepth 100000 in
set_option maxHeartbeats 4000000 in
theorem twin25 (h : Nat) (w : World) (hh : h ≤ 1000000) : Calls Try.prog 25 #[.int .i64 h] w fun e w' => e = .returned (.int .i64 (tw h : Nat)) ∧ Below w.heap.size w w' := by
  have hq : Int.tmod (h : Int) 2 = ((h % 2 : Nat) : Int) := by
    rw [Int.tmod_eq_emod_of_nonneg (by omega)]
    omega
  unfold tw
  by_cases h2 : h % 2 = 0
  · rw [if_pos h2]
    have t1 : (Int.tmod (h : Int) 2 == 0) = true := by rw [hq, h2]; rfl
    have t2 : Int.tmod (h : Int) 2 = 0 := by rw [hq, h2]; rfl
    clear hq
    go_enter Try.func25, Try.ntmps25
    go_wp2
    go_ret
    exact ⟨by go_num, Below.refl _ _⟩
  · rw [if_neg h2]
    have t1 : (Int.tmod (h : Int) 2 == 0) = false := by rw [hq]; simp; omega
    have t2 : ¬ Int.tmod (h : Int) 2 = 0 := by rw [hq]; omega
    have t3 : 1 ≤ h := by omega
    clear hq
    go_enter Try.func25, Try.ntmps25
    go_wp2
    go_ret
    exact ⟨by go_num, Below.refl _ _⟩
set_option maxRecDepth 100000 in
set_option maxHeartbeats 4000000 in
theorem behind23 (p : Option Addr) (l : List Int) (c i : Nat) (x : Int) (w : World) (hI : IHas w p l) (hl : l.length ≤ 1000000) (hi : i < l.length) (hx : iat l i = x) (hb : ∀ j, j < i → iat l j ≠ x) : Calls Try.prog 23 #[.slice p l.length c, .int .i64 x] w fun e w' => e = .returned (.int .i64 (iat l ((i + 1) % l.length))) ∧ Below w.heap.size w w' := by
  rcases hI with h | ⟨b, o, rfl, hL⟩
  · rw [h] at hi; simp at hi
  have HL := hide hL
  have HN := hide hb
  have HX := hide hx
  obtain ⟨z, hz⟩ : ∃ z, iat l ((i + 1) % l.length) = z := ⟨_, rfl⟩
  rw [hz]
  have HZ := hide hz
  clear hL hb hx hz
  go_enter Try.func23, Try.ntmps23
  go_wp2_with fail
  go_loopw [5] (fun t5 wr => ∃ j : Nat, j ≤ i ∧ t5 = .int .i64 j ∧ Hid (Below w.heap.size w wr)) (fun t5 _ => i - (intOf t5).toNat)
  case atStart => exact ⟨0, by omega, rfl, Below.refl _ _⟩
  case round =>
    obtain ⟨j, hj, rfl, HB⟩ := hrel
    have j1 : (j : Int) < l.length := by omega
    have c0 := later HB.out (HL.out j (by omega))
    by_cases hji : j < i
    · have hne := HN.out j hji
      obtain ⟨y, hy⟩ : ∃ y, iat l j = y := ⟨_, rfl⟩
      rw [hy] at c0 hne
      have t1 : (y == x) = false := by simp [hne]
      clear hy hne
      go_wp2
      go_roundw
      case rel => exact ⟨j + 1, by omega, by go_num, HB.out⟩
      case measure => simp [intOf]; omega
    · have hje : i = j := by omega
      subst hje
      rw [HX.out] at c0
      have t1 : (x == x) = true := by simp
      have hm : (i + 1) % l.length < l.length := Nat.mod_lt _ (by omega)
      have c1 := later HB.out (HL.out _ hm)
      rw [HZ.out] at c1
      obtain ⟨r, hr⟩ : ∃ r, (i + 1) % l.length = r := ⟨_, rfl⟩
      have hrem : Int.tmod ((i : Int) + 1) l.length = (r : Int) := by
        rw [Int.tmod_eq_emod_of_nonneg (by omega), ← hr]
        have := Int.natCast_emod (i + 1) l.length
        rw [this]; rfl
      rw [hr] at c1 hm
      have j2 : (r : Int) < l.length := by omega
      have j4 : ¬ (l.length : Int) = 0 := by omega
      clear hr
      go_wp2
      go_ret
      exact ⟨rfl, HB.out⟩
/-- How many lists of a length there are, of the first j. -/
def lc (F : List (List Int)) (j i : Nat) : Int := ((F.take j).countP fun l => decide (l.length = i) : Nat)
theorem lc_zero (F : List (List Int)) (i : Nat) : lc F 0 i = 0 := by simp [lc]
theorem lc_succ {F : List (List Int)} {j : Nat} (hj : j < F.length) (i : Nat) : lc F (j + 1) i = lc F j i + (if (lat F j).length = i then 1 else 0) := by
  unfold lc
  rw [lat_drop hj, List.countP_append]
  by_cases h : (lat F j).length = i
  · simp [h]
  · simp [h]
theorem lc_le (F : List (List Int)) (j i : Nat) : 0 ≤ lc F j i ∧ lc F j i ≤ j := by
  unfold lc
  have h1 := List.countP_le_length (p := fun l : List Int => decide (l.length = i)) (l := F.take j)
  have h2 := List.length_take_le j F
  omega
theorem lc_all {F P : List (List Int)} (h : (P.map List.length).Perm (F.map List.length)) (i : Nat) : lc F F.length i = lc P P.length i := by
  unfold lc
  rw [List.take_length, List.take_length]
  have := h.countP_eq fun x => decide (x = i)
  rw [List.countP_map, List.countP_map] at this
  have e : ((fun x => decide (x = i)) ∘ List.length : List Int → Bool) = fun l => decide (l.length = i) := rfl
  rw [e] at this
  omega
/-- The table of lengths, when the first j of both are over. -/
def ltab (F P : List (List Int)) (M j : Nat) : List Int := (List.range M).map fun i => lc F j i - lc P j i
theorem ltab_len (F P : List (List Int)) (M j : Nat) : (ltab F P M j).length = M := by simp [ltab]
theorem ltab_at {F P : List (List Int)} {M j i : Nat} (hi : i < M) : iat (ltab F P M j) i = lc F j i - lc P j i := by
  unfold ltab iat
  rw [List.getD_eq_getElem?_getD, List.getElem?_map, List.getElem?_range hi]
  rfl
theorem ltab_zero (F P : List (List Int)) (M : Nat) : ltab F P M 0 = List.replicate M 0 := by
  refine List.ext_getElem (by simp [ltab]) fun i h1 h2 => ?_
  simp [ltab, lc_zero]
theorem list_iat {A B : List Int} (hl : A.length = B.length) (h : ∀ i, i < A.length → iat A i = iat B i) : A = B := by
  refine List.ext_getElem hl fun i h1 h2 => ?_
  have := h i h1
  unfold iat at this
  rw [List.getD_eq_getElem?_getD, List.getD_eq_getElem?_getD, List.getElem?_eq_getElem h1, List.getElem?_eq_getElem h2] at this
  simpa using this
theorem ltab_step {F P : List (List Int)} {M j a b : Nat} (hF : j < F.length) (hP : j < P.length) (ha : (lat F j).length = a) (hb : (lat P j).length = b) (haM : a < M) (hbM : b < M) : ∃ y, iat ((ltab F P M j).set a (iat (ltab F P M j) a + 1)) b = y ∧ -100000 - 2 * (j : Int) ≤ y ∧ y ≤ 100000 + 2 * j ∧ ltab F P M (j + 1) = ((ltab F P M j).set a (iat (ltab F P M j) a + 1)).set b (y - 1) := by
  have hlen := ltab_len F P M j
  refine ⟨_, rfl, ?_, ?_, ?_⟩
  · rw [iat_set _ _ _ _ (by rw [hlen]; exact hbM)]
    have h1 := lc_le F j a
    have h2 := lc_le P j a
    have h3 := lc_le F j b
    have h4 := lc_le P j b
    rw [ltab_at haM, ltab_at hbM]
    split <;> omega
  · rw [iat_set _ _ _ _ (by rw [hlen]; exact hbM)]
    have h1 := lc_le F j a
    have h2 := lc_le P j a
    have h3 := lc_le F j b
    have h4 := lc_le P j b
    rw [ltab_at haM, ltab_at hbM]
    split <;> omega
  · refine list_iat (by simp [ltab_len]) fun i hi => ?_
    rw [ltab_len] at hi
    rw [ltab_at hi, lc_succ hF, lc_succ hP, ha, hb, iat_set _ _ _ _ (by rw [List.length_set, hlen]; exact hi), iat_set _ _ _ _ (by rw [hlen]; exact hbM), iat_set _ _ _ _ (by rw [hlen]; exact hi), ltab_at haM, ltab_at hbM, ltab_at hi]
    by_cases h1 : a = i <;> by_cases h2 : b = i <;> simp only [h1, h2, if_true, if_false] <;> (try subst h1) <;> (try subst h2) <;> (try simp only [if_true]) <;> (try split) <;> omega
theorem ltab_end {F P : List (List Int)} {M i : Nat} (h : (P.map List.length).Perm (F.map List.length)) (hl : P.length = F.length) (hi : i < M) : iat (ltab F P M F.length) i = 0 := by
  rw [ltab_at hi, lc_all h, hl]
  omega
end Go.Proofs.Ytllkadgpkbaghaa
