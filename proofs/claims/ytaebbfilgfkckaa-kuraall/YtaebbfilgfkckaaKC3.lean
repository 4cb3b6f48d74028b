/- Pure: degrees and branch nodes. -/
import Derived.Test.YtaebbfilgfkckaaKC2
namespace Go.Proofs.Ytaebbfilgfkckaa
open Go.RowKit Go.Sort
open Go
variable {es : List Pt}
theorem upd_app {f : Nat → List Int} {a v : Nat} {x : Int} : ((upd f a (f a ++ [x]) v).length : Int) = (f v).length + if a = v then 1 else 0 := by
  unfold upd
  by_cases h : v = a
  · subst h; simp
  · rw [if_neg h, if_neg (fun e => h e.symm)]; simp
theorem deg_ow {n : Nat} (hm : netB n es = true) {v : Nat} (hv : v < n) : ∀ i, i ≤ es.length → iat (degN es n i) v = ((outL es (2 * i) v).length : Int)
  | 0, _ => by simp only [degN]; rw [iat_replicate _ _ _ hv]; rfl
  | i + 1, hi => by
    have ih := deg_ow hm hv i (by omega)
    obtain ⟨_, _, _, hE⟩ := netB_is hm
    obtain ⟨x0, _, y0, _⟩ := hE i (by omega)
    have fx : fromL es (2 * i) = ((at' es i).x.toNat : Nat) := by unfold fromL; rw [if_pos (by omega), show 2 * i / 2 = i by omega]; omega
    have fy : fromL es (2 * i + 1) = ((at' es i).y.toNat : Nat) := by unfold fromL; rw [if_neg (by omega), show (2 * i + 1) / 2 = i by omega]; omega
    simp only [degN]
    rw [bump_at _ _ _ (by rw [bump_length, degN_length]; exact hv), bump_at _ _ _ (by rw [degN_length]; exact hv), ih, show 2 * (i + 1) = 2 * i + 1 + 1 by omega, outL_more es _ fy, upd_app, outL_more es _ fx, upd_app]
theorem deg_all {n : Nat} (hm : netB n es = true) {v : Nat} (hv : v < n) : iat (degN es n es.length) v = ((ow es v).length : Int) := deg_ow hm hv _ (Nat.le_refl _)
theorem ofD_is (D : List Int) (d : Int) : ∀ k, ofD D d k = ((List.range k).filter fun v => decide (iat D v = d)).map fun (v : Nat) => (v : Int)
  | 0 => rfl
  | k + 1 => by
    unfold ofD
    rw [ofD_is D d k, List.range_succ, List.filter_append, List.map_append]
    by_cases h : iat D k = d
    · rw [if_pos h, List.filter_cons_of_pos (by simpa using h)]; rfl
    · rw [if_neg h, List.filter_cons_of_neg (by simpa using h)]; simp
theorem ofD_mem {D : List Int} {d : Int} {k : Nat} {x : Int} : x ∈ ofD D d k ↔ ∃ v : Nat, x = v ∧ v < k ∧ iat D v = d := by
  rw [ofD_is, List.mem_map]
  constructor
  · rintro ⟨v, hv, rfl⟩
    rw [List.mem_filter, List.mem_range] at hv
    exact ⟨v, rfl, hv.1, by simpa using hv.2⟩
  · rintro ⟨v, rfl, h1, h2⟩
    exact ⟨v, List.mem_filter.2 ⟨List.mem_range.2 h1, by simpa using h2⟩, rfl⟩
theorem ofD_rise (D : List Int) (d : Int) (k : Nat) : (ofD D d k).Pairwise (· < ·) := by
  rw [ofD_is]
  exact List.Pairwise.map _ (fun x y h => by omega) (List.pairwise_lt_range.filter _)
theorem rise_nodup {l : List Int} (h : l.Pairwise (· < ·)) : l.Nodup := h.imp fun hab => by omega
theorem iat_inj {l : List Int} (h : l.Nodup) {i j : Nat} (hi : i < l.length) (hj : j < l.length) (e : iat l i = iat l j) : i = j := by
  unfold iat at e
  rw [List.getD_eq_getElem?_getD, List.getD_eq_getElem?_getD, List.getElem?_eq_getElem hi, List.getElem?_eq_getElem hj] at e
  have hp := List.pairwise_iff_getElem.1 (List.nodup_iff_pairwise_ne.1 h)
  simp only [Option.getD_some] at e
  rcases Nat.lt_trichotomy i j with h1 | h1 | h1
  · exact absurd e (hp i j hi hj h1)
  · exact h1
  · exact absurd e.symm (hp j i hj hi h1)
theorem sides_perm (P : Pt → List Int) (br : List Int) : ∀ k, k ≤ br.length → (sdO P br k ++ sdT P br k).Perm (br.take k)
  | 0, _ => by simp [sdO, sdT]
  | k + 1, hk => by
    have ih := sides_perm P br k (by omega)
    have hx : br[k]'(by omega) = iat br k := by
      unfold iat; rw [List.getD_eq_getElem?_getD, List.getElem?_eq_getElem (by omega)]; rfl
    rw [List.take_add_one, List.getElem?_eq_getElem (show k < br.length by omega), hx, Option.toList_some]
    unfold sdO sdT
    by_cases hP : P ⟨iat br 0, iat br k⟩ = []
    · rw [if_pos hP, if_pos hP, List.append_assoc]
      refine List.Perm.trans (List.Perm.append_left _ List.perm_append_comm) ?_
      rw [← List.append_assoc]
      exact ih.append_right _
    · rw [if_neg hP, if_neg hP, ← List.append_assoc]
      exact ih.append_right _
theorem sidesL_perm (P : Pt → List Int) (br : List Int) : (sidesL P br).Perm br := by
  have := sides_perm P br br.length (Nat.le_refl _)
  rwa [List.take_length] at this
/-- The kind that the degrees of the edges allow. -/
def kdS (n : Nat) (pk : List Pt) : Int := kdI (degN pk n pk.length) n
/-- The branch nodes, rising. -/
def brS (n : Nat) (pk : List Pt) : List Int := brL (degN pk n pk.length) n
/-- The paths between them. -/
def wyS (n : Nat) (pk : List Pt) : Pt → List Int := lyB pk (brS n pk) (brS n pk).length
/-- The branch nodes in Branch's order. -/
def bsS (n : Nat) (pk : List Pt) : List Int := if kdS n pk = 33 then sidesL (wyS n pk) (brS n pk) else brS n pk
/-- The places that are joined. -/
def jsK (k : Int) : List Pt := if k = 5 then j5 5 6 else j33 3 3
theorem kd_three (D : List Int) (n : Nat) : kdI D n = 0 ∨ (kdI D n = 5 ∧ (ofD D 4 n).length = 5 ∧ brL D n = ofD D 4 n) ∨ (kdI D n = 33 ∧ (ofD D 3 n).length = 6 ∧ brL D n = ofD D 3 n) := by
  by_cases h : ∀ v, v < n → dgOk (iat D v)
  · have hk := kd_good h
    by_cases h5 : (ofD D 3 n).length = 0 ∧ (ofD D 4 n).length = 5
    · rw [if_pos h5] at hk
      exact Or.inr (Or.inl ⟨hk, h5.2, by unfold brL; rw [if_pos hk]⟩)
    · rw [if_neg h5] at hk
      by_cases h3 : (ofD D 3 n).length = 6 ∧ (ofD D 4 n).length = 0
      · rw [if_pos h3] at hk
        exact Or.inr (Or.inr ⟨hk, h3.1, by unfold brL; rw [if_neg (by rw [hk]; decide), if_pos hk]⟩)
      · rw [if_neg h3] at hk; exact Or.inl hk
  · left; unfold kdI; rw [if_neg h]
theorem br_rise (n : Nat) (pk : List Pt) : (brS n pk).Pairwise (· < ·) := by
  unfold brS brL
  split
  · exact ofD_rise _ _ _
  · split
    · exact ofD_rise _ _ _
    · exact List.Pairwise.nil
/-- Branch nodes: nodes, each of the degree of the kind. -/
theorem br_mem {n : Nat} {pk : List Pt} (hm : netB n pk = true) {x : Int} : x ∈ brS n pk → ∃ v : Nat, x = v ∧ v < n ∧ ((ow pk v).length = 4 ∨ (ow pk v).length = 3) := by
  unfold brS brL
  split
  · intro h
    obtain ⟨v, e, h1, h2⟩ := ofD_mem.1 h
    rw [deg_all hm h1] at h2
    exact ⟨v, e, h1, by omega⟩
  · split
    · intro h
      obtain ⟨v, e, h1, h2⟩ := ofD_mem.1 h
      rw [deg_all hm h1] at h2
      exact ⟨v, e, h1, by omega⟩
    · intro h; cases h
theorem bs_perm (n : Nat) (pk : List Pt) : (bsS n pk).Perm (brS n pk) := by
  unfold bsS
  split
  · exact sidesL_perm _ _
  · exact List.Perm.refl _
theorem bs_length (n : Nat) (pk : List Pt) : (bsS n pk).length = (brS n pk).length := (bs_perm n pk).length_eq
theorem bs_nodup (n : Nat) (pk : List Pt) : (bsS n pk).Nodup := (bs_perm n pk).nodup_iff.2 (rise_nodup (br_rise n pk))
theorem bs_len {n : Nat} {pk : List Pt} (h : kdS n pk ≠ 0) : (kdS n pk = 5 ∧ (bsS n pk).length = 5) ∨ (kdS n pk = 33 ∧ (bsS n pk).length = 6) := by
  rw [bs_length]
  unfold kdS brS at *
  rcases kd_three (degN pk n pk.length) n with h0 | ⟨h1, h2, h3⟩ | ⟨h1, h2, h3⟩
  · exact absurd h0 h
  · left; rw [h3]; exact ⟨h1, h2⟩
  · right; rw [h3]; exact ⟨h1, h2⟩
theorem j5_at : ∀ i, i < 10 → ∃ x y : Nat, at' (j5 5 6) i = ⟨x, y⟩ ∧ x < y ∧ y < 5 := by
  intro i hi
  have : i = 0 ∨ i = 1 ∨ i = 2 ∨ i = 3 ∨ i = 4 ∨ i = 5 ∨ i = 6 ∨ i = 7 ∨ i = 8 ∨ i = 9 := by omega
  rcases this with rfl | rfl | rfl | rfl | rfl | rfl | rfl | rfl | rfl | rfl
  · exact ⟨0, 1, rfl, by omega, by omega⟩
  · exact ⟨0, 2, rfl, by omega, by omega⟩
  · exact ⟨0, 3, rfl, by omega, by omega⟩
  · exact ⟨0, 4, rfl, by omega, by omega⟩
  · exact ⟨1, 2, rfl, by omega, by omega⟩
  · exact ⟨1, 3, rfl, by omega, by omega⟩
  · exact ⟨1, 4, rfl, by omega, by omega⟩
  · exact ⟨2, 3, rfl, by omega, by omega⟩
  · exact ⟨2, 4, rfl, by omega, by omega⟩
  · exact ⟨3, 4, rfl, by omega, by omega⟩
theorem j33_at : ∀ i, i < 9 → at' (j33 3 3) i = ⟨((i / 3 : Nat) : Int), ((3 + i % 3 : Nat) : Int)⟩ := by
  intro i hi
  have : i = 0 ∨ i = 1 ∨ i = 2 ∨ i = 3 ∨ i = 4 ∨ i = 5 ∨ i = 6 ∨ i = 7 ∨ i = 8 := by omega
  rcases this with rfl | rfl | rfl | rfl | rfl | rfl | rfl | rfl | rfl <;> rfl
theorem j5_length : (j5 5 6).length = 10 := by decide
theorem j33_length : (j33 3 3).length = 9 := by decide
theorem j5_inj : ∀ i j, i < 10 → j < 10 → at' (j5 5 6) i = at' (j5 5 6) j → i = j := by
  have key : ∀ i, i < 10 → ∀ j, j < 10 → (at' (j5 5 6) i).x = (at' (j5 5 6) j).x → (at' (j5 5 6) i).y = (at' (j5 5 6) j).y → i = j := by decide
  exact fun i j hi hj e => key i hi j hj (by rw [e]) (by rw [e])
theorem js_at {n : Nat} {pk : List Pt} (h : kdS n pk ≠ 0) {i : Nat} (hi : i < (jsK (kdS n pk)).length) : ∃ x y : Nat, at' (jsK (kdS n pk)) i = ⟨x, y⟩ ∧ x < y ∧ y < (bsS n pk).length := by
  rcases bs_len h with ⟨h1, h2⟩ | ⟨h1, h2⟩
  · rw [h1] at hi ⊢
    rw [h2]
    obtain ⟨x, y, e, h3, h4⟩ := j5_at i (by rw [show jsK 5 = j5 5 6 from rfl, j5_length] at hi; exact hi)
    exact ⟨x, y, e, h3, h4⟩
  · rw [h1] at hi ⊢
    rw [h2]
    have hi' : i < 9 := by rw [show jsK 33 = j33 3 3 from rfl, j33_length] at hi; exact hi
    exact ⟨i / 3, 3 + i % 3, j33_at i hi', by omega, by omega⟩
theorem js_inj {n : Nat} {pk : List Pt} (h : kdS n pk ≠ 0) {i j : Nat} (hi : i < (jsK (kdS n pk)).length) (hj : j < (jsK (kdS n pk)).length) (e : at' (jsK (kdS n pk)) i = at' (jsK (kdS n pk)) j) : i = j := by
  rcases bs_len h with ⟨h1, _⟩ | ⟨h1, _⟩
  · rw [h1] at hi hj e
    exact j5_inj i j (by rw [show jsK 5 = j5 5 6 from rfl, j5_length] at hi; exact hi) (by rw [show jsK 5 = j5 5 6 from rfl, j5_length] at hj; exact hj) e
  · rw [h1] at hi hj e
    have hi' : i < 9 := by rw [show jsK 33 = j33 3 3 from rfl, j33_length] at hi; exact hi
    have hj' : j < 9 := by rw [show jsK 33 = j33 3 3 from rfl, j33_length] at hj; exact hj
    have e' : at' (j33 3 3) i = at' (j33 3 3) j := e
    rw [j33_at i hi', j33_at j hj'] at e'
    injection e' with e1 e2
    omega
theorem key_inj {n : Nat} {pk : List Pt} (h : kdS n pk ≠ 0) {i j : Nat} (hi : i < (jsK (kdS n pk)).length) (hj : j < (jsK (kdS n pk)).length) (e : keyP (bsS n pk) (jsK (kdS n pk)) i = keyP (bsS n pk) (jsK (kdS n pk)) j) : i = j := by
  obtain ⟨x, y, e1, h1, h2⟩ := js_at h hi
  obtain ⟨x', y', e2, h3, h4⟩ := js_at h hj
  refine js_inj h hi hj ?_
  unfold keyP at e
  rw [e1, e2] at e
  simp only [Int.toNat_natCast, Pt.mk.injEq] at e
  have a := iat_inj (bs_nodup n pk) (by omega) (by omega) e.1
  have b := iat_inj (bs_nodup n pk) (by omega) (by omega) e.2
  rw [e1, e2, a, b]
end Go.Proofs.Ytaebbfilgfkckaa
