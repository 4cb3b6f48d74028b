/- A polyline gone back. -/
import Derived.Test.YtgnojjbdioldbaaJ6
import Derived.Test.YtgnojjbdioldbaaM6
namespace Go.Proofs.Ytgnojjbdioldbaa
open Go.RowKit Go.Sort
open Go

theorem parts_flip1 (a b c d : Pt) : partsB b a c d = partsB a b c d := by
  unfold partsB
  rw [turn_swap a b c, turn_swap a b d]
  rcases turn_cases a b c with h | h | h <;> rcases turn_cases a b d with k | k | k <;> rw [h, k] <;> rfl
theorem parts_flip2 (a b c d : Pt) : partsB a b d c = partsB a b c d := by
  unfold partsB
  rcases turn_cases a b c with h | h | h <;> rcases turn_cases a b d with k | k | k <;> rw [h, k] <;> rfl
theorem meet_flip (a b c d : Pt) : meetI c d b a = meetI a b c d := by
  rw [meetI_is, meetI_is]
  rw [parts_flip2 c d a b, parts_flip1 a b c d, Bool.and_comm (partsB c d a b)]
  have e : cnt ([c, d, b, a].filter (bothB c d b a)) = cnt ([a, b, c, d].filter (bothB a b c d)) := by
    apply cnt_congr
    intro p
    simp only [List.mem_filter, List.mem_cons, List.not_mem_nil, or_false]
    have hb : bothB c d b a p = bothB a b c d p := by
      unfold bothB
      rw [has_swap a b p, Bool.and_comm]
    rw [hb]
    constructor
    · rintro ⟨h | h | h | h, k⟩
      · exact ⟨Or.inr (Or.inr (Or.inl h)), k⟩
      · exact ⟨Or.inr (Or.inr (Or.inr h)), k⟩
      · exact ⟨Or.inr (Or.inl h), k⟩
      · exact ⟨Or.inl h, k⟩
    · rintro ⟨h | h | h | h, k⟩
      · exact ⟨Or.inr (Or.inr (Or.inr h)), k⟩
      · exact ⟨Or.inr (Or.inr (Or.inl h)), k⟩
      · exact ⟨Or.inl h, k⟩
      · exact ⟨Or.inr (Or.inl h), k⟩
  rw [e]
theorem any_congr' {f g : Pt → Bool} {l m : List Pt} (hf : ∀ e, f e = g e) (h : ∀ e, e ∈ l ↔ e ∈ m) : l.any f = m.any g := by
  rw [Bool.eq_iff_iff, List.any_eq_true, List.any_eq_true]
  exact ⟨fun ⟨e, h1, h2⟩ => ⟨e, (h e).1 h1, by rw [← hf]; exact h2⟩, fun ⟨e, h1, h2⟩ => ⟨e, (h e).2 h1, by rw [hf]; exact h2⟩⟩
theorem apart_flip (a b c d : Pt) {js js' : List Pt} (h : ∀ e, e ∈ js' ↔ e ∈ js) : apartB c d b a js' = apartB a b c d js := by
  unfold apartB
  rw [meet_flip a b c d, any_congr' (f := bothHas c d b a) (g := bothHas a b c d) (fun e => by unfold bothHas; rw [has_swap a b e, Bool.and_comm]) h]
theorem at_rev {p : List Pt} {i : Nat} (hi : i < p.length) : at' p.reverse i = at' p (p.length - 1 - i) := by
  unfold at'
  rw [List.getD_eq_getElem?_getD, List.getElem?_reverse hi, List.getD_eq_getElem?_getD]
theorem close_rev {p : List Pt} {i j : Nat} (hji : j < i) (hi : i + 1 < p.length) : closeP p.reverse j i ↔ closeP p (p.length - 2 - i) (p.length - 2 - j) := by
  unfold closeP
  rw [List.length_reverse, at_rev (by omega : 0 < p.length), at_rev (by omega : p.length - 1 < p.length), show p.length - 1 - 0 = p.length - 1 by omega, show p.length - 1 - (p.length - 1) = 0 by omega]
  constructor
  · rintro (h | ⟨h1, h2, h3⟩)
    · left; omega
    · right; exact ⟨by omega, by omega, h3.symm⟩
  · rintro (h | ⟨h1, h2, h3⟩)
    · left; omega
    · right; exact ⟨by omega, by omega, h3.symm⟩
theorem simp_back {p : List Pt} (h : Simp p) : Simp p.reverse := by
  intro i hi
  rw [List.length_reverse] at hi
  have e1 : at' p.reverse i = at' p (p.length - 2 - i + 1) := by rw [at_rev (by omega)]; congr 1; omega
  have e2 : at' p.reverse (i + 1) = at' p (p.length - 2 - i) := by rw [at_rev (by omega)]; congr 1; omega
  refine ⟨by rw [e1, e2]; exact fun k => (h (p.length - 2 - i) (by omega)).1 k.symm, fun j hj => ?_⟩
  have e3 : at' p.reverse j = at' p (p.length - 2 - j + 1) := by rw [at_rev (by omega)]; congr 1; omega
  have e4 : at' p.reverse (j + 1) = at' p (p.length - 2 - j) := by rw [at_rev (by omega)]; congr 1; omega
  rw [e1, e2, e3, e4, meet_back]
  have g := (h (p.length - 2 - j) (by omega)).2 (p.length - 2 - i) (by omega)
  rw [g]
  unfold allowI
  simp only [close_rev hj hi]
theorem simp_rev (p : List Pt) : Simp p.reverse ↔ Simp p := ⟨fun h => by have := simp_back h; rwa [List.reverse_reverse] at this, simp_back⟩
theorem mayB_rev (p : List Pt) : mayB p.reverse = mayB p := by
  unfold mayB
  rw [List.length_reverse, List.all_reverse]
theorem segN_rev (p : List Pt) : segN p.reverse = segN p := by unfold segN; rw [List.length_reverse]
theorem seg_rev {p : List Pt} {i : Nat} (h0 : 0 < p.length) (hi : i < segN p) : at' p.reverse i = segZ p (segN p - 1 - i) ∧ segZ p.reverse i = at' p (segN p - 1 - i) := by
  unfold segN at hi
  unfold segZ segN
  rw [List.length_reverse]
  by_cases h : p.length = 1
  · rw [if_pos h] at hi
    simp only [if_pos h]
    rw [at_rev (by omega), at_rev (by omega)]
    exact ⟨by congr 1; omega, by congr 1; omega⟩
  · rw [if_neg h] at hi
    simp only [if_neg h]
    rw [at_rev (by omega), at_rev (by omega)]
    exact ⟨by congr 1; omega, by congr 1; omega⟩
theorem ends_rev {p q : List Pt} (h0 : 0 < p.length) (e : Pt) : e ∈ endL q p.reverse ↔ e ∈ endL p q := by
  rw [endL_mem, endL_mem, List.length_reverse, at_rev h0, at_rev (by omega : p.length - 1 < p.length), show p.length - 1 - 0 = p.length - 1 by omega, show p.length - 1 - (p.length - 1) = 0 by omega]
  exact ⟨fun ⟨h1, h2⟩ => ⟨h2.symm, h1⟩, fun ⟨h1, h2⟩ => ⟨h2, h1.symm⟩⟩
theorem apt_rev {p q : List Pt} (h0 : 0 < p.length) : Apt q p.reverse ↔ Apt p q := by
  have key : ∀ i, i < segN p → ∀ j, apartB (at' q j) (segZ q j) (at' p.reverse i) (segZ p.reverse i) (endL q p.reverse) = apartB (at' p (segN p - 1 - i)) (segZ p (segN p - 1 - i)) (at' q j) (segZ q j) (endL p q) := by
    intro i hi j
    rw [(seg_rev h0 hi).1, (seg_rev h0 hi).2]
    exact apart_flip _ _ _ _ (ends_rev h0)
  constructor
  · intro h i hi j hj
    have := h j hj (segN p - 1 - i) (by rw [segN_rev]; omega)
    rw [key _ (by omega) j, show segN p - 1 - (segN p - 1 - i) = i by omega] at this
    exact this
  · intro h j hj i hi
    rw [segN_rev] at hi
    rw [key i hi j]
    exact h _ (by omega) j hj
abbrev ret2 (b : Bool) (n : Int) : Ending := .returned (.tuple #[.bool b, .int .i64 n])
theorem ret2_inj {b c : Bool} {n m : Int} (h : ret2 b n = ret2 c m) : b = c ∧ n = m := by
  injection h with h
  injection h with h
  simp at h
  exact h
theorem SimplePost.form {p : List Pt} {e : Ending} (h : SimplePost p e) : ∃ b n, e = ret2 b n ∧ SimplePost p (ret2 b n) := by
  have h' := h
  rcases h with ⟨_, rfl⟩ | ⟨_, _, b, rfl, _⟩
  · exact ⟨_, _, rfl, h'⟩
  · exact ⟨_, _, rfl, h'⟩
theorem ApartPost.form {p q : List Pt} {e : Ending} (h : ApartPost p q e) : ∃ b n, e = ret2 b n ∧ ApartPost p q (ret2 b n) := by
  have h' := h
  rcases h with ⟨_, rfl⟩ | ⟨_, _, _, _, b, rfl, _⟩
  · exact ⟨_, _, rfl, h'⟩
  · exact ⟨_, _, rfl, h'⟩
theorem bool_iff {a b : Bool} (h : a = true ↔ b = true) : a = b := by cases a <;> cases b <;> simp_all
theorem simple_same {p : List Pt} {b c : Bool} {n m : Int} (h : SimplePost p (ret2 b n)) (k : SimplePost p.reverse (ret2 c m)) : b = c ∧ n = m := by
  unfold SimplePost at h k
  rw [List.length_reverse, mayB_rev] at k
  rcases h with ⟨h1, h2⟩ | ⟨h1, h2, b', h3, h4⟩ <;> rcases k with ⟨k1, k2⟩ | ⟨k1, k2, c', k3, k4⟩
  · obtain ⟨rfl, rfl⟩ := ret2_inj h2
    obtain ⟨rfl, rfl⟩ := ret2_inj k2
    exact ⟨rfl, rfl⟩
  · rcases h1 with h1 | h1
    · omega
    · rw [h1] at k2; cases k2
  · rcases k1 with k1 | k1
    · omega
    · rw [k1] at h2; cases h2
  · obtain ⟨rfl, rfl⟩ := ret2_inj h3
    obtain ⟨rfl, rfl⟩ := ret2_inj k3
    exact ⟨bool_iff (h4.trans ((simp_rev p).symm.trans k4.symm)), rfl⟩
theorem apart_same {p q : List Pt} {b c : Bool} {n m : Int} (h : ApartPost p q (ret2 b n)) (k : ApartPost q p.reverse (ret2 c m)) : b = c ∧ n = m := by
  unfold ApartPost at h k
  rw [List.length_reverse, mayB_rev] at k
  rcases h with ⟨h1, h2⟩ | ⟨h1, h1', h2, h2', b', h3, h4⟩ <;> rcases k with ⟨k1, k2⟩ | ⟨k1, k1', k2, k2', c', k3, k4⟩
  · obtain ⟨rfl, rfl⟩ := ret2_inj h2
    obtain ⟨rfl, rfl⟩ := ret2_inj k2
    exact ⟨rfl, rfl⟩
  · rcases h1 with h1 | h1 | h1 | h1
    · omega
    · omega
    · rw [h1] at k2'; cases k2'
    · rw [h1] at k2; cases k2
  · rcases k1 with k1 | k1 | k1 | k1
    · omega
    · omega
    · rw [k1] at h2'; cases h2'
    · rw [k1] at h2; cases h2
  · obtain ⟨rfl, rfl⟩ := ret2_inj h3
    obtain ⟨rfl, rfl⟩ := ret2_inj k3
    exact ⟨bool_iff (h4.trans ((apt_rev h1).symm.trans k4.symm)), rfl⟩
end Go.Proofs.Ytgnojjbdioldbaa
