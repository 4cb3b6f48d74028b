/- Where in a list each number stands, or the list's first fault. -/
import Derived.Test.YtllkadgpkbaghaaN2
namespace Go.Proofs.Ytllkadgpkbaghaa
open Go.RowKit Go.Sort
open Go


/-- The first that is not nought among k numbers. -/
def errN (f : Nat → Int) : Nat → Int
  | 0 => 0
  | k + 1 => if errN f k = 0 then f k else errN f k
theorem errN_zero {f : Nat → Int} : ∀ k, (∀ j, j < k → f j = 0) → errN f k = 0
  | 0, _ => rfl
  | k + 1, h => by simp only [errN]; rw [errN_zero k (fun j hj => h j (by omega)), if_pos rfl]; exact h k (by omega)
theorem errN_all {f : Nat → Int} : ∀ k, errN f k = 0 → ∀ j, j < k → f j = 0
  | 0, _, j, hj => by omega
  | k + 1, h, j, hj => by
    simp only [errN] at h
    by_cases e : errN f k = 0
    · rw [if_pos e] at h
      rcases Nat.lt_succ_iff_lt_or_eq.1 hj with h1 | h1
      · exact errN_all k e j h1
      · rw [h1]; exact h
    · rw [if_neg e] at h; exact absurd h e
theorem errN_first {f : Nat → Int} {i : Nat} (h : ∀ j, j < i → f j = 0) (hi : f i ≠ 0) : ∀ k, i < k → errN f k = f i
  | 0, hk => by omega
  | k + 1, hk => by
    simp only [errN]
    rcases Nat.lt_succ_iff_lt_or_eq.1 hk with h1 | h1
    · rw [errN_first h hi k h1, if_neg hi]
    · subst h1; rw [errN_zero i h, if_pos rfl]
def metB (l : List Int) (i : Nat) : Bool := (List.range i).any fun k => decide (iat l k = iat l i)
theorem metB_no {l : List Int} {i : Nat} (h : metB l i = false) : ∀ k, k < i → iat l k ≠ iat l i := by
  intro k hk e
  unfold metB at h
  rw [List.any_eq_false] at h
  exact h k (List.mem_range.2 hk) (by simp [e])
theorem metB_yes {l : List Int} {i k : Nat} (hk : k < i) (e : iat l k = iat l i) : metB l i = true := by
  unfold metB
  rw [List.any_eq_true]
  exact ⟨k, List.mem_range.2 hk, by simp [e]⟩
theorem metB_of_no {l : List Int} {i : Nat} (h : ∀ k, k < i → iat l k ≠ iat l i) : metB l i = false := by
  cases hm : metB l i
  · rfl
  · unfold metB at hm
    rw [List.any_eq_true] at hm
    obtain ⟨k, hk, e⟩ := hm
    exact absurd (of_decide_eq_true e) (h k (List.mem_range.1 hk))
/-- What is wrong with the number at i: beyond n (2), or there already (18). -/
def chk (l : List Int) (n : Int) (i : Nat) : Int := if belowB (iat l i) n then (if metB l i then 18 else 0) else 2
def errL (l : List Int) (n : Int) : Int := errN (chk l n) l.length
/-- Where each number stands, by the first i of the list. -/
def plN (l : List Int) (m : Nat) : Nat → List Int
  | 0 => List.replicate m (-1)
  | i + 1 => (plN l m i).set (iat l i).toNat i
theorem plN_length (l : List Int) (m : Nat) : ∀ i, (plN l m i).length = m
  | 0 => by simp [plN]
  | i + 1 => by simp [plN, plN_length l m i]
theorem iat_set (l : List Int) (j k : Nat) (x : Int) (hk : k < l.length) : iat (l.set j x) k = if j = k then x else iat l k := by
  unfold iat
  rw [List.getD_eq_getElem?_getD, List.getD_eq_getElem?_getD, List.getElem?_set]
  by_cases h : j = k
  · subst h; simp [hk]
  · simp [h]
theorem iat_replicate (m k : Nat) (x : Int) (hk : k < m) : iat (List.replicate m x) k = x := by
  unfold iat
  rw [List.getD_eq_getElem?_getD, List.getElem?_replicate, if_pos hk]; rfl
theorem belowB_is {x n : Int} (h : belowB x n = true) : 0 ≤ x ∧ x < n := by simpa [belowB] using h
theorem chk_zero {l : List Int} {n : Int} {i : Nat} (h : chk l n i = 0) : (0 ≤ iat l i ∧ iat l i < n) ∧ ∀ k, k < i → iat l k ≠ iat l i := by
  unfold chk at h
  split at h
  · rename_i hb
    split at h
    · omega
    · rename_i hm
      exact ⟨belowB_is hb, metB_no (by simpa using hm)⟩
  · omega
theorem chk_of {l : List Int} {n : Int} {i : Nat} (h : 0 ≤ iat l i ∧ iat l i < n) (k : ∀ k, k < i → iat l k ≠ iat l i) : chk l n i = 0 := by
  unfold chk
  rw [show belowB (iat l i) n = true by simp [belowB, h.1, h.2], if_pos rfl, metB_of_no k]
  rfl
/-- The list of places, by its content. -/
theorem plN_at {l : List Int} {m : Nat} : ∀ {i : Nat}, (∀ j, j < i → chk l m j = 0) → ∀ x : Nat, x < m → (∀ k, k < i → iat l k = (x : Int) → iat (plN l m i) x = (k : Int)) ∧ ((∀ k, k < i → iat l k ≠ (x : Int)) → iat (plN l m i) x = -1)
  | 0, _, x, hx => ⟨fun k hk => by omega, fun _ => iat_replicate m x (-1) hx⟩
  | i + 1, h, x, hx => by
    obtain ⟨h1, h2⟩ := plN_at (l := l) (m := m) (i := i) (fun j hj => h j (by omega)) x hx
    have hc := chk_zero (h i (by omega))
    have hl := plN_length l m i
    simp only [plN]
    rw [iat_set _ _ _ _ (by omega)]
    refine ⟨fun k hk e => ?_, fun hno => ?_⟩
    · by_cases hki : k = i
      · subst hki; rw [if_pos (by omega)]
      · have hne := hc.2 k (by omega)
        rw [if_neg (by omega)]
        exact h1 k (by omega) e
    · have hne := hno i (by omega)
      rw [if_neg (by omega)]
      exact h2 fun k hk => hno k (by omega)
theorem plN_free {l : List Int} {m i x : Nat} (h : ∀ j, j < i → chk l m j = 0) (hx : x < m) : iat (plN l m i) x = -1 ↔ ∀ k, k < i → iat l k ≠ (x : Int) := by
  obtain ⟨h1, h2⟩ := plN_at h x hx
  refine ⟨fun e k hk ek => ?_, h2⟩
  have := h1 k hk ek
  omega

theorem IOwns.frozen {w : World} {base g cap : Nat} {l : List Int} (h : IOwns w base (.slice (some ⟨g, 0, none⟩) l.length cap) l) (j : Nat) : w.frozen? ⟨g, j, none⟩ = false := World.ownsRow.frozenAt h j
theorem IOwns.at_ {w : World} {base g cap : Nat} {l : List Int} (h : IOwns w base (.slice (some ⟨g, 0, none⟩) l.length cap) l) {j : Nat} (hj : j < l.length) : w.cell? ⟨g, j, none⟩ = some (.int .i64 (iat l j)) := by
  have := h.lies j hj
  rw [Nat.zero_add] at this
  exact this
/-- n numbers in block g of one's own. -/
def IRow (w : World) (base g n : Nat) (l : List Int) : Prop := l.length = n ∧ IOwns w base (.slice (some ⟨g, 0, none⟩) l.length n) l
theorem IRow.cell {w : World} {base g n : Nat} {l : List Int} (h : IRow w base g n l) {j : Nat} (hj : j < n) : w.cell? ⟨g, j, none⟩ = some (.int .i64 (iat l j)) ∧ w.frozen? ⟨g, j, none⟩ = false := ⟨h.2.at_ (by rw [h.1]; exact hj), h.2.frozen j⟩
theorem IRow.set {w : World} {base g n : Nat} {l : List Int} (h : IRow w base g n l) (j : Nat) (x : Int) : IRow (w.setCell ⟨g, j, none⟩ (.int .i64 x)) base g n (l.set j x) := ⟨by rw [List.length_set]; exact h.1, h.2.set j x⟩
theorem IRow.later {w w' : World} {base g n : Nat} {l : List Int} (h : IRow w base g n l) (hb : Below w.heap.size w w') : IRow w' base g n l := ⟨h.1, h.2.later hb⟩
theorem IRow.lt {w : World} {base g n : Nat} {l : List Int} (h : IRow w base g n l) : base ≤ g ∧ g < w.heap.size := World.ownsRow.lt h.2 g rfl
theorem IRow.owns {w : World} {base g n : Nat} {l : List Int} (h : IRow w base g n l) : IOwns w base (.slice (some ⟨g, 0, none⟩) n n) l := by
  have := h.2
  rw [h.1] at this
  exact this
theorem irow_made {w : World} {base g n : Nat} (h : w.ownsRow base 3 1 (.slice (some ⟨g, 0, none⟩) n n) n (madeCells #[.int .i64 0] n).toList) : IRow w base g n (List.replicate n 0) := by
  rw [toList_madeCells_one] at h
  refine ⟨List.length_replicate, ?_⟩
  unfold IOwns
  rw [List.length_replicate, icells_zero]
  exact h
theorem below_made {w w' : World} (h : w.grownBy w' none) : Below w.heap.size w w' := ⟨h.os, h.tape, h.output, h.size, fun k hk => h.block k hk (by simp)⟩

def PlPost (l : List Int) (m : Nat) (w : World) (e : Ending) (w' : World) : Prop := (errL l m = 0 ∧ ∃ g, e = .returned (.tuple #[.slice (some ⟨g, 0, none⟩) m m, .int .i64 0]) ∧ IRow w' w.heap.size g m (plN l m l.length)) ∨ (errL l m ≠ 0 ∧ e = .returned (.tuple #[.slice none 0 0, .int .i64 (errL l m)]))
end Go.Proofs.Ytllkadgpkbaghaa
