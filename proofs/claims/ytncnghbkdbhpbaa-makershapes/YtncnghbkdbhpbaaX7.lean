/- Grids; degrees as counts: each node of a prism has three. -/
import Derived.Test.YtncnghbkdbhpbaaX6
namespace Go.Proofs.Ytncnghbkdbhpbaa
open Go.RowKit Go.Sort
open Go

theorem mem_gridStep {x y v : Nat} {p : Pt} : p ∈ gridStep x y v ↔ (v % x + 1 < x ∧ p = ⟨v, v + 1⟩) ∨ (v / x + 1 < y ∧ p = ⟨v, v + x⟩) := by
  unfold gridStep
  rw [List.mem_append]
  by_cases h1 : v % x + 1 < x <;> by_cases h2 : v / x + 1 < y <;> simp [h1, h2]
theorem mem_grid {x y m : Nat} {p : Pt} : p ∈ gridL x y m ↔ ∃ v, v < m ∧ ((v % x + 1 < x ∧ p = ⟨v, v + 1⟩) ∨ (v / x + 1 < y ∧ p = ⟨v, v + x⟩)) := by
  unfold gridL
  simp only [List.mem_flatMap, List.mem_range, mem_gridStep]
theorem grid_row {x v : Nat} (hx : 1 ≤ x) (h : v % x + 1 < x) : (v + 1) / x = v / x ∧ (v + 1) % x = v % x + 1 := by
  have h1 := Nat.div_add_mod v x
  have h2 : v + 1 = x * (v / x) + (v % x + 1) := by omega
  constructor
  · rw [h2, Nat.mul_add_div (by omega), Nat.div_eq_of_lt h]; simp
  · rw [h2, Nat.mul_add_mod, Nat.mod_eq_of_lt h]
theorem grid_lt {x y v : Nat} (hx : 1 ≤ x) : v < x * y ↔ v / x < y := by
  rw [Nat.div_lt_iff_lt_mul (by omega), Nat.mul_comm]
theorem grid_fine (x y : Nat) (h : 2 ≤ x) (h1 : 1 ≤ y) (h2 : x * y ≤ 1024) : Fine (x * y) (gridL x y (x * y)) where
  net := by
    refine may_is (by omega) (by omega) ?_ fun p hp => ?_
    · have := gridL_length x y (x * y); omega
    · obtain ⟨v, hv, ⟨h3, rfl⟩ | ⟨h3, rfl⟩⟩ := mem_grid.1 hp
      · have h4 := (grid_row (by omega) h3).1
        have h5 : v + 1 < x * y := (grid_lt (by omega)).2 (by rw [h4]; exact (grid_lt (by omega)).1 hv)
        simp only; omega
      · have h5 : v + x < x * y := (grid_lt (by omega)).2 (by rw [Nat.add_div_right _ (by omega)]; exact h3)
        simp only; omega
  loop p hp := by
    obtain ⟨v, hv, ⟨h3, rfl⟩ | ⟨h3, rfl⟩⟩ := mem_grid.1 hp <;> simp only <;> omega
  dis := by
    unfold Dis gridL
    rw [List.pairwise_flatMap]
    refine ⟨fun v _ => ?_, range_pw fun i j hij hj p hp q hq e => ?_⟩
    · unfold gridStep
      rw [List.pairwise_append]
      refine ⟨by split <;> simp, by split <;> simp, fun p hp q hq e => ?_⟩
      have hp' : p = ⟨v, v + 1⟩ := by split at hp <;> simp_all
      have hq' : q = ⟨v, v + x⟩ := by split at hq <;> simp_all
      subst hp' hq'
      have := prP_eq e
      simp only at this
      omega
    · have := prP_eq e
      rcases mem_gridStep.1 hp with ⟨_, rfl⟩ | ⟨_, rfl⟩ <;> rcases mem_gridStep.1 hq with ⟨_, rfl⟩ | ⟨_, rfl⟩ <;> simp only at this <;> omega
  con f hf v hv := by
    induction v using Nat.strongRecOn with
    | _ v ih =>
      by_cases h0 : v = 0
      · rw [h0]
      · by_cases hm : v % x = 0
        · have hd := Nat.div_add_mod v x
          have hq : 1 ≤ v / x := by
            rcases Nat.eq_zero_or_pos (v / x) with h5 | h5
            · rw [h5] at hd; omega
            · exact h5
          have hge : x ≤ v := by
            have := Nat.mul_le_mul_left x hq
            omega
          have hd2 : (v - x) / x + 1 = v / x := by rw [← Nat.add_div_right _ (by omega), Nat.sub_add_cancel hge]
          rw [← ih (v - x) (by omega) (by omega)]
          refine (hf (v - x) v (mem_grid.2 ⟨v - x, by omega, Or.inr ⟨?_, ?_⟩⟩)).symm
          · rw [hd2]; exact (grid_lt (by omega)).1 hv
          · congr 1; omega
        · have hd := Nat.div_add_mod v x
          have hml := Nat.mod_lt v (show x > 0 by omega)
          have e1 : v - 1 = x * (v / x) + (v % x - 1) := by omega
          have e2 : (v - 1) % x = v % x - 1 := by rw [e1, Nat.mul_add_mod, Nat.mod_eq_of_lt (by omega)]
          rw [← ih (v - 1) (by omega) (by omega)]
          refine (hf (v - 1) v (mem_grid.2 ⟨v - 1, by omega, Or.inl ⟨by omega, ?_⟩⟩)).symm
          congr 1; omega
  pos := Nat.mul_pos (by omega) (by omega)
theorem grid_part (x y : Nat) (hx : 1 ≤ x) (r : Nat) (hr : r < y) (A : Nat) (hA : (gridL x y (x * r)).length = A) : ∀ c, c ≤ x → (gridL x y (x * r + c)).length + (if c = x then 1 else 0) = A + c + (if r + 1 < y then c else 0)
  | 0, _ => by
    rw [Nat.add_zero, hA, if_neg (by omega)]
    split <;> omega
  | c + 1, hc => by
    have ih := grid_part x y hx r hr A hA c (by omega)
    rw [if_neg (by omega)] at ih
    have em : (x * r + c) % x = c := by rw [Nat.mul_add_mod, Nat.mod_eq_of_lt (by omega)]
    have ed : (x * r + c) / x = r := by rw [Nat.mul_add_div (by omega), Nat.div_eq_of_lt (by omega)]; simp
    rw [show x * r + (c + 1) = x * r + c + 1 by omega, gridL_more, List.length_append]
    unfold gridStep
    rw [em, ed, List.length_append]
    by_cases h1 : c + 1 = x <;> by_cases h2 : r + 1 < y
    · rw [if_neg (by omega), if_pos h2, if_pos h1, if_pos h2] ; rw [if_pos h2] at ih; simp; omega
    · rw [if_neg (by omega), if_neg h2, if_pos h1, if_neg h2] ; rw [if_neg h2] at ih; simp; omega
    · rw [if_pos (by omega), if_pos h2, if_neg h1, if_pos h2] ; rw [if_pos h2] at ih; simp; omega
    · rw [if_pos (by omega), if_neg h2, if_neg h1, if_neg h2] ; rw [if_neg h2] at ih; simp; omega
theorem grid_rows (x y : Nat) (hx : 1 ≤ x) : ∀ r, r < y → (gridL x y (x * r)).length + r = r * (2 * x)
  | 0, _ => by simp [gridL]
  | r + 1, hr => by
    have ih := grid_rows x y hx r (by omega)
    have h := grid_part x y hx r (by omega) _ rfl x (Nat.le_refl _)
    rw [if_pos rfl, if_pos hr] at h
    rw [Nat.mul_add, Nat.mul_one, Nat.add_mul]
    omega
theorem grid_len (x y : Nat) (hx : 1 ≤ x) (hy : 1 ≤ y) : (gridL x y (x * y)).length + x + y = 2 * x * y := by
  have h1 := grid_rows x y hx (y - 1) (by omega)
  have h2 := grid_part x y hx (y - 1) (by omega) _ rfl x (Nat.le_refl _)
  rw [if_pos rfl, if_neg (by omega), show x * (y - 1) + x = x * y by rw [← Nat.mul_succ]; congr; omega] at h2
  have e : 2 * x * y = (y - 1) * (2 * x) + 2 * x := by
    obtain ⟨z, rfl⟩ : ∃ z, y = z + 1 := ⟨y - 1, by omega⟩
    rw [Nat.add_sub_cancel, Nat.mul_add, Nat.mul_comm (2 * x) z]; omega
  omega
/-- How many edges begin, or end, at a node. -/
def cX (es : List Pt) (v : Int) : Nat := es.countP fun p => decide (p.x = v)
def cY (es : List Pt) (v : Int) : Nat := es.countP fun p => decide (p.y = v)
theorem deg_count {es : List Pt} {m : Nat} (hin : ∀ j, j < es.length → 0 ≤ (at' es j).x ∧ 0 ≤ (at' es j).y) {v : Nat} (hv : v < m) : ∀ i, i ≤ es.length → iat (degN es m i) v = cX (es.take i) v + cY (es.take i) v
  | 0, _ => by simp only [degN]; rw [iat_fill hv]; simp [cX, cY]
  | i + 1, hi => by
    have ih := deg_count hin hv i (by omega)
    have hl := degN_length es m i
    obtain ⟨h1, h2⟩ := hin i (by omega)
    simp only [degN]
    rw [bump_at _ _ _ (by rw [bump_length]; omega), bump_at _ _ _ (by omega), ih]
    have ht : es.take (i + 1) = es.take i ++ [at' es i] := by
      rw [List.take_add_one]
      congr
      unfold at'
      rw [List.getD_eq_getElem?_getD, List.getElem?_eq_getElem (by omega)]
      rfl
    rw [ht]
    unfold cX cY
    rw [List.countP_append, List.countP_append]
    have e1 : (at' es i).x.toNat = v ↔ (at' es i).x = (v : Int) := by omega
    have e2 : (at' es i).y.toNat = v ↔ (at' es i).y = (v : Int) := by omega
    by_cases c1 : (at' es i).x = (v : Int) <;> by_cases c2 : (at' es i).y = (v : Int) <;> simp [e1, e2, c1, c2] <;> omega
theorem count_range (k : Nat) (c : Int) (v : Int) : (List.range k).countP (fun (i : Nat) => decide ((i : Int) + c = v)) = if 0 ≤ v - c ∧ v - c < k then 1 else 0 := by
  induction k with
  | zero => rw [if_neg (by omega)]; rfl
  | succ k ih =>
    rw [List.range_succ, List.countP_append, ih]
    by_cases h : (k : Int) + c = v
    · rw [if_neg (by omega), if_pos (by omega)]; simp [h]
    · have h3 : (0 ≤ v - c ∧ v - c < (k : Int)) ↔ (0 ≤ v - c ∧ v - c < ((k + 1 : Nat) : Int)) := by omega
      rw [List.countP_singleton, decide_eq_false h]
      simp only [h3]
      rfl
theorem cX_cycle (n : Nat) (h : 3 ≤ n) (c v : Int) : (cycleL n).countP (fun p => decide (c + p.x = v)) = if 0 ≤ v - c ∧ v - c < n then 1 else 0 := by
  unfold cycleL pathL
  rw [List.countP_append, List.countP_map, List.countP_singleton]
  have := count_range (n - 1) c v
  simp only [Int.add_comm _ c] at this
  rw [show (List.range (n - 1)).countP ((fun p : Pt => decide (c + p.x = v)) ∘ fun (i : Nat) => (⟨i, i + 1⟩ : Pt)) = (List.range (n - 1)).countP (fun (i : Nat) => decide (c + (i : Int) = v)) from rfl, this]
  by_cases h1 : c + ((n : Int) - 1) = v
  · rw [if_neg (by omega), if_pos (by simpa using h1), if_pos (by omega)]
  · rw [if_neg (c := decide (c + ((n : Int) - 1) = v) = true) (by simpa using h1)]
    by_cases h2 : 0 ≤ v - c ∧ v - c < n
    · rw [if_pos (by omega), if_pos h2]
    · rw [if_neg (by omega), if_neg h2]
theorem cY_cycle (n : Nat) (h : 3 ≤ n) (c v : Int) : (cycleL n).countP (fun p => decide (c + p.y = v)) = if 0 ≤ v - c ∧ v - c < n then 1 else 0 := by
  unfold cycleL pathL
  rw [List.countP_append, List.countP_map, List.countP_singleton]
  have := count_range (n - 1) (c + 1) v
  rw [show (List.range (n - 1)).countP ((fun p : Pt => decide (c + p.y = v)) ∘ fun (i : Nat) => (⟨i, i + 1⟩ : Pt)) = (List.range (n - 1)).countP (fun (i : Nat) => decide ((i : Int) + (c + 1) = v)) from ?_, this]
  · by_cases h1 : c + 0 = v
    · rw [if_neg (by omega), if_pos (by simpa using h1), if_pos (by omega)]
    · rw [if_neg (c := decide (c + 0 = v) = true) (by simpa using h1)]
      by_cases h2 : 0 ≤ v - c ∧ v - c < n
      · rw [if_pos (by omega), if_pos h2]
      · rw [if_neg (by omega), if_neg h2]
  · congr
    funext i
    simp only [Function.comp]
    congr 1
    apply propext
    omega
theorem prism_deg (n : Nat) (h : 3 ≤ n) (h2 : n ≤ 500) (v : Nat) (hv : v < n + n) : iat (degN (prismL n n) (n + n) (prismL n n).length) v = 3 := by
  rw [deg_count (fun j hj => by have := (netB_is (prism_fine n h h2).net).2.2.2 j hj; omega) hv _ (Nat.le_refl _), List.take_length]
  unfold cX cY prismL joinL prismS
  rw [List.countP_append, List.countP_append, List.countP_append, List.countP_append, List.countP_map, List.countP_map, List.countP_map, List.countP_map]
  have a1 := cX_cycle n h 0 v
  have a2 := cY_cycle n h 0 v
  have a3 := cX_cycle n h n v
  have a4 := cY_cycle n h n v
  have a5 := count_range n 0 v
  have a6 := count_range n n v
  simp only [Int.zero_add] at a1 a2
  simp only [Int.add_zero] at a5
  rw [show (cycleL n).countP ((fun p : Pt => decide (p.x = (v : Int))) ∘ fun e => (⟨n + e.x, n + e.y⟩ : Pt)) = (cycleL n).countP (fun p => decide ((n : Int) + p.x = v)) from rfl, show (cycleL n).countP ((fun p : Pt => decide (p.y = (v : Int))) ∘ fun e => (⟨n + e.x, n + e.y⟩ : Pt)) = (cycleL n).countP (fun p => decide ((n : Int) + p.y = v)) from rfl]
  rw [show (List.range n).countP ((fun p : Pt => decide (p.x = (v : Int))) ∘ fun (j : Nat) => (⟨j, n + j⟩ : Pt)) = (List.range n).countP (fun (i : Nat) => decide ((i : Int) = v)) from rfl, show (List.range n).countP ((fun p : Pt => decide (p.y = (v : Int))) ∘ fun (j : Nat) => (⟨j, n + j⟩ : Pt)) = (List.range n).countP (fun (i : Nat) => decide ((i : Int) + n = v)) from ?_]
  · rw [a1, a2, a3, a4, a5, a6]
    by_cases hvn : v < n
    · rw [if_pos (by omega), if_neg (by omega)]; rfl
    · rw [if_neg (by omega), if_pos (by omega)]; rfl
  · congr
    funext i
    simp only [Function.comp]
    congr 1
    apply propext
    omega
theorem leN_all {d : List Int} {x : Int} : ∀ m, 0 < m → (∀ v, v < m → iat d v = x) → leN d m = x
  | 0, h, _ => by omega
  | m + 1, _, h => by
    simp only [leN]
    have hm := h m (by omega)
    by_cases h0 : m = 0
    · rw [if_pos (Or.inl h0), hm]
    · have := leN_all m (by omega) (fun v hv => h v (by omega))
      split
      · exact hm
      · exact this
theorem grN_all {d : List Int} {x : Int} (hx : 0 < x) : ∀ m, 0 < m → (∀ v, v < m → iat d v = x) → grN d m = x
  | 0, h, _ => by omega
  | m + 1, _, h => by
    simp only [grN]
    have hm := h m (by omega)
    by_cases h0 : m = 0
    · subst h0
      show (if (0 : Int) < iat d 0 then iat d 0 else 0) = x
      rw [hm, if_pos hx]
    · have := grN_all hx m (by omega) (fun v hv => h v (by omega))
      rw [this, hm]
      split <;> rfl
end Go.Proofs.Ytncnghbkdbhpbaa
