/- How two segments meet, as plain numbers: what crosses has boxes that meet; the ends on both are counted in whatever order. -/
import Derived.Test.YtgnojjbdioldbaaG5
namespace Go.Proofs.Ytgnojjbdioldbaa
open Go.RowKit Go.Sort
open Go

theorem box_lt {β α γ δ ax bx cx dx m : Int} (hβ : 0 < β) (hα : α < 0) (hγ : 0 < γ) (hδ : δ < 0) (hD : β - α = γ - δ) (hI : β * ax - α * bx = γ * dx - δ * cx) (h1 : ax < m) (h2 : bx < m) (h3 : m ≤ cx) (h4 : m ≤ dx) : False := by
  have p1 := Int.mul_pos hβ (show 0 < m - ax by omega)
  have p2 := Int.mul_pos (show 0 < -α by omega) (show 0 < m - bx by omega)
  have p3 := Int.mul_nonneg (Int.le_of_lt hγ) (show 0 ≤ dx - m by omega)
  have p4 := Int.mul_nonneg (show 0 ≤ -δ by omega) (show 0 ≤ cx - m by omega)
  have e : β * m - α * m = γ * m - δ * m := by rw [← Int.sub_mul, ← Int.sub_mul, hD]
  simp only [Int.mul_sub, Int.neg_mul] at p1 p2 p3 p4
  omega
theorem box_overlap {β α γ δ ax bx cx dx : Int} (h : (0 < β ∧ α < 0 ∧ 0 < γ ∧ δ < 0) ∨ (β < 0 ∧ 0 < α ∧ γ < 0 ∧ 0 < δ)) (hD : β - α = γ - δ) (hI : β * ax - α * bx = γ * dx - δ * cx) : overlapB ax bx cx dx = true := by
  have neg : ∀ a b : Int, -a * -b = a * b := fun a b => by grind
  have negl : ∀ a b : Int, -a * b = - (a * b) := fun a b => by grind
  have negr : ∀ a b : Int, a * -b = - (a * b) := fun a b => by grind
  unfold overlapB
  simp only [Bool.and_eq_true, decide_eq_true_eq]
  refine ⟨Classical.byContradiction fun k => ?_, Classical.byContradiction fun k => ?_⟩
  · rcases h with ⟨a1, a2, a3, a4⟩ | ⟨a1, a2, a3, a4⟩
    · exact box_lt a1 a2 a3 a4 hD hI (m := min cx dx) (by omega) (by omega) (by omega) (by omega)
    · exact box_lt (β := -β) (α := -α) (γ := -γ) (δ := -δ) (ax := ax) (bx := bx) (cx := cx) (dx := dx) (m := min cx dx) (by omega) (by omega) (by omega) (by omega) (by omega) (by simp only [negl]; omega) (by omega) (by omega) (by omega) (by omega)
  · rcases h with ⟨a1, a2, a3, a4⟩ | ⟨a1, a2, a3, a4⟩
    · exact box_lt (β := β) (α := α) (γ := γ) (δ := δ) (ax := -ax) (bx := -bx) (cx := -cx) (dx := -dx) (m := -(max cx dx)) a1 a2 a3 a4 hD (by simp only [negr]; omega) (by omega) (by omega) (by omega) (by omega)
    · exact box_lt (β := -β) (α := -α) (γ := -γ) (δ := -δ) (ax := -ax) (bx := -bx) (cx := -cx) (dx := -dx) (m := -(max cx dx)) (by omega) (by omega) (by omega) (by omega) (by omega) (by simp only [neg]; omega) (by omega) (by omega) (by omega) (by omega)
theorem sgn_mul_neg {m n : Int} (h : sgn m * sgn n < 0) : (0 < m ∧ n < 0) ∨ (m < 0 ∧ 0 < n) := by
  unfold sgn at h
  repeat' split at h
  all_goals omega
theorem cross_near (a b c d : Pt) (h1 : partsB a b c d = true) (h2 : partsB c d a b = true) : nearB a b c d = true := by
  unfold partsB turnI at h1 h2
  have k1 := sgn_mul_neg (of_decide_eq_true h1)
  have k2 := sgn_mul_neg (of_decide_eq_true h2)
  have hD : crossI c d b - crossI c d a = crossI a b c - crossI a b d := by unfold crossI; grind
  have hX : crossI c d b * a.x - crossI c d a * b.x = crossI a b c * d.x - crossI a b d * c.x := by unfold crossI; grind
  have hY : crossI c d b * a.y - crossI c d a * b.y = crossI a b c * d.y - crossI a b d * c.y := by unfold crossI; grind
  unfold nearB
  rw [Bool.and_eq_true]
  exact ⟨box_overlap (by omega) hD hX, box_overlap (by omega) hD hY⟩
theorem both_near (a b c d p : Pt) (h : bothB a b c d p = true) : nearB a b c d = true := by
  unfold bothB hasB betweenB at h
  unfold nearB overlapB
  simp only [Bool.and_eq_true, decide_eq_true_eq] at h ⊢
  omega

/-- How many unlike points: 0, 2 of one, 3 of more. -/
def cnt : List Pt → Int
  | [] => 0
  | p :: r => if r.all (fun q => decide (q = p)) then 2 else 3
theorem shared2 (h : Pt → Bool) : ∀ (L : List Pt) (f : Pt), shared h L 2 f = if (L.filter h).all (fun q => decide (q = f)) then 2 else 3
  | [], f => by simp [shared]
  | p :: r, f => by
    unfold shared
    cases hp : h p
    · simp only [Bool.false_eq_true, if_false, List.filter_cons, hp]
      exact shared2 h r f
    · by_cases e : p = f
      · subst e
        simp only [if_true, List.filter_cons, hp, List.all_cons, ne_eq, not_true, and_false, if_false, decide_true, Bool.true_and]
        exact shared2 h r p
      · simp [hp, e]
theorem shared0 (h : Pt → Bool) : ∀ (L : List Pt) (f : Pt), shared h L 0 f = cnt (L.filter h)
  | [], f => by simp [shared, cnt]
  | p :: r, f => by
    unfold shared
    cases hp : h p
    · simp only [Bool.false_eq_true, if_false, List.filter_cons, hp]
      exact shared0 h r f
    · simp only [if_true, List.filter_cons, hp, cnt]
      rw [if_neg (by omega)]
      exact shared2 h r p
theorem sharedI_cnt (a b c d : Pt) : sharedI a b c d = cnt ([a, b, c, d].filter (bothB a b c d)) := shared0 _ _ _
theorem cnt_cases (F : List Pt) : (F = [] ∧ cnt F = 0) ∨ (F ≠ [] ∧ (∀ p ∈ F, ∀ q ∈ F, p = q) ∧ cnt F = 2) ∨ (F ≠ [] ∧ (¬ ∀ p ∈ F, ∀ q ∈ F, p = q) ∧ cnt F = 3) := by
  cases F with
  | nil => exact Or.inl ⟨rfl, rfl⟩
  | cons p r =>
    by_cases h : r.all (fun q => decide (q = p)) = true
    · refine Or.inr (Or.inl ⟨by simp, ?_, by simp [cnt, h]⟩)
      simp only [List.all_eq_true, decide_eq_true_eq] at h
      intro x hx y hy
      have e : ∀ z ∈ p :: r, z = p := fun z hz => by
        rcases List.mem_cons.1 hz with k | k
        · exact k
        · exact h z k
      rw [e x hx, e y hy]
    · refine Or.inr (Or.inr ⟨by simp, fun k => h ?_, by simp [cnt, h]⟩)
      simp only [List.all_eq_true, decide_eq_true_eq]
      exact fun x hx => k x (List.mem_cons_of_mem _ hx) p List.mem_cons_self
theorem cnt_congr {F G : List Pt} (h : ∀ p, p ∈ F ↔ p ∈ G) : cnt F = cnt G := by
  have hn : F = [] ↔ G = [] := by
    constructor
    · intro e; subst e; cases G with
      | nil => rfl
      | cons p r => exact absurd ((h p).2 List.mem_cons_self) (by simp)
    · intro e; subst e; cases F with
      | nil => rfl
      | cons p r => exact absurd ((h p).1 List.mem_cons_self) (by simp)
  have ha : (∀ p ∈ F, ∀ q ∈ F, p = q) ↔ (∀ p ∈ G, ∀ q ∈ G, p = q) :=
    ⟨fun k p hp q hq => k p ((h p).2 hp) q ((h q).2 hq), fun k p hp q hq => k p ((h p).1 hp) q ((h q).1 hq)⟩
  rcases cnt_cases F with ⟨f1, f2⟩ | ⟨f1, f2, f3⟩ | ⟨f1, f2, f3⟩ <;> rcases cnt_cases G with ⟨g1, g2⟩ | ⟨g1, g2, g3⟩ | ⟨g1, g2, g3⟩
  · rw [f2, g2]
  · exact absurd (hn.1 f1) g1
  · exact absurd (hn.1 f1) g1
  · exact absurd (hn.2 g1) f1
  · rw [f3, g3]
  · exact absurd (ha.1 f2) g2
  · exact absurd (hn.2 g1) f1
  · exact absurd (ha.2 g2) f2
  · rw [f3, g3]
theorem cnt_map {f : Pt → Pt} (hf : ∀ p q, f p = f q → p = q) (F : List Pt) : cnt (F.map f) = cnt F := by
  cases F with
  | nil => rfl
  | cons p r =>
    have : (r.map f).all (fun q => decide (q = f p)) = r.all (fun q => decide (q = p)) := by
      rw [List.all_map]
      congr 1
      funext q
      simp only [Function.comp]
      by_cases h : q = p
      · simp [h]
      · have : f q ≠ f p := fun k => h (hf _ _ k)
        simp [h, this]
    simp only [List.map_cons, cnt, this]

/-- How two segments meet, without the test of the boxes. -/
theorem meetI_is (a b c d : Pt) : meetI a b c d = if partsB a b c d && partsB c d a b then 1 else cnt ([a, b, c, d].filter (bothB a b c d)) := by
  unfold meetI
  rw [sharedI_cnt]
  cases hn : nearB a b c d
  · have h1 : (partsB a b c d && partsB c d a b) = false := by
      rw [Bool.eq_false_iff]
      intro k
      rw [Bool.and_eq_true] at k
      rw [cross_near a b c d k.1 k.2] at hn
      cases hn
    have h2 : [a, b, c, d].filter (bothB a b c d) = [] := by
      rw [List.filter_eq_nil_iff]
      intro p _ k
      rw [both_near a b c d p k] at hn
      cases hn
    rw [h1, h2]
    simp [cnt]
  · simp
end Go.Proofs.Ytgnojjbdioldbaa
