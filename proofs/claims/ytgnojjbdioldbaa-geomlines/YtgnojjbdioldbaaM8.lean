/- Two points on two segments: then two ends are on both. -/
import Derived.Test.YtgnojjbdioldbaaM5
import Derived.Test.YtgnojjbdioldbaaJ6
namespace Go.Proofs.Ytgnojjbdioldbaa
open Go.RowKit Go.Sort
open Go

theorem int_zero_of_mul {a b : Int} (ha : a ≠ 0) (h : a * b = 0) : b = 0 := by
  rcases Int.mul_eq_zero.1 h with h | h
  · exact absurd h ha
  · exact h
/-- On the line through two points, the one coordinate tells the other. -/
structure OnLine (D k jx jy px py : Int) : Prop where
  eq : D * (py - jy) = k * (px - jx)
def OnSeg (ax ay bx bY px py : Int) : Prop := (min ax bx ≤ px ∧ px ≤ max ax bx) ∧ (min ay bY ≤ py ∧ py ≤ max ay bY) ∧ (bx - ax) * (py - ay) - (bY - ay) * (px - ax) = 0
theorem line_end {ax ay bx bY jx jy ex ey : Int} (h : jx < ex) (hj : OnSeg ax ay bx bY jx jy) (he : OnSeg ax ay bx bY ex ey) : (ex - jx) * (ay - jy) = (ey - jy) * (ax - jx) ∧ (ex - jx) * (bY - jy) = (ey - jy) * (bx - jx) := by
  obtain ⟨h1, _, h2⟩ := hj
  obtain ⟨h3, _, h4⟩ := he
  have hu : bx - ax ≠ 0 := by omega
  constructor
  · have : (bx - ax) * ((ex - jx) * (ay - jy) - (ey - jy) * (ax - jx)) = 0 := by grind
    have := int_zero_of_mul hu this
    omega
  · have : (bx - ax) * ((ex - jx) * (bY - jy) - (ey - jy) * (bx - jx)) = 0 := by grind
    have := int_zero_of_mul hu this
    omega
theorem mul_same {D k x y u v : Int} (hD : 0 < D) (h1 : D * u = k * x) (h2 : D * v = k * y) (hx : 0 ≤ x) (hy : 0 ≤ y) : (0 ≤ u ∧ 0 ≤ v) ∨ (u ≤ 0 ∧ v ≤ 0) := by
  by_cases hk : 0 ≤ k
  · left
    have a1 : 0 ≤ D * u := by rw [h1]; exact Int.mul_nonneg hk hx
    have a2 : 0 ≤ D * v := by rw [h2]; exact Int.mul_nonneg hk hy
    exact ⟨Int.nonneg_of_mul_nonneg_right a1 hD, Int.nonneg_of_mul_nonneg_right a2 hD⟩
  · right
    have a1 : 0 ≤ D * (-u) := by rw [Int.mul_neg, h1, ← Int.neg_mul]; exact Int.mul_nonneg (by omega) hx
    have a2 : 0 ≤ D * (-v) := by rw [Int.mul_neg, h2, ← Int.neg_mul]; exact Int.mul_nonneg (by omega) hy
    have b1 := Int.nonneg_of_mul_nonneg_right a1 hD
    have b2 := Int.nonneg_of_mul_nonneg_right a2 hD
    omega
theorem line_on {D k jx jy ax ay bx bY px py : Int} (hD : 0 < D) (ha : D * (ay - jy) = k * (ax - jx)) (hb : D * (bY - jy) = k * (bx - jx)) (hp : D * (py - jy) = k * (px - jx)) (h : (ax ≤ px ∧ px ≤ bx) ∨ (bx ≤ px ∧ px ≤ ax)) : OnSeg ax ay bx bY px py := by
  have c : (bx - ax) * (py - ay) - (bY - ay) * (px - ax) = 0 := by
    apply int_zero_of_mul (show D ≠ 0 by omega)
    grind
  have e1 : D * (py - ay) = k * (px - ax) := by grind
  have e2 : D * (bY - py) = k * (bx - px) := by grind
  have e3 : D * (ay - py) = k * (ax - px) := by grind
  have e4 : D * (py - bY) = k * (px - bx) := by grind
  refine ⟨by omega, ?_, c⟩
  rcases h with ⟨h1, h2⟩ | ⟨h1, h2⟩
  · rcases mul_same hD e1 e2 (by omega) (by omega) with h | h <;> omega
  · rcases mul_same hD e3 e4 (by omega) (by omega) with h | h <;> omega
/-- Two points on both, the one left of the other: a left end and a right end are on both. -/
theorem two_ends {ax ay bx bY cx cy dx dy jx jy ex ey : Int} (h : jx < ex) (h1 : OnSeg ax ay bx bY jx jy) (h2 : OnSeg ax ay bx bY ex ey) (h3 : OnSeg cx cy dx dy jx jy) (h4 : OnSeg cx cy dx dy ex ey) :
    ∃ px py qx qy : Int, px < qx ∧ ((px = ax ∧ py = ay) ∨ (px = bx ∧ py = bY) ∨ (px = cx ∧ py = cy) ∨ (px = dx ∧ py = dy)) ∧ ((qx = ax ∧ qy = ay) ∨ (qx = bx ∧ qy = bY) ∨ (qx = cx ∧ qy = cy) ∨ (qx = dx ∧ qy = dy)) ∧
      OnSeg ax ay bx bY px py ∧ OnSeg cx cy dx dy px py ∧ OnSeg ax ay bx bY qx qy ∧ OnSeg cx cy dx dy qx qy := by
  obtain ⟨la, lb⟩ := line_end h h1 h2
  obtain ⟨lc, ld⟩ := line_end h h3 h4
  have hD : 0 < ex - jx := by omega
  have b1 := h1.1
  have b2 := h2.1
  have b3 := h3.1
  have b4 := h4.1
  have lo : ∃ px py : Int, px ≤ jx ∧ ((px = ax ∧ py = ay) ∨ (px = bx ∧ py = bY) ∨ (px = cx ∧ py = cy) ∨ (px = dx ∧ py = dy)) ∧ (ex - jx) * (py - jy) = (ey - jy) * (px - jx) ∧ min ax bx ≤ px ∧ min cx dx ≤ px := by
    by_cases k1 : ax ≤ bx <;> by_cases k2 : cx ≤ dx
    · by_cases k3 : cx ≤ ax
      · exact ⟨ax, ay, by omega, by simp, la, by omega, by omega⟩
      · exact ⟨cx, cy, by omega, by simp, lc, by omega, by omega⟩
    · by_cases k3 : dx ≤ ax
      · exact ⟨ax, ay, by omega, by simp, la, by omega, by omega⟩
      · exact ⟨dx, dy, by omega, by simp, ld, by omega, by omega⟩
    · by_cases k3 : cx ≤ bx
      · exact ⟨bx, bY, by omega, by simp, lb, by omega, by omega⟩
      · exact ⟨cx, cy, by omega, by simp, lc, by omega, by omega⟩
    · by_cases k3 : dx ≤ bx
      · exact ⟨bx, bY, by omega, by simp, lb, by omega, by omega⟩
      · exact ⟨dx, dy, by omega, by simp, ld, by omega, by omega⟩
  have hi : ∃ px py : Int, ex ≤ px ∧ ((px = ax ∧ py = ay) ∨ (px = bx ∧ py = bY) ∨ (px = cx ∧ py = cy) ∨ (px = dx ∧ py = dy)) ∧ (ex - jx) * (py - jy) = (ey - jy) * (px - jx) ∧ px ≤ max ax bx ∧ px ≤ max cx dx := by
    by_cases k1 : ax ≤ bx <;> by_cases k2 : cx ≤ dx
    · by_cases k3 : bx ≤ dx
      · exact ⟨bx, bY, by omega, by simp, lb, by omega, by omega⟩
      · exact ⟨dx, dy, by omega, by simp, ld, by omega, by omega⟩
    · by_cases k3 : bx ≤ cx
      · exact ⟨bx, bY, by omega, by simp, lb, by omega, by omega⟩
      · exact ⟨cx, cy, by omega, by simp, lc, by omega, by omega⟩
    · by_cases k3 : ax ≤ dx
      · exact ⟨ax, ay, by omega, by simp, la, by omega, by omega⟩
      · exact ⟨dx, dy, by omega, by simp, ld, by omega, by omega⟩
    · by_cases k3 : ax ≤ cx
      · exact ⟨ax, ay, by omega, by simp, la, by omega, by omega⟩
      · exact ⟨cx, cy, by omega, by simp, lc, by omega, by omega⟩
  obtain ⟨px, py, p1, p2, p3, p4, p5⟩ := lo
  obtain ⟨qx, qy, q1, q2, q3, q4, q5⟩ := hi
  refine ⟨px, py, qx, qy, by omega, p2, q2, ?_, ?_, ?_, ?_⟩
  · exact line_on hD la lb p3 (by omega)
  · exact line_on hD lc ld p3 (by omega)
  · exact line_on hD la lb q3 (by omega)
  · exact line_on hD lc ld q3 (by omega)
theorem sgn_zero {n : Int} (h : sgn n = 0) : n = 0 := by unfold sgn at h; repeat' split at h <;> omega
theorem has_seg (a b p : Pt) : hasB a b p = true ↔ OnSeg a.x a.y b.x b.y p.x p.y := by
  unfold hasB betweenB OnSeg turnI crossI
  simp only [Bool.and_eq_true, decide_eq_true_eq, beq_iff_eq]
  constructor
  · rintro ⟨⟨h1, h2⟩, h3⟩; exact ⟨h1, h2, sgn_zero h3⟩
  · rintro ⟨h1, h2, h3⟩; exact ⟨⟨h1, h2⟩, by rw [h3]; rfl⟩
theorem seg_swap {ax ay bx bY px py : Int} : OnSeg ax ay bx bY px py ↔ OnSeg ay ax bY bx py px := by
  unfold OnSeg
  constructor
  · rintro ⟨h1, h2, h3⟩; exact ⟨h2, h1, by omega⟩
  · rintro ⟨h1, h2, h3⟩; exact ⟨h2, h1, by omega⟩
/-- If two unlike points are on both segments, two unlike ends are. -/
theorem ends_unlike {a b c d j e : Pt} (hj : bothB a b c d j = true) (he : bothB a b c d e = true) (hne : j ≠ e) : ∃ p q, p ∈ [a, b, c, d] ∧ q ∈ [a, b, c, d] ∧ bothB a b c d p = true ∧ bothB a b c d q = true ∧ p ≠ q := by
  unfold bothB at *
  simp only [Bool.and_eq_true, has_seg] at *
  obtain ⟨j1, j2⟩ := hj
  obtain ⟨e1, e2⟩ := he
  have key : ∀ {u v : Pt}, OnSeg a.x a.y b.x b.y u.x u.y → OnSeg c.x c.y d.x d.y u.x u.y → OnSeg a.x a.y b.x b.y v.x v.y → OnSeg c.x c.y d.x d.y v.x v.y → u.x < v.x → ∃ p q, p ∈ [a, b, c, d] ∧ q ∈ [a, b, c, d] ∧ (OnSeg a.x a.y b.x b.y p.x p.y ∧ OnSeg c.x c.y d.x d.y p.x p.y) ∧ (OnSeg a.x a.y b.x b.y q.x q.y ∧ OnSeg c.x c.y d.x d.y q.x q.y) ∧ p ≠ q := by
    intro u v k1 k2 k3 k4 hlt
    obtain ⟨px, py, qx, qy, h1, h2, h3, h4, h5, h6, h7⟩ := two_ends hlt k1 k3 k2 k4
    refine ⟨⟨px, py⟩, ⟨qx, qy⟩, ?_, ?_, ⟨h4, h5⟩, ⟨h6, h7⟩, fun e => by have := congrArg Pt.x e; simp at this; omega⟩
    · rcases h2 with ⟨rfl, rfl⟩ | ⟨rfl, rfl⟩ | ⟨rfl, rfl⟩ | ⟨rfl, rfl⟩ <;> simp
    · rcases h3 with ⟨rfl, rfl⟩ | ⟨rfl, rfl⟩ | ⟨rfl, rfl⟩ | ⟨rfl, rfl⟩ <;> simp
  have key2 : ∀ {u v : Pt}, OnSeg a.x a.y b.x b.y u.x u.y → OnSeg c.x c.y d.x d.y u.x u.y → OnSeg a.x a.y b.x b.y v.x v.y → OnSeg c.x c.y d.x d.y v.x v.y → u.y < v.y → ∃ p q, p ∈ [a, b, c, d] ∧ q ∈ [a, b, c, d] ∧ (OnSeg a.x a.y b.x b.y p.x p.y ∧ OnSeg c.x c.y d.x d.y p.x p.y) ∧ (OnSeg a.x a.y b.x b.y q.x q.y ∧ OnSeg c.x c.y d.x d.y q.x q.y) ∧ p ≠ q := by
    intro u v k1 k2 k3 k4 hlt
    obtain ⟨px, py, qx, qy, h1, h2, h3, h4, h5, h6, h7⟩ := two_ends hlt (seg_swap.1 k1) (seg_swap.1 k3) (seg_swap.1 k2) (seg_swap.1 k4)
    refine ⟨⟨py, px⟩, ⟨qy, qx⟩, ?_, ?_, ⟨seg_swap.2 h4, seg_swap.2 h5⟩, ⟨seg_swap.2 h6, seg_swap.2 h7⟩, fun e => by have := congrArg Pt.y e; simp at this; omega⟩
    · rcases h2 with ⟨rfl, rfl⟩ | ⟨rfl, rfl⟩ | ⟨rfl, rfl⟩ | ⟨rfl, rfl⟩ <;> simp
    · rcases h3 with ⟨rfl, rfl⟩ | ⟨rfl, rfl⟩ | ⟨rfl, rfl⟩ | ⟨rfl, rfl⟩ <;> simp
  by_cases hx : j.x = e.x
  · have hy : j.y ≠ e.y := fun h => hne (by cases j; cases e; simp_all)
    by_cases hl : j.y < e.y
    · exact key2 j1 j2 e1 e2 hl
    · exact key2 e1 e2 j1 j2 (by omega)
  · by_cases hl : j.x < e.x
    · exact key j1 j2 e1 e2 hl
    · exact key e1 e2 j1 j2 (by omega)
/-- What the document calls beyond: of one segment and another. -/
def BeyP (a b c d : Pt) (js : List Pt) : Prop := meetI a b c d = 3 ∨ (meetI a b c d = 1 ∧ ¬ ∃ j, j ∈ js ∧ bothB a b c d j = true) ∨ (meetI a b c d = 2 ∧ ∃ p, p ∈ [a, b, c, d] ∧ bothB a b c d p = true ∧ p ∉ js)
theorem apart_bey (a b c d : Pt) (js : List Pt) : apartB a b c d js = true ↔ ¬ BeyP a b c d js := by
  have hb : bothHas a b c d = bothB a b c d := rfl
  have hany : js.any (bothB a b c d) = true ↔ ∃ j, j ∈ js ∧ bothB a b c d j = true := List.any_eq_true
  unfold apartB BeyP
  rw [hb]
  have hm := meetI_is a b c d
  rcases meet_cases a b c d with ⟨h, _, _⟩ | ⟨h, _, _⟩ | ⟨h | h, hc, _⟩
  · rw [h]; simp
  · rw [h]
    simp only [show ((1 : Int) == 0) = false by rfl, show ((1 : Int) == 3) = false by rfl, Bool.false_or, Bool.not_false, Bool.true_and]
    rw [hany]
    simp
  · rw [h]
    simp only [show ((2 : Int) == 0) = false by rfl, show ((2 : Int) == 3) = false by rfl, Bool.false_or, Bool.not_false, Bool.true_and]
    rw [hany]
    have hF : cnt ([a, b, c, d].filter (bothB a b c d)) = 2 := by
      have hc' : (partsB a b c d && partsB c d a b) = false := hc
      rw [h, hc'] at hm
      simpa using hm.symm
    have hall : ([a, b, c, d].filter (bothB a b c d) ≠ []) ∧ ∀ p ∈ [a, b, c, d].filter (bothB a b c d), ∀ q ∈ [a, b, c, d].filter (bothB a b c d), p = q := by
      rcases cnt_cases ([a, b, c, d].filter (bothB a b c d)) with ⟨_, k⟩ | ⟨k1, k2, _⟩ | ⟨_, _, k⟩
      · rw [hF] at k; omega
      · exact ⟨k1, k2⟩
      · rw [hF] at k; omega
    have hone : ∀ p q, p ∈ [a, b, c, d] → q ∈ [a, b, c, d] → bothB a b c d p = true → bothB a b c d q = true → p = q := fun p q hp hq h1 h2 => hall.2 p (List.mem_filter.2 ⟨hp, h1⟩) q (List.mem_filter.2 ⟨hq, h2⟩)
    obtain ⟨e, he⟩ := List.exists_mem_of_ne_nil _ hall.1
    obtain ⟨he1, he2⟩ := List.mem_filter.1 he
    constructor
    · rintro ⟨j, hj, hjb⟩ hbad
      rcases hbad with hbad | ⟨hbad, _⟩ | ⟨_, p, hp1, hp2, hp3⟩
      · omega
      · omega
      · by_cases hjp : j = p
        · rw [hjp] at hj; exact hp3 hj
        · obtain ⟨x, y, hx, hy, hxb, hyb, hxy⟩ := ends_unlike hjb hp2 hjp
          exact hxy (hone x y hx hy hxb hyb)
    · intro hno
      refine ⟨e, ?_, he2⟩
      by_cases hej : e ∈ js
      · exact hej
      · exact absurd (Or.inr (Or.inr ⟨by trivial, e, he1, he2, hej⟩)) hno
  · rw [h]; simp
end Go.Proofs.Ytgnojjbdioldbaa
