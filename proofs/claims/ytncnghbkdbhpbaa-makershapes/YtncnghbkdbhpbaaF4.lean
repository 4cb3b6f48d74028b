/- The nets of all kinds may be, just within the bounds. -/
import Derived.Test.YtncnghbkdbhpbaaF2
import Derived.Test.YtncnghbkdbhpbaaE8
import Derived.Test.YtncnghbkdbhpbaaE11
namespace Go.Proofs.Ytncnghbkdbhpbaa
open Go.RowKit Go.Sort
open Go

theorem may_is {n : Int} {es : List Pt} (h0 : 0 ≤ n) (h1 : n ≤ 1024) (h2 : es.length ≤ 3072) (h : ∀ p, p ∈ es → 0 ≤ p.x ∧ p.x < n ∧ 0 ≤ p.y ∧ p.y < n) : netB n es = true := by
  simp only [netB, fitsB, Bool.and_eq_true, decide_eq_true_eq, List.all_eq_true]
  refine ⟨⟨h0, h1, by omega⟩, fun p hp => ?_⟩
  obtain ⟨a, b, c, d⟩ := h p hp
  simp [edB, belowB]
  omega
theorem may_not {n : Int} {es : List Pt} (h : 1024 < n ∨ 3072 < es.length) : netB n es = false := by
  have : fitsB n es.length = false := by simp [fitsB]; omega
  simp [netB, this]
theorem madeO_ok {n : Int} {es : List Pt} (h : netB n es = true) : madeO n es = ⟨n, es, 0⟩ := by unfold madeO; rw [if_pos h]
theorem madeO_no {n : Int} {es : List Pt} (h : netB n es = false) : madeO n es = ⟨0, [], 3⟩ := by unfold madeO; rw [if_neg (by simp [h])]
theorem path_made (n : Nat) (h : 1 ≤ n) : madeO n (pathL (n - 1)) = pathO n := by
  unfold pathO
  rw [if_neg (by omega)]
  by_cases h2 : 1024 < (n : Int)
  · rw [if_pos h2]; exact madeO_no (may_not (Or.inl h2))
  · rw [if_neg h2]
    refine madeO_ok (may_is (by omega) (by omega) (by rw [pathL_length]; omega) fun p hp => ?_)
    simp only [pathL, List.mem_map, List.mem_range] at hp
    obtain ⟨i, hi, rfl⟩ := hp
    simp only []
    omega
theorem ring_cycle (n : Nat) : ringL 0 n = cycleL n := by
  simp [ringL, cycleL, pathL]
theorem cycle_made (n : Nat) (h : 1 ≤ n) : madeO n (cycleL n) = cycleO n := by
  unfold cycleO
  rw [if_neg (by omega)]
  by_cases h2 : 1024 < (n : Int)
  · rw [if_pos h2]; exact madeO_no (may_not (Or.inl h2))
  · rw [if_neg h2]
    exact madeO_ok (cycle_net n h (by omega))
theorem bond_made (n : Nat) (h : 1 ≤ n) : madeO 2 (bondL n) = bondO n := by
  unfold bondO
  rw [if_neg (by omega)]
  by_cases h2 : 3072 < (n : Int)
  · rw [if_pos h2]; exact madeO_no (may_not (Or.inr (by rw [bondL_length]; omega)))
  · rw [if_neg h2]
    refine madeO_ok (may_is (by omega) (by omega) (by rw [bondL_length]; omega) fun p hp => ?_)
    simp only [bondL, List.mem_map, List.mem_range] at hp
    obtain ⟨i, hi, rfl⟩ := hp
    simp
theorem fullL_len (n u : Nat) (h : u ≤ n) : ((fullL n u).length : Int) * 2 = u * (2 * n - u - 1) := by
  induction u with
  | zero => simp [fullL]
  | succ k ih =>
    have ih := ih (by omega)
    rw [fullL_more, List.length_append, fullRow_length, Int.natCast_add]
    have e : ((n - k - 1 : Nat) : Int) = n - k - 1 := by omega
    rw [e, Int.add_mul, ih, Int.natCast_add]
    grind
theorem full_made (n : Nat) (h : 1 ≤ n) (h3 : n ≤ 79) : madeO n (fullL n n) = fullO n := by
  unfold fullO
  rw [if_neg (by omega)]
  have hl := fullL_len n n (Nat.le_refl n)
  have e : (2 * (n : Int) - n - 1) = n - 1 := by omega
  rw [e] at hl
  by_cases h2 : 78 < (n : Int)
  · rw [if_pos h2]
    have : n = 79 := by omega
    subst this
    exact madeO_no (may_not (Or.inr (by omega)))
  · rw [if_neg h2]
    have hb : n * (n - 1) ≤ 78 * 77 := Nat.mul_le_mul (by omega) (by omega)
    have hc : ((n * (n - 1) : Nat) : Int) = n * (n - 1) := by rw [Int.natCast_mul, Int.natCast_sub h]; rfl
    refine madeO_ok (may_is (by omega) (by omega) (by omega) fun p hp => ?_)
    simp only [fullL, fullRow, List.mem_flatMap, List.mem_map, List.mem_range] at hp
    obtain ⟨i, hi, k, hk, rfl⟩ := hp
    simp only []
    omega
theorem two_made (a b : Nat) (h : 1 ≤ a) (h1 : 1 ≤ b) (hm : a * b ≤ 3072) : madeO ((a : Int) + b) (twoL a b a) = twoO a b := by
  unfold twoO
  rw [if_neg (by omega)]
  have hc : ((a * b : Nat) : Int) = a * b := Int.natCast_mul a b
  by_cases h2 : 1024 < (a : Int) + b
  · rw [if_pos (Or.inl h2)]; exact madeO_no (may_not (Or.inl h2))
  · rw [if_neg (by omega)]
    refine madeO_ok (may_is (by omega) (by omega) (by rw [twoL_length]; omega) fun p hp => ?_)
    simp only [twoL, twoRow, List.mem_flatMap, List.mem_map, List.mem_range] at hp
    obtain ⟨i, hi, k, hk, rfl⟩ := hp
    simp only []
    omega
theorem grid_made (a b m : Nat) (h : 1 ≤ a) (h1 : 1 ≤ b) (hm : a * b = m) (hm1 : m ≤ 1024) : madeO m (gridL a b m) = gridO a b := by
  unfold gridO
  rw [if_neg (by omega)]
  have hc : (a : Int) * b = m := by rw [← hm, Int.natCast_mul]
  rw [hc, if_neg (by omega)]
  refine madeO_ok (may_is (by omega) (by omega) (by have := gridL_length a b m; omega) fun p hp => ?_)
  simp only [gridL, gridStep, List.mem_flatMap, List.mem_range, List.mem_append] at hp
  obtain ⟨v, hv, hp⟩ := hp
  have e1 : a * (v / a) + v % a = v := Nat.div_add_mod v a
  have e2 : v / a < b := Nat.div_lt_of_lt_mul (by rw [hm]; exact hv)
  have e3 : a * (v / a + 1) ≤ a * b := Nat.mul_le_mul_left a (by omega)
  rw [Nat.mul_add, Nat.mul_one, hm] at e3
  rcases hp with hp | hp
  · split at hp
    · simp at hp
      subst hp
      simp only []
      omega
    · simp at hp
  · split at hp
    · rename_i hq
      simp at hp
      subst hp
      have e4 : a * (v / a + 2) ≤ a * b := Nat.mul_le_mul_left a (by omega)
      rw [Nat.mul_add, hm] at e4
      have e5 : v % a < a := Nat.mod_lt v (by omega)
      simp only []
      omega
    · simp at hp
theorem wheel_made (n : Nat) (h : 3 ≤ n) : madeO ((n : Int) + 1) (wheelL n n) = wheelO n := by
  unfold wheelO
  rw [if_neg (by omega)]
  by_cases h2 : 1023 < (n : Int)
  · rw [if_pos h2]; exact madeO_no (may_not (Or.inl (by omega)))
  · rw [if_neg h2]
    refine madeO_ok (may_is (by omega) (by omega) (by have := wheelL_length n n (by omega); omega) fun p hp => ?_)
    simp only [wheelL, wheelS, cycleL, pathL, List.mem_append, List.mem_map, List.mem_range, List.mem_singleton] at hp
    rcases hp with (⟨i, hi, rfl⟩ | rfl) | ⟨i, hi, rfl⟩
    all_goals
      simp only []
      omega
theorem ring_join (n : Nat) : cycleL n ++ ringL n n = joinL n (cycleL n) (cycleL n) := by
  unfold joinL
  congr 1
  simp only [ringL, cycleL, pathL, List.map_append, List.map_map, List.map_cons, List.map_nil]
  congr 1
  simp
  omega
theorem prism_made (n : Nat) (h : 3 ≤ n) : madeO ((n : Int) + n) (prismL n n) = prismO n := by
  unfold prismO
  rw [if_neg (by omega)]
  by_cases h2 : 512 < (n : Int)
  · rw [if_pos h2]; exact madeO_no (may_not (Or.inl (by omega)))
  · rw [if_neg h2]
    refine madeO_ok (may_is (by omega) (by omega) (by have := prismL_length n n (by omega); omega) fun p hp => ?_)
    simp only [prismL, prismS, joinL, cycleL, pathL, List.mem_append, List.mem_map, List.mem_range, List.mem_singleton] at hp
    rcases hp with ((⟨i, hi, rfl⟩ | rfl) | ⟨q, (⟨i, hi, rfl⟩ | rfl), rfl⟩) | ⟨i, hi, rfl⟩
    all_goals
      simp only []
      omega
theorem rndL_in (n : Nat) (seed : Int) (m : Nat) (h : 1 ≤ n) : ∀ p, p ∈ rndL n seed m → 0 ≤ p.x ∧ p.x < n ∧ 0 ≤ p.y ∧ p.y < n := by
  induction m with
  | zero => intro p hp; simp [rndL] at hp
  | succ k ih =>
    intro p hp
    simp only [rndL, List.mem_append, List.mem_singleton] at hp
    rcases hp with hp | rfl
    · exact ih p hp
    · have a := drawS_lt (nextS (rndSt seed k)) n h
      have b := drawS_lt (nextS (nextS (rndSt seed k))) n h
      simp only []
      omega
theorem random_made (n m : Nat) (seed : Int) (h : 1 ≤ n) : madeO n (rndL n seed m) = randomO n m seed := by
  unfold randomO
  rw [if_neg (by omega)]
  by_cases h2 : 1024 < (n : Int) ∨ 3072 < (m : Int)
  · rw [if_pos h2]; exact madeO_no (may_not (by rw [rndL_length]; omega))
  · rw [if_neg h2]
    exact madeO_ok (may_is (by omega) (by omega) (by rw [rndL_length]; omega) (rndL_in n seed m h))
theorem tat_mem {ts : List Tr} {j : Nat} (h : j < ts.length) : tat ts j ∈ ts := by
  unfold tat
  rw [List.getD_eq_getElem?_getD, List.getElem?_eq_getElem h]
  exact List.getElem_mem h
theorem stk_in (seed : Int) (j : Nat) : (∀ t, t ∈ (stk seed j).ts → 0 ≤ t.a ∧ t.a < 3 + j ∧ 0 ≤ t.b ∧ t.b < 3 + j ∧ 0 ≤ t.c ∧ t.c < 3 + j) ∧ ∀ p, p ∈ (stk seed j).es → 0 ≤ p.x ∧ p.x < 3 + j ∧ 0 ≤ p.y ∧ p.y < 3 + j := by
  induction j with
  | zero =>
    constructor
    · intro t ht
      simp [stk] at ht
      rcases ht with rfl | rfl <;> simp
    · intro p hp
      simp [stk] at hp
      rcases hp with rfl | rfl | rfl <;> simp
  | succ k ih =>
    obtain ⟨i1, i2⟩ := ih
    have hd := drawS_lt (nextS (stk seed k).st) (stk seed k).ts.length (by rw [(stk_length seed k).1]; omega)
    have hx := i1 _ (tat_mem hd)
    obtain ⟨x, hxe⟩ : ∃ x, tat (stk seed k).ts (drawS (nextS (stk seed k).st) (stk seed k).ts.length) = x := ⟨_, rfl⟩
    rw [hxe] at hx
    constructor
    · intro t ht
      simp only [stk, hxe, List.mem_append, List.mem_cons, List.not_mem_nil, or_false] at ht
      rcases ht with ht | rfl | rfl
      · rcases List.mem_or_eq_of_mem_set ht with h | rfl
        · have := i1 t h; omega
        · simp only []; omega
      · simp only []; omega
      · simp only []; omega
    · intro p hp
      simp only [stk, hxe, List.mem_append, List.mem_cons, List.not_mem_nil, or_false] at hp
      rcases hp with ((hp | rfl) | rfl) | rfl
      · have := i2 p hp; omega
      · simp only []; omega
      · simp only []; omega
      · simp only []; omega
theorem stack_made (n : Nat) (seed : Int) (h : 3 ≤ n) (h1 : n ≤ 1024) : madeO n (stk seed (n - 3)).es = stackO n seed := by
  unfold stackO
  rw [if_neg (by omega), if_neg (by omega)]
  refine madeO_ok (may_is (by omega) (by omega) (by rw [(stk_length seed (n - 3)).2]; omega) fun p hp => ?_)
  have := (stk_in seed (n - 3)).2 p hp
  omega
end Go.Proofs.Ytncnghbkdbhpbaa
