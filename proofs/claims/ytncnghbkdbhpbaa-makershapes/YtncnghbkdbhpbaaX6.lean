/- The well-known nets: no loop, no two edges alike, one component, so many edges; each node of a prism has three. -/
import Derived.Test.YtncnghbkdbhpbaaX4
import Derived.Test.YtncnghbkdbhpbaaV5
namespace Go.Proofs.Ytncnghbkdbhpbaa
open Go.RowKit Go.Sort
open Go

theorem prP_eq {p q : Pt} (h : prP p = prP q) : (p.x = q.x ∧ p.y = q.y) ∨ (p.x = q.y ∧ p.y = q.x) := by
  have hx := congrArg Pt.x h
  have hy := congrArg Pt.y h
  unfold prP at hx hy
  by_cases h1 : p.y < p.x <;> by_cases h2 : q.y < q.x <;> simp only [h1, h2, if_true, if_false] at hx hy <;> omega
/-- No two edges alike. -/
def Dis (es : List Pt) : Prop := es.Pairwise fun p q => prP p ≠ prP q
theorem Dis.nodup {es : List Pt} (h : Dis es) : (es.map prP).Nodup := by
  unfold List.Nodup
  rw [List.pairwise_map]
  exact h
structure Fine (n : Nat) (es : List Pt) : Prop where
  net : netB n es = true
  loop : ∀ p, p ∈ es → p.x ≠ p.y
  dis : Dis es
  con : ∀ f : Nat → Int, (∀ a b : Nat, (⟨a, b⟩ : Pt) ∈ es → f a = f b) → ∀ v, v < n → f v = f 0
  pos : 0 < n
theorem Fine.simple {n : Nat} {es : List Pt} (h : Fine n es) : lpN es es.length = 0 ∧ pcN es es.length = 0 := ⟨lpN_zero h.loop _ (Nat.le_refl _), pcN_zero h.dis.nodup _ (Nat.le_refl _)⟩
theorem Fine.one {n k : Nat} {es : List Pt} {C : List Int} {r : Nat → Nat} (h : Fine n es) (hl : Lab es n k n C r NoDue) : k = 1 := by
  refine hl.one h.pos (fun t ht => ?_) (fun f hf => ?_)
  · have h1 := fromL_in h.net t ht
    have h2 := toL_in h.net t ht
    omega
  · refine h.con f fun a b hab => ?_
    obtain ⟨j, hj, e⟩ := mem_at hab
    have := hf (2 * j) a b (by omega) (by unfold fromL; rw [if_pos (by omega), show 2 * j / 2 = j by omega, e]) (by unfold toL; rw [if_pos (by omega), show 2 * j / 2 = j by omega, e])
    exact this.symm
theorem range_pw {k : Nat} {R : Nat → Nat → Prop} (h : ∀ i j, i < j → j < k → R i j) : (List.range k).Pairwise R := by
  rw [List.pairwise_iff_getElem]
  intro i j hi hj hij
  simp at hi hj ⊢
  exact h i j hij hj
theorem mem_path {k : Nat} {p : Pt} : p ∈ pathL k ↔ ∃ i : Nat, i < k ∧ p = ⟨i, i + 1⟩ := by
  simp only [pathL, List.mem_map, List.mem_range]
  exact ⟨fun ⟨i, h, e⟩ => ⟨i, h, e.symm⟩, fun ⟨i, h, e⟩ => ⟨i, h, e.symm⟩⟩
theorem mem_cycle {n : Nat} {p : Pt} : p ∈ cycleL n ↔ (∃ i : Nat, i < n - 1 ∧ p = ⟨i, i + 1⟩) ∨ p = ⟨(n : Int) - 1, 0⟩ := by
  unfold cycleL
  rw [List.mem_append, mem_path, List.mem_singleton]
theorem cycle_dis (n : Nat) (h : 3 ≤ n) : Dis (cycleL n) := by
  unfold Dis cycleL pathL
  rw [List.pairwise_append, List.pairwise_map]
  refine ⟨range_pw fun i j hij _ e => ?_, List.pairwise_singleton _ _, fun p hp q hq e => ?_⟩
  · have := prP_eq e; simp at this; omega
  · simp only [List.mem_map, List.mem_range] at hp
    obtain ⟨i, hi, rfl⟩ := hp
    rw [List.mem_singleton] at hq
    subst hq
    have := prP_eq e
    simp only at this
    omega
theorem cycle_fine (n : Nat) (h : 3 ≤ n) (h2 : n ≤ 1024) : Fine n (cycleL n) where
  net := cycle_net n (by omega) h2
  loop p hp := by
    rcases mem_cycle.1 hp with ⟨i, _, rfl⟩ | rfl
    · simp only; omega
    · simp only; omega
  dis := cycle_dis n h
  con f hf v hv := by
    induction v with
    | zero => rfl
    | succ i ih =>
      rw [← ih (by omega)]
      exact (hf i (i + 1) (mem_cycle.2 (Or.inl ⟨i, by omega, by simp⟩))).symm
  pos := by omega
theorem mem_wheelS {n k : Nat} {p : Pt} : p ∈ wheelS n k ↔ ∃ j : Nat, j < k ∧ p = ⟨n, j⟩ := by
  simp only [wheelS, List.mem_map, List.mem_range]
  exact ⟨fun ⟨i, h, e⟩ => ⟨i, h, e.symm⟩, fun ⟨i, h, e⟩ => ⟨i, h, e.symm⟩⟩
theorem wheel_len (n : Nat) (h : 1 ≤ n) : (wheelL n n).length = 2 * n := by
  unfold wheelL
  rw [List.length_append, cycleL_length n h, wheelS_length]
  omega
theorem wheel_fine (n : Nat) (h : 3 ≤ n) (h2 : n ≤ 1000) : Fine (n + 1) (wheelL n n) where
  net := by
    refine may_is (by omega) (by omega) (by rw [wheel_len n (by omega)]; omega) fun p hp => ?_
    unfold wheelL at hp
    rcases List.mem_append.1 hp with hp | hp
    · rcases mem_cycle.1 hp with ⟨i, _, rfl⟩ | rfl <;> simp only <;> omega
    · obtain ⟨j, _, rfl⟩ := mem_wheelS.1 hp
      simp only; omega
  loop p hp := by
    unfold wheelL at hp
    rcases List.mem_append.1 hp with hp | hp
    · exact (cycle_fine n h (by omega)).loop p hp
    · obtain ⟨j, _, rfl⟩ := mem_wheelS.1 hp
      simp only; omega
  dis := by
    unfold Dis wheelL
    rw [List.pairwise_append]
    refine ⟨cycle_dis n h, ?_, fun p hp q hq e => ?_⟩
    · unfold wheelS
      rw [List.pairwise_map]
      exact range_pw fun i j hij _ e => by have := prP_eq e; simp at this; omega
    · obtain ⟨j, _, rfl⟩ := mem_wheelS.1 hq
      have := prP_eq e
      rcases mem_cycle.1 hp with ⟨i, _, rfl⟩ | rfl <;> simp only at this <;> omega
  con f hf v hv := by
    have hc := (cycle_fine n h (by omega)).con f (fun a b hab => hf a b (by unfold wheelL; exact List.mem_append_left _ hab))
    by_cases hvn : v < n
    · exact hc v hvn
    · rw [show v = n by omega]
      exact hf n 0 (by unfold wheelL; exact List.mem_append_right _ (mem_wheelS.2 ⟨0, by omega, by simp⟩))
  pos := by omega
theorem mem_prismS {n k : Nat} {p : Pt} : p ∈ prismS n k ↔ ∃ j : Nat, j < k ∧ p = ⟨j, n + j⟩ := by
  simp only [prismS, List.mem_map, List.mem_range]
  exact ⟨fun ⟨i, h, e⟩ => ⟨i, h, e.symm⟩, fun ⟨i, h, e⟩ => ⟨i, h, e.symm⟩⟩
theorem mem_prism {n : Nat} {p : Pt} : p ∈ prismL n n ↔ (p ∈ cycleL n ∨ ∃ q, q ∈ cycleL n ∧ p = ⟨n + q.x, n + q.y⟩) ∨ ∃ j : Nat, j < n ∧ p = ⟨j, n + j⟩ := by
  unfold prismL joinL
  rw [List.mem_append, List.mem_append, mem_prismS, List.mem_map]
  exact ⟨fun h => h.imp (fun h => h.imp id fun ⟨q, h, e⟩ => ⟨q, h, e.symm⟩) id, fun h => h.imp (fun h => h.imp id fun ⟨q, h, e⟩ => ⟨q, h, e.symm⟩) id⟩
theorem cycle_in {n : Nat} (h : 3 ≤ n) {p : Pt} (hp : p ∈ cycleL n) : 0 ≤ p.x ∧ p.x < n ∧ 0 ≤ p.y ∧ p.y < n := by
  rcases mem_cycle.1 hp with ⟨i, _, rfl⟩ | rfl <;> simp only <;> omega
theorem prism_len (n : Nat) (h : 1 ≤ n) : (prismL n n).length = 3 * n := by
  unfold prismL
  rw [List.length_append, joinL_length, cycleL_length n h, prismS_length]
  omega
theorem prism_fine (n : Nat) (h : 3 ≤ n) (h2 : n ≤ 500) : Fine (n + n) (prismL n n) where
  net := by
    refine may_is (by omega) (by omega) (by rw [prism_len n (by omega)]; omega) fun p hp => ?_
    rcases mem_prism.1 hp with (hp | ⟨q, hq, rfl⟩) | ⟨j, hj, rfl⟩
    · have := cycle_in h hp; omega
    · have := cycle_in h hq; simp only; omega
    · simp only; omega
  loop p hp := by
    have hl := (cycle_fine n h (by omega)).loop
    rcases mem_prism.1 hp with (hp | ⟨q, hq, rfl⟩) | ⟨j, hj, rfl⟩
    · exact hl p hp
    · have := hl q hq; simp only; omega
    · simp only; omega
  dis := by
    unfold Dis prismL joinL
    rw [List.pairwise_append, List.pairwise_append, List.pairwise_map]
    refine ⟨⟨cycle_dis n h, ?_, fun p hp q hq e => ?_⟩, ?_, fun p hp q hq e => ?_⟩
    · refine (cycle_dis n h).imp_of_mem ?_
      intro p q hp hq hne e
      apply hne
      have := prP_eq e
      simp only at this
      unfold prP
      rcases this with ⟨h1, h2⟩ | ⟨h1, h2⟩
      · have e1 : p.x = q.x := by omega
        have e2 : p.y = q.y := by omega
        have : p = q := by cases p; cases q; simp_all
        rw [this]
      · have e1 : p.x = q.y := by omega
        have e2 : p.y = q.x := by omega
        have hl := (cycle_fine n h (by omega)).loop p hp
        by_cases h3 : p.y < p.x
        · rw [if_pos h3, if_neg (by omega)]
          cases q; simp_all
        · rw [if_neg h3, if_pos (by omega)]
          cases p; simp_all
    · rw [List.mem_map] at hq
      obtain ⟨r, hr, rfl⟩ := hq
      have h1 := cycle_in h hp
      have h3 := cycle_in h hr
      have := prP_eq e
      simp only at this
      omega
    · unfold prismS
      rw [List.pairwise_map]
      exact range_pw fun i j hij _ e => by have := prP_eq e; simp at this; omega
    · obtain ⟨j, hj, rfl⟩ := mem_prismS.1 hq
      have := prP_eq e
      simp only at this
      rcases List.mem_append.1 hp with hp | hp
      · have h1 := cycle_in h hp; omega
      · rw [List.mem_map] at hp
        obtain ⟨r, hr, rfl⟩ := hp
        have h1 := cycle_in h hr
        simp only at this
        omega
  con f hf v hv := by
    have hc := (cycle_fine n h (by omega)).con f (fun a b hab => hf a b (mem_prism.2 (Or.inl (Or.inl hab))))
    by_cases hvn : v < n
    · exact hc v hvn
    · rw [← hc (v - n) (by omega)]
      exact (hf (v - n) v (mem_prism.2 (Or.inr ⟨v - n, by omega, by congr; omega⟩))).symm
  pos := by omega
theorem mem_full {n u : Nat} {p : Pt} : p ∈ fullL n u ↔ ∃ i k : Nat, i < u ∧ k < n - i - 1 ∧ p = ⟨i, i + 1 + k⟩ := by
  simp only [fullL, fullRow, List.mem_flatMap, List.mem_map, List.mem_range]
  exact ⟨fun ⟨i, h, k, hk, e⟩ => ⟨i, k, h, hk, e.symm⟩, fun ⟨i, k, h, hk, e⟩ => ⟨i, h, k, hk, e.symm⟩⟩
theorem full_len (n : Nat) : ∀ u, u ≤ n → 2 * (fullL n u).length + u * u + u = 2 * u * n
  | 0, _ => by simp [fullL]
  | u + 1, h => by
    have ih := full_len n u (by omega)
    rw [fullL_more, List.length_append, fullRow_length]
    have e1 : (u + 1) * (u + 1) = u * u + 2 * u + 1 := by rw [Nat.mul_add, Nat.add_mul]; omega
    have e2 : 2 * (u + 1) * n = 2 * u * n + 2 * n := by rw [Nat.mul_add, Nat.add_mul]
    omega
theorem full_dis (n u : Nat) : Dis (fullL n u) := by
  unfold Dis fullL
  rw [List.pairwise_flatMap]
  refine ⟨fun i _ => ?_, range_pw fun i j hij hj p hp q hq e => ?_⟩
  · unfold fullRow
    rw [List.pairwise_map]
    exact range_pw fun a b hab _ e => by have := prP_eq e; simp at this; omega
  · simp only [fullRow, List.mem_map, List.mem_range] at hp hq
    obtain ⟨a, ha, rfl⟩ := hp
    obtain ⟨b, hb, rfl⟩ := hq
    have := prP_eq e
    simp only at this
    omega
theorem full_fine (n : Nat) (h : 3 ≤ n) (h2 : n ≤ 60) : Fine n (fullL n n) where
  net := by
    refine may_is (by omega) (by omega) ?_ fun p hp => ?_
    · have := full_len n n (Nat.le_refl _)
      have h3 : n * n ≤ 60 * 60 := Nat.mul_le_mul h2 h2
      rw [Nat.mul_assoc] at this
      omega
    · obtain ⟨i, k, h1, h3, rfl⟩ := mem_full.1 hp
      simp only; omega
  loop p hp := by
    obtain ⟨i, k, h1, h3, rfl⟩ := mem_full.1 hp
    simp only; omega
  dis := full_dis n n
  con f hf v hv := by
    by_cases h0 : v = 0
    · rw [h0]
    · have e : (v : Int) = ((0 : Nat) : Int) + 1 + ((v - 1 : Nat) : Int) := by omega
      have hm : (⟨((0 : Nat) : Int), (v : Int)⟩ : Pt) ∈ fullL n n := by
        rw [e]
        exact mem_full.2 ⟨0, v - 1, by omega, by omega, rfl⟩
      exact (hf 0 v hm).symm
  pos := by omega
theorem mem_two {a b u : Nat} {p : Pt} : p ∈ twoL a b u ↔ ∃ i k : Nat, i < u ∧ k < b ∧ p = ⟨i, a + k⟩ := by
  simp only [twoL, twoRow, List.mem_flatMap, List.mem_map, List.mem_range]
  exact ⟨fun ⟨i, h, k, hk, e⟩ => ⟨i, k, h, hk, e.symm⟩, fun ⟨i, k, h, hk, e⟩ => ⟨i, h, k, hk, e.symm⟩⟩
theorem two_fine (a b : Nat) (h : 1 ≤ a) (h1 : 1 ≤ b) (h2 : a + b ≤ 1024) (h3 : a * b ≤ 3072) : Fine (a + b) (twoL a b a) where
  net := by
    refine may_is (by omega) (by omega) (by rw [twoL_length]; exact h3) fun p hp => ?_
    obtain ⟨i, k, h4, h5, rfl⟩ := mem_two.1 hp
    simp only; omega
  loop p hp := by
    obtain ⟨i, k, h4, h5, rfl⟩ := mem_two.1 hp
    simp only; omega
  dis := by
    unfold Dis twoL
    rw [List.pairwise_flatMap]
    refine ⟨fun i _ => ?_, range_pw fun i j hij hj p hp q hq e => ?_⟩
    · unfold twoRow
      rw [List.pairwise_map]
      exact range_pw fun x y hab _ e => by have := prP_eq e; simp at this; omega
    · simp only [twoRow, List.mem_map, List.mem_range] at hp hq
      obtain ⟨x, hx, rfl⟩ := hp
      obtain ⟨y, hy, rfl⟩ := hq
      have := prP_eq e
      simp only at this
      omega
  con f hf v hv := by
    have e0 := hf 0 a (mem_two.2 ⟨0, 0, by omega, by omega, by simp⟩)
    by_cases hva : v < a
    · rw [hf v a (mem_two.2 ⟨v, 0, hva, by omega, by simp⟩)]
      exact e0.symm
    · exact (hf 0 v (mem_two.2 ⟨0, v - a, by omega, by omega, by congr; omega⟩)).symm
  pos := by omega
end Go.Proofs.Ytncnghbkdbhpbaa
