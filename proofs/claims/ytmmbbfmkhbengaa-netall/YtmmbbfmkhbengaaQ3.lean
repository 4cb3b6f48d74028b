/- What a split, a merge and a bare net do: the lists. -/
import Derived.Test.YtmmbbfmkhbengaaM4
import Derived.Test.YtmmbbfmkhbengaaM6
import Derived.Test.YtmmbbfmkhbengaaM7
import Derived.Test.YtmmbbfmkhbengaaM8
import Derived.Test.YtmmbbfmkhbengaaQ2
namespace Go.Proofs.Ytmmbbfmkhbengaa
open Go.RowKit
open Go

def one (p : Prop) [Decidable p] : Int := if p then 1 else 0
def ec (r : Pt) (v : Int) : Int := one (r.x = v) + one (r.y = v)
def dg (es : List Pt) (v : Int) : Nat → Int
  | 0 => 0
  | i + 1 => dg es v i + ec (at' es i) v
theorem deg_at {es : List Pt} {n : Nat} (hes : ∀ j, j < es.length → 0 ≤ (at' es j).x ∧ (at' es j).x < n ∧ 0 ≤ (at' es j).y ∧ (at' es j).y < n) {v : Nat} (hv : v < n) : ∀ i, i ≤ es.length → iat (degN es n i) v = dg es v i
  | 0, _ => by simp only [dg, degN]; rw [iat_replicate _ _ _ hv]
  | i + 1, hi => by
    have ih := deg_at hes hv i (by omega)
    have hl := degN_length es n i
    have h := hes i (by omega)
    simp only [dg, degN]
    rw [bump_at _ _ _ (by rw [bump_length]; omega), bump_at _ _ _ (by omega), ih]
    have e1 : ((at' es i).x = (v : Int)) ↔ ((at' es i).x.toNat = v) := by omega
    have e2 : ((at' es i).y = (v : Int)) ↔ ((at' es i).y.toNat = v) := by omega
    simp only [ec, one, e1, e2]
    omega
theorem dg_congr {es fs : List Pt} {v : Int} : ∀ k, (∀ j, j < k → ec (at' es j) v = ec (at' fs j) v) → dg es v k = dg fs v k
  | 0, _ => rfl
  | k + 1, h => by simp only [dg]; rw [dg_congr k fun j hj => h j (by omega), h k (by omega)]
theorem dg_but {es fs : List Pt} {v : Int} {e : Nat} (h : ∀ j, j ≠ e → j < es.length → at' fs j = at' es j) : ∀ k, k ≤ es.length → e < k → dg fs v k = dg es v k - ec (at' es e) v + ec (at' fs e) v
  | 0, _, hk => by omega
  | k + 1, hl, hk => by
    simp only [dg]
    by_cases he : e = k
    · subst he
      rw [dg_congr (es := fs) (fs := es) e fun j hj => by rw [h j (by omega) (by omega)]]
      omega
    · rw [dg_but h k (by omega) (by omega), h k (by omega) (by omega)]
      omega
theorem dg_none {es : List Pt} {v : Int} : ∀ k, (∀ j, j < k → (at' es j).x ≠ v ∧ (at' es j).y ≠ v) → dg es v k = 0
  | 0, _ => rfl
  | k + 1, h => by
    have := h k (by omega)
    simp only [dg]
    rw [dg_none k fun j hj => h j (by omega), ec, one, one, if_neg this.1, if_neg this.2]
    rfl
theorem at_append1 {es : List Pt} {p : Pt} {j : Nat} (h : j < es.length) : at' (es ++ [p]) j = at' es j := by
  unfold at'; rw [List.getD_eq_getElem?_getD, List.getD_eq_getElem?_getD, List.getElem?_append_left h]
theorem split_at {n : Int} {es : List Pt} {e : Nat} (he : e < es.length) : at' (splitL n es e) e = ⟨(at' es e).x, n⟩ ∧ at' (splitL n es e) es.length = ⟨n, (at' es e).y⟩ ∧ ∀ j, j ≠ e → j < es.length → at' (splitL n es e) j = at' es j := by
  unfold splitL
  refine ⟨?_, ?_, fun j hj hl => ?_⟩
  · rw [at_set _ _ _ _ (by simp; omega), if_neg (by omega), at_set _ _ _ _ (by simp; omega), if_pos rfl]
  · rw [at_set _ _ _ _ (by simp), if_pos rfl]
  · rw [at_set _ _ _ _ (by simp; omega), if_neg (by omega), at_set _ _ _ _ (by simp; omega), if_neg (by omega), at_append1 hl]
theorem split_ends {n : Nat} {es : List Pt} {e : Nat} (hes : ∀ j, j < es.length → 0 ≤ (at' es j).x ∧ (at' es j).x < n ∧ 0 ≤ (at' es j).y ∧ (at' es j).y < n) (he : e < es.length) : ∀ j, j < (splitL n es e).length → 0 ≤ (at' (splitL n es e) j).x ∧ (at' (splitL n es e) j).x < (n + 1 : Nat) ∧ 0 ≤ (at' (splitL n es e) j).y ∧ (at' (splitL n es e) j).y < (n + 1 : Nat) := by
  intro j hj
  rw [splitL_length] at hj
  obtain ⟨s1, s2, s3⟩ := split_at (n := n) he
  have h0 := hes e he
  by_cases h1 : j = e
  · subst h1; rw [s1]; simp only; omega
  · by_cases h2 : j = es.length
    · subst h2; rw [s2]; simp only; omega
    · have h3 := hes j (by omega)
      rw [s3 j h1 (by omega)]; omega
theorem split_dg {n : Nat} {es : List Pt} {e : Nat} (hes : ∀ j, j < es.length → 0 ≤ (at' es j).x ∧ (at' es j).x < n ∧ 0 ≤ (at' es j).y ∧ (at' es j).y < n) (he : e < es.length) : dg (splitL n es e) n (es.length + 1) = 2 ∧ ∀ v : Int, 0 ≤ v → v < n → dg (splitL n es e) v (es.length + 1) = dg es v es.length := by
  obtain ⟨s1, s2, s3⟩ := split_at (n := n) he
  have h0 := hes e he
  have hb := fun v => dg_but (v := v) s3 es.length (Nat.le_refl _) he
  refine ⟨?_, fun v v0 v1 => ?_⟩
  · simp only [dg]
    rw [hb, s1, s2, dg_none es.length fun j hj => by have := hes j hj; omega]
    simp only [ec, one]
    rw [if_neg (by omega), if_neg (by omega)]
    simp
  · simp only [dg]
    rw [hb, s1, s2]
    simp only [ec, one]
    rw [if_neg (c := (n : Int) = v) (by omega)]
    omega
theorem split_deg {n : Nat} {es : List Pt} {e : Nat} (hes : ∀ j, j < es.length → 0 ≤ (at' es j).x ∧ (at' es j).x < n ∧ 0 ≤ (at' es j).y ∧ (at' es j).y < n) (he : e < es.length) : iat (degN (splitL n es e) (n + 1) (es.length + 1)) n = 2 ∧ (degN (splitL n es e) (n + 1) (es.length + 1)).take n = degN es n es.length := by
  have hs := split_ends hes he
  obtain ⟨d1, d2⟩ := split_dg hes he
  refine ⟨?_, ?_⟩
  · rw [deg_at hs (by omega) _ (by rw [splitL_length]; exact Nat.le_refl _)]; exact d1
  · apply iat_ext
    · rw [List.length_take, degN_length, degN_length]; omega
    · intro j hj
      rw [List.length_take, degN_length] at hj
      have e1 : iat ((degN (splitL n es e) (n + 1) (es.length + 1)).take n) j = iat (degN (splitL n es e) (n + 1) (es.length + 1)) j := by
        unfold iat
        rw [List.getD_eq_getElem?_getD, List.getD_eq_getElem?_getD, List.getElem?_take_of_lt (by omega)]
      rw [e1, deg_at hs (by omega) _ (by rw [splitL_length]; exact Nat.le_refl _), d2 j (by omega) (by omega), deg_at hes (by omega) _ (Nat.le_refl _)]
/- Merge. -/
theorem merge_in {m u v w : Nat} (hu : u < m) (hv : v < m) (huv : u ≠ v) (hw : w < m) : 0 ≤ iat (mergeL m u v) w ∧ iat (mergeL m u v) w < (m : Int) - 1 := by
  rw [mergeL_at hw]
  unfold mrg
  by_cases h1 : v = w
  · rw [if_pos h1]; split <;> omega
  · rw [if_neg h1]; split <;> omega
theorem merge_eq {m u v x w : Nat} (hx : x < m) (hw : w < m) (huv : u ≠ v) : iat (mergeL m u v) x = iat (mergeL m u v) w ↔ (x = w ∨ (x = u ∧ w = v) ∨ (x = v ∧ w = u)) := by
  rw [mergeL_at hx, mergeL_at hw]
  unfold mrg
  by_cases h1 : v = x
  · rw [if_pos h1]
    by_cases h2 : v = w
    · rw [if_pos h2]; omega
    · rw [if_neg h2]
      by_cases h3 : v < u <;> by_cases h4 : v < w <;> simp only [h3, h4, if_true, if_false] <;> omega
  · rw [if_neg h1]
    by_cases h2 : v = w
    · rw [if_pos h2]
      by_cases h3 : v < u <;> by_cases h4 : v < x <;> simp only [h3, h4, if_true, if_false] <;> omega
    · rw [if_neg h2]
      by_cases h3 : v < x <;> by_cases h4 : v < w <;> simp only [h3, h4, if_true, if_false] <;> omega
theorem one_or {a u v w : Nat} (huv : u ≠ v) : one (a = w ∨ (a = u ∧ w = v) ∨ (a = v ∧ w = u)) = if w = u ∨ w = v then one (a = u) + one (a = v) else one (a = w) := by
  unfold one
  by_cases h1 : w = u
  · subst h1
    rw [if_pos (Or.inl rfl)]
    by_cases h2 : a = w
    · rw [if_pos (Or.inl h2), if_pos h2, if_neg (by omega)]; rfl
    · by_cases h3 : a = v
      · rw [if_pos (Or.inr (Or.inr ⟨h3, rfl⟩)), if_neg h2, if_pos h3]; rfl
      · rw [if_neg (by omega), if_neg h2, if_neg h3]; rfl
  · by_cases h2 : w = v
    · subst h2
      rw [if_pos (Or.inr rfl)]
      by_cases h3 : a = w
      · rw [if_pos (Or.inl h3), if_neg (by omega), if_pos h3]; rfl
      · by_cases h4 : a = u
        · rw [if_pos (Or.inr (Or.inl ⟨h4, rfl⟩)), if_pos h4, if_neg h3]; rfl
        · rw [if_neg (by omega), if_neg h4, if_neg h3]; rfl
    · rw [if_neg (c := w = u ∨ w = v) (by omega)]
      by_cases h3 : a = w
      · rw [if_pos (Or.inl h3), if_pos h3]
      · rw [if_neg (by omega), if_neg h3]
theorem merge_ends {m u v : Nat} {es : List Pt} (hes : ∀ j, j < es.length → 0 ≤ (at' es j).x ∧ (at' es j).x < m ∧ 0 ≤ (at' es j).y ∧ (at' es j).y < m) (hu : u < m) (hv : v < m) (huv : u ≠ v) : ∀ j, j < (rename es (mergeL m u v)).length → 0 ≤ (at' (rename es (mergeL m u v)) j).x ∧ (at' (rename es (mergeL m u v)) j).x < (m - 1 : Nat) ∧ 0 ≤ (at' (rename es (mergeL m u v)) j).y ∧ (at' (rename es (mergeL m u v)) j).y < (m - 1 : Nat) := by
  intro j hj
  rw [rename_length] at hj
  have h := hes j hj
  rw [rename_at _ _ hj]
  have h1 := merge_in hu hv huv (w := (at' es j).x.toNat) (by omega)
  have h2 := merge_in hu hv huv (w := (at' es j).y.toNat) (by omega)
  simp only
  omega
theorem merge_dg {m u v w : Nat} {es : List Pt} (hes : ∀ j, j < es.length → 0 ≤ (at' es j).x ∧ (at' es j).x < m ∧ 0 ≤ (at' es j).y ∧ (at' es j).y < m) (hw : w < m) (huv : u ≠ v) : ∀ k, k ≤ es.length → dg (rename es (mergeL m u v)) (iat (mergeL m u v) w) k = if w = u ∨ w = v then dg es u k + dg es v k else dg es w k
  | 0, _ => by simp [dg]
  | k + 1, hk => by
    have ih := merge_dg hes hw huv k (by omega)
    have h := hes k (by omega)
    simp only [dg]
    rw [ih, rename_at _ _ (by omega)]
    have e1 := merge_eq (m := m) (u := u) (v := v) (x := (at' es k).x.toNat) (w := w) (by omega) hw huv
    have e2 := merge_eq (m := m) (u := u) (v := v) (x := (at' es k).y.toNat) (w := w) (by omega) hw huv
    simp only [ec, e1, e2]
    have x1 : ∀ a : Nat, ((at' es k).x = (a : Int)) ↔ ((at' es k).x.toNat = a) := fun a => by omega
    have y1 : ∀ a : Nat, ((at' es k).y = (a : Int)) ↔ ((at' es k).y.toNat = a) := fun a => by omega
    simp only [x1, y1]
    generalize (at' es k).x.toNat = a
    generalize (at' es k).y.toNat = b
    rw [one_or huv, one_or huv]
    by_cases hc : w = u ∨ w = v
    · simp only [if_pos hc]; omega
    · simp only [if_neg hc]
theorem merge_deg {m u v w : Nat} {es : List Pt} (hes : ∀ j, j < es.length → 0 ≤ (at' es j).x ∧ (at' es j).x < m ∧ 0 ≤ (at' es j).y ∧ (at' es j).y < m) (hu : u < m) (hv : v < m) (hw : w < m) (huv : u ≠ v) : iat (degN (rename es (mergeL m u v)) (m - 1) es.length) (iat (mergeL m u v) w).toNat = if w = u ∨ w = v then iat (degN es m es.length) u + iat (degN es m es.length) v else iat (degN es m es.length) w := by
  have hi := merge_in hu hv huv hw
  have hs := merge_ends hes hu hv huv
  rw [deg_at hes hu _ (Nat.le_refl _), deg_at hes hv _ (Nat.le_refl _), deg_at hes hw _ (Nat.le_refl _), deg_at hs (by omega) _ (by rw [rename_length]; exact Nat.le_refl _), show (((iat (mergeL m u v) w).toNat : Nat) : Int) = iat (mergeL m u v) w by omega]
  exact merge_dg hes hw huv es.length (Nat.le_refl _)
/- Bare. -/
theorem takeN_rising (f : Nat → Bool) : ∀ n i j, i < j → j < (takeN f n).length → iat (takeN f n) i < iat (takeN f n) j
  | 0, i, j, _, hj => by simp [takeN] at hj
  | n + 1, i, j, hij, hj => by
    have ih := takeN_rising f n i j hij
    have hin := takeN_in f n
    simp only [takeN] at hj ⊢
    by_cases h : f n = true
    · rw [if_pos h] at hj ⊢
      rw [List.length_append] at hj
      simp at hj
      have e1 : ∀ k, k < (takeN f n).length → iat (takeN f n ++ [(n : Int)]) k = iat (takeN f n) k := fun k hk => by
        unfold iat; rw [List.getD_eq_getElem?_getD, List.getD_eq_getElem?_getD, List.getElem?_append_left hk]
      by_cases hl : j < (takeN f n).length
      · rw [e1 i (by omega), e1 j hl]; exact ih hl
      · have : j = (takeN f n).length := by omega
        subst this
        rw [e1 i hij]
        have e2 : iat (takeN f n ++ [(n : Int)]) (takeN f n).length = n := by
          unfold iat; rw [List.getD_eq_getElem?_getD, List.getElem?_append_right (Nat.le_refl _)]; simp
        rw [e2]
        exact (hin i hij).2
    · rw [if_neg h] at hj ⊢
      exact ih hj
theorem takeN_all {f : Nat → Bool} : ∀ n, (∀ j, j < n → f j = true) → takeN f n = rangeI n
  | 0, _ => rfl
  | n + 1, h => by simp only [takeN, rangeI]; rw [if_pos (h n (by omega)), takeN_all n fun j hj => h j (by omega)]
theorem countB_none {f : Nat → Bool} : ∀ n, (∀ j, j < n → f j = false) → countB f n = 0
  | 0, _ => rfl
  | n + 1, h => by simp only [countB]; rw [countB_none n fun j hj => h j (by omega), h n (by omega)]; rfl
theorem bare_each (es : List Pt) : ∀ j, j < (bareL es).length → repB (pick es (bareL es)) j = false ∧ decide ((at' (pick es (bareL es)) j).x = (at' (pick es (bareL es)) j).y) = false := by
  intro j hj
  obtain ⟨k, hk, hf, e⟩ := (takeN_mem (bareB es) es.length _).1 (iat_mem (l := bareL es) hj)
  have ek : (iat (bareL es) j).toNat = k := by omega
  unfold bareB at hf
  simp only [Bool.and_eq_true, Bool.not_eq_true'] at hf
  rw [pick_at _ _ hj, ek]
  refine ⟨?_, hf.2⟩
  cases hr : repB (pick es (bareL es)) j
  · rfl
  · unfold repB at hr
    obtain ⟨i, hi, ei⟩ := (cntN_pos _ j _).1 (of_decide_eq_true hr)
    obtain ⟨k', hk', _, e'⟩ := (takeN_mem (bareB es) es.length _).1 (iat_mem (l := bareL es) (j := i) (by omega))
    have hri := takeN_rising (bareB es) es.length i j hi hj
    rw [pick_at _ _ (by omega), pick_at _ _ hj, ek, show (iat (bareL es) i).toNat = k' by omega] at ei
    have hlt : k' < k := by
      have h1 : iat (takeN (bareB es) es.length) i = (k' : Int) := e'
      have h2 : iat (takeN (bareB es) es.length) j = (k : Int) := e
      omega
    have : repB es k = true := by
      unfold repB
      exact decide_eq_true ((cntN_pos es k _).2 ⟨k', hlt, ei⟩)
    rw [this] at hf
    simp at hf
theorem bare_again (es : List Pt) : bareL (pick es (bareL es)) = rangeI (bareL es).length := by
  have h := bare_each es
  have e : bareL (pick es (bareL es)) = takeN (bareB (pick es (bareL es))) (bareL es).length := by
    show takeN _ _ = _
    rw [pick_length]
  rw [e]
  refine takeN_all _ fun j hj => ?_
  have e2 : bareB (pick es (bareL es)) j = (!repB (pick es (bareL es)) j && !decide ((at' (pick es (bareL es)) j).x = (at' (pick es (bareL es)) j).y)) := rfl
  rw [e2, (h j hj).1, (h j hj).2]
  rfl
theorem bare_simple (es : List Pt) : simpleB (pick es (bareL es)) = true := by
  have h := bare_each es
  unfold simpleB loopsI parI
  rw [pick_length, countB_none _ fun j hj => (h j hj).2, countB_none _ fun j hj => (h j hj).1]
  rfl
theorem bare_ends {m : Nat} {es : List Pt} (hes : ∀ j, j < es.length → 0 ≤ (at' es j).x ∧ (at' es j).x < m ∧ 0 ≤ (at' es j).y ∧ (at' es j).y < m) : ∀ j, j < (pick es (bareL es)).length → 0 ≤ (at' (pick es (bareL es)) j).x ∧ (at' (pick es (bareL es)) j).x < m ∧ 0 ≤ (at' (pick es (bareL es)) j).y ∧ (at' (pick es (bareL es)) j).y < m := by
  intro j hj
  rw [pick_length] at hj
  have hi := takeN_in (bareB es) es.length j hj
  rw [pick_at _ _ hj]
  exact hes _ (by unfold bareL; omega)
end Go.Proofs.Ytmmbbfmkhbengaa
