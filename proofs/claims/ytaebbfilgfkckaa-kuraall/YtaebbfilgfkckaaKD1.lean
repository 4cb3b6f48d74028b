/- Pure: degrees when an edge more is laid in. -/
import Derived.Test.YtaebbfilgfkckaaKC7
namespace Go.Proofs.Ytaebbfilgfkckaa
open Go.RowKit Go.Sort
open Go
/-- How many ends of edges are at a node. -/
def dgL : List Pt → Int → Nat
  | [], _ => 0
  | p :: ps, v => (if p.x = v then 1 else 0) + (if p.y = v then 1 else 0) + dgL ps v
theorem dgL_append (a b : List Pt) (v : Int) : dgL (a ++ b) v = dgL a v + dgL b v := by
  induction a with
  | nil => simp [dgL]
  | cons p ps ih => simp only [List.cons_append, dgL, ih]; omega
theorem at_get {es : List Pt} {i : Nat} (h : i < es.length) : at' es i = es[i] := by
  unfold at'; rw [List.getD_eq_getElem?_getD, List.getElem?_eq_getElem h]; rfl
theorem degN_dgL {n : Nat} {es : List Pt} (hm : netB n es = true) {v : Nat} (hv : v < n) : ∀ i, i ≤ es.length → iat (degN es n i) v = (dgL (es.take i) v : Nat)
  | 0, _ => by simp only [degN, List.take_zero, dgL]; exact iat_replicate _ _ _ hv
  | i + 1, hi => by
    have ih := degN_dgL hm hv i (by omega)
    obtain ⟨_, _, _, hE⟩ := netB_is hm
    obtain ⟨x0, _, y0, _⟩ := hE i (by omega)
    simp only [degN]
    rw [bump_at _ _ _ (by rw [bump_length, degN_length]; exact hv), bump_at _ _ _ (by rw [degN_length]; exact hv), ih, List.take_add_one, List.getElem?_eq_getElem (show i < es.length by omega), Option.toList_some, dgL_append, ← at_get (by omega)]
    simp only [dgL]
    have ex : ((at' es i).x.toNat = v) ↔ ((at' es i).x = (v : Int)) := by omega
    have ey : ((at' es i).y.toNat = v) ↔ ((at' es i).y = (v : Int)) := by omega
    by_cases h1 : (at' es i).x = (v : Int) <;> by_cases h2 : (at' es i).y = (v : Int) <;> simp [ex, ey, h1, h2] <;> omega
theorem deg_dgL {n : Nat} {es : List Pt} (hm : netB n es = true) {v : Nat} (hv : v < n) : iat (degN es n es.length) v = (dgL es v : Nat) := by
  rw [degN_dgL hm hv _ (Nat.le_refl _), List.take_length]
/-- An edge laid in. -/
def insE (pk : List Pt) (j : Nat) (q : Pt) : List Pt := pk.take j ++ q :: pk.drop j
theorem insE_dgL (pk : List Pt) (j : Nat) (q : Pt) (v : Int) : dgL (insE pk j q) v = dgL pk v + ((if q.x = v then 1 else 0) + (if q.y = v then 1 else 0)) := by
  unfold insE
  rw [dgL_append]
  have : dgL pk v = dgL (pk.take j) v + dgL (pk.drop j) v := by rw [← dgL_append, List.take_append_drop]
  simp only [dgL]
  omega
theorem insE_length (pk : List Pt) (j : Nat) (q : Pt) : (insE pk j q).length = pk.length + 1 := by
  unfold insE
  rw [List.length_append, List.length_cons, List.length_take, List.length_drop]
  omega
/-- How many of the first n have a value. -/
def cntF (f : Nat → Int) (d : Int) : Nat → Nat
  | 0 => 0
  | k + 1 => cntF f d k + if f k = d then 1 else 0
theorem ofD_cnt (D : List Int) (d : Int) : ∀ k, (ofD D d k).length = cntF (iat D) d k
  | 0 => rfl
  | k + 1 => by
    unfold ofD cntF
    rw [← ofD_cnt D d k]
    split <;> simp
theorem cnt_same {f g : Nat → Int} {d : Int} : ∀ {n : Nat}, (∀ v, v < n → (f v = d ↔ g v = d)) → cntF f d n = cntF g d n
  | 0, _ => rfl
  | k + 1, h => by
    unfold cntF
    rw [cnt_same (n := k) fun v hv => h v (by omega)]
    have := h k (by omega)
    by_cases e : f k = d
    · rw [if_pos e, if_pos (this.1 e)]
    · rw [if_neg e, if_neg fun e' => e (this.2 e')]
/-- One value is another. -/
theorem cnt_one {f g : Nat → Int} {d : Int} {x : Nat} : ∀ {n : Nat}, x < n → (∀ v, v < n → v ≠ x → f v = g v) → cntF g d n + (if f x = d then 1 else 0) = cntF f d n + (if g x = d then 1 else 0)
  | 0, hx, _ => by omega
  | k + 1, hx, h => by
    unfold cntF
    by_cases e : k = x
    · subst e
      rw [cnt_same (f := f) (g := g) (n := k) fun v hv => by rw [h v (by omega) (by omega)]]
      omega
    · have ih := cnt_one (f := f) (g := g) (d := d) (x := x) (n := k) (by omega) fun v hv => h v (by omega)
      rw [h k (by omega) e]
      omega
theorem cnt_pos {f : Nat → Int} {d : Int} {x n : Nat} (hx : x < n) (h : f x = d) : 0 < cntF f d n := by
  have := cnt_one (f := f) (g := fun v => if v = x then d + 1 else f v) (d := d) (x := x) (n := n) hx fun v _ hv => by rw [if_neg hv]
  rw [if_pos h, if_pos rfl, if_neg (by omega)] at this
  omega
/-- What a kind says of the degrees. -/
theorem kd_cnt {D : List Int} {n : Nat} (h : kdI D n ≠ 0) : (∀ v, v < n → dgOk (iat D v)) ∧ ((kdI D n = 5 ∧ cntF (iat D) 3 n = 0 ∧ cntF (iat D) 4 n = 5) ∨ (kdI D n = 33 ∧ cntF (iat D) 3 n = 6 ∧ cntF (iat D) 4 n = 0)) := by
  by_cases hd : ∀ v, v < n → dgOk (iat D v)
  · refine ⟨hd, ?_⟩
    have hk := kd_good hd
    rw [ofD_cnt, ofD_cnt] at hk
    by_cases h5 : cntF (iat D) 3 n = 0 ∧ cntF (iat D) 4 n = 5
    · rw [if_pos h5] at hk; exact Or.inl ⟨hk, h5⟩
    · rw [if_neg h5] at hk
      by_cases h3 : cntF (iat D) 3 n = 6 ∧ cntF (iat D) 4 n = 0
      · rw [if_pos h3] at hk; exact Or.inr ⟨hk, h3⟩
      · rw [if_neg h3] at hk; exact absurd hk h
  · exact absurd (by unfold kdI; rw [if_neg hd]) h
/-- An edge more leaves a kind only where it is a loop apart. -/
theorem kd_more {n : Nat} {pk : List Pt} {j : Nat} {q : Pt} (hm : netB n pk = true) (hm' : netB n (insE pk j q) = true) (h : kdS n pk ≠ 0) (h' : kdS n (insE pk j q) ≠ 0) : ∃ v : Nat, v < n ∧ q = ⟨(v : Int), (v : Int)⟩ ∧ dgL pk v = 0 := by
  have hq : 0 ≤ q.x ∧ q.x < n ∧ 0 ≤ q.y ∧ q.y < n := by
    have hmem : q ∈ insE pk j q := by unfold insE; simp
    obtain ⟨i, hi, e⟩ := List.getElem_of_mem hmem
    have := (netB_is hm').2.2.2 i hi
    rw [at_get hi, e] at this
    exact this
  obtain ⟨x, hx⟩ : ∃ x : Nat, q.x = x := ⟨q.x.toNat, by omega⟩
  obtain ⟨y, hy⟩ : ∃ y : Nat, q.y = y := ⟨q.y.toNat, by omega⟩
  obtain ⟨k1, k2⟩ := kd_cnt (D := degN pk n pk.length) (n := n) h
  obtain ⟨k3, k4⟩ := kd_cnt (D := degN (insE pk j q) n (insE pk j q).length) (n := n) h'
  obtain ⟨f, hf⟩ : ∃ f, f = iat (degN pk n pk.length) := ⟨_, rfl⟩
  obtain ⟨g, hg⟩ : ∃ g, g = iat (degN (insE pk j q) n (insE pk j q).length) := ⟨_, rfl⟩
  have hfg : ∀ v, v < n → g v = f v + ((if x = v then 1 else 0) + (if y = v then 1 else 0)) := fun v hv => by
    rw [hf, hg, deg_dgL hm hv, deg_dgL hm' hv, insE_dgL, hx, hy]
    by_cases h1 : x = v <;> by_cases h2 : y = v <;> simp [h1, h2]
    · rw [if_neg (by omega)]; rfl
    · rw [if_neg (by omega)]; rfl
    · rw [if_neg (by omega), if_neg (by omega)]; rfl
  have hfx := deg_dgL hm (show x < n by omega)
  rw [← hf] at k1 k2 hfx
  rw [← hg] at k3 k4
  have hxn : x < n := by omega
  have hyn : y < n := by omega
  have a1 := k1 x hxn
  have a2 := k1 y hyn
  have a3 := k3 x hxn
  have a4 := k3 y hyn
  have gx := hfg x hxn
  have gy := hfg y hyn
  by_cases hxy : x = y
  · subst hxy
    rw [if_pos rfl] at gx
    have c3 := cnt_one (f := f) (g := g) (d := 3) (x := x) hxn fun v hv hne => by rw [hfg v hv, if_neg fun e => hne e.symm]; omega
    have c4 := cnt_one (f := f) (g := g) (d := 4) (x := x) hxn fun v hv hne => by rw [hfg v hv, if_neg fun e => hne e.symm]; omega
    rw [gx] at c3 c4 a3
    unfold dgOk at a1 a3
    refine ⟨x, hxn, by obtain ⟨qx, qy⟩ := q; simp only at hx hy; rw [hx, hy], ?_⟩
    rcases a1 with e | e | e | e
    · rw [e] at hfx; omega
    all_goals
      exfalso
      rw [e] at c3 c4 a3
      simp at c3 c4 a3
      try omega
  · rw [if_pos rfl, if_neg (fun e => hxy e.symm)] at gx
    rw [if_pos rfl, if_neg hxy] at gy
    obtain ⟨mid, mx, mo⟩ : ∃ m : Nat → Int, m x = f x + 1 ∧ ∀ v, v ≠ x → m v = f v := ⟨fun v => if v = x then f x + 1 else f v, if_pos rfl, fun v hv => if_neg hv⟩
    have c3 := cnt_one (f := f) (g := mid) (d := 3) (x := x) hxn fun v _ hne => (mo v hne).symm
    have c4 := cnt_one (f := f) (g := mid) (d := 4) (x := x) hxn fun v _ hne => (mo v hne).symm
    have hmg : ∀ v, v < n → v ≠ y → mid v = g v := fun v hv hne => by
      rw [hfg v hv, if_neg (show ¬ y = v from fun e => hne e.symm)]
      by_cases e : v = x
      · rw [if_pos e.symm, e, mx]; omega
      · rw [if_neg fun e' => e e'.symm, mo v e]; omega
    have e3 := cnt_one (f := mid) (g := g) (d := 3) (x := y) hyn hmg
    have e4 := cnt_one (f := mid) (g := g) (d := 4) (x := y) hyn hmg
    rw [mx] at c3 c4
    rw [mo y (fun e => hxy e.symm), gy] at e3 e4
    rw [gy] at a4
    rw [gx] at a3
    unfold dgOk at a1 a2 a3 a4
    have p3 : f x = 3 → 0 < cntF f 3 n := cnt_pos hxn
    exfalso
    have b1 : f x = 2 ∨ f x = 3 := by omega
    have b2 : f y = 2 ∨ f y = 3 := by omega
    rcases b1 with u | u <;> rcases b2 with v | v
    all_goals
      rw [u] at c3 c4
      rw [v] at e3 e4
      simp at c3 c4 e3 e4
      omega
end Go.Proofs.Ytaebbfilgfkckaa
