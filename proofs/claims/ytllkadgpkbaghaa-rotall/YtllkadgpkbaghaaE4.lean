/- Pure: round a list; a rotation out of lists; first returns. -/
import Derived.Test.YtllkadgpkbaghaaE3
namespace Go.Proofs.Ytllkadgpkbaghaa

def na (L : List Nat) (i : Nat) : Nat := L.getD i 0
theorem na_get {L : List Nat} {i : Nat} (h : i < L.length) : na L i = L[i] := by
  unfold na
  rw [List.getD_eq_getElem?_getD, List.getElem?_eq_getElem h]
  rfl
theorem na_mem {L : List Nat} {i : Nat} (h : i < L.length) : na L i ∈ L := by rw [na_get h]; exact List.getElem_mem h
theorem mem_na {L : List Nat} {x : Nat} (h : x ∈ L) : ∃ i, i < L.length ∧ na L i = x := by
  obtain ⟨i, hi, e⟩ := List.mem_iff_getElem.1 h
  exact ⟨i, hi, by rw [na_get hi]; exact e⟩
theorem na_inj {L : List Nat} (hn : L.Nodup) {i j : Nat} (hi : i < L.length) (hj : j < L.length) (h : na L i = na L j) : i = j := by
  rw [na_get hi, na_get hj] at h
  have hp := List.pairwise_iff_getElem.1 hn
  rcases Nat.lt_trichotomy i j with h1 | h1 | h1
  · exact absurd h (hp i j hi hj h1)
  · exact h1
  · exact absurd h.symm (hp j i hj hi h1)
/-- All that stands round a list behind the i-th, itself last. -/
def aft (L : List Nat) (i : Nat) : List Nat := L.drop (i + 1) ++ L.take (i + 1)
theorem aft_len {L : List Nat} {i : Nat} (h : i < L.length) : (aft L i).length = L.length := by
  unfold aft
  simp
  omega
theorem aft_at {L : List Nat} {i t : Nat} (hi : i < L.length) (ht : t < L.length) : na (aft L i) t = na L ((i + 1 + t) % L.length) := by
  unfold na aft
  rw [List.getD_eq_getElem?_getD, List.getD_eq_getElem?_getD, List.getElem?_append, List.length_drop]
  congr 1
  by_cases h : t < L.length - (i + 1)
  · rw [if_pos h, List.getElem?_drop, Nat.mod_eq_of_lt (by omega)]
  · rw [if_neg h, List.getElem?_take, if_pos (by omega)]
    have : (i + 1 + t) % L.length = i + 1 + t - L.length := by
      rw [Nat.mod_eq_sub_mod (by omega), Nat.mod_eq_of_lt (by omega)]
    rw [this]
    congr 1
    omega
theorem cut_at {L : List Nat} {i : Nat} (hi : i < L.length) : L = L.take i ++ na L i :: L.drop (i + 1) := by
  rw [na_get hi]
  simp
theorem take_more {L : List Nat} {i : Nat} (hi : i < L.length) : L.take (i + 1) = L.take i ++ [na L i] := by
  rw [List.take_add_one, List.getElem?_eq_getElem hi, na_get hi]
  rfl
theorem filter_cut {L : List Nat} {i : Nat} {p : Nat → Bool} (hi : i < L.length) (hp : p (na L i) = true) : L.filter p = (L.take i).filter p ++ na L i :: (L.drop (i + 1)).filter p := by
  conv => lhs; rw [cut_at hi]
  rw [List.filter_append, List.filter_cons, if_pos hp]
theorem filter_place {L : List Nat} {i : Nat} {p : Nat → Bool} (hi : i < L.length) (hp : p (na L i) = true) : ((L.take i).filter p).length < (L.filter p).length ∧ na (L.filter p) ((L.take i).filter p).length = na L i := by
  rw [filter_cut hi hp]
  refine ⟨by simp, ?_⟩
  generalize na L i = x
  unfold na
  rw [List.getD_eq_getElem?_getD]
  simp
theorem aft_filter {L : List Nat} {i : Nat} {p : Nat → Bool} (hi : i < L.length) (hp : p (na L i) = true) : (aft L i).filter p = aft (L.filter p) ((L.take i).filter p).length := by
  have e := filter_cut hi hp
  unfold aft
  rw [List.filter_append, take_more hi, List.filter_append, List.filter_cons, if_pos hp, List.filter_nil, e]
  generalize (L.take i).filter p = A
  rw [List.drop_append, List.take_append, List.drop_of_length_le (show A.length ≤ A.length + 1 by omega), List.take_of_length_le (show A.length ≤ A.length + 1 by omega)]
  simp
theorem first_in {p : Nat → Bool} : ∀ {M : List Nat}, M.filter p ≠ [] → ∃ t, t < M.length ∧ na M t = na (M.filter p) 0 ∧ p (na M t) = true ∧ ∀ u, u < t → p (na M u) = false
  | [], h => absurd rfl h
  | x :: M, h => by
    by_cases hx : p x = true
    · refine ⟨0, by simp, ?_, by simpa [na] using hx, fun u hu => by omega⟩
      rw [List.filter_cons, if_pos hx]
      rfl
    · have hx' : p x = false := by simpa using hx
      rw [List.filter_cons, if_neg hx] at h ⊢
      obtain ⟨t, h1, h2, h3, h4⟩ := first_in h
      refine ⟨t + 1, by simpa using h1, ?_, ?_, fun u hu => ?_⟩
      · rw [← h2]; simp [na]
      · simpa [na] using h3
      · cases u with
        | zero => simpa [na] using hx'
        | succ u => simpa [na] using h4 u (by omega)
/-- Lists round nodes, of the items below N. -/
structure Sys (m n N : Nat) (nl : Nat → List Nat) (nd : Nat → Nat) : Prop where
  half : 2 * m ≤ N
  nod : ∀ v, v < n → (nl v).Nodup
  mem : ∀ v, v < n → ∀ x ∈ nl v, x < N ∧ nd x = v
  inn : ∀ x, x < N → nd x < n ∧ x ∈ nl (nd x)
def nxt (nl : Nat → List Nat) (nd : Nat → Nat) (x : Nat) : Nat := na (nl (nd x)) (((nl (nd x)).idxOf x + 1) % (nl (nd x)).length)
variable {m n N : Nat} {nl : Nat → List Nat} {nd st : Nat → Nat} {K : Nat → Bool}
theorem idx_na {L : List Nat} (hn : L.Nodup) {i : Nat} (hi : i < L.length) : L.idxOf (na L i) = i := by
  have h1 : L.idxOf (na L i) < L.length := List.idxOf_lt_length_iff.2 (na_mem hi)
  refine na_inj hn h1 hi ?_
  rw [na_get h1]
  exact List.getElem_idxOf h1
theorem nxt_at (S : Sys m n N nl nd) {v i : Nat} (hv : v < n) (hi : i < (nl v).length) : nxt nl nd (na (nl v) i) = na (nl v) ((i + 1) % (nl v).length) := by
  unfold nxt
  rw [(S.mem v hv _ (na_mem hi)).2, idx_na (S.nod v hv) hi]
theorem nxt_it (S : Sys m n N nl nd) {v i : Nat} (hv : v < n) (hi : i < (nl v).length) : ∀ j, it (nxt nl nd) j (na (nl v) i) = na (nl v) ((i + j) % (nl v).length)
  | 0 => by rw [Nat.add_zero, Nat.mod_eq_of_lt hi]; rfl
  | j + 1 => by
    show nxt nl nd (it (nxt nl nd) j (na (nl v) i)) = _
    rw [nxt_it S hv hi j, nxt_at S hv (Nat.mod_lt _ (by omega)), Nat.mod_add_mod]
    rfl
theorem Sys.at_ (S : Sys m n N nl nd) {x : Nat} (hx : x < N) : ∃ v i, v < n ∧ i < (nl v).length ∧ na (nl v) i = x ∧ nd x = v := by
  obtain ⟨h1, h2⟩ := S.inn x hx
  obtain ⟨i, hi, e⟩ := mem_na h2
  exact ⟨nd x, i, h1, hi, e, rfl⟩
theorem mod_succ_inj {a b d : Nat} (ha : a < d) (hb : b < d) (h : (a + 1) % d = (b + 1) % d) : a = b := by
  have h1 : (a + 1) % d = if a + 1 = d then 0 else a + 1 := by
    split
    · rename_i e; rw [e]; exact Nat.mod_self d
    · exact Nat.mod_eq_of_lt (by omega)
  have h2 : (b + 1) % d = if b + 1 = d then 0 else b + 1 := by
    split
    · rename_i e; rw [e]; exact Nat.mod_self d
    · exact Nat.mod_eq_of_lt (by omega)
  rw [h1, h2] at h
  split at h <;> split at h <;> omega
theorem Sys.rt (S : Sys m n N nl nd) (hst : ∀ v, v < n → st v < N ∧ nd (st v) = v) : Rt m n N (nxt nl nd) nd st := by
  have nx : ∀ x, x < N → ∃ v i, v < n ∧ i < (nl v).length ∧ na (nl v) i = x ∧ nd x = v ∧ nxt nl nd x = na (nl v) ((i + 1) % (nl v).length) := fun x hx => by
    obtain ⟨v, i, hv, hi, e, hd⟩ := S.at_ hx
    exact ⟨v, i, hv, hi, e, hd, by rw [← e]; exact nxt_at S hv hi⟩
  refine ⟨⟨fun x hx => ?_, fun a b ha hb e => ?_⟩, S.half, fun x hx => (S.inn x hx).1, fun x hx => ?_, fun x y hx hy e => ?_, fun v hv => (hst v hv).1, fun v hv => (hst v hv).2⟩
  · obtain ⟨v, i, hv, hi, _, _, e⟩ := nx x hx
    rw [e]
    exact (S.mem v hv _ (na_mem (Nat.mod_lt _ (by omega)))).1
  · obtain ⟨v, i, hv, hi, e1, d1, f1⟩ := nx a ha
    obtain ⟨u, j, hu, hj, e2, d2, f2⟩ := nx b hb
    have m1 := S.mem v hv _ (na_mem (show (i + 1) % (nl v).length < (nl v).length from Nat.mod_lt _ (by omega)))
    have m2 := S.mem u hu _ (na_mem (show (j + 1) % (nl u).length < (nl u).length from Nat.mod_lt _ (by omega)))
    rw [f1, f2] at e
    rw [e] at m1
    have : u = v := by rw [← m1.2, m2.2]
    subst this
    have h := na_inj (S.nod u hu) (Nat.mod_lt _ (by omega)) (Nat.mod_lt _ (by omega)) e
    have : i = j := mod_succ_inj hi hj h
    subst this
    rw [← e1, ← e2]
  · obtain ⟨v, i, hv, hi, _, d, e⟩ := nx x hx
    rw [e, d]
    exact (S.mem v hv _ (na_mem (Nat.mod_lt _ (by omega)))).2
  · obtain ⟨v, i, hv, hi, e1, d1⟩ := S.at_ hx
    obtain ⟨u, j, hu, hj, e2, d2⟩ := S.at_ hy
    have : u = v := by omega
    subst this
    refine ⟨j + (nl u).length - i, ?_⟩
    rw [← e1, nxt_it S hu hi, ← e2]
    congr 1
    rw [show i + (j + (nl u).length - i) = j + (nl u).length by omega, Nat.add_mod_right, Nat.mod_eq_of_lt hj]
/-- The half-edges that are kept. -/
def pK (m : Nat) (K : Nat → Bool) (x : Nat) : Bool := decide (x < 2 * m) && K (x / 2)
theorem pK_iff {m x : Nat} {K : Nat → Bool} : pK m K x = true ↔ x < 2 * m ∧ K (x / 2) = true := by simp [pK]
theorem ph_in {s : Nat → Nat} {x : Nat} (h : pK m K x = true) : ph s m K x = s (tw x) := by
  unfold ph al
  rw [if_pos (pK_iff.1 h)]
theorem ph_out {s : Nat → Nat} {x : Nat} (h : pK m K x = false) : ph s m K x = s x := by
  unfold ph al
  rw [if_neg]
  intro h2
  rw [pK_iff.2 h2] at h
  cases h
theorem pK_tw {x : Nat} (h : pK m K x = true) : pK m K (tw x) = true := by
  obtain ⟨h1, h2⟩ := pK_iff.1 h
  exact pK_iff.2 ⟨tw_lt h1, by rw [tw_div]; exact h2⟩
/-- From a kept one the next kept one round the node. -/
theorem first_back (S : Sys m n N nl nd) {v i : Nat} (hv : v < n) (hi : i < ((nl v).filter (pK m K)).length) : ∃ t, it (nxt nl nd) (t + 1) (na ((nl v).filter (pK m K)) i) = na ((nl v).filter (pK m K)) ((i + 1) % ((nl v).filter (pK m K)).length) ∧ ∀ u, u < t → pK m K (it (nxt nl nd) (u + 1) (na ((nl v).filter (pK m K)) i)) = false := by
  obtain ⟨L, hL⟩ : ∃ L, (nl v).filter (pK m K) = L := ⟨_, rfl⟩
  have hxm : na L i ∈ (nl v).filter (pK m K) := by rw [hL]; exact na_mem (by rw [hL] at hi; exact hi)
  obtain ⟨hx1, hx2⟩ := List.mem_filter.1 hxm
  obtain ⟨k, hk, ek⟩ := mem_na hx1
  rw [← ek] at hx2
  obtain ⟨q1, q2⟩ := filter_place hk hx2
  have haf := aft_filter hk hx2
  have hn : ((nl v).filter (pK m K)).Nodup := (S.nod v hv).filter _
  rw [hL] at hi q1 q2 haf hn ⊢
  have hik : ((List.take k (nl v)).filter (pK m K)).length = i := na_inj hn q1 hi (by rw [q2, ek])
  rw [hik] at haf
  have hne : (aft (nl v) k).filter (pK m K) ≠ [] := by
    rw [haf]
    intro h
    have := aft_len hi
    rw [h] at this
    simp at this
    omega
  obtain ⟨t, t1, t2, t3, t4⟩ := first_in hne
  rw [aft_len hk] at t1
  rw [haf, aft_at hi (by omega), Nat.add_zero] at t2
  have go : ∀ u, u < (nl v).length → it (nxt nl nd) (u + 1) (na L i) = na (aft (nl v) k) u := fun u hu => by
    rw [aft_at hk hu, ← ek, nxt_it S hv hk]
    congr 2
    omega
  refine ⟨t, by rw [go t t1, t2], fun u hu => by rw [go u (by omega)]; exact t4 u hu⟩
end Go.Proofs.Ytllkadgpkbaghaa
