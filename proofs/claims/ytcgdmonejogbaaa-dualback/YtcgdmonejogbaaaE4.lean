/- Pure: round a list; a rotation out of lists; first returns. -/
import Derived.Test.YtcgdmonejogbaaaE2
import Derived.Test.YtcgdmonejogbaaaY32
/- Pure: what is traced along the next half-edges are the orbits, each from its least half-edge on. -/
namespace Go.Proofs.Ytcgdmonejogbaaa
open Go.RowKit Go.Sort
open Go

/-- A table of next ones as a function. -/
def fn (T : List Int) (x : Nat) : Nat := (iat T x).toNat
theorem it_mod {f : Nat → Nat} {a p : Nat} (e : it f p a = a) (t : Nat) : it f t a = it f (t % p) a := by
  have h := Nat.mod_add_div t p
  have : it f t a = it f (t % p + p * (t / p)) a := by rw [h]
  rw [this, it_add, it_mul e]
/-- The round that begins at a: its length, no one twice. -/
theorem round_of {m : Nat} {f : Nat → Nat} (h : Prm m f) {a : Nat} (ha : a < m) : ∃ p, 0 < p ∧ p ≤ m ∧ it f p a = a ∧ ∀ i j, i < p → j < p → it f i a = it f j a → i = j := by
  obtain ⟨p, ⟨hp, ep⟩, hmin⟩ := least (h.back ha)
  have hinj : ∀ i j, i < p → j < p → it f i a = it f j a → i = j := by
    have one : ∀ i j, i < j → j < p → it f i a ≠ it f j a := fun i j hij hj e => by
      rw [show j = i + (j - i) by omega, it_add] at e
      exact hmin (j - i) (by omega) ⟨by omega, (h.it_inj ha (h.it_lt ha _) i e).symm⟩
    intro i j hi hj e
    rcases Nat.lt_trichotomy i j with h1 | h1 | h1
    · exact absurd e (one i j h1 hj)
    · exact h1
    · exact absurd e.symm (one j i h1 hi)
  exact ⟨p, hp, pig m (fun i => it f i a) p (fun i _ => h.it_lt ha i) hinj, ep, hinj⟩
def rd (f : Nat → Nat) (a p : Nat) : List Int := (List.range p).map fun i => ((it f i a : Nat) : Int)
theorem rd_len (f : Nat → Nat) (a p : Nat) : (rd f a p).length = p := by simp [rd]
theorem rd_at {f : Nat → Nat} {a p j : Nat} (hj : j < p) : iat (rd f a p) j = (it f j a : Nat) := by
  unfold iat rd
  rw [List.getD_eq_getElem?_getD]
  simp [hj]
theorem rd_more (f : Nat → Nat) (a p : Nat) : rd f a (p + 1) = rd f a p ++ [((it f p a : Nat) : Int)] := by simp [rd, List.range_succ]
theorem trIn_run {T : List Int} {m : Nat} {id : Int} {v p : Nat} {C0 : List Int} (hT : ∀ x, x < m → 0 ≤ iat T x) (P : Prm m (fn T)) (hv : v < m) (hid : 0 ≤ id) (hp : 0 < p) (ep : it (fn T) p v = v) (hinj : ∀ i j, i < p → j < p → it (fn T) i v = it (fn T) j v → i = j) (hC0 : ∀ t, iat C0 (it (fn T) t v) < 0) :
    ∀ (k j : Nat) (C f : List Int), j ≤ p → p - j < k → C.length = m → (∀ t, t < j → iat C (it (fn T) t v) = id) → (∀ x, x < m → (∀ t, t < j → it (fn T) t v ≠ x) → iat C x = iat C0 x) → f = rd (fn T) v j →
      (trIn T id k (it (fn T) j v : Nat) C f).2 = rd (fn T) v p ∧ (∀ t, t < p → iat (trIn T id k (it (fn T) j v : Nat) C f).1 (it (fn T) t v) = id) ∧ (∀ x, x < m → (∀ t, t < p → it (fn T) t v ≠ x) → iat (trIn T id k (it (fn T) j v : Nat) C f).1 x = iat C0 x)
  | 0, j, C, f, _, hk, _, _, _, _ => by omega
  | k + 1, j, C, f, hj, hk, hC, h1, h2, hf => by
    have hlt := P.it_lt hv j
    unfold trIn
    rw [Int.toNat_natCast]
    by_cases hjp : j = p
    · subst hjp
      have : iat C (it (fn T) j v) = id := by rw [ep]; exact h1 0 hp
      rw [this, if_neg (by omega)]
      exact ⟨hf, h1, h2⟩
    · have hneg : iat C (it (fn T) j v) < 0 := by
        rw [h2 _ hlt fun t ht e => by have := hinj t j (by omega) (by omega) e; omega]
        exact hC0 j
      rw [if_pos hneg]
      have hnx : iat T (it (fn T) j v) = ((it (fn T) (j + 1) v : Nat) : Int) := by
        show _ = (((iat T (it (fn T) j v)).toNat : Nat) : Int)
        rw [Int.toNat_of_nonneg (hT _ hlt)]
      rw [hnx]
      refine trIn_run hT P hv hid hp ep hinj hC0 k (j + 1) _ _ (by omega) (by omega) (by simp [hC]) ?_ ?_ (by rw [hf, rd_more])
      · intro t ht
        by_cases htj : t = j
        · subst htj; exact iat_put (by omega)
        · rw [iat_put_ne (fun e => by have := hinj t j (by omega) (by omega) e; omega)]
          exact h1 t (by omega)
      · intro x hx hno
        rw [iat_put_ne (fun e => hno j (by omega) e.symm)]
        exact h2 x hx fun t ht => hno t (by omega)
/-- The faces so far, and who is marked. -/
structure TrOk (T : List Int) (m v : Nat) (C : List Int) (F : List (List Int)) : Prop where
  len : C.length = m
  mrk : ∀ x, x < m → iat C x = -1 ∨ ∃ i j, i < F.length ∧ j < (lat F i).length ∧ iat C x = i ∧ iat (lat F i) j = x
  fc : ∀ i, i < F.length → ∃ a p, a < m ∧ a < v ∧ 0 < p ∧ lat F i = rd (fn T) a p ∧ it (fn T) p a = a ∧ (∀ j, j < p → iat C (it (fn T) j a) = i ∧ a ≤ it (fn T) j a) ∧ ∀ j k, j < p → k < p → it (fn T) j a = it (fn T) k a → j = k
  dn : ∀ x, x < v → x < m → 0 ≤ iat C x
theorem tr_ok {T : List Int} {m : Nat} (hT : ∀ x, x < m → 0 ≤ iat T x) (P : Prm m (fn T)) : ∀ v, v ≤ m → TrOk T m v (trN T m v).1 (trN T m v).2
  | 0, _ => ⟨by simp [trN], fun x hx => Or.inl (iat_fill hx), fun i hi => by simp [trN] at hi, fun x hx => by omega⟩
  | v + 1, hv => by
    have k := tr_ok hT P v (by omega)
    unfold trN
    by_cases hneg : iat (trN T m v).1 v < 0
    · rw [if_pos hneg]
      obtain ⟨p, hp, hpm, ep, hinj⟩ := round_of P (a := v) (by omega)
      -- nobody of this round is marked
      have hC0 : ∀ t, iat (trN T m v).1 (it (fn T) t v) < 0 := fun t => by
        rcases k.mrk _ (P.it_lt (a := v) (by omega) t) with h | ⟨i, j, hi, hj, h1, h2⟩
        · omega
        · exfalso
          obtain ⟨a, q, ha, hav, hq, hl, eq, hall, _⟩ := k.fc i hi
          rw [hl, rd_len] at hj
          rw [hl, rd_at hj] at h2
          have o1 : Orb (fn T) a (it (fn T) t v) := ⟨j, by omega⟩
          have o2 : Orb (fn T) (it (fn T) t v) v := P.symm (a := v) (by omega) ⟨t, rfl⟩
          obtain ⟨u, hu⟩ := o1.trans o2
          rw [it_mod eq] at hu
          have := (hall (u % q) (Nat.mod_lt _ hq)).1
          rw [hu] at this
          omega
      obtain ⟨r1, r2, r3⟩ := trIn_run (id := ((trN T m v).2.length : Nat)) hT P (v := v) (by omega) (by omega) hp ep hinj hC0 (m + 1) 0 (trN T m v).1 [] (by omega) (by omega) k.len (fun t ht => by omega) (fun x _ _ => rfl) rfl
      have e0 : ((it (fn T) 0 v : Nat) : Int) = (v : Int) := rfl
      rw [e0] at r1 r2 r3
      have hlen := trIn_len T ((trN T m v).2.length : Nat) (m + 1) v (trN T m v).1 []
      generalize (trN T m v).1 = C at *
      generalize (trN T m v).2 = F at *
      generalize (trIn T (F.length : Nat) (m + 1) v C []).1 = C' at *
      rw [r1]
      have vmin : ∀ j, v ≤ it (fn T) j v := fun j => by
        have hx := hC0 j
        by_cases h : v ≤ it (fn T) j v
        · exact h
        · have := k.dn (it (fn T) j v) (by omega) (P.it_lt (a := v) (by omega) j)
          omega
      have old : ∀ x, x < m → 0 ≤ iat C x → iat C' x = iat C x := fun x hx h => r3 x hx fun t _ e => by have := hC0 t; rw [e] at this; omega
      refine ⟨by rw [hlen]; exact k.len, fun x hx => ?_, fun i hi => ?_, fun x hx hxm => ?_⟩
      · by_cases hm : ∃ t, t < p ∧ it (fn T) t v = x
        · obtain ⟨t, ht, e⟩ := hm
          refine Or.inr ⟨F.length, t, by simp, ?_, ?_, ?_⟩
          · rw [lat_snoc, if_neg (by omega), if_pos rfl, rd_len]; exact ht
          · rw [← e]; exact r2 t ht
          · rw [lat_snoc, if_neg (by omega), if_pos rfl, rd_at ht, e]
        · rw [r3 x hx fun t ht e => hm ⟨t, ht, e⟩]
          rcases k.mrk x hx with h | ⟨i, j, hi, hj, h1, h2⟩
          · exact Or.inl h
          · refine Or.inr ⟨i, j, by simp; omega, ?_, h1, ?_⟩
            · rw [lat_snoc, if_pos hi]; exact hj
            · rw [lat_snoc, if_pos hi]; exact h2
      · by_cases hif : i < F.length
        · obtain ⟨a, q, ha, hav, hq, hl, eq, hall, hin⟩ := k.fc i hif
          refine ⟨a, q, ha, by omega, hq, by rw [lat_snoc, if_pos hif]; exact hl, eq, fun j hj => ?_, hin⟩
          obtain ⟨x1, x2⟩ := hall j hj
          exact ⟨by rw [old _ (P.it_lt ha j) (by omega)]; exact x1, x2⟩
        · have hi2 : i = F.length := by simp at hi; omega
          subst hi2
          refine ⟨v, p, by omega, by omega, hp, by rw [lat_snoc, if_neg (by omega), if_pos rfl], ep, fun j hj => ⟨r2 j hj, vmin j⟩, hinj⟩
      · by_cases hxv : x = v
        · subst hxv
          have := r2 0 hp
          rw [show it (fn T) 0 x = x from rfl] at this
          omega
        · rw [old x hxm (k.dn x (by omega) hxm)]
          exact k.dn x (by omega) hxm
    · rw [if_neg hneg]
      refine ⟨k.len, k.mrk, fun i hi => ?_, fun x hx hxm => ?_⟩
      · obtain ⟨a, p, h1, h2, h3⟩ := k.fc i hi
        exact ⟨a, p, h1, by omega, h3⟩
      · by_cases hxv : x = v
        · rw [hxv]; omega
        · exact k.dn x (by omega) hxm
/-- The first ones of the faces stand for the orbits. -/
theorem tr_reps {T : List Int} {m : Nat} (hT : ∀ x, x < m → 0 ≤ iat T x) (P : Prm m (fn T)) : Reps m (Orb (fn T)) (fun i => (iat (lat (trN T m m).2 i) 0).toNat) (trN T m m).2.length := by
  have k := tr_ok hT P m (Nat.le_refl _)
  have first : ∀ i, i < (trN T m m).2.length → ∃ a p, a < m ∧ 0 < p ∧ (iat (lat (trN T m m).2 i) 0).toNat = a ∧ lat (trN T m m).2 i = rd (fn T) a p ∧ it (fn T) p a = a ∧ ∀ j, j < p → iat (trN T m m).1 (it (fn T) j a) = i := fun i hi => by
    obtain ⟨a, p, ha, _, hp, hl, ep, hall, _⟩ := k.fc i hi
    refine ⟨a, p, ha, hp, ?_, hl, ep, fun j hj => (hall j hj).1⟩
    rw [hl, rd_at hp, Int.toNat_natCast]
    rfl
  refine ⟨fun i hi => ?_, fun i j hi hj e => ?_, fun x hx => ?_⟩
  · obtain ⟨a, p, ha, _, e, _⟩ := first i hi
    rw [e]; exact ha
  · obtain ⟨a, p, ha, hp, e1, _, ep, hall⟩ := first i hi
    obtain ⟨b, q, hb, hq, e2, _, eq, hall2⟩ := first j hj
    rw [e1, e2] at e
    obtain ⟨t, ht⟩ := e
    rw [it_mod ep] at ht
    have h1 := hall (t % p) (Nat.mod_lt _ hp)
    rw [ht] at h1
    have h2 := hall2 0 hq
    rw [show it (fn T) 0 b = b from rfl] at h2
    omega
  · rcases k.mrk x hx with h | ⟨i, j, hi, hj, h1, h2⟩
    · have := k.dn x hx hx; omega
    · obtain ⟨a, p, ha, hp, e1, hl, ep, _⟩ := first i hi
      refine ⟨i, hi, ?_⟩
      rw [e1]
      rw [hl, rd_len] at hj
      rw [hl, rd_at hj] at h2
      exact P.symm ha ⟨j, by omega⟩
/-- Two half-edges have the same number just if they are of one orbit. -/
theorem tr_of {T : List Int} {m : Nat} (hT : ∀ x, x < m → 0 ≤ iat T x) (P : Prm m (fn T)) {x y : Nat} (hx : x < m) (hy : y < m) : iat (trN T m m).1 x = iat (trN T m m).1 y ↔ Orb (fn T) x y := by
  have k := tr_ok hT P m (Nat.le_refl _)
  have mark : ∀ x, x < m → ∃ i a p j, i < (trN T m m).2.length ∧ a < m ∧ j < p ∧ it (fn T) p a = a ∧ it (fn T) j a = x ∧ iat (trN T m m).1 x = i ∧ lat (trN T m m).2 i = rd (fn T) a p ∧ ∀ j, j < p → iat (trN T m m).1 (it (fn T) j a) = i := fun x hx => by
    rcases k.mrk x hx with h | ⟨i, j, hi, hj, h1, h2⟩
    · have := k.dn x hx hx; omega
    · obtain ⟨a, p, ha, _, hp, hl, ep, hall, _⟩ := k.fc i hi
      rw [hl, rd_len] at hj
      rw [hl, rd_at hj] at h2
      exact ⟨i, a, p, j, hi, ha, hj, ep, by omega, h1, hl, fun j hj => (hall j hj).1⟩
  obtain ⟨i, a, p, j, hi, ha, hj, ep, e1, e2, hl, hall⟩ := mark x hx
  constructor
  · intro h
    obtain ⟨i', a', p', j', hi', ha', hj', ep', e1', e2', hl', hall'⟩ := mark y hy
    have : i = i' := by omega
    subst this
    rw [hl] at hl'
    have hpp : p = p' := by have := congrArg List.length hl'; rwa [rd_len, rd_len] at this
    subst hpp
    have haa : a = a' := by
      have := congrArg (fun l => iat l 0) hl'
      simp only [rd_at (show 0 < p by omega)] at this
      have h0 : it (fn T) 0 a = a := rfl
      have h0' : it (fn T) 0 a' = a' := rfl
      omega
    subst haa
    exact (P.symm ha ⟨j, e1⟩).trans ⟨j', e1'⟩
  · intro h
    obtain ⟨t, ht⟩ := (show Orb (fn T) a x from ⟨j, e1⟩).trans h
    rw [it_mod ep] at ht
    have := hall (t % p) (Nat.mod_lt _ (by omega))
    rw [ht] at this
    omega
end Go.Proofs.Ytcgdmonejogbaaa

namespace Go.Proofs.Ytcgdmonejogbaaa

def na (L : List Nat) (i : Nat) : Nat := L.getD i 0
theorem na_get {L : List Nat} {i : Nat} (h : i < L.length) : na L i = L[i] := by
  unfold na
  rw [List.getD_eq_getElem?_getD, List.getElem?_eq_getElem h]
  rfl
theorem na_mem {L : List Nat} {i : Nat} (h : i < L.length) : na L i ∈ L := by rw [na_get h]; exact List.getElem_mem h
theorem mem_na {L : List Nat} {x : Nat} (h : x ∈ L) : ∃ i, i < L.length ∧ na L i = x := by
  obtain ⟨i, hi, e⟩ := List.mem_iff_getElem.1 h
  exact ⟨i, hi, by rw [na_get hi]; exact e⟩
theorem na_inj {L : List Nat} (hn : L.Nodup) {i j : Nat} (hi : i < L.length) (hj : j < L.length) (h : na L i = na L j) : i = j := by
  rw [na_get hi, na_get hj] at h
  have hp := List.pairwise_iff_getElem.1 hn
  rcases Nat.lt_trichotomy i j with h1 | h1 | h1
  · exact absurd h (hp i j hi hj h1)
  · exact h1
  · exact absurd h.symm (hp j i hj hi h1)
/-- All that stands round a list behind the i-th, itself last. -/
def aft (L : List Nat) (i : Nat) : List Nat := L.drop (i + 1) ++ L.take (i + 1)
theorem aft_len {L : List Nat} {i : Nat} (h : i < L.length) : (aft L i).length = L.length := by
  unfold aft
  simp
  omega
theorem aft_at {L : List Nat} {i t : Nat} (hi : i < L.length) (ht : t < L.length) : na (aft L i) t = na L ((i + 1 + t) % L.length) := by
  unfold na aft
  rw [List.getD_eq_getElem?_getD, List.getD_eq_getElem?_getD, List.getElem?_append, List.length_drop]
  congr 1
  by_cases h : t < L.length - (i + 1)
  · rw [if_pos h, List.getElem?_drop, Nat.mod_eq_of_lt (by omega)]
  · rw [if_neg h, List.getElem?_take, if_pos (by omega)]
    have : (i + 1 + t) % L.length = i + 1 + t - L.length := by
      rw [Nat.mod_eq_sub_mod (by omega), Nat.mod_eq_of_lt (by omega)]
    rw [this]
    congr 1
    omega
theorem cut_at {L : List Nat} {i : Nat} (hi : i < L.length) : L = L.take i ++ na L i :: L.drop (i + 1) := by
  rw [na_get hi]
  simp
theorem take_more {L : List Nat} {i : Nat} (hi : i < L.length) : L.take (i + 1) = L.take i ++ [na L i] := by
  rw [List.take_add_one, List.getElem?_eq_getElem hi, na_get hi]
  rfl
theorem filter_cut {L : List Nat} {i : Nat} {p : Nat → Bool} (hi : i < L.length) (hp : p (na L i) = true) : L.filter p = (L.take i).filter p ++ na L i :: (L.drop (i + 1)).filter p := by
  conv => lhs; rw [cut_at hi]
  rw [List.filter_append, List.filter_cons, if_pos hp]
theorem filter_place {L : List Nat} {i : Nat} {p : Nat → Bool} (hi : i < L.length) (hp : p (na L i) = true) : ((L.take i).filter p).length < (L.filter p).length ∧ na (L.filter p) ((L.take i).filter p).length = na L i := by
  rw [filter_cut hi hp]
  refine ⟨by simp, ?_⟩
  generalize na L i = x
  unfold na
  rw [List.getD_eq_getElem?_getD]
  simp
theorem aft_filter {L : List Nat} {i : Nat} {p : Nat → Bool} (hi : i < L.length) (hp : p (na L i) = true) : (aft L i).filter p = aft (L.filter p) ((L.take i).filter p).length := by
  have e := filter_cut hi hp
  unfold aft
  rw [List.filter_append, take_more hi, List.filter_append, List.filter_cons, if_pos hp, List.filter_nil, e]
  generalize (L.take i).filter p = A
  rw [List.drop_append, List.take_append, List.drop_of_length_le (show A.length ≤ A.length + 1 by omega), List.take_of_length_le (show A.length ≤ A.length + 1 by omega)]
  simp
theorem first_in {p : Nat → Bool} : ∀ {M : List Nat}, M.filter p ≠ [] → ∃ t, t < M.length ∧ na M t = na (M.filter p) 0 ∧ p (na M t) = true ∧ ∀ u, u < t → p (na M u) = false
  | [], h => absurd rfl h
  | x :: M, h => by
    by_cases hx : p x = true
    · refine ⟨0, by simp, ?_, by simpa [na] using hx, fun u hu => by omega⟩
      rw [List.filter_cons, if_pos hx]
      rfl
    · have hx' : p x = false := by simpa using hx
      rw [List.filter_cons, if_neg hx] at h ⊢
      obtain ⟨t, h1, h2, h3, h4⟩ := first_in h
      refine ⟨t + 1, by simpa using h1, ?_, ?_, fun u hu => ?_⟩
      · rw [← h2]; simp [na]
      · simpa [na] using h3
      · cases u with
        | zero => simpa [na] using hx'
        | succ u => simpa [na] using h4 u (by omega)
/-- Lists round nodes, of the items below N. -/
structure Sys (m n N : Nat) (nl : Nat → List Nat) (nd : Nat → Nat) : Prop where
  half : 2 * m ≤ N
  nod : ∀ v, v < n → (nl v).Nodup
  mem : ∀ v, v < n → ∀ x ∈ nl v, x < N ∧ nd x = v
  inn : ∀ x, x < N → nd x < n ∧ x ∈ nl (nd x)
def nxt (nl : Nat → List Nat) (nd : Nat → Nat) (x : Nat) : Nat := na (nl (nd x)) (((nl (nd x)).idxOf x + 1) % (nl (nd x)).length)
variable {m n N : Nat} {nl : Nat → List Nat} {nd st : Nat → Nat} {K : Nat → Bool}
theorem idx_na {L : List Nat} (hn : L.Nodup) {i : Nat} (hi : i < L.length) : L.idxOf (na L i) = i := by
  have h1 : L.idxOf (na L i) < L.length := List.idxOf_lt_length_iff.2 (na_mem hi)
  refine na_inj hn h1 hi ?_
  rw [na_get h1]
  exact List.getElem_idxOf h1
theorem nxt_at (S : Sys m n N nl nd) {v i : Nat} (hv : v < n) (hi : i < (nl v).length) : nxt nl nd (na (nl v) i) = na (nl v) ((i + 1) % (nl v).length) := by
  unfold nxt
  rw [(S.mem v hv _ (na_mem hi)).2, idx_na (S.nod v hv) hi]
theorem nxt_it (S : Sys m n N nl nd) {v i : Nat} (hv : v < n) (hi : i < (nl v).length) : ∀ j, it (nxt nl nd) j (na (nl v) i) = na (nl v) ((i + j) % (nl v).length)
  | 0 => by rw [Nat.add_zero, Nat.mod_eq_of_lt hi]; rfl
  | j + 1 => by
    show nxt nl nd (it (nxt nl nd) j (na (nl v) i)) = _
    rw [nxt_it S hv hi j, nxt_at S hv (Nat.mod_lt _ (by omega)), Nat.mod_add_mod]
    rfl
theorem Sys.at_ (S : Sys m n N nl nd) {x : Nat} (hx : x < N) : ∃ v i, v < n ∧ i < (nl v).length ∧ na (nl v) i = x ∧ nd x = v := by
  obtain ⟨h1, h2⟩ := S.inn x hx
  obtain ⟨i, hi, e⟩ := mem_na h2
  exact ⟨nd x, i, h1, hi, e, rfl⟩
theorem mod_succ_inj {a b d : Nat} (ha : a < d) (hb : b < d) (h : (a + 1) % d = (b + 1) % d) : a = b := by
  have h1 : (a + 1) % d = if a + 1 = d then 0 else a + 1 := by
    split
    · rename_i e; rw [e]; exact Nat.mod_self d
    · exact Nat.mod_eq_of_lt (by omega)
  have h2 : (b + 1) % d = if b + 1 = d then 0 else b + 1 := by
    split
    · rename_i e; rw [e]; exact Nat.mod_self d
    · exact Nat.mod_eq_of_lt (by omega)
  rw [h1, h2] at h
  split at h <;> split at h <;> omega
theorem Sys.rt (S : Sys m n N nl nd) (hst : ∀ v, v < n → st v < N ∧ nd (st v) = v) : Rt m n N (nxt nl nd) nd st := by
  have nx : ∀ x, x < N → ∃ v i, v < n ∧ i < (nl v).length ∧ na (nl v) i = x ∧ nd x = v ∧ nxt nl nd x = na (nl v) ((i + 1) % (nl v).length) := fun x hx => by
    obtain ⟨v, i, hv, hi, e, hd⟩ := S.at_ hx
    exact ⟨v, i, hv, hi, e, hd, by rw [← e]; exact nxt_at S hv hi⟩
  refine ⟨⟨fun x hx => ?_, fun a b ha hb e => ?_⟩, S.half, fun x hx => (S.inn x hx).1, fun x hx => ?_, fun x y hx hy e => ?_, fun v hv => (hst v hv).1, fun v hv => (hst v hv).2⟩
  · obtain ⟨v, i, hv, hi, _, _, e⟩ := nx x hx
    rw [e]
    exact (S.mem v hv _ (na_mem (Nat.mod_lt _ (by omega)))).1
  · obtain ⟨v, i, hv, hi, e1, d1, f1⟩ := nx a ha
    obtain ⟨u, j, hu, hj, e2, d2, f2⟩ := nx b hb
    have m1 := S.mem v hv _ (na_mem (show (i + 1) % (nl v).length < (nl v).length from Nat.mod_lt _ (by omega)))
    have m2 := S.mem u hu _ (na_mem (show (j + 1) % (nl u).length < (nl u).length from Nat.mod_lt _ (by omega)))
    rw [f1, f2] at e
    rw [e] at m1
    have : u = v := by rw [← m1.2, m2.2]
    subst this
    have h := na_inj (S.nod u hu) (Nat.mod_lt _ (by omega)) (Nat.mod_lt _ (by omega)) e
    have : i = j := mod_succ_inj hi hj h
    subst this
    rw [← e1, ← e2]
  · obtain ⟨v, i, hv, hi, _, d, e⟩ := nx x hx
    rw [e, d]
    exact (S.mem v hv _ (na_mem (Nat.mod_lt _ (by omega)))).2
  · obtain ⟨v, i, hv, hi, e1, d1⟩ := S.at_ hx
    obtain ⟨u, j, hu, hj, e2, d2⟩ := S.at_ hy
    have : u = v := by omega
    subst this
    refine ⟨j + (nl u).length - i, ?_⟩
    rw [← e1, nxt_it S hu hi, ← e2]
    congr 1
    rw [show i + (j + (nl u).length - i) = j + (nl u).length by omega, Nat.add_mod_right, Nat.mod_eq_of_lt hj]
/-- The half-edges that are kept. -/
def pK (m : Nat) (K : Nat → Bool) (x : Nat) : Bool := decide (x < 2 * m) && K (x / 2)
theorem pK_iff {m x : Nat} {K : Nat → Bool} : pK m K x = true ↔ x < 2 * m ∧ K (x / 2) = true := by simp [pK]
theorem ph_in {s : Nat → Nat} {x : Nat} (h : pK m K x = true) : ph s m K x = s (tw x) := by
  unfold ph al
  rw [if_pos (pK_iff.1 h)]
theorem ph_out {s : Nat → Nat} {x : Nat} (h : pK m K x = false) : ph s m K x = s x := by
  unfold ph al
  rw [if_neg]
  intro h2
  rw [pK_iff.2 h2] at h
  cases h
theorem pK_tw {x : Nat} (h : pK m K x = true) : pK m K (tw x) = true := by
  obtain ⟨h1, h2⟩ := pK_iff.1 h
  exact pK_iff.2 ⟨tw_lt h1, by rw [tw_div]; exact h2⟩
/-- From a kept one the next kept one round the node. -/
theorem first_back (S : Sys m n N nl nd) {v i : Nat} (hv : v < n) (hi : i < ((nl v).filter (pK m K)).length) : ∃ t, it (nxt nl nd) (t + 1) (na ((nl v).filter (pK m K)) i) = na ((nl v).filter (pK m K)) ((i + 1) % ((nl v).filter (pK m K)).length) ∧ ∀ u, u < t → pK m K (it (nxt nl nd) (u + 1) (na ((nl v).filter (pK m K)) i)) = false := by
  obtain ⟨L, hL⟩ : ∃ L, (nl v).filter (pK m K) = L := ⟨_, rfl⟩
  have hxm : na L i ∈ (nl v).filter (pK m K) := by rw [hL]; exact na_mem (by rw [hL] at hi; exact hi)
  obtain ⟨hx1, hx2⟩ := List.mem_filter.1 hxm
  obtain ⟨k, hk, ek⟩ := mem_na hx1
  rw [← ek] at hx2
  obtain ⟨q1, q2⟩ := filter_place hk hx2
  have haf := aft_filter hk hx2
  have hn : ((nl v).filter (pK m K)).Nodup := (S.nod v hv).filter _
  rw [hL] at hi q1 q2 haf hn ⊢
  have hik : ((List.take k (nl v)).filter (pK m K)).length = i := na_inj hn q1 hi (by rw [q2, ek])
  rw [hik] at haf
  have hne : (aft (nl v) k).filter (pK m K) ≠ [] := by
    rw [haf]
    intro h
    have := aft_len hi
    rw [h] at this
    simp at this
    omega
  obtain ⟨t, t1, t2, t3, t4⟩ := first_in hne
  rw [aft_len hk] at t1
  rw [haf, aft_at hi (by omega), Nat.add_zero] at t2
  have go : ∀ u, u < (nl v).length → it (nxt nl nd) (u + 1) (na L i) = na (aft (nl v) k) u := fun u hu => by
    rw [aft_at hk hu, ← ek, nxt_it S hv hk]
    congr 2
    omega
  refine ⟨t, by rw [go t t1, t2], fun u hu => by rw [go u (by omega)]; exact t4 u hu⟩
end Go.Proofs.Ytcgdmonejogbaaa
