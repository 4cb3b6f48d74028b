/- Pure: what is traced along the next half-edges are the orbits, each from its least half-edge on. -/
import Derived.Test.YtllkadgpkbaghaaE2
import Derived.Test.YtllkadgpkbaghaaY32
namespace Go.Proofs.Ytllkadgpkbaghaa
open Go.RowKit Go.Sort
open Go

/-- A table of next ones as a function. -/
def fn (T : List Int) (x : Nat) : Nat := (iat T x).toNat
theorem it_mod {f : Nat → Nat} {a p : Nat} (e : it f p a = a) (t : Nat) : it f t a = it f (t % p) a := by
  have h := Nat.mod_add_div t p
  have : it f t a = it f (t % p + p * (t / p)) a := by rw [h]
  rw [this, it_add, it_mul e]
/-- The round that begins at a: its length, no one twice. -/
theorem round_of {m : Nat} {f : Nat → Nat} (h : Prm m f) {a : Nat} (ha : a < m) : ∃ p, 0 < p ∧ p ≤ m ∧ it f p a = a ∧ ∀ i j, i < p → j < p → it f i a = it f j a → i = j := by
  obtain ⟨p, ⟨hp, ep⟩, hmin⟩ := least (h.back ha)
  have hinj : ∀ i j, i < p → j < p → it f i a = it f j a → i = j := by
    have one : ∀ i j, i < j → j < p → it f i a ≠ it f j a := fun i j hij hj e => by
      rw [show j = i + (j - i) by omega, it_add] at e
      exact hmin (j - i) (by omega) ⟨by omega, (h.it_inj ha (h.it_lt ha _) i e).symm⟩
    intro i j hi hj e
    rcases Nat.lt_trichotomy i j with h1 | h1 | h1
    · exact absurd e (one i j h1 hj)
    · exact h1
    · exact absurd e.symm (one j i h1 hi)
  exact ⟨p, hp, pig m (fun i => it f i a) p (fun i _ => h.it_lt ha i) hinj, ep, hinj⟩
def rd (f : Nat → Nat) (a p : Nat) : List Int := (List.range p).map fun i => ((it f i a : Nat) : Int)
theorem rd_len (f : Nat → Nat) (a p : Nat) : (rd f a p).length = p := by simp [rd]
theorem rd_at {f : Nat → Nat} {a p j : Nat} (hj : j < p) : iat (rd f a p) j = (it f j a : Nat) := by
  unfold iat rd
  rw [List.getD_eq_getElem?_getD]
  simp [hj]
theorem rd_more (f : Nat → Nat) (a p : Nat) : rd f a (p + 1) = rd f a p ++ [((it f p a : Nat) : Int)] := by simp [rd, List.range_succ]
theorem trIn_run {T : List Int} {m : Nat} {id : Int} {v p : Nat} {C0 : List Int} (hT : ∀ x, x < m → 0 ≤ iat T x) (P : Prm m (fn T)) (hv : v < m) (hid : 0 ≤ id) (hp : 0 < p) (ep : it (fn T) p v = v) (hinj : ∀ i j, i < p → j < p → it (fn T) i v = it (fn T) j v → i = j) (hC0 : ∀ t, iat C0 (it (fn T) t v) < 0) :
    ∀ (k j : Nat) (C f : List Int), j ≤ p → p - j < k → C.length = m → (∀ t, t < j → iat C (it (fn T) t v) = id) → (∀ x, x < m → (∀ t, t < j → it (fn T) t v ≠ x) → iat C x = iat C0 x) → f = rd (fn T) v j →
      (trIn T id k (it (fn T) j v : Nat) C f).2 = rd (fn T) v p ∧ (∀ t, t < p → iat (trIn T id k (it (fn T) j v : Nat) C f).1 (it (fn T) t v) = id) ∧ (∀ x, x < m → (∀ t, t < p → it (fn T) t v ≠ x) → iat (trIn T id k (it (fn T) j v : Nat) C f).1 x = iat C0 x)
  | 0, j, C, f, _, hk, _, _, _, _ => by omega
  | k + 1, j, C, f, hj, hk, hC, h1, h2, hf => by
    have hlt := P.it_lt hv j
    unfold trIn
    rw [Int.toNat_natCast]
    by_cases hjp : j = p
    · subst hjp
      have : iat C (it (fn T) j v) = id := by rw [ep]; exact h1 0 hp
      rw [this, if_neg (by omega)]
      exact ⟨hf, h1, h2⟩
    · have hneg : iat C (it (fn T) j v) < 0 := by
        rw [h2 _ hlt fun t ht e => by have := hinj t j (by omega) (by omega) e; omega]
        exact hC0 j
      rw [if_pos hneg]
      have hnx : iat T (it (fn T) j v) = ((it (fn T) (j + 1) v : Nat) : Int) := by
        show _ = (((iat T (it (fn T) j v)).toNat : Nat) : Int)
        rw [Int.toNat_of_nonneg (hT _ hlt)]
      rw [hnx]
      refine trIn_run hT P hv hid hp ep hinj hC0 k (j + 1) _ _ (by omega) (by omega) (by simp [hC]) ?_ ?_ (by rw [hf, rd_more])
      · intro t ht
        by_cases htj : t = j
        · subst htj; exact iat_put (by omega)
        · rw [iat_put_ne (fun e => by have := hinj t j (by omega) (by omega) e; omega)]
          exact h1 t (by omega)
      · intro x hx hno
        rw [iat_put_ne (fun e => hno j (by omega) e.symm)]
        exact h2 x hx fun t ht => hno t (by omega)
/-- The faces so far, and who is marked. -/
structure TrOk (T : List Int) (m v : Nat) (C : List Int) (F : List (List Int)) : Prop where
  len : C.length = m
  mrk : ∀ x, x < m → iat C x = -1 ∨ ∃ i j, i < F.length ∧ j < (lat F i).length ∧ iat C x = i ∧ iat (lat F i) j = x
  fc : ∀ i, i < F.length → ∃ a p, a < m ∧ a < v ∧ 0 < p ∧ lat F i = rd (fn T) a p ∧ it (fn T) p a = a ∧ (∀ j, j < p → iat C (it (fn T) j a) = i ∧ a ≤ it (fn T) j a) ∧ ∀ j k, j < p → k < p → it (fn T) j a = it (fn T) k a → j = k
  dn : ∀ x, x < v → x < m → 0 ≤ iat C x
theorem tr_ok {T : List Int} {m : Nat} (hT : ∀ x, x < m → 0 ≤ iat T x) (P : Prm m (fn T)) : ∀ v, v ≤ m → TrOk T m v (trN T m v).1 (trN T m v).2
  | 0, _ => ⟨by simp [trN], fun x hx => Or.inl (iat_fill hx), fun i hi => by simp [trN] at hi, fun x hx => by omega⟩
  | v + 1, hv => by
    have k := tr_ok hT P v (by omega)
    unfold trN
    by_cases hneg : iat (trN T m v).1 v < 0
    · rw [if_pos hneg]
      obtain ⟨p, hp, hpm, ep, hinj⟩ := round_of P (a := v) (by omega)
      -- nobody of this round is marked
      have hC0 : ∀ t, iat (trN T m v).1 (it (fn T) t v) < 0 := fun t => by
        rcases k.mrk _ (P.it_lt (a := v) (by omega) t) with h | ⟨i, j, hi, hj, h1, h2⟩
        · omega
        · exfalso
          obtain ⟨a, q, ha, hav, hq, hl, eq, hall, _⟩ := k.fc i hi
          rw [hl, rd_len] at hj
          rw [hl, rd_at hj] at h2
          have o1 : Orb (fn T) a (it (fn T) t v) := ⟨j, by omega⟩
          have o2 : Orb (fn T) (it (fn T) t v) v := P.symm (a := v) (by omega) ⟨t, rfl⟩
          obtain ⟨u, hu⟩ := o1.trans o2
          rw [it_mod eq] at hu
          have := (hall (u % q) (Nat.mod_lt _ hq)).1
          rw [hu] at this
          omega
      obtain ⟨r1, r2, r3⟩ := trIn_run (id := ((trN T m v).2.length : Nat)) hT P (v := v) (by omega) (by omega) hp ep hinj hC0 (m + 1) 0 (trN T m v).1 [] (by omega) (by omega) k.len (fun t ht => by omega) (fun x _ _ => rfl) rfl
      have e0 : ((it (fn T) 0 v : Nat) : Int) = (v : Int) := rfl
      rw [e0] at r1 r2 r3
      have hlen := trIn_len T ((trN T m v).2.length : Nat) (m + 1) v (trN T m v).1 []
      generalize (trN T m v).1 = C at *
      generalize (trN T m v).2 = F at *
      generalize (trIn T (F.length : Nat) (m + 1) v C []).1 = C' at *
      rw [r1]
      have vmin : ∀ j, v ≤ it (fn T) j v := fun j => by
        have hx := hC0 j
        by_cases h : v ≤ it (fn T) j v
        · exact h
        · have := k.dn (it (fn T) j v) (by omega) (P.it_lt (a := v) (by omega) j)
          omega
      have old : ∀ x, x < m → 0 ≤ iat C x → iat C' x = iat C x := fun x hx h => r3 x hx fun t _ e => by have := hC0 t; rw [e] at this; omega
      refine ⟨by rw [hlen]; exact k.len, fun x hx => ?_, fun i hi => ?_, fun x hx hxm => ?_⟩
      · by_cases hm : ∃ t, t < p ∧ it (fn T) t v = x
        · obtain ⟨t, ht, e⟩ := hm
          refine Or.inr ⟨F.length, t, by simp, ?_, ?_, ?_⟩
          · rw [lat_snoc, if_neg (by omega), if_pos rfl, rd_len]; exact ht
          · rw [← e]; exact r2 t ht
          · rw [lat_snoc, if_neg (by omega), if_pos rfl, rd_at ht, e]
        · rw [r3 x hx fun t ht e => hm ⟨t, ht, e⟩]
          rcases k.mrk x hx with h | ⟨i, j, hi, hj, h1, h2⟩
          · exact Or.inl h
          · refine Or.inr ⟨i, j, by simp; omega, ?_, h1, ?_⟩
            · rw [lat_snoc, if_pos hi]; exact hj
            · rw [lat_snoc, if_pos hi]; exact h2
      · by_cases hif : i < F.length
        · obtain ⟨a, q, ha, hav, hq, hl, eq, hall, hin⟩ := k.fc i hif
          refine ⟨a, q, ha, by omega, hq, by rw [lat_snoc, if_pos hif]; exact hl, eq, fun j hj => ?_, hin⟩
          obtain ⟨x1, x2⟩ := hall j hj
          exact ⟨by rw [old _ (P.it_lt ha j) (by omega)]; exact x1, x2⟩
        · have hi2 : i = F.length := by simp at hi; omega
          subst hi2
          refine ⟨v, p, by omega, by omega, hp, by rw [lat_snoc, if_neg (by omega), if_pos rfl], ep, fun j hj => ⟨r2 j hj, vmin j⟩, hinj⟩
      · by_cases hxv : x = v
        · subst hxv
          have := r2 0 hp
          rw [show it (fn T) 0 x = x from rfl] at this
          omega
        · rw [old x hxm (k.dn x (by omega) hxm)]
          exact k.dn x (by omega) hxm
    · rw [if_neg hneg]
      refine ⟨k.len, k.mrk, fun i hi => ?_, fun x hx hxm => ?_⟩
      · obtain ⟨a, p, h1, h2, h3⟩ := k.fc i hi
        exact ⟨a, p, h1, by omega, h3⟩
      · by_cases hxv : x = v
        · rw [hxv]; omega
        · exact k.dn x (by omega) hxm
/-- The first ones of the faces stand for the orbits. -/
theorem tr_reps {T : List Int} {m : Nat} (hT : ∀ x, x < m → 0 ≤ iat T x) (P : Prm m (fn T)) : Reps m (Orb (fn T)) (fun i => (iat (lat (trN T m m).2 i) 0).toNat) (trN T m m).2.length := by
  have k := tr_ok hT P m (Nat.le_refl _)
  have first : ∀ i, i < (trN T m m).2.length → ∃ a p, a < m ∧ 0 < p ∧ (iat (lat (trN T m m).2 i) 0).toNat = a ∧ lat (trN T m m).2 i = rd (fn T) a p ∧ it (fn T) p a = a ∧ ∀ j, j < p → iat (trN T m m).1 (it (fn T) j a) = i := fun i hi => by
    obtain ⟨a, p, ha, _, hp, hl, ep, hall, _⟩ := k.fc i hi
    refine ⟨a, p, ha, hp, ?_, hl, ep, fun j hj => (hall j hj).1⟩
    rw [hl, rd_at hp, Int.toNat_natCast]
    rfl
  refine ⟨fun i hi => ?_, fun i j hi hj e => ?_, fun x hx => ?_⟩
  · obtain ⟨a, p, ha, _, e, _⟩ := first i hi
    rw [e]; exact ha
  · obtain ⟨a, p, ha, hp, e1, _, ep, hall⟩ := first i hi
    obtain ⟨b, q, hb, hq, e2, _, eq, hall2⟩ := first j hj
    rw [e1, e2] at e
    obtain ⟨t, ht⟩ := e
    rw [it_mod ep] at ht
    have h1 := hall (t % p) (Nat.mod_lt _ hp)
    rw [ht] at h1
    have h2 := hall2 0 hq
    rw [show it (fn T) 0 b = b from rfl] at h2
    omega
  · rcases k.mrk x hx with h | ⟨i, j, hi, hj, h1, h2⟩
    · have := k.dn x hx hx; omega
    · obtain ⟨a, p, ha, hp, e1, hl, ep, _⟩ := first i hi
      refine ⟨i, hi, ?_⟩
      rw [e1]
      rw [hl, rd_len] at hj
      rw [hl, rd_at hj] at h2
      exact P.symm ha ⟨j, by omega⟩
/-- Two half-edges have the same number just if they are of one orbit. -/
theorem tr_of {T : List Int} {m : Nat} (hT : ∀ x, x < m → 0 ≤ iat T x) (P : Prm m (fn T)) {x y : Nat} (hx : x < m) (hy : y < m) : iat (trN T m m).1 x = iat (trN T m m).1 y ↔ Orb (fn T) x y := by
  have k := tr_ok hT P m (Nat.le_refl _)
  have mark : ∀ x, x < m → ∃ i a p j, i < (trN T m m).2.length ∧ a < m ∧ j < p ∧ it (fn T) p a = a ∧ it (fn T) j a = x ∧ iat (trN T m m).1 x = i ∧ lat (trN T m m).2 i = rd (fn T) a p ∧ ∀ j, j < p → iat (trN T m m).1 (it (fn T) j a) = i := fun x hx => by
    rcases k.mrk x hx with h | ⟨i, j, hi, hj, h1, h2⟩
    · have := k.dn x hx hx; omega
    · obtain ⟨a, p, ha, _, hp, hl, ep, hall, _⟩ := k.fc i hi
      rw [hl, rd_len] at hj
      rw [hl, rd_at hj] at h2
      exact ⟨i, a, p, j, hi, ha, hj, ep, by omega, h1, hl, fun j hj => (hall j hj).1⟩
  obtain ⟨i, a, p, j, hi, ha, hj, ep, e1, e2, hl, hall⟩ := mark x hx
  constructor
  · intro h
    obtain ⟨i', a', p', j', hi', ha', hj', ep', e1', e2', hl', hall'⟩ := mark y hy
    have : i = i' := by omega
    subst this
    rw [hl] at hl'
    have hpp : p = p' := by have := congrArg List.length hl'; rwa [rd_len, rd_len] at this
    subst hpp
    have haa : a = a' := by
      have := congrArg (fun l => iat l 0) hl'
      simp only [rd_at (show 0 < p by omega)] at this
      have h0 : it (fn T) 0 a = a := rfl
      have h0' : it (fn T) 0 a' = a' := rfl
      omega
    subst haa
    exact (P.symm ha ⟨j, e1⟩).trans ⟨j', e1'⟩
  · intro h
    obtain ⟨t, ht⟩ := (show Orb (fn T) a x from ⟨j, e1⟩).trans h
    rw [it_mod ep] at ht
    have := hall (t % p) (Nat.mod_lt _ (by omega))
    rw [ht] at this
    omega
end Go.Proofs.Ytllkadgpkbaghaa
