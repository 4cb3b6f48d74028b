/- Pure: the faces of a rotation that lies within another one, its edges those that are kept: as many as orbits; its components, its genus. -/
import Derived.Test.YtllkadgpkbaghaaE4
namespace Go.Proofs.Ytllkadgpkbaghaa
open Go.RowKit Go.Sort
open Go

theorem twn_tw (x : Nat) : twn (x : Int) = (tw x : Nat) := by
  unfold twn tw
  split <;> split <;> omega
/-- The next half-edge along a face. -/
def fT (es : List Pt) (rs : List (List Int)) : Nat → Nat := fn (nxN rs (2 * es.length) rs.length)
theorem real_at {es : List Pt} {rs : List (List Int)} (h : holdsP es rs) {x : Nat} (hx : x < 2 * es.length) : ∃ u i, u < rs.length ∧ i < (lat rs u).length ∧ iat (lat rs u) i = (x : Int) ∧ iat (nxN rs (2 * es.length) rs.length) (tw x) = iat (lat rs u) ((i + 1) % (lat rs u).length) ∧ fT es rs (tw x) = (iat (lat rs u) ((i + 1) % (lat rs u).length)).toNat := by
  obtain ⟨u, i, hu, hi, e⟩ := half_in h hx
  have hn := nxN_at h rs.length (Nat.le_refl _) u hu i hi
  rw [e, twn_tw, Int.toNat_natCast] at hn
  refine ⟨u, i, hu, hi, e, hn, ?_⟩
  unfold fT fn
  rw [hn]
theorem real_in {es : List Pt} {rs : List (List Int)} (h : holdsP es rs) {u i : Nat} (hu : u < rs.length) (hi : i < (lat rs u).length) : 0 ≤ iat (lat rs u) i ∧ iat (lat rs u) i < 2 * es.length ∧ fromL es (iat (lat rs u) i).toNat = u := (holds_iff.1 h).1 u hu _ (iat_mem hi)
theorem real_nn {es : List Pt} {rs : List (List Int)} (h : holdsP es rs) {x : Nat} (hx : x < 2 * es.length) : 0 ≤ iat (nxN rs (2 * es.length) rs.length) x := by
  obtain ⟨u, i, hu, hi, e, e2, _⟩ := real_at h (tw_lt hx)
  rw [tw_tw] at e2
  rw [e2]
  exact (real_in h hu (Nat.mod_lt _ (by omega))).1
theorem real_prm {es : List Pt} {rs : List (List Int)} (h : holdsP es rs) : Prm (2 * es.length) (fT es rs) := by
  refine ⟨fun x hx => ?_, fun a b ha hb e => ?_⟩
  · obtain ⟨u, i, hu, hi, _, _, e⟩ := real_at h (tw_lt hx)
    rw [tw_tw] at e
    rw [e]
    have := real_in h hu (show (i + 1) % (lat rs u).length < (lat rs u).length from Nat.mod_lt _ (by omega))
    omega
  · obtain ⟨u, i, hu, hi, e1, _, f1⟩ := real_at h (tw_lt ha)
    obtain ⟨v, j, hv, hj, e2, _, f2⟩ := real_at h (tw_lt hb)
    rw [tw_tw] at f1 f2
    have b1 := real_in h hu (show (i + 1) % (lat rs u).length < (lat rs u).length from Nat.mod_lt _ (by omega))
    have b2 := real_in h hv (show (j + 1) % (lat rs v).length < (lat rs v).length from Nat.mod_lt _ (by omega))
    have e3 : iat (lat rs u) ((i + 1) % (lat rs u).length) = iat (lat rs v) ((j + 1) % (lat rs v).length) := by omega
    have huv : u = v := by
      have := b1.2.2
      rw [e3, b2.2.2] at this
      omega
    subst huv
    have h3 := iat_inj (lat_nodup (holds_iff.1 h).2.1 hu) (Nat.mod_lt _ (by omega)) (Nat.mod_lt _ (by omega)) e3
    have := mod_succ_inj hi hj h3
    subst this
    rw [e1] at e2
    exact tw_inj (by omega)
/-- A net whose lists are those that are kept of others, by other numbers. -/
structure Emb (m n N : Nat) (nl : Nat → List Nat) (nd : Nat → Nat) (K : Nat → Bool) (es : List Pt) (rs : List (List Int)) (nu : Nat → Nat) : Prop where
  rot : holdsP es rs
  len : rs.length = n
  lst : ∀ v, v < n → (lat rs v).map (fun z => nu z.toNat) = (nl v).filter (pK m K)
  twi : ∀ x, x < 2 * es.length → nu (tw x) = tw (nu x)
  inj : ∀ x y, x < 2 * es.length → y < 2 * es.length → nu x = nu y → x = y
variable {m n N : Nat} {nl : Nat → List Nat} {nd st : Nat → Nat} {K : Nat → Bool} {es : List Pt} {rs : List (List Int)} {nu : Nat → Nat}
theorem na_map {l : List Int} {g : Int → Nat} {i : Nat} (hi : i < l.length) : na (l.map g) i = g (iat l i) := by
  unfold na iat
  rw [List.getD_eq_getElem?_getD, List.getD_eq_getElem?_getD, List.getElem?_map, List.getElem?_eq_getElem hi]
  rfl
theorem Emb.kept (E : Emb m n N nl nd K es rs nu) {x : Nat} (hx : x < 2 * es.length) : ∃ u, u < n ∧ nu x ∈ (nl u).filter (pK m K) ∧ fromL es x = u := by
  obtain ⟨u, i, hu, hi, e, _⟩ := real_at E.rot hx
  rw [E.len] at hu
  refine ⟨u, hu, ?_, ?_⟩
  · rw [← E.lst u hu]
    refine List.mem_map.2 ⟨(x : Int), ?_, by rw [Int.toNat_natCast]⟩
    rw [← e]; exact iat_mem hi
  · have := (real_in E.rot (by rw [E.len]; exact hu) hi).2.2
    rw [e, Int.toNat_natCast] at this
    exact this
theorem Emb.pk (E : Emb m n N nl nd K es rs nu) {x : Nat} (hx : x < 2 * es.length) : pK m K (nu x) = true := by
  obtain ⟨u, _, h, _⟩ := E.kept hx
  exact (List.mem_filter.1 h).2
theorem Emb.nd_ (S : Sys m n N nl nd) (E : Emb m n N nl nd K es rs nu) {x : Nat} (hx : x < 2 * es.length) : fromL es x = nd (nu x) ∧ nu x < N := by
  obtain ⟨u, hu, h, hf⟩ := E.kept hx
  have := S.mem u hu _ (List.mem_filter.1 h).1
  exact ⟨by rw [hf, this.2], this.1⟩
theorem Emb.onto (S : Sys m n N nl nd) (E : Emb m n N nl nd K es rs nu) {y : Nat} (hy : y < N) (hp : pK m K y = true) : ∃ x, x < 2 * es.length ∧ nu x = y := by
  obtain ⟨h1, h2⟩ := S.inn y hy
  have : y ∈ (nl (nd y)).filter (pK m K) := List.mem_filter.2 ⟨h2, hp⟩
  rw [← E.lst _ h1] at this
  obtain ⟨z, hz, e⟩ := List.mem_map.1 this
  have hb := (holds_iff.1 E.rot).1 (nd y) (by rw [E.len]; exact h1) z hz
  exact ⟨z.toNat, by omega, e⟩
/-- Along a face of the one net is along the orbit of the other, all that lies between being not kept. -/
theorem Emb.ret (S : Sys m n N nl nd) (E : Emb m n N nl nd K es rs nu) {x : Nat} (hx : x < 2 * es.length) : ∃ t, it (ph (nxt nl nd) m K) (t + 1) (nu x) = nu (fT es rs x) ∧ ∀ u, u < t → pK m K (it (ph (nxt nl nd) m K) (u + 1) (nu x)) = false := by
  have hpx := E.pk hx
  obtain ⟨u, i, hu, hi, e, _, e2⟩ := real_at E.rot (tw_lt hx)
  rw [tw_tw] at e2
  rw [E.len] at hu
  have hl := E.lst u hu
  have hll : ((nl u).filter (pK m K)).length = (lat rs u).length := by rw [← hl, List.length_map]
  obtain ⟨t, t1, t2⟩ := first_back (K := K) S hu (i := i) (by omega)
  have n1 : na ((nl u).filter (pK m K)) i = nu (tw x) := by rw [← hl, na_map hi, e, Int.toNat_natCast]
  have n2 : na ((nl u).filter (pK m K)) ((i + 1) % ((nl u).filter (pK m K)).length) = nu (fT es rs x) := by
    rw [hll, ← hl, na_map (Nat.mod_lt _ (by omega)), e2]
  rw [n1, n2] at t1
  rw [n1] at t2
  have go : ∀ j, j ≤ t → it (ph (nxt nl nd) m K) (j + 1) (nu x) = it (nxt nl nd) (j + 1) (nu (tw x)) := by
    intro j
    induction j with
    | zero =>
      intro _
      show ph (nxt nl nd) m K (nu x) = nxt nl nd (nu (tw x))
      rw [ph_in hpx, E.twi x hx]
    | succ j ih =>
      intro hj
      show ph (nxt nl nd) m K (it (ph (nxt nl nd) m K) (j + 1) (nu x)) = nxt nl nd (it (nxt nl nd) (j + 1) (nu (tw x)))
      rw [ih (by omega), ph_out (t2 j (by omega))]
  exact ⟨t, by rw [go t (Nat.le_refl _), t1], fun j hj => by rw [go j (by omega)]; exact t2 j hj⟩
theorem Emb.orb (S : Sys m n N nl nd) (E : Emb m n N nl nd K es rs nu) {x y : Nat} (hx : x < 2 * es.length) (hy : y < 2 * es.length) : Orb (ph (nxt nl nd) m K) (nu x) (nu y) ↔ Orb (fT es rs) x y := by
  have P := real_prm E.rot
  constructor
  · rintro ⟨k, e⟩
    induction k using Nat.strongRecOn generalizing x with
    | ind k ih =>
      rcases Nat.eq_zero_or_pos k with h0 | h0
      · subst h0
        rw [E.inj x y hx hy e]
        exact Orb.refl _ _
      · obtain ⟨t, t1, t2⟩ := E.ret S hx
        by_cases hk : k ≤ t
        · have h1 := t2 (k - 1) (by omega)
          rw [show k - 1 + 1 = k by omega, e, E.pk hy] at h1
          cases h1
        · have h2 : it (ph (nxt nl nd) m K) (k - (t + 1)) (nu (fT es rs x)) = nu y := by
            rw [← t1, ← it_add, show k - (t + 1) + (t + 1) = k by omega, e]
          exact (Orb.step _ x).trans (ih (k - (t + 1)) (by omega) (P.lt x hx) h2)
  · rintro ⟨k, e⟩
    subst e
    clear hy
    induction k with
    | zero => exact Orb.refl _ _
    | succ k ih =>
      obtain ⟨t, t1, _⟩ := E.ret S (P.it_lt hx k)
      exact ih.trans ⟨t + 1, t1⟩
/-- Where nothing is kept round a node, the orbit is the list round it. -/
theorem bare_it (S : Sys m n N nl nd) (H : Rt m n N (nxt nl nd) nd st) {z : Nat} (hz : z < N) (hb : (nl (nd z)).filter (pK m K) = []) : ∀ k, it (ph (nxt nl nd) m K) k z = it (nxt nl nd) k z ∧ nd (it (nxt nl nd) k z) = nd z ∧ pK m K (it (nxt nl nd) k z) = false := by
  have out : ∀ y, y < N → nd y = nd z → pK m K y = false := fun y hy e => by
    cases h : pK m K y
    · rfl
    · have := List.mem_filter.2 ⟨(S.inn y hy).2, h⟩
      rw [e, hb] at this
      simp at this
  intro k
  induction k with
  | zero => exact ⟨rfl, rfl, out z hz rfl⟩
  | succ k ih =>
    obtain ⟨i1, i2, i3⟩ := ih
    have hlt := H.prm.it_lt hz k
    have hnd : nd (it (nxt nl nd) (k + 1) z) = nd z := (H.nds _ hlt).trans i2
    refine ⟨?_, hnd, out _ (H.prm.it_lt hz (k + 1)) hnd⟩
    show ph (nxt nl nd) m K (it (ph (nxt nl nd) m K) k z) = nxt nl nd (it (nxt nl nd) k z)
    rw [i1, ph_out i3]
theorem empty_enum (rs : List (List Int)) : ∀ v, ∃ ev : Nat → Nat, (∀ i, i < (emptyN rs v).length → ev i < v ∧ lat rs (ev i) = []) ∧ (∀ i j, i < (emptyN rs v).length → j < (emptyN rs v).length → ev i = ev j → i = j) ∧ ∀ u, u < v → lat rs u = [] → ∃ i, i < (emptyN rs v).length ∧ ev i = u
  | 0 => ⟨fun _ => 0, fun i hi => by simp [emptyN] at hi, fun i j hi => by simp [emptyN] at hi, fun u hu => by omega⟩
  | v + 1 => by
    obtain ⟨ev, h1, h2, h3⟩ := empty_enum rs v
    unfold emptyN
    by_cases hv : (lat rs v).length = 0
    · rw [if_pos hv, List.length_append, List.length_singleton]
      refine ⟨fun i => if i < (emptyN rs v).length then ev i else v, fun i hi => ?_, fun i j hi hj e => ?_, fun u hu he => ?_⟩
      · show (if i < (emptyN rs v).length then ev i else v) < v + 1 ∧ lat rs (if i < (emptyN rs v).length then ev i else v) = []
        split
        · have := h1 i (by omega); exact ⟨by omega, this.2⟩
        · exact ⟨by omega, List.length_eq_zero_iff.1 hv⟩
      · have e : (if i < (emptyN rs v).length then ev i else v) = (if j < (emptyN rs v).length then ev j else v) := e
        split at e <;> split at e
        · exact h2 i j (by omega) (by omega) e
        · have := h1 i (by omega); omega
        · have := h1 j (by omega); omega
        · omega
      · by_cases huv : u = v
        · exact ⟨(emptyN rs v).length, by omega, by simp [huv]⟩
        · obtain ⟨i, hi, e⟩ := h3 u (by omega) he
          exact ⟨i, by omega, by show (if i < (emptyN rs v).length then ev i else v) = u; rw [if_pos hi]; exact e⟩
    · rw [if_neg hv]
      refine ⟨ev, fun i hi => ⟨by have := (h1 i hi).1; omega, (h1 i hi).2⟩, h2, fun u hu he => ?_⟩
      by_cases huv : u = v
      · subst huv; rw [he] at hv; simp at hv
      · exact h3 u (by omega) he
/-- As many orbits as faces. -/
theorem Emb.faces (S : Sys m n N nl nd) (hst : ∀ v, v < n → st v < N ∧ nd (st v) = v) (E : Emb m n N nl nd K es rs nu) : ∃ r, Reps N (Orb (ph (nxt nl nd) m K)) r (facesL es rs).length := by
  have H := S.rt hst
  have P := real_prm E.rot
  have PH := ph_prm H K
  have R := tr_reps (T := nxN rs (2 * es.length) rs.length) (m := 2 * es.length) (fun x hx => real_nn E.rot hx) P
  obtain ⟨ev, v1, v2, v3⟩ := empty_enum rs rs.length
  have bare : ∀ v, v < n → (lat rs v = [] ↔ (nl v).filter (pK m K) = []) := fun v hv => by
    rw [← E.lst v hv, List.map_eq_nil_iff]
  have hlen : (facesL es rs).length = (edgeF es rs).length + (emptyN rs rs.length).length := by unfold facesL; rw [List.length_append]
  obtain ⟨fi, hfi⟩ : ∃ fi : Nat → Nat, fi = fun i => (iat (lat (trN (nxN rs (2 * es.length) rs.length) (2 * es.length) (2 * es.length)).2 i) 0).toNat := ⟨_, rfl⟩
  rw [← hfi] at R
  have R' : Reps (2 * es.length) (Orb (fT es rs)) fi (edgeF es rs).length := R
  obtain ⟨nF, hnF⟩ : ∃ k, (edgeF es rs).length = k := ⟨_, rfl⟩
  obtain ⟨nE, hnE⟩ : ∃ k, (emptyN rs rs.length).length = k := ⟨_, rfl⟩
  rw [hnF] at R' hlen
  rw [hnE] at v1 v2 v3 hlen
  rw [hlen]
  have evb : ∀ j, j < nE → ev j < n ∧ (nl (ev j)).filter (pK m K) = [] := fun j hj => by
    have := v1 j hj
    rw [E.len] at this
    exact ⟨this.1, (bare _ this.1).1 this.2⟩
  have stb : ∀ j, j < nE → ∀ k, it (ph (nxt nl nd) m K) k (st (ev j)) = it (nxt nl nd) k (st (ev j)) ∧ nd (it (nxt nl nd) k (st (ev j))) = ev j ∧ pK m K (it (nxt nl nd) k (st (ev j))) = false := fun j hj k => by
    obtain ⟨b1, b2⟩ := evb j hj
    have hs := hst _ b1
    have := bare_it S H hs.1 (by rw [hs.2]; exact b2) k
    rw [hs.2] at this
    exact this
  refine ⟨fun i => if i < nF then nu (fi i) else st (ev (i - nF)), fun i hi => ?_, fun i j hi hj e => ?_, fun z hz => ?_⟩
  · show (if i < nF then nu (fi i) else st (ev (i - nF))) < N
    split
    · exact (E.nd_ S (R'.lt i (by omega))).2
    · exact (hst _ (evb (i - nF) (by omega)).1).1
  · have e : Orb (ph (nxt nl nd) m K) (if i < nF then nu (fi i) else st (ev (i - nF))) (if j < nF then nu (fi j) else st (ev (j - nF))) := e
    split at e <;> split at e
    · exact R'.sep i j (by omega) (by omega) ((E.orb S (R'.lt i (by omega)) (R'.lt j (by omega))).1 e)
    · exfalso
      obtain ⟨k, ek⟩ := PH.symm (E.nd_ S (R'.lt i (by omega))).2 e
      have := stb (j - nF) (by omega) k
      rw [← this.1, ek, E.pk (R'.lt i (by omega))] at this
      exact absurd this.2.2 (by simp)
    · exfalso
      obtain ⟨k, ek⟩ := e
      have := stb (i - nF) (by omega) k
      rw [← this.1, ek, E.pk (R'.lt j (by omega))] at this
      exact absurd this.2.2 (by simp)
    · obtain ⟨k, ek⟩ := e
      have := stb (i - nF) (by omega) k
      rw [← this.1, ek, (hst _ (evb (j - nF) (by omega)).1).2] at this
      have := v2 (i - nF) (j - nF) (by omega) (by omega) this.2.1.symm
      omega
  · obtain ⟨zn, zm⟩ := S.inn z hz
    by_cases hb : (nl (nd z)).filter (pK m K) = []
    · obtain ⟨i, hi, ei⟩ := v3 (nd z) (by rw [E.len]; exact zn) ((bare _ zn).2 hb)
      refine ⟨nF + i, by omega, ?_⟩
      show Orb _ z (if nF + i < nF then nu (fi (nF + i)) else st (ev (nF + i - nF)))
      rw [if_neg (by omega), show nF + i - nF = i by omega, ei]
      obtain ⟨s1, s2⟩ := hst _ zn
      obtain ⟨k, ek⟩ := H.one z (st (nd z)) hz s1 s2.symm
      exact ⟨k, by rw [(bare_it S H hz hb k).1]; exact ek⟩
    · -- some kept one stands round the node
      obtain ⟨y, hy⟩ : ∃ y, y ∈ (nl (nd z)).filter (pK m K) := by
        cases h : (nl (nd z)).filter (pK m K) with
        | nil => exact absurd h hb
        | cons y _ => exact ⟨y, by simp⟩
      obtain ⟨y1, y2⟩ := List.mem_filter.1 hy
      obtain ⟨yN, yd⟩ := S.mem _ zn y y1
      obtain ⟨k0, hk0⟩ := H.one z y hz yN yd.symm
      obtain ⟨k, ek, hmin⟩ := least (P := fun k => pK m K (it (nxt nl nd) k z) = true) ⟨k0, by rw [hk0]; exact y2⟩
      have same : ∀ j, j ≤ k → it (ph (nxt nl nd) m K) j z = it (nxt nl nd) j z := by
        intro j
        induction j with
        | zero => exact fun _ => rfl
        | succ j ih =>
          intro hj
          show ph (nxt nl nd) m K (it (ph (nxt nl nd) m K) j z) = nxt nl nd (it (nxt nl nd) j z)
          rw [ih (by omega), ph_out]
          have := hmin j (by omega)
          simpa using this
      obtain ⟨x, hx, ex⟩ := E.onto S (H.prm.it_lt hz k) ek
      obtain ⟨i, hi, ei⟩ := R'.all x hx
      refine ⟨i, by omega, ?_⟩
      show Orb _ z (if i < nF then nu (fi i) else st (ev (i - nF)))
      rw [if_pos hi]
      exact (show Orb _ z (nu x) from ⟨k, by rw [same k (Nat.le_refl _), ex]⟩).trans ((E.orb S hx (R'.lt i hi)).2 ei)
end Go.Proofs.Ytllkadgpkbaghaa
