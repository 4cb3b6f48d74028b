/- Pure: taken again, the rotation is the old one. -/
import Derived.Test.YtcgdmonejogbaaaWA
import Derived.Test.YtcgdmonejogbaaaD3
/- Pure: an edge laid within a face parts it. -/
/- Pure: the two stubs of an edge to be laid are on the faces of its corners. -/
/- Pure: stubs lead on to the next half-edge that is kept; corners. -/
/- Pure: what an edge laid does to faces, components and the genus. -/
/- Pure: the edge that was laid, taken again. -/
namespace Go.Proofs.Ytcgdmonejogbaaa
open Go.RowKit Go.Sort
open Go
theorem insL_filter {l : List Int} {i : Nat} {x : Int} {P : Int → Bool} (h : P x = false) : (insL l i x).filter P = l.filter P := by
  unfold insL
  rw [List.filter_append, List.filter_cons, if_neg (by simp [h])]
  rw [← List.filter_append, List.take_append_drop]
theorem betL_filter {rs : List (List Int)} {va vb v : Nat} {aa ab f : Int} {P : Int → Bool} (h1 : P f = false) (h2 : P (f + 1) = false) : (betL rs va aa vb ab f v).filter P = (lat rs v).filter P := by
  have hA : ∀ u, (betA rs va aa f u).filter P = (lat rs u).filter P := fun u => by
    unfold betA
    by_cases e : u = va
    · subst e; rw [upd_same]; exact insL_filter h1
    · rw [upd_other _ _ e]
  unfold betL
  by_cases e : v = vb
  · subst e; rw [upd_same]; exact (insL_filter h2).trans (hA v)
  · rw [upd_other _ _ e]; exact hA v
theorem kpE_last (m : Nat) : ∀ j, j ≤ m → kpE m j = (List.range j).map fun (x : Nat) => (x : Int)
  | 0, _ => rfl
  | j + 1, hj => by
    unfold kpE
    rw [if_neg (by omega), kpE_last m j (by omega), List.range_succ, List.map_append]
    rfl
theorem kpE_top (m : Nat) : kpE m (m + 1) = (List.range m).map fun (x : Nat) => (x : Int) := by
  unfold kpE
  rw [if_pos rfl, kpE_last m m (Nat.le_refl _)]
theorem lay_pick (es : List Pt) (va vb : Nat) : pick (layN es va vb) (kpE es.length (layN es va vb).length) = es := by
  rw [layN_length, kpE_top]
  unfold pick
  rw [List.map_map]
  refine List.ext_getElem (by simp) fun i h1 h2 => ?_
  simp only [List.getElem_map, List.getElem_range, Function.comp, Int.toNat_natCast]
  rw [layN_at, if_pos h2]
  unfold at'
  rw [List.getD_eq_getElem?_getD, List.getElem?_eq_getElem h2]
  rfl
theorem lay_sub {n : Nat} {es : List Pt} {rs : List (List Int)} {va vb : Nat} {aa ab : Int} (h : rotI n es rs = 0) : subL (layN es va vb) (betR rs va aa vb ab (2 * es.length : Nat)) (kpE es.length (layN es va vb).length) = rs := by
  have he := kpE_err es.length (layN es va vb).length
  have hlen := layN_length es va vb
  refine lat_ext (by rw [subL_length, betR_length]) fun v hv => ?_
  rw [subL_length, betR_length] at hv
  rw [subL_at (by rw [betR_length]; exact hv), rnL_is, betR_at hv]
  have kT : ∀ e, e < es.length → iat (subT (layN es va vb) (kpE es.length (layN es va vb).length)) e = (e : Int) := fun e hel => by
    have hk : e < (kpE es.length (layN es va vb).length).length := by rw [hlen, kpE_top]; simp; exact hel
    have ek : iat (kpE es.length (layN es va vb).length) e = (e : Int) := by
      rw [hlen, kpE_top]
      unfold iat
      rw [List.getD_eq_getElem?_getD, List.getElem?_map, List.getElem?_range hel]
      rfl
    have := (at_kept he hk).2.2
    rw [ek, Int.toNat_natCast] at this
    exact this
  have kM : ¬ 0 ≤ iat (subT (layN es va vb) (kpE es.length (layN es va vb).length)) es.length := fun h0 => by
    obtain ⟨k, hk, _, e2⟩ := kept_at he (e := es.length) (by omega) h0
    have := (kpE_mem es.length (layN es va vb).length _).1 (iat_mem hk)
    omega
  rw [betL_filter (by rw [decide_eq_false]; rw [show ((2 * es.length : Nat) : Int).toNat / 2 = es.length by omega]; exact kM) (by rw [decide_eq_false]; rw [show (((2 * es.length : Nat) : Int) + 1).toNat / 2 = es.length by omega]; exact kM)]
  have hin : ∀ z ∈ lat rs v, 0 ≤ z ∧ z < 2 * es.length := fun z hz => by
    obtain ⟨j, hj, ej⟩ := mem_iat hz
    have := rot_in h v hv j hj
    omega
  rw [List.filter_eq_self.2 (fun z hz => by
    have := hin z hz
    rw [decide_eq_true]
    rw [kT _ (by omega)]
    omega)]
  refine (List.map_congr_left (g := id) fun z hz => ?_).trans (List.map_id _)
  have := hin z hz
  unfold subG
  rw [kT _ (by omega)]
  simp only [id]
  omega
end Go.Proofs.Ytcgdmonejogbaaa

namespace Go.Proofs.Ytcgdmonejogbaaa
open Go.RowKit Go.Sort
open Go
/-- The two sides of the edge that was laid are of one face. -/
def LayO (es : List Pt) (rs : List (List Int)) (va : Nat) (aa : Int) (vb : Nat) (ab : Int) : Prop := Orb (ph (nxt (nlR (layN es va vb) (betR rs va aa vb ab (2 * es.length : Nat))) (ndR (layN es va vb))) (layN es va vb).length (fun _ => true)) (2 * es.length) (2 * es.length + 1)
theorem lay_counts {n : Nat} {es : List Pt} {rs : List (List Int)} {va vb : Nat} {aa ab : Int} (h : rotI n es rs = 0) (hva : va < n) (hvb : vb < n) (hm : netB n (layN es va vb) = true) :
    (¬ Conn es va vb → (facesL es rs).length = (facesL (layN es va vb) (betR rs va aa vb ab (2 * es.length : Nat))).length + 1 ∧ compN n es = compN n (layN es va vb) + 1 ∧ genusI n (layN es va vb) (betR rs va aa vb ab (2 * es.length : Nat)) = genusI n es rs) ∧
    (Conn es va vb → compN n (layN es va vb) = compN n es ∧ (¬ LayO es rs va aa vb ab → (facesL (layN es va vb) (betR rs va aa vb ab (2 * es.length : Nat))).length = (facesL es rs).length + 1 ∧ genusI n (layN es va vb) (betR rs va aa vb ab (2 * es.length : Nat)) = genusI n es rs)) := by
  have hl' := lay_rot (aa := aa) (ab := ab) h hva hvb hm
  have hsub := lay_sub (va := va) (vb := vb) (aa := aa) (ab := ab) h
  have hpick := lay_pick es va vb
  have hlen := layN_length es va vb
  obtain ⟨f1, f2, f3⟩ := from_lay (es := es) (va := va) (vb := vb) (x := 0)
  obtain ⟨es', hes'⟩ : ∃ x, layN es va vb = x := ⟨_, rfl⟩
  obtain ⟨rs', hrs'⟩ : ∃ x, betR rs va aa vb ab (2 * es.length : Nat) = x := ⟨_, rfl⟩
  unfold LayO
  rw [hes'] at hpick hlen f2 f3
  rw [hes', hrs'] at hl' hsub ⊢
  clear f1 hm
  obtain ⟨h1, h2, h3⟩ := rot_is hl'
  have hrl : rs'.length = n := by omega
  obtain ⟨S, hst⟩ := sys_of h3 hrl
  have H := S.rt (st := fun v => 2 * es'.length + v) hst
  have he := kpE_err es.length es'.length
  have E0 := emb_sub he h3 hrl
  rw [hpick, hsub] at E0
  have E1 := emb_self h3 hrl
  obtain ⟨r1, o⟩ := E0.faces S (st := fun v => 2 * es'.length + v) hst
  obtain ⟨r2, o'⟩ := E1.faces S (st := fun v => 2 * es'.length + v) hst
  obtain ⟨r3, k0⟩ := comp_reps (n := n) (rot_is h).1
  obtain ⟨r4, k0'⟩ := comp_reps (n := n) h1
  have k := k0.congr fun a b _ _ => (E0.conn S (a := a) (b := b)).symm
  have k' := k0'.congr fun a b _ _ => (E1.conn S (a := a) (b := b)).symm
  have hK : keepK es' (kpE es.length es'.length) es.length = false := by rw [keep_kpE es.length (by omega)]; simp
  have hmor : ∀ x, x < es'.length → mor (keepK es' (kpE es.length es'.length)) es.length x = true := fun x hx => by
    by_cases hxe : x = es.length
    · subst hxe; exact mor_e _ _
    · rw [mor_o hxe, keep_kpE es.length hx]; simp [hxe]
  have hph := ph_congr (s := nxt (nlR es' rs') (ndR es')) (K := mor (keepK es' (kpE es.length es'.length)) es.length) (K' := fun _ => true) hmor
  have EM := edge_more H (e := es.length) (by omega) hK o (by rw [hph]; exact o') k (k'.congr fun a b _ _ => (ck_congr (K := mor (keepK es' (kpE es.length es'.length)) es.length) (K' := fun _ => true) hmor).symm)
  rw [hph] at EM
  have nd0 : ndR es' (2 * es.length) = va := by rw [ndR_half (by omega), f2]; rfl
  have nd1 : ndR es' (2 * es.length + 1) = vb := by rw [ndR_half (by omega), f3]; rfl
  rw [nd0, nd1] at EM
  have hcon : CK es'.length (ndR es') (keepK es' (kpE es.length es'.length)) va vb ↔ Conn es va vb := E0.conn S
  rw [hcon] at EM
  obtain ⟨m1, m2, m3, m4⟩ := EM
  obtain ⟨g, _, hg, eg⟩ := genus_self h
  obtain ⟨g', _, hg', eg'⟩ := genus_self hl'
  refine ⟨fun hc => ?_, fun hc => ⟨m3 hc, fun ho => ?_⟩⟩
  · have c1 := m4 hc
    have c2 := m2 (Classical.byContradiction fun ho => hc (m1 ho).2.2)
    exact ⟨c2, c1, by omega⟩
  · obtain ⟨c1, c2, _⟩ := m1 ho
    exact ⟨c1, by omega⟩
end Go.Proofs.Ytcgdmonejogbaaa

namespace Go.Proofs.Ytcgdmonejogbaaa
open Go.RowKit Go.Sort
open Go
section
variable {m n N : Nat} {nl : Nat → List Nat} {nd : Nat → Nat} {K : Nat → Bool}
theorem stub_next (S : Sys m n N nl nd) {v i : Nat} (hv : v < n) (hi : i < (nl v).length) (hx : pK m K (na (nl v) i) = false) (hne : (aft (nl v) i).filter (pK m K) ≠ []) : Orb (ph (nxt nl nd) m K) (na (nl v) i) (na ((aft (nl v) i).filter (pK m K)) 0) := by
  obtain ⟨t, ht, e1, _, hall⟩ := first_in hne
  rw [aft_len hi] at ht
  have hit : ∀ u, u ≤ t → it (nxt nl nd) (u + 1) (na (nl v) i) = na (aft (nl v) i) u := fun u hu => by
    rw [nxt_it S hv hi, aft_at hi (by omega)]
    congr 1
    rw [show i + (u + 1) = i + 1 + u by omega]
  have key : ∀ j, j ≤ t + 1 → it (ph (nxt nl nd) m K) j (na (nl v) i) = it (nxt nl nd) j (na (nl v) i) := by
    intro j
    induction j with
    | zero => intro _; rfl
    | succ j ih =>
      intro hj
      show ph (nxt nl nd) m K (it (ph (nxt nl nd) m K) j (na (nl v) i)) = nxt nl nd (it (nxt nl nd) j (na (nl v) i))
      rw [ih (by omega)]
      refine ph_out ?_
      cases j with
      | zero => exact hx
      | succ u => rw [hit u (by omega)]; exact hall u (by omega)
  exact ⟨t + 1, by rw [key _ (Nat.le_refl _), hit t (Nat.le_refl _), e1]⟩
theorem stub_all (S : Sys m n N nl nd) {v i j : Nat} (hv : v < n) (hi : i < (nl v).length) (hj : j < (nl v).length) (hall : ∀ x ∈ nl v, pK m K x = false) : Orb (ph (nxt nl nd) m K) (na (nl v) i) (na (nl v) j) := by
  have key : ∀ k, it (ph (nxt nl nd) m K) k (na (nl v) i) = it (nxt nl nd) k (na (nl v) i) := by
    intro k
    induction k with
    | zero => rfl
    | succ k ih =>
      show ph (nxt nl nd) m K (it (ph (nxt nl nd) m K) k (na (nl v) i)) = nxt nl nd (it (nxt nl nd) k (na (nl v) i))
      rw [ih]
      refine ph_out ?_
      rw [nxt_it S hv hi]
      exact hall _ (na_mem (Nat.mod_lt _ (by omega)))
  refine ⟨j + (nl v).length - i, ?_⟩
  rw [key, nxt_it S hv hi, show i + (j + (nl v).length - i) = j + (nl v).length by omega, Nat.add_mod_right, Nat.mod_eq_of_lt hj]
end
/-- x stands in l', and of what is kept the first k of l stand before it. -/
def Spl (P : Int → Bool) (l' : List Int) (x : Int) (l : List Int) (k : Nat) : Prop := ∃ A B, l' = A ++ x :: B ∧ A.filter P = l.take k ∧ B.filter P = l.drop k
theorem idxOf_ne {x a : Int} {l : List Int} (h : x ≠ a) : (x :: l).idxOf a = l.idxOf a + 1 := by
  have hb : (x == a) = false := by simpa using h
  rw [List.idxOf_cons, hb]
  rfl
theorem filter_take_idx {P : Int → Bool} {a : Int} (ha : P a = true) : ∀ {l' : List Int}, a ∈ l' → (l'.take (l'.idxOf a + 1)).filter P = (l'.filter P).take ((l'.filter P).idxOf a + 1) ∧ (l'.drop (l'.idxOf a + 1)).filter P = (l'.filter P).drop ((l'.filter P).idxOf a + 1)
  | [], h => by simp at h
  | x :: l', h => by
    by_cases hxa : x = a
    · subst hxa
      rw [List.filter_cons, if_pos ha]
      simp [List.idxOf_cons_self, ha]
    · have hm : a ∈ l' := by
        rcases List.mem_cons.1 h with h1 | h1
        · exact absurd h1.symm hxa
        · exact h1
      obtain ⟨i1, i2⟩ := filter_take_idx ha hm
      rw [idxOf_ne hxa]
      by_cases hP : P x = true
      · rw [List.filter_cons, if_pos hP, idxOf_ne hxa, List.take_succ_cons, List.drop_succ_cons, List.take_succ_cons, List.drop_succ_cons, List.filter_cons, if_pos hP, i1, i2]
        exact ⟨rfl, rfl⟩
      · rw [List.filter_cons, if_neg hP, List.take_succ_cons, List.drop_succ_cons, List.filter_cons, if_neg hP]
        exact ⟨i1, i2⟩
theorem spl_ins {P : Int → Bool} {l' l : List Int} {x z : Int} {k : Nat} (h : Spl P l' x l k) (hz : P z = false) (i : Nat) : Spl P (insL l' i z) x l k := by
  obtain ⟨A, B, rfl, h1, h2⟩ := h
  by_cases hi : i ≤ A.length
  · refine ⟨insL A i z, B, ?_, by rw [insL_filter hz]; exact h1, h2⟩
    unfold insL
    rw [List.take_append_of_le_length hi, List.drop_append_of_le_length hi]
    simp
  · refine ⟨A, insL B (i - A.length - 1) z, ?_, h1, by rw [insL_filter hz]; exact h2⟩
    obtain ⟨j, rfl⟩ : ∃ j, i = A.length + (j + 1) := ⟨i - A.length - 1, by omega⟩
    unfold insL
    rw [List.take_length_add_append, List.drop_length_add_append, List.take_succ_cons, List.drop_succ_cons, show A.length + (j + 1) - A.length - 1 = j by omega]
    simp
theorem spl_put {P : Int → Bool} {l' : List Int} {a f : Int} (ha : P a = true) (hm : a ∈ l') : Spl P (putL l' a f) f (l'.filter P) ((l'.filter P).idxOf a + 1) := by
  obtain ⟨h1, h2⟩ := filter_take_idx ha hm
  refine ⟨l'.take (l'.idxOf a + 1), l'.drop (l'.idxOf a + 1), ?_, h1, h2⟩
  unfold putL insL
  have : (idxI l' a + 1).toNat = l'.idxOf a + 1 := by
    unfold idxI
    rw [if_pos hm]
    omega
  rw [this]
end Go.Proofs.Ytcgdmonejogbaaa

namespace Go.Proofs.Ytcgdmonejogbaaa
open Go.RowKit Go.Sort
open Go
theorem na_app_len (A : List Nat) (x : Nat) (B : List Nat) : na (A ++ x :: B) A.length = x := by
  unfold na
  rw [List.getD_eq_getElem?_getD]
  simp
theorem iat_turn {l : List Int} {k : Nat} (hl : 0 < l.length) (hk : k ≤ l.length) : iat (l.drop k ++ l.take k) 0 = iat l (k % l.length) := by
  unfold iat
  rw [List.getD_eq_getElem?_getD, List.getD_eq_getElem?_getD, List.getElem?_append, List.length_drop]
  by_cases h : k = l.length
  · subst h
    rw [if_neg (by omega), Nat.mod_self, List.getElem?_take, if_pos (by omega)]
    congr 2
    omega
  · rw [if_pos (by omega), List.getElem?_drop, Nat.mod_eq_of_lt (by omega)]
    rfl
theorem corner_orb {m n N : Nat} {nl : Nat → List Nat} {nd : Nat → Nat} {K : Nat → Bool} (S : Sys m n N nl nd) {v st k : Nat} (hv : v < n) {l' l : List Int} {x : Int} {P : Int → Bool} (hnl : nl v = l'.map Int.toNat ++ [st]) (hst : pK m K st = false) (hP : ∀ z ∈ l', pK m K z.toNat = P z) (hx : P x = false) (h : Spl P l' x l k) (hl : 0 < l.length) (hk : k ≤ l.length) : Orb (ph (nxt nl nd) m K) x.toNat (iat l (k % l.length)).toNat := by
  obtain ⟨A, B, hAB, h1, h2⟩ := h
  subst hAB
  have hf : ∀ C : List Int, (∀ z ∈ C, z ∈ A ++ x :: B) → (C.map Int.toNat).filter (pK m K) = (C.filter P).map Int.toNat := fun C hC => by
    rw [List.filter_map]
    congr 1
    exact List.filter_congr fun z hz => hP z (hC z hz)
  have hnl2 : nl v = A.map Int.toNat ++ x.toNat :: (B.map Int.toNat ++ [st]) := by rw [hnl]; simp
  have hlen : (A.map Int.toNat).length < (nl v).length := by rw [hnl2]; simp
  have hna : na (nl v) (A.map Int.toNat).length = x.toNat := by rw [hnl2]; exact na_app_len _ _ _
  have hpx : pK m K x.toNat = false := by rw [hP x (by simp)]; exact hx
  have haft : (aft (nl v) (A.map Int.toNat).length).filter (pK m K) = (l.drop k ++ l.take k).map Int.toNat := by
    unfold aft
    rw [hnl2, List.drop_length_add_append, List.take_length_add_append]
    simp only [List.drop_succ_cons, List.drop_zero, List.take_succ_cons, List.take_zero]
    rw [List.filter_append, List.filter_append, List.filter_append, hf B (fun z hz => by simp [hz]), hf A (fun z hz => by simp [hz]), h1, h2, List.filter_cons, if_neg (by simp [hst]), List.filter_cons, if_neg (by simp [hpx])]
    simp
  have hne : (aft (nl v) (A.map Int.toNat).length).filter (pK m K) ≠ [] := by
    rw [haft]
    intro e
    have hc : ((l.drop k ++ l.take k).map Int.toNat).length = l.length := by
      rw [List.length_map, List.length_append, List.length_drop, List.length_take]
      omega
    rw [e, List.length_nil] at hc
    omega
  have := stub_next S hv hlen (by rw [hna]; exact hpx) hne
  rw [hna, haft] at this
  have e : na ((l.drop k ++ l.take k).map Int.toNat) 0 = (iat l (k % l.length)).toNat := by
    rw [← iat_turn hl hk]
    unfold na iat
    rw [List.getD_eq_getElem?_getD, List.getD_eq_getElem?_getD, List.getElem?_map]
    cases (l.drop k ++ l.take k)[0]? <;> rfl
  rw [e] at this
  exact this
/-- Where the half-edges of the edge laid stand. -/
theorem lay_spl {rs : List (List Int)} {va vb : Nat} {aa ab f : Int} {P : Int → Bool} (hf : P f = false) (hf1 : P (f + 1) = false) (hall : ∀ v, ∀ z ∈ lat rs v, P z = true) (ha : aa ∈ lat rs va) (hb : ab ∈ lat rs vb) : Spl P (betL rs va aa vb ab f va) f (lat rs va) ((lat rs va).idxOf aa + 1) ∧ Spl P (betL rs va aa vb ab f vb) (f + 1) (lat rs vb) ((lat rs vb).idxOf ab + 1) := by
  have hfil : ∀ v, (lat rs v).filter P = lat rs v := fun v => List.filter_eq_self.2 (hall v)
  have s1 := spl_put (f := f) (hall va aa ha) ha
  rw [hfil] at s1
  have eA : betA rs va aa f va = putL (lat rs va) aa f := by unfold betA; rw [upd_same]
  constructor
  · unfold betL
    by_cases e : va = vb
    · subst e
      rw [upd_same, eA]
      exact spl_ins s1 hf1 _
    · rw [upd_other _ _ e, eA]
      exact s1
  · unfold betL
    rw [upd_same]
    by_cases e : va = vb ∧ aa = ab
    · rw [if_pos e]
      obtain ⟨rfl, rfl⟩ := e
      rw [eA]
      obtain ⟨A, B, h1, h2, h3⟩ := s1
      rw [h1]
      have hfA : f ∉ A := fun hm => by
        have hc : (putL (lat rs va) aa f).count f = 1 := by
          rw [(putL_perm _ _ _).count_eq, List.count_cons_self, List.count_eq_zero.2]
          intro hm2
          rw [hall va f hm2] at hf
          exact absurd hf (by decide)
        rw [h1, List.count_append, List.count_cons_self] at hc
        have := List.count_pos_iff.2 hm
        omega
      have hidx : (idxI (A ++ f :: B) f + 1).toNat = A.length + 1 := by
        unfold idxI
        rw [if_pos (by simp), List.idxOf_append, if_neg hfA, List.idxOf_cons_self]
        omega
      refine ⟨A ++ [f], B, ?_, by rw [List.filter_append, h2]; simp [hf], h3⟩
      unfold putL insL
      rw [hidx, List.take_length_add_append, List.drop_length_add_append]
      simp
    · rw [if_neg e]
      have hm : ab ∈ betA rs va aa f vb := by
        unfold betA
        by_cases e2 : vb = va
        · subst e2
          rw [upd_same]
          exact (putL_perm _ _ _).mem_iff.2 (List.mem_cons_of_mem _ hb)
        · rw [upd_other _ _ e2]
          exact hb
      have hfb : (betA rs va aa f vb).filter P = lat rs vb := by
        unfold betA
        by_cases e2 : vb = va
        · subst e2
          rw [upd_same]
          exact (insL_filter hf).trans (hfil _)
        · rw [upd_other _ _ e2]
          exact hfil _
      have := spl_put (f := f + 1) (hall vb ab hb) hm
      rw [hfb] at this
      exact this
end Go.Proofs.Ytcgdmonejogbaaa

namespace Go.Proofs.Ytcgdmonejogbaaa
open Go.RowKit Go.Sort
open Go
theorem conn_empty {es : List Pt} {rs : List (List Int)} (h : holdsP es rs) {v : Nat} (hv : (lat rs v).length = 0) {u : Nat} (hc : Conn es v u) : u = v := by
  induction hc with
  | refl => rfl
  | step _ h1 h2 _ ih =>
    exfalso
    rw [ih] at h2
    obtain ⟨w, i, hw, hi, e⟩ := half_in h h1
    have := ((holds_iff.1 h).1 w hw _ (iat_mem hi)).2.2
    rw [e, Int.toNat_natCast, h2] at this
    have : v = w := by omega
    subst this
    omega
theorem corB_in {rs : List (List Int)} {v : Nat} {a : Int} (h : corB rs v a = true) (hl : 0 < (lat rs v).length) : a ∈ lat rs v := by
  unfold corB at h
  rw [Bool.and_eq_true, Bool.or_eq_true, Bool.and_eq_true, Int.toNat_natCast] at h
  rcases h.2 with h1 | ⟨h1, _⟩
  · exact of_decide_eq_true h1
  · have := of_decide_eq_true h1; omega
theorem subN_top {m x : Nat} (hx : x < 2 * m) : subN (kpE m (m + 1)) x = x := by
  unfold subN
  have : iat (kpE m (m + 1)) (x / 2) = ((x / 2 : Nat) : Int) := by
    rw [kpE_top]
    unfold iat
    rw [List.getD_eq_getElem?_getD, List.getElem?_map, List.getElem?_range (by omega)]
    rfl
  rw [this, Int.toNat_natCast]
  omega
theorem lay_sides {n : Nat} {es : List Pt} {rs : List (List Int)} {va vb : Nat} {aa ab : Int} (h : rotI n es rs = 0) (hva : va < n) (hvb : vb < n) (hm : netB n (layN es va vb) = true) (hca : corB rs va aa = true) (hcb : corB rs vb ab = true) (hc : Conn es va vb) (hf : faceI rs (ofL es rs) va aa = faceI rs (ofL es rs) vb ab) : ¬ LayO es rs va aa vb ab := by
  intro ho
  have hl' := lay_rot (aa := aa) (ab := ab) h hva hvb hm
  have hsub := lay_sub (va := va) (vb := vb) (aa := aa) (ab := ab) h
  have hpick := lay_pick es va vb
  have hlen := layN_length es va vb
  have hat : ∀ v, v < n → lat (betR rs va aa vb ab (2 * es.length : Nat)) v = betL rs va aa vb ab (2 * es.length : Nat) v := fun v hv => betR_at (by have := (rot_is h).2.1; omega)
  obtain ⟨_, f2, f3⟩ := from_lay (es := es) (va := va) (vb := vb) (x := 0)
  obtain ⟨es', hes'⟩ : ∃ x, layN es va vb = x := ⟨_, rfl⟩
  obtain ⟨rs', hrs'⟩ : ∃ x, betR rs va aa vb ab (2 * es.length : Nat) = x := ⟨_, rfl⟩
  unfold LayO at ho
  rw [hes'] at hpick hlen f2 f3
  rw [hrs'] at hat
  rw [hes', hrs'] at hl' hsub ho
  clear hm
  obtain ⟨h1, h2, h3⟩ := rot_is hl'
  obtain ⟨q1, q2, q3⟩ := rot_is h
  have hrl : rs'.length = n := by omega
  obtain ⟨S, hst⟩ := sys_of h3 hrl
  have H := S.rt (st := fun v => 2 * es'.length + v) hst
  have he := kpE_err es.length es'.length
  have E0 := emb_sub he h3 hrl
  rw [hpick, hsub] at E0
  have hK : keepK es' (kpE es.length es'.length) es.length = false := by rw [keep_kpE es.length (by omega)]; simp
  have hmor : ∀ x, x < es'.length → mor (keepK es' (kpE es.length es'.length)) es.length x = true := fun x hx => by
    by_cases hxe : x = es.length
    · subst hxe; exact mor_e _ _
    · rw [mor_o hxe, keep_kpE es.length hx]; simp [hxe]
  have hph := ph_congr (s := nxt (nlR es' rs') (ndR es')) (K := mor (keepK es' (kpE es.length es'.length)) es.length) (K' := fun _ => true) hmor
  have hsw := ph_mor (s := nxt (nlR es' rs') (ndR es')) (m := es'.length) (e := es.length) (by omega) hK
  rw [← hph] at ho
  have hno := orb_part (ph_prm H _) (by omega) (by omega) (by omega) ho
  rw [← hsw] at hno
  apply hno
  have PK := ph_prm H (keepK es' (kpE es.length es'.length))
  have hx0 : ndR es' (2 * es.length) = va := by rw [ndR_half (by omega), f2]; rfl
  have hx1 : ndR es' (2 * es.length + 1) = vb := by rw [ndR_half (by omega), f3]; rfl
  by_cases hea : (lat rs va).length = 0
  · have hvv := conn_empty q3 hea hc
    subst hvv
    have m0 := (S.inn (2 * es.length) (by omega)).2
    have m1 := (S.inn (2 * es.length + 1) (by omega)).2
    rw [hx0] at m0
    rw [hx1] at m1
    obtain ⟨i, hi, ei⟩ := mem_na m0
    obtain ⟨j, hj, ej⟩ := mem_na m1
    rw [← ej, ← ei]
    refine stub_all S hva hi hj fun x hx => ?_
    cases hp : pK es'.length (keepK es' (kpE es.length es'.length)) x
    · rfl
    · have := E0.lst vb hva
      have hmem : x ∈ (nlR es' rs' vb).filter (pK es'.length (keepK es' (kpE es.length es'.length))) := List.mem_filter.2 ⟨hx, hp⟩
      rw [← this, List.length_eq_zero_iff.1 hea] at hmem
      simp at hmem
  · have heb : ¬ (lat rs vb).length = 0 := fun e => hea (by
      have := conn_empty q3 e hc.symm
      rw [this]
      exact e)
    have ma := corB_in hca (by omega)
    have mb := corB_in hcb (by omega)
    have hin : ∀ v, ∀ z ∈ lat rs v, 0 ≤ z ∧ z < 2 * es.length := fun v z hz => by
      obtain ⟨j, hj, ej⟩ := mem_iat hz
      by_cases hv : v < rs.length
      · have := rot_in h v hv j hj
        omega
      · have : lat rs v = [] := by unfold lat; rw [List.getD_eq_getElem?_getD, List.getElem?_eq_none (by omega)]; rfl
        rw [this] at hj
        simp at hj
    obtain ⟨s1, s2⟩ := lay_spl (rs := rs) (va := va) (vb := vb) (aa := aa) (ab := ab) (f := (2 * es.length : Nat)) (P := fun z => decide (z < 2 * es.length)) (by simp) (by simp; omega) (fun v z hz => decide_eq_true (hin v z hz).2) ma mb
    rw [← hat va hva] at s1
    rw [← hat vb hvb] at s2
    have hPz : ∀ v, v < n → ∀ z ∈ lat rs' v, pK es'.length (keepK es' (kpE es.length es'.length)) z.toNat = decide (z < 2 * (es.length : Int)) := fun v hv z hz => by
      have hz2 := (holds_iff.1 h3).1 v (by omega) z hz
      unfold pK
      rw [decide_eq_true (show z.toNat < 2 * es'.length by omega), Bool.true_and, keep_kpE es.length (by omega)]
      by_cases e : z < 2 * (es.length : Int)
      · rw [decide_eq_true e, decide_eq_true]; omega
      · rw [decide_eq_false e, decide_eq_false]; omega
    have hst0 : ∀ v, pK es'.length (keepK es' (kpE es.length es'.length)) (2 * es'.length + v) = false := fun v => by
      unfold pK
      rw [decide_eq_false (by omega)]
      rfl
    have ia := List.idxOf_lt_length_iff.2 ma
    have ib := List.idxOf_lt_length_iff.2 mb
    have oa := corner_orb S hva (l' := lat rs' va) rfl (hst0 va) (hPz va hva) (by simp) s1 (by omega) (by omega)
    have ob := corner_orb S hvb (l' := lat rs' vb) rfl (hst0 vb) (hPz vb hvb) (by simp; omega) s2 (by omega) (by omega)
    unfold faceI at hf
    rw [if_neg hea, if_neg heb] at hf
    have ja := hin va _ (iat_mem (l := lat rs va) (j := ((lat rs va).idxOf aa + 1) % (lat rs va).length) (Nat.mod_lt _ (by omega)))
    have jb := hin vb _ (iat_mem (l := lat rs vb) (j := ((lat rs vb).idxOf ab + 1) % (lat rs vb).length) (Nat.mod_lt _ (by omega)))
    obtain ⟨ya, hya⟩ : ∃ y, iat (lat rs va) (((lat rs va).idxOf aa + 1) % (lat rs va).length) = y := ⟨_, rfl⟩
    obtain ⟨yb, hyb⟩ : ∃ y, iat (lat rs vb) (((lat rs vb).idxOf ab + 1) % (lat rs vb).length) = y := ⟨_, rfl⟩
    rw [hya] at hf oa ja
    rw [hyb] at hf ob jb
    have hor := (E0.orb S (x := ya.toNat) (y := yb.toNat) (by omega) (by omega)).2 ((of_orb q3 (by omega) (by omega)).1 hf)
    rw [hlen, subN_top (by omega), subN_top (by omega), ← hlen] at hor
    have e0 : ((2 * es.length : Nat) : Int).toNat = 2 * es.length := by omega
    have e1 : (((2 * es.length : Nat) : Int) + 1).toNat = 2 * es.length + 1 := by omega
    rw [e0] at oa
    rw [e1] at ob
    exact (oa.trans hor).trans (PK.symm (by omega) ob)
end Go.Proofs.Ytcgdmonejogbaaa

namespace Go.Proofs.Ytcgdmonejogbaaa
open Go.RowKit Go.Sort
open Go
theorem turn_is (l : List Int) : ∃ k, k ≤ l.length ∧ turnL l = rotL l k := by
  by_cases h : lowAt l ≤ l.length
  · exact ⟨_, h, rfl⟩
  · refine ⟨l.length, Nat.le_refl _, ?_⟩
    unfold turnL rotL
    rw [List.drop_of_length_le (by omega), List.take_of_length_le (by omega), List.drop_length, List.take_length]
theorem rn_rot (T l : List Int) (k : Nat) : ∃ j, j ≤ (rnL T l).length ∧ rnL T (rotL l k) = rotL (rnL T l) j := by
  refine ⟨(rnL T (l.take k)).length, ?_, ?_⟩
  · rw [rnL_is, rnL_is, List.length_map, List.length_map]
    conv => rhs; rw [← List.take_append_drop k l, List.filter_append, List.length_append]
    omega
  · have e : rnL T l = rnL T (l.take k) ++ rnL T (l.drop k) := by
      rw [rnL_is, rnL_is, rnL_is, ← List.map_append, ← List.filter_append, List.take_append_drop]
    have e2 : rnL T (rotL l k) = rnL T (l.drop k) ++ rnL T (l.take k) := by
      unfold rotL
      rw [rnL_is, rnL_is, rnL_is, ← List.map_append, ← List.filter_append]
    rw [e2, e]
    unfold rotL
    rw [List.drop_left, List.take_left]
theorem lay_back {n : Nat} {es : List Pt} {rs : List (List Int)} {va vb : Nat} {aa ab : Int} (h : rotI n es rs = 0) : canonL (canonL (subL (layN es va vb) (canonL (betR rs va aa vb ab (2 * es.length : Nat))) (kpE es.length (layN es va vb).length))) = canonL rs := by
  have hsub := lay_sub (va := va) (vb := vb) (aa := aa) (ab := ab) h
  obtain ⟨rs', hrs'⟩ : ∃ x, betR rs va aa vb ab (2 * es.length : Nat) = x := ⟨_, rfl⟩
  have hl : rs'.length = rs.length := by rw [← hrs', betR_length]
  rw [hrs'] at hsub ⊢
  have hc : ∀ v, v < rs.length → ∃ k, k ≤ (lat rs v).length ∧ lat (subL (layN es va vb) (canonL rs') (kpE es.length (layN es va vb).length)) v = rotL (lat rs v) k := fun v hv => by
    have e : lat rs v = rnL (subT (layN es va vb) (kpE es.length (layN es va vb).length)) (lat rs' v) := by
      conv => lhs; rw [← hsub]
      rw [subL_at (by omega)]
    obtain ⟨k, _, ek⟩ := turn_is (lat rs' v)
    obtain ⟨j, hj, ej⟩ := rn_rot (subT (layN es va vb) (kpE es.length (layN es va vb).length)) (lat rs' v) k
    refine ⟨j, by rw [e]; exact hj, ?_⟩
    rw [subL_at (by rw [canonL_length]; omega), lat_canon (by omega), ek, ej, ← e]
  have c1 := canon_rot h (by rw [subL_length, canonL_length]; exact hl) hc
  have c2 := canon_rot c1.1 (c := canonL (subL (layN es va vb) (canonL rs') (kpE es.length (layN es va vb).length))) (canonL_length _) fun v hv => by
    obtain ⟨k, hk, ek⟩ := turn_is (lat (subL (layN es va vb) (canonL rs') (kpE es.length (layN es va vb).length)) v)
    exact ⟨k, hk, by rw [lat_canon hv]; exact ek⟩
  exact c2.2.symm.trans c1.2.symm
end Go.Proofs.Ytcgdmonejogbaaa
