/- Faces in memory as a list of lists. -/
import Derived.Test.YtcgdmonejogbaaaY7
import Derived.Test.YtcgdmonejogbaaaY26
import Derived.Test.YtcgdmonejogbaaaB8
/- Lists begun elsewhere: the same rotation. Pure. -/
namespace Go.Proofs.Ytcgdmonejogbaaa
open Go.RowKit Go.Sort
open Go
/-- A list from its k-th number on. -/
def rotL (l : List Int) (k : Nat) : List Int := l.drop k ++ l.take k
theorem rotL_length (l : List Int) (k : Nat) : (rotL l k).length = l.length := by
  unfold rotL
  rw [List.length_append, List.length_drop, List.length_take]
  omega
theorem rotL_perm (l : List Int) (k : Nat) : (rotL l k).Perm l := by
  unfold rotL
  have h : (l.drop k ++ l.take k).Perm (l.take k ++ l.drop k) := List.perm_append_comm
  rw [List.take_append_drop] at h
  exact h
theorem rotL_at {l : List Int} {k j : Nat} (hk : k ≤ l.length) (hj : j < l.length) : iat (rotL l k) j = iat l ((j + k) % l.length) := by
  unfold rotL iat
  rw [List.getD_eq_getElem?_getD, List.getD_eq_getElem?_getD]
  congr 1
  by_cases h : j < l.length - k
  · rw [List.getElem?_append_left (by rw [List.length_drop]; exact h), List.getElem?_drop, Nat.mod_eq_of_lt (by omega), Nat.add_comm]
  · rw [List.getElem?_append_right (by rw [List.length_drop]; omega), List.length_drop, List.getElem?_take, if_pos (by omega)]
    congr 1
    rw [show j + k = (j - (l.length - k)) + l.length by omega, Nat.add_mod_right, Nat.mod_eq_of_lt (by omega)]
theorem iat_inj {l : List Int} (hn : l.Nodup) {i j : Nat} (hi : i < l.length) (hj : j < l.length) (h : iat l i = iat l j) : i = j := by
  unfold iat at h
  rw [List.getD_eq_getElem?_getD, List.getD_eq_getElem?_getD, List.getElem?_eq_getElem hi, List.getElem?_eq_getElem hj] at h
  simp only [Option.getD_some] at h
  rw [List.nodup_iff_pairwise_ne, List.pairwise_iff_getElem] at hn
  rcases Nat.lt_trichotomy i j with e | e | e
  · exact absurd h (hn i j hi hj e)
  · exact e
  · exact absurd h.symm (hn j i hj hi e)
theorem lowAt_min {l : List Int} {j : Nat} (hj : j < l.length) : iat l (lowAt l) ≤ iat l j := loN_min l (l.length - 1) j (by omega)
theorem turnL_rot {l : List Int} {k : Nat} (hn : l.Nodup) (hk : k ≤ l.length) : turnL (rotL l k) = turnL l := by
  rcases Nat.eq_zero_or_pos l.length with h0 | h0
  · have : l = [] := List.eq_nil_of_length_eq_zero h0
    subst this
    simp [rotL]
  have hl : (rotL l k).length = l.length := rotL_length l k
  have ha := lowAt_lt h0
  have hb : lowAt (rotL l k) < l.length := by have := lowAt_lt (l := rotL l k) (by omega); omega
  have key : (lowAt (rotL l k) + k) % l.length = lowAt l := by
    refine iat_inj hn (Nat.mod_lt _ h0) ha ?_
    rw [← rotL_at hk hb]
    obtain ⟨j, hj, hjk⟩ : ∃ j, j < l.length ∧ (j + k) % l.length = lowAt l := by
      by_cases h : k ≤ lowAt l
      · exact ⟨lowAt l - k, by omega, by rw [Nat.sub_add_cancel h]; exact Nat.mod_eq_of_lt ha⟩
      · refine ⟨lowAt l + l.length - k, by omega, ?_⟩
        rw [show lowAt l + l.length - k + k = lowAt l + l.length by omega, Nat.add_mod_right, Nat.mod_eq_of_lt ha]
    have h1 := lowAt_min (l := rotL l k) (j := j) (by omega)
    rw [rotL_at hk hj, hjk] at h1
    have h2 := lowAt_min (l := l) (j := (lowAt (rotL l k) + k) % l.length) (Nat.mod_lt _ h0)
    rw [← rotL_at hk hb] at h2
    omega
  refine iat_ext (by rw [turnL_length, turnL_length]; exact hl) ?_
  intro i hi
  rw [turnL_length, hl] at hi
  show iat (rotL (rotL l k) (lowAt (rotL l k))) i = iat (rotL l (lowAt l)) i
  rw [rotL_at (by omega) (by omega), rotL_at hk (by rw [hl]; exact Nat.mod_lt _ h0), rotL_at (by omega) hi, hl, ← key]
  congr 1
  rw [Nat.mod_add_mod, Nat.add_mod_mod]
  congr 1
  omega
/-- What a rotation is, no matter in which order its lists are looked at. -/
theorem holds_iff {es : List Pt} {rs : List (List Int)} : holdsP es rs ↔ (∀ v, v < rs.length → ∀ x ∈ lat rs v, 0 ≤ x ∧ x < 2 * es.length ∧ fromL es x.toNat = v) ∧ rs.flatten.Nodup ∧ rs.flatten.length = 2 * es.length := by
  constructor
  · rintro ⟨h1, h2⟩
    refine ⟨fun v hv x hx => ?_, ?_, h2⟩
    · obtain ⟨j, hj, rfl⟩ := mem_iat hx
      obtain ⟨s1, s2, _, s4⟩ := h1 v hv j hj
      exact ⟨s1, s2, s4⟩
    · have hf : Fits es rs rs.length 0 := ⟨fun u hu i hi => h1 u hu i hi, fun i hi => by omega⟩
      have := (hf.nodup (Nat.le_refl _) (Nat.zero_le _)).1
      rwa [ahead_all] at this
  · rintro ⟨h1, h2, h3⟩
    refine ⟨fun u hu i hi => ?_, h3⟩
    obtain ⟨s1, s2, s4⟩ := h1 u hu _ (iat_mem hi)
    refine ⟨s1, s2, ?_, s4⟩
    have hsub : (ahead rs u (i + 1)).Sublist rs.flatten := by
      have e : rs.flatten = (rs.take u).flatten ++ (lat rs u ++ (rs.drop (u + 1)).flatten) := by
        rw [← List.flatten_cons, ← List.flatten_append]
        congr 1
        have : lat rs u = rs[u] := by
          unfold lat
          rw [List.getD_eq_getElem?_getD, List.getElem?_eq_getElem hu]
          rfl
        rw [this, List.getElem_cons_drop, List.take_append_drop]
      rw [e]
      unfold ahead
      exact List.Sublist.append (List.Sublist.refl _) ((List.take_sublist _ _).trans (List.sublist_append_left _ _))
    have hn := hsub.nodup h2
    rw [ahead_succ hi] at hn
    intro hm
    exact (List.nodup_append.1 hn).2.2 _ hm _ (by simp) rfl
theorem flat_perm {a c : List (List Int)} (hl : c.length = a.length) (h : ∀ v, v < a.length → (lat c v).Perm (lat a v)) : ∀ v, v ≤ a.length → ((c.take v).flatten).Perm ((a.take v).flatten)
  | 0, _ => by simp
  | v + 1, hv => by
    rw [lat_drop (rs := c) (by omega), lat_drop (rs := a) (by omega), List.flatten_append, List.flatten_append]
    simp only [List.flatten_cons, List.flatten_nil, List.append_nil]
    exact (flat_perm hl h v (by omega)).append (h v (by omega))
theorem rotI_perm {n : Int} {es : List Pt} {a c : List (List Int)} (h0 : rotI n es a = 0) (hl : c.length = a.length) (h : ∀ v, v < a.length → (lat c v).Perm (lat a v)) : rotI n es c = 0 := by
  obtain ⟨h1, h2, h3⟩ := rot_is h0
  have hp : c.flatten.Perm a.flatten := by
    have := flat_perm hl h a.length (Nat.le_refl _)
    rw [List.take_length] at this
    rw [← hl, List.take_length] at this
    exact this
  obtain ⟨k1, k2, k3⟩ := holds_iff.1 h3
  have hc : holdsP es c := holds_iff.2 ⟨fun v hv x hx => k1 v (by omega) x ((h v (by omega)).mem_iff.1 hx), hp.nodup_iff.2 k2, by rw [hp.length_eq]; exact k3⟩
  unfold rotI holdsB
  rw [if_pos h1, if_pos (by omega), decide_eq_true hc]
  rfl
theorem lat_nodup {rs : List (List Int)} (h : rs.flatten.Nodup) {v : Nat} (hv : v < rs.length) : (lat rs v).Nodup := by
  have : lat rs v ∈ rs := by
    unfold lat
    rw [List.getD_eq_getElem?_getD, List.getElem?_eq_getElem hv]
    exact List.getElem_mem hv
  exact (List.sublist_flatten_of_mem this).nodup h
theorem canon_rot {n : Int} {es : List Pt} {a c : List (List Int)} (h0 : rotI n es a = 0) (hl : c.length = a.length) (h : ∀ v, v < a.length → ∃ k, k ≤ (lat a v).length ∧ lat c v = rotL (lat a v) k) : rotI n es c = 0 ∧ canonL a = canonL c := by
  refine ⟨rotI_perm h0 hl (fun v hv => by obtain ⟨k, _, e⟩ := h v hv; rw [e]; exact rotL_perm _ _), ?_⟩
  have hn := (holds_iff.1 (rot_is h0).2.2).2.1
  refine lat_ext (by rw [canonL_length, canonL_length]; exact hl.symm) (fun v hv => ?_)
  rw [canonL_length] at hv
  obtain ⟨k, hk, e⟩ := h v hv
  rw [lat_canon hv, lat_canon (by omega), e, turnL_rot (lat_nodup hn hv) hk]
end Go.Proofs.Ytcgdmonejogbaaa
/- Sub with all edges and Moved with nothing moved; how many components there may be. -/
/- Pure: a net whose nodes are named anew has as many components. -/
/- Pure: a rotation moved with the nodes is one of the net moved, and has the same faces. -/
/- Pure: the next half-edge along a face is the one behind its twin, whatever the order of the lists. -/
namespace Go.Proofs.Ytcgdmonejogbaaa
open Go.RowKit Go.Sort
open Go
theorem twn_inj {a b : Int} (h : twn a = twn b) : a = b := by
  unfold twn at h
  split at h <;> split at h <;> omega
theorem twn_nn {a : Int} (ha : 0 ≤ a) : 0 ≤ twn a := by
  unfold twn
  split <;> omega
theorem twn_lt {a : Int} {m : Nat} (h0 : 0 ≤ a) (h : a < 2 * m) : (twn a).toNat < 2 * m := by
  unfold twn
  split <;> omega
theorem nxRow_at {l N : List Int} {m : Nat} (hn : l.Nodup) (hl : ∀ x ∈ l, 0 ≤ x ∧ x < 2 * m) (hN : N.length = 2 * m) : ∀ j, j ≤ l.length → (∀ i, i < j → iat (nxRow l N j) (twn (iat l i)).toNat = iat l ((i + 1) % l.length)) ∧ ∀ x, x < 2 * m → (∀ i, i < j → (twn (iat l i)).toNat ≠ x) → iat (nxRow l N j) x = iat N x
  | 0, _ => ⟨fun i hi => by omega, fun x _ _ => rfl⟩
  | j + 1, hj => by
    obtain ⟨h1, h2⟩ := nxRow_at hn hl hN j (by omega)
    have hlen : (nxRow l N j).length = 2 * m := by rw [nxRow_length, hN]
    refine ⟨fun i hi => ?_, fun x hx hno => ?_⟩
    · have hb := hl _ (iat_mem (l := l) (j := i) (by omega))
      have ht := twn_lt hb.1 hb.2
      unfold nxRow
      rw [iat_set _ _ _ _ (by omega)]
      by_cases hij : i = j
      · rw [hij, if_pos rfl]
      · rw [if_neg, h1 i (by omega)]
        intro e
        have hb2 := hl _ (iat_mem (l := l) (j := j) (by omega))
        have n1 := twn_nn hb.1
        have n2 := twn_nn hb2.1
        have e2 : iat l j = iat l i := twn_inj (by omega)
        exact hij (iat_inj hn (by omega) (by omega) e2.symm)
    · unfold nxRow
      rw [iat_set _ _ _ _ (by omega), if_neg (hno j (by omega))]
      exact h2 x hx fun i hi => hno i (by omega)
theorem nxN_at {es : List Pt} {rs : List (List Int)} (h : holdsP es rs) : ∀ v, v ≤ rs.length → ∀ u, u < v → ∀ i, i < (lat rs u).length → iat (nxN rs (2 * es.length) v) (twn (iat (lat rs u) i)).toNat = iat (lat rs u) ((i + 1) % (lat rs u).length)
  | 0, _, u, hu => by omega
  | v + 1, hv, u, hu => fun i hi => by
    obtain ⟨h1, h2, _⟩ := holds_iff.1 h
    have hn := lat_nodup h2 (v := v) (by omega)
    have hin : ∀ w, w < rs.length → ∀ x ∈ lat rs w, 0 ≤ x ∧ x < 2 * ((es.length : Nat) : Int) := fun w hw x hx => ⟨(h1 w hw x hx).1, (h1 w hw x hx).2.1⟩
    obtain ⟨a1, a2⟩ := nxRow_at hn (hin v (by omega)) (nxN_length rs (2 * es.length) v) _ (Nat.le_refl _)
    unfold nxN
    by_cases huv : u = v
    · subst huv; exact a1 i hi
    · have hm := iat_mem (l := lat rs u) hi
      have hb := hin u (by omega) _ hm
      rw [a2 _ (twn_lt hb.1 hb.2)]
      · exact nxN_at h v (by omega) u (by omega) i hi
      · intro i' hi' e
        have hm' := iat_mem (l := lat rs v) hi'
        have hb' := hin v (by omega) _ hm'
        have n1 := twn_nn hb.1
        have n2 := twn_nn hb'.1
        have e2 : iat (lat rs v) i' = iat (lat rs u) i := twn_inj (by omega)
        have f1 := (h1 v (by omega) _ hm').2.2
        have f2 := (h1 u (by omega) _ hm).2.2
        rw [e2, f2] at f1
        omega
/-- No more numbers below m than m, and if there are as many, each is there. -/
theorem all_in {L : List Int} {m : Nat} (hn : L.Nodup) (hl : ∀ x ∈ L, 0 ≤ x ∧ x < (m : Int)) (hc : L.length = m) {x : Nat} (hx : x < m) : (x : Int) ∈ L := by
  by_cases h : (x : Int) ∈ L
  · exact h
  exfalso
  have hn2 : ((x : Int) :: L).Nodup := List.nodup_cons.2 ⟨h, hn⟩
  have he : errL ((x : Int) :: L) m = 0 := by
    unfold errL
    refine errN_zero _ fun j hj => chk_of ?_ ?_
    · have hm := iat_mem hj
      rcases List.mem_cons.1 hm with e | e
      · rw [e]; omega
      · exact hl _ e
    · intro k hk e
      exact absurd (iat_inj hn2 (by omega) hj e) (by omega)
  have := chosen_le he
  simp at this
  omega
theorem half_in {es : List Pt} {rs : List (List Int)} (h : holdsP es rs) {x : Nat} (hx : x < 2 * es.length) : ∃ u i, u < rs.length ∧ i < (lat rs u).length ∧ iat (lat rs u) i = x := by
  obtain ⟨h1, h2, h3⟩ := holds_iff.1 h
  have hfl : ∀ y ∈ rs.flatten, ∃ u, u < rs.length ∧ y ∈ lat rs u := fun y hy => by
    obtain ⟨l, hl, hyl⟩ := List.mem_flatten.1 hy
    obtain ⟨u, hu, e⟩ := List.mem_iff_getElem.1 hl
    refine ⟨u, hu, ?_⟩
    unfold lat
    rw [List.getD_eq_getElem?_getD, List.getElem?_eq_getElem hu]
    simp [e, hyl]
  have hm := all_in (m := 2 * es.length) h2 (fun y hy => by obtain ⟨u, hu, hy2⟩ := hfl y hy; have := h1 u hu y hy2; omega) h3 hx
  obtain ⟨u, hu, hy⟩ := hfl _ hm
  obtain ⟨i, hi, e⟩ := mem_iat hy
  exact ⟨u, i, hu, hi, e⟩
end Go.Proofs.Ytcgdmonejogbaaa
namespace Go.Proofs.Ytcgdmonejogbaaa
open Go.RowKit Go.Sort
open Go
theorem err_nodup {l : List Int} {n : Int} (he : errL l n = 0) : l.Nodup := by
  unfold List.Nodup
  rw [List.pairwise_iff_getElem]
  intro i j hi hj hij e
  have := (chk_zero (errN_all _ he j hj)).2 i hij
  unfold iat at this
  rw [List.getD_eq_getElem?_getD, List.getD_eq_getElem?_getD, List.getElem?_eq_getElem hi, List.getElem?_eq_getElem hj] at this
  exact this (by simpa using e)
theorem err_in {l : List Int} {n : Int} (he : errL l n = 0) : ∀ x ∈ l, 0 ≤ x ∧ x < n := fun x hx => by
  obtain ⟨j, hj, e⟩ := mem_iat hx
  rw [← e]
  exact (chk_zero (errN_all _ he j hj)).1
end Go.Proofs.Ytcgdmonejogbaaa
namespace Go.Proofs.Ytcgdmonejogbaaa
open Go.RowKit Go.Sort
open Go
end Go.Proofs.Ytcgdmonejogbaaa
namespace Go.Proofs.Ytcgdmonejogbaaa
open Go.RowKit Go.Sort
open Go
end Go.Proofs.Ytcgdmonejogbaaa
namespace Go.Proofs.Ytcgdmonejogbaaa
open Go.RowKit Go.Sort
open Go
theorem trIn_face (N : List Int) (id : Int) : ∀ k h C f, (trIn N id k h C f).2.length ≤ f.length + k
  | 0, _, _, f => by simp [trIn]
  | k + 1, h, C, f => by
    unfold trIn
    split
    · have := trIn_face N id k (iat N h.toNat) (C.set h.toNat id) (f ++ [h])
      simp at this
      omega
    · simp
theorem trN_face (N : List Int) (m : Nat) : ∀ v, ∀ f ∈ (trN N m v).2, f.length ≤ m + 1
  | 0 => fun f hf => by simp [trN] at hf
  | v + 1 => fun f hf => by
    unfold trN at hf
    split at hf
    · rcases List.mem_append.1 hf with h | h
      · exact trN_face N m v f h
      · rw [List.mem_singleton.1 h]
        have := trIn_face N (trN N m v).2.length (m + 1) v (trN N m v).1 []
        simpa using this
    · exact trN_face N m v f hf
theorem emptyN_mem (rs : List (List Int)) : ∀ v, ∀ f ∈ emptyN rs v, f = []
  | 0 => fun f hf => by simp [emptyN] at hf
  | v + 1 => fun f hf => by
    unfold emptyN at hf
    split at hf
    · rcases List.mem_append.1 hf with h | h
      · exact emptyN_mem rs v f h
      · exact List.mem_singleton.1 h
    · exact emptyN_mem rs v f hf
theorem lat_mem {L : List (List Int)} {v : Nat} (hv : v < L.length) : lat L v ∈ L := by
  unfold lat
  rw [List.getD_eq_getElem?_getD, List.getElem?_eq_getElem hv]
  exact List.getElem_mem hv
theorem face_le (es : List Pt) (rs : List (List Int)) {v : Nat} (hv : v < (facesL es rs).length) : (lat (facesL es rs) v).length ≤ 2 * es.length + 1 := by
  have := lat_mem hv
  rcases List.mem_append.1 (show lat (facesL es rs) v ∈ edgeF es rs ++ emptyN rs rs.length from this) with h | h
  · exact trN_face _ _ _ _ h
  · rw [emptyN_mem _ _ _ h]; simp
theorem FB.has {w : World} {B : Nat} {p : Option Addr} {c : Nat} {F : List (List Int)} {rv : Nat → Value} (h : FB w B (.slice p F.length c) F rv) (hl : ∀ v, v < F.length → (lat F v).length ≤ maxLen) : RHas w p F := by
  by_cases h0 : F = []
  · exact Or.inl h0
  have hpos : 0 < F.length := by cases F with
    | nil => exact absurd rfl h0
    | cons _ _ => simp
  obtain ⟨g, rfl⟩ : ∃ g, p = some ⟨g, 0, none⟩ := by
    obtain ⟨_, ⟨h1, _⟩ | ⟨g1, c1, cur1, h1, _⟩⟩ := h.lst
    · injection h1 with _ e2 _; omega
    · injection h1 with e1 _ _; exact ⟨g1, e1⟩
  refine Or.inr ⟨g, 0, rfl, fun v hv => ?_⟩
  obtain ⟨p1, c1, e, m, hcap, hnil, _⟩ := (h.own v hv).form
  refine ⟨p1, c1, ?_, m, hl v hv, hcap, hnil⟩
  rw [Nat.zero_add, World.ownsRow.cellAt h.lst v (by omega), ← e]
  simp [hv]
end Go.Proofs.Ytcgdmonejogbaaa
