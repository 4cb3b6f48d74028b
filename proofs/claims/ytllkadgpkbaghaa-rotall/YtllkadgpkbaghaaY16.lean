/- Lists begun elsewhere: the same rotation. Pure. -/
import Derived.Test.YtllkadgpkbaghaaY7
namespace Go.Proofs.Ytllkadgpkbaghaa
open Go.RowKit Go.Sort
open Go

/-- A list from its k-th number on. -/
def rotL (l : List Int) (k : Nat) : List Int := l.drop k ++ l.take k
theorem rotL_length (l : List Int) (k : Nat) : (rotL l k).length = l.length := by
  unfold rotL
  rw [List.length_append, List.length_drop, List.length_take]
  omega
theorem rotL_perm (l : List Int) (k : Nat) : (rotL l k).Perm l := by
  unfold rotL
  have h : (l.drop k ++ l.take k).Perm (l.take k ++ l.drop k) := List.perm_append_comm
  rw [List.take_append_drop] at h
  exact h
theorem rotL_at {l : List Int} {k j : Nat} (hk : k ≤ l.length) (hj : j < l.length) : iat (rotL l k) j = iat l ((j + k) % l.length) := by
  unfold rotL iat
  rw [List.getD_eq_getElem?_getD, List.getD_eq_getElem?_getD]
  congr 1
  by_cases h : j < l.length - k
  · rw [List.getElem?_append_left (by rw [List.length_drop]; exact h), List.getElem?_drop, Nat.mod_eq_of_lt (by omega), Nat.add_comm]
  · rw [List.getElem?_append_right (by rw [List.length_drop]; omega), List.length_drop, List.getElem?_take, if_pos (by omega)]
    congr 1
    rw [show j + k = (j - (l.length - k)) + l.length by omega, Nat.add_mod_right, Nat.mod_eq_of_lt (by omega)]
theorem iat_inj {l : List Int} (hn : l.Nodup) {i j : Nat} (hi : i < l.length) (hj : j < l.length) (h : iat l i = iat l j) : i = j := by
  unfold iat at h
  rw [List.getD_eq_getElem?_getD, List.getD_eq_getElem?_getD, List.getElem?_eq_getElem hi, List.getElem?_eq_getElem hj] at h
  simp only [Option.getD_some] at h
  rw [List.nodup_iff_pairwise_ne, List.pairwise_iff_getElem] at hn
  rcases Nat.lt_trichotomy i j with e | e | e
  · exact absurd h (hn i j hi hj e)
  · exact e
  · exact absurd h.symm (hn j i hj hi e)
theorem lowAt_min {l : List Int} {j : Nat} (hj : j < l.length) : iat l (lowAt l) ≤ iat l j := loN_min l (l.length - 1) j (by omega)
theorem turnL_rot {l : List Int} {k : Nat} (hn : l.Nodup) (hk : k ≤ l.length) : turnL (rotL l k) = turnL l := by
  rcases Nat.eq_zero_or_pos l.length with h0 | h0
  · have : l = [] := List.eq_nil_of_length_eq_zero h0
    subst this
    simp [rotL]
  have hl : (rotL l k).length = l.length := rotL_length l k
  have ha := lowAt_lt h0
  have hb : lowAt (rotL l k) < l.length := by have := lowAt_lt (l := rotL l k) (by omega); omega
  have key : (lowAt (rotL l k) + k) % l.length = lowAt l := by
    refine iat_inj hn (Nat.mod_lt _ h0) ha ?_
    rw [← rotL_at hk hb]
    obtain ⟨j, hj, hjk⟩ : ∃ j, j < l.length ∧ (j + k) % l.length = lowAt l := by
      by_cases h : k ≤ lowAt l
      · exact ⟨lowAt l - k, by omega, by rw [Nat.sub_add_cancel h]; exact Nat.mod_eq_of_lt ha⟩
      · refine ⟨lowAt l + l.length - k, by omega, ?_⟩
        rw [show lowAt l + l.length - k + k = lowAt l + l.length by omega, Nat.add_mod_right, Nat.mod_eq_of_lt ha]
    have h1 := lowAt_min (l := rotL l k) (j := j) (by omega)
    rw [rotL_at hk hj, hjk] at h1
    have h2 := lowAt_min (l := l) (j := (lowAt (rotL l k) + k) % l.length) (Nat.mod_lt _ h0)
    rw [← rotL_at hk hb] at h2
    omega
  refine iat_ext (by rw [turnL_length, turnL_length]; exact hl) ?_
  intro i hi
  rw [turnL_length, hl] at hi
  show iat (rotL (rotL l k) (lowAt (rotL l k))) i = iat (rotL l (lowAt l)) i
  rw [rotL_at (by omega) (by omega), rotL_at hk (by rw [hl]; exact Nat.mod_lt _ h0), rotL_at (by omega) hi, hl, ← key]
  congr 1
  rw [Nat.mod_add_mod, Nat.add_mod_mod]
  congr 1
  omega
/-- What a rotation is, no matter in which order its lists are looked at. -/
theorem holds_iff {es : List Pt} {rs : List (List Int)} : holdsP es rs ↔ (∀ v, v < rs.length → ∀ x ∈ lat rs v, 0 ≤ x ∧ x < 2 * es.length ∧ fromL es x.toNat = v) ∧ rs.flatten.Nodup ∧ rs.flatten.length = 2 * es.length := by
  constructor
  · rintro ⟨h1, h2⟩
    refine ⟨fun v hv x hx => ?_, ?_, h2⟩
    · obtain ⟨j, hj, rfl⟩ := mem_iat hx
      obtain ⟨s1, s2, _, s4⟩ := h1 v hv j hj
      exact ⟨s1, s2, s4⟩
    · have hf : Fits es rs rs.length 0 := ⟨fun u hu i hi => h1 u hu i hi, fun i hi => by omega⟩
      have := (hf.nodup (Nat.le_refl _) (Nat.zero_le _)).1
      rwa [ahead_all] at this
  · rintro ⟨h1, h2, h3⟩
    refine ⟨fun u hu i hi => ?_, h3⟩
    obtain ⟨s1, s2, s4⟩ := h1 u hu _ (iat_mem hi)
    refine ⟨s1, s2, ?_, s4⟩
    have hsub : (ahead rs u (i + 1)).Sublist rs.flatten := by
      have e : rs.flatten = (rs.take u).flatten ++ (lat rs u ++ (rs.drop (u + 1)).flatten) := by
        rw [← List.flatten_cons, ← List.flatten_append]
        congr 1
        have : lat rs u = rs[u] := by
          unfold lat
          rw [List.getD_eq_getElem?_getD, List.getElem?_eq_getElem hu]
          rfl
        rw [this, List.getElem_cons_drop, List.take_append_drop]
      rw [e]
      unfold ahead
      exact List.Sublist.append (List.Sublist.refl _) ((List.take_sublist _ _).trans (List.sublist_append_left _ _))
    have hn := hsub.nodup h2
    rw [ahead_succ hi] at hn
    intro hm
    exact (List.nodup_append.1 hn).2.2 _ hm _ (by simp) rfl
theorem flat_perm {a c : List (List Int)} (hl : c.length = a.length) (h : ∀ v, v < a.length → (lat c v).Perm (lat a v)) : ∀ v, v ≤ a.length → ((c.take v).flatten).Perm ((a.take v).flatten)
  | 0, _ => by simp
  | v + 1, hv => by
    rw [lat_drop (rs := c) (by omega), lat_drop (rs := a) (by omega), List.flatten_append, List.flatten_append]
    simp only [List.flatten_cons, List.flatten_nil, List.append_nil]
    exact (flat_perm hl h v (by omega)).append (h v (by omega))
theorem rotI_perm {n : Int} {es : List Pt} {a c : List (List Int)} (h0 : rotI n es a = 0) (hl : c.length = a.length) (h : ∀ v, v < a.length → (lat c v).Perm (lat a v)) : rotI n es c = 0 := by
  obtain ⟨h1, h2, h3⟩ := rot_is h0
  have hp : c.flatten.Perm a.flatten := by
    have := flat_perm hl h a.length (Nat.le_refl _)
    rw [List.take_length] at this
    rw [← hl, List.take_length] at this
    exact this
  obtain ⟨k1, k2, k3⟩ := holds_iff.1 h3
  have hc : holdsP es c := holds_iff.2 ⟨fun v hv x hx => k1 v (by omega) x ((h v (by omega)).mem_iff.1 hx), hp.nodup_iff.2 k2, by rw [hp.length_eq]; exact k3⟩
  unfold rotI holdsB
  rw [if_pos h1, if_pos (by omega), decide_eq_true hc]
  rfl
theorem lat_nodup {rs : List (List Int)} (h : rs.flatten.Nodup) {v : Nat} (hv : v < rs.length) : (lat rs v).Nodup := by
  have : lat rs v ∈ rs := by
    unfold lat
    rw [List.getD_eq_getElem?_getD, List.getElem?_eq_getElem hv]
    exact List.getElem_mem hv
  exact (List.sublist_flatten_of_mem this).nodup h
theorem canon_rot {n : Int} {es : List Pt} {a c : List (List Int)} (h0 : rotI n es a = 0) (hl : c.length = a.length) (h : ∀ v, v < a.length → ∃ k, k ≤ (lat a v).length ∧ lat c v = rotL (lat a v) k) : rotI n es c = 0 ∧ canonL a = canonL c := by
  refine ⟨rotI_perm h0 hl (fun v hv => by obtain ⟨k, _, e⟩ := h v hv; rw [e]; exact rotL_perm _ _), ?_⟩
  have hn := (holds_iff.1 (rot_is h0).2.2).2.1
  refine lat_ext (by rw [canonL_length, canonL_length]; exact hl.symm) (fun v hv => ?_)
  rw [canonL_length] at hv
  obtain ⟨k, hk, e⟩ := h v hv
  rw [lat_canon hv, lat_canon (by omega), e, turnL_rot (lat_nodup hn hv) hk]
end Go.Proofs.Ytllkadgpkbaghaa
