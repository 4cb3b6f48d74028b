/- Faces in memory as a list of lists. -/
import Derived.Test.YtllkadgpkbaghaaY26
import Derived.Test.YtllkadgpkbaghaaY16
import Derived.Test.YtllkadgpkbaghaaB8
/- Sub with all edges and Moved with nothing moved; how many components there may be. -/
/- Pure: a net whose nodes are named anew has as many components. -/
/- Pure: a rotation moved with the nodes is one of the net moved, and has the same faces. -/
/- Pure: the next half-edge along a face is the one behind its twin, whatever the order of the lists. -/
namespace Go.Proofs.Ytllkadgpkbaghaa
open Go.RowKit Go.Sort
open Go
theorem twn_inj {a b : Int} (h : twn a = twn b) : a = b := by
  unfold twn at h
  split at h <;> split at h <;> omega
theorem twn_nn {a : Int} (ha : 0 ≤ a) : 0 ≤ twn a := by
  unfold twn
  split <;> omega
theorem twn_twn (a : Int) : twn (twn a) = a := by
  unfold twn
  split <;> split <;> omega
theorem twn_lt {a : Int} {m : Nat} (h0 : 0 ≤ a) (h : a < 2 * m) : (twn a).toNat < 2 * m := by
  unfold twn
  split <;> omega
theorem nxRow_at {l N : List Int} {m : Nat} (hn : l.Nodup) (hl : ∀ x ∈ l, 0 ≤ x ∧ x < 2 * m) (hN : N.length = 2 * m) : ∀ j, j ≤ l.length → (∀ i, i < j → iat (nxRow l N j) (twn (iat l i)).toNat = iat l ((i + 1) % l.length)) ∧ ∀ x, x < 2 * m → (∀ i, i < j → (twn (iat l i)).toNat ≠ x) → iat (nxRow l N j) x = iat N x
  | 0, _ => ⟨fun i hi => by omega, fun x _ _ => rfl⟩
  | j + 1, hj => by
    obtain ⟨h1, h2⟩ := nxRow_at hn hl hN j (by omega)
    have hlen : (nxRow l N j).length = 2 * m := by rw [nxRow_length, hN]
    refine ⟨fun i hi => ?_, fun x hx hno => ?_⟩
    · have hb := hl _ (iat_mem (l := l) (j := i) (by omega))
      have ht := twn_lt hb.1 hb.2
      unfold nxRow
      rw [iat_set _ _ _ _ (by omega)]
      by_cases hij : i = j
      · rw [hij, if_pos rfl]
      · rw [if_neg, h1 i (by omega)]
        intro e
        have hb2 := hl _ (iat_mem (l := l) (j := j) (by omega))
        have n1 := twn_nn hb.1
        have n2 := twn_nn hb2.1
        have e2 : iat l j = iat l i := twn_inj (by omega)
        exact hij (iat_inj hn (by omega) (by omega) e2.symm)
    · unfold nxRow
      rw [iat_set _ _ _ _ (by omega), if_neg (hno j (by omega))]
      exact h2 x hx fun i hi => hno i (by omega)
theorem nxN_at {es : List Pt} {rs : List (List Int)} (h : holdsP es rs) : ∀ v, v ≤ rs.length → ∀ u, u < v → ∀ i, i < (lat rs u).length → iat (nxN rs (2 * es.length) v) (twn (iat (lat rs u) i)).toNat = iat (lat rs u) ((i + 1) % (lat rs u).length)
  | 0, _, u, hu => by omega
  | v + 1, hv, u, hu => fun i hi => by
    obtain ⟨h1, h2, _⟩ := holds_iff.1 h
    have hn := lat_nodup h2 (v := v) (by omega)
    have hin : ∀ w, w < rs.length → ∀ x ∈ lat rs w, 0 ≤ x ∧ x < 2 * ((es.length : Nat) : Int) := fun w hw x hx => ⟨(h1 w hw x hx).1, (h1 w hw x hx).2.1⟩
    obtain ⟨a1, a2⟩ := nxRow_at hn (hin v (by omega)) (nxN_length rs (2 * es.length) v) _ (Nat.le_refl _)
    unfold nxN
    by_cases huv : u = v
    · subst huv; exact a1 i hi
    · have hm := iat_mem (l := lat rs u) hi
      have hb := hin u (by omega) _ hm
      rw [a2 _ (twn_lt hb.1 hb.2)]
      · exact nxN_at h v (by omega) u (by omega) i hi
      · intro i' hi' e
        have hm' := iat_mem (l := lat rs v) hi'
        have hb' := hin v (by omega) _ hm'
        have n1 := twn_nn hb.1
        have n2 := twn_nn hb'.1
        have e2 : iat (lat rs v) i' = iat (lat rs u) i := twn_inj (by omega)
        have f1 := (h1 v (by omega) _ hm').2.2
        have f2 := (h1 u (by omega) _ hm).2.2
        rw [e2, f2] at f1
        omega
/-- No more numbers below m than m, and if there are as many, each is there. -/
theorem all_in {L : List Int} {m : Nat} (hn : L.Nodup) (hl : ∀ x ∈ L, 0 ≤ x ∧ x < (m : Int)) (hc : L.length = m) {x : Nat} (hx : x < m) : (x : Int) ∈ L := by
  by_cases h : (x : Int) ∈ L
  · exact h
  exfalso
  have hn2 : ((x : Int) :: L).Nodup := List.nodup_cons.2 ⟨h, hn⟩
  have he : errL ((x : Int) :: L) m = 0 := by
    unfold errL
    refine errN_zero _ fun j hj => chk_of ?_ ?_
    · have hm := iat_mem hj
      rcases List.mem_cons.1 hm with e | e
      · rw [e]; omega
      · exact hl _ e
    · intro k hk e
      exact absurd (iat_inj hn2 (by omega) hj e) (by omega)
  have := chosen_le he
  simp at this
  omega
theorem half_in {es : List Pt} {rs : List (List Int)} (h : holdsP es rs) {x : Nat} (hx : x < 2 * es.length) : ∃ u i, u < rs.length ∧ i < (lat rs u).length ∧ iat (lat rs u) i = x := by
  obtain ⟨h1, h2, h3⟩ := holds_iff.1 h
  have hfl : ∀ y ∈ rs.flatten, ∃ u, u < rs.length ∧ y ∈ lat rs u := fun y hy => by
    obtain ⟨l, hl, hyl⟩ := List.mem_flatten.1 hy
    obtain ⟨u, hu, e⟩ := List.mem_iff_getElem.1 hl
    refine ⟨u, hu, ?_⟩
    unfold lat
    rw [List.getD_eq_getElem?_getD, List.getElem?_eq_getElem hu]
    simp [e, hyl]
  have hm := all_in (m := 2 * es.length) h2 (fun y hy => by obtain ⟨u, hu, hy2⟩ := hfl y hy; have := h1 u hu y hy2; omega) h3 hx
  obtain ⟨u, hu, hy⟩ := hfl _ hm
  obtain ⟨i, hi, e⟩ := mem_iat hy
  exact ⟨u, i, hu, hi, e⟩
/-- Two rotations in which the same stands behind each half-edge have the same next ones. -/
theorem nxN_same {es es' : List Pt} {rs rs' : List (List Int)} (he : es'.length = es.length) (h : holdsP es rs) (h' : holdsP es' rs') (hs : ∀ u, u < rs.length → ∃ u' k, u' < rs'.length ∧ k ≤ (lat rs u).length ∧ lat rs' u' = rotL (lat rs u) k) : nxN rs' (2 * es.length) rs'.length = nxN rs (2 * es.length) rs.length := by
  refine List.ext_getElem (by rw [nxN_length, nxN_length]) fun x h1 h2 => ?_
  have hx : x < 2 * es.length := by rw [nxN_length] at h1; exact h1
  have key : iat (nxN rs' (2 * es.length) rs'.length) x = iat (nxN rs (2 * es.length) rs.length) x := by
    have ht := twn_lt (a := (x : Int)) (m := es.length) (by omega) (by omega)
    have hnn := twn_nn (a := (x : Int)) (by omega)
    obtain ⟨u, i, hu, hi, e⟩ := half_in h ht
    have hxe : (twn (iat (lat rs u) i)).toNat = x := by
      rw [e, Int.toNat_of_nonneg hnn, twn_twn]; simp
    obtain ⟨u', k, hu', hk, hr⟩ := hs u hu
    have hlen : (lat rs' u').length = (lat rs u).length := by rw [hr, rotL_length]
    obtain ⟨d, hd⟩ : ∃ d, (lat rs u).length = d := ⟨_, rfl⟩
    rw [hd] at hi hk hlen
    -- the place of that half-edge in the turned list
    obtain ⟨j, hj, hjk⟩ : ∃ j, j < d ∧ (j + k) % d = i := by
      by_cases hik : k ≤ i
      · exact ⟨i - k, by omega, by rw [show i - k + k = i by omega]; exact Nat.mod_eq_of_lt hi⟩
      · refine ⟨i + d - k, by omega, ?_⟩
        rw [show i + d - k + k = i + d by omega, Nat.add_mod_right]
        exact Nat.mod_eq_of_lt hi
    have e1 : iat (lat rs' u') j = iat (lat rs u) i := by rw [hr, rotL_at (by omega) (by omega), hd, hjk]
    have n1 := nxN_at h rs.length (Nat.le_refl _) u hu i (by omega)
    have n2 := nxN_at h' rs'.length (Nat.le_refl _) u' hu' j (by omega)
    rw [he, e1, hxe] at n2
    rw [hxe] at n1
    rw [n1, n2, hlen, hd, hr, rotL_at (by omega) (by rw [hd]; exact Nat.mod_lt _ (by omega)), hd]
    congr 1
    rw [← hjk, Nat.mod_add_mod, Nat.mod_add_mod]
    congr 1
    omega
  unfold iat at key
  rw [List.getD_eq_getElem?_getD, List.getD_eq_getElem?_getD, List.getElem?_eq_getElem h1, List.getElem?_eq_getElem h2] at key
  simpa using key
end Go.Proofs.Ytllkadgpkbaghaa

namespace Go.Proofs.Ytllkadgpkbaghaa
open Go.RowKit Go.Sort
open Go
theorem mv_at {rs : List (List Int)} {l : List Int} (he : errL l rs.length = 0) : ∀ v, v ≤ l.length → ∀ u, u < v → lat (mvN rs l v) (iat l u).toNat = lat rs u
  | 0, _, u, hu => by omega
  | v + 1, hv, u, hu => by
    have cu := chk_zero (errN_all _ he u (by omega))
    have cv := chk_zero (errN_all _ he v (by omega))
    unfold mvN
    rw [lat_set _ _ _ _ (by rw [mvN_length]; omega)]
    by_cases huv : u = v
    · rw [huv, if_pos rfl]
    · have hne := cv.2 u (by omega)
      rw [if_neg (by omega)]
      exact mv_at he v (by omega) u (by omega)
theorem err_nodup {l : List Int} {n : Int} (he : errL l n = 0) : l.Nodup := by
  unfold List.Nodup
  rw [List.pairwise_iff_getElem]
  intro i j hi hj hij e
  have := (chk_zero (errN_all _ he j hj)).2 i hij
  unfold iat at this
  rw [List.getD_eq_getElem?_getD, List.getD_eq_getElem?_getD, List.getElem?_eq_getElem hi, List.getElem?_eq_getElem hj] at this
  exact this (by simpa using e)
theorem err_in {l : List Int} {n : Int} (he : errL l n = 0) : ∀ x ∈ l, 0 ≤ x ∧ x < n := fun x hx => by
  obtain ⟨j, hj, e⟩ := mem_iat hx
  rw [← e]
  exact (chk_zero (errN_all _ he j hj)).1
theorem up_perm {l : List Int} {n : Nat} (he : errL l n = 0) (hl : l.length = n) : l.Perm (upN n) := by
  rw [List.perm_ext_iff_of_nodup (err_nodup he) (err_nodup (upN_err n))]
  intro x
  constructor
  · intro h
    obtain ⟨h0, h1⟩ := err_in he x h
    obtain ⟨k, rfl⟩ : ∃ k : Nat, x = k := ⟨x.toNat, by omega⟩
    exact all_in (err_nodup (upN_err n)) (err_in (upN_err n)) (upN_length n) (by omega)
  · intro h
    obtain ⟨h0, h1⟩ := err_in (upN_err n) x h
    obtain ⟨k, rfl⟩ : ∃ k : Nat, x = k := ⟨x.toNat, by omega⟩
    exact all_in (err_nodup he) (err_in he) hl (by omega)
theorem map_up (L : List (List Int)) : (upN L.length).map (fun x => lat L x.toNat) = L := by
  refine List.ext_getElem (by simp [upN]) fun i h1 h2 => ?_
  simp [upN, lat, h2]
theorem mv_perm {rs : List (List Int)} {l : List Int} (he : errL l rs.length = 0) (hl : l.length = rs.length) : (mvN rs l rs.length).Perm rs := by
  have h1 := map_up (mvN rs l rs.length)
  rw [mvN_length] at h1
  have h2 : l.map (fun x => lat (mvN rs l rs.length) x.toNat) = rs := by
    refine lat_ext (by simpa using hl) fun v hv => ?_
    have hv' : v < l.length := by simpa using hv
    have := mv_at he rs.length (by omega) v (by omega)
    have e : l[v] = iat l v := by unfold iat; rw [List.getD_eq_getElem?_getD, List.getElem?_eq_getElem hv']; simp
    rw [← this]
    show ((l.map _).getD v []) = _
    rw [List.getD_eq_getElem?_getD, List.getElem?_map, List.getElem?_eq_getElem hv', e]
    rfl
  have h3 := (up_perm he hl).map (fun x => lat (mvN rs l rs.length) x.toNat)
  rw [h1, h2] at h3
  exact h3.symm
theorem emptyN_is (rs : List (List Int)) : ∀ v, v ≤ rs.length → emptyN rs v = List.replicate ((rs.take v).countP fun l => l.length = 0) []
  | 0, _ => by simp [emptyN]
  | v + 1, hv => by
    unfold emptyN
    rw [emptyN_is rs v (by omega), lat_drop (by omega), List.countP_append]
    by_cases h : (lat rs v).length = 0
    · have h' : lat rs v = [] := List.eq_nil_of_length_eq_zero h
      rw [if_pos h, h']
      simp [List.replicate_succ']
    · have h' : lat rs v ≠ [] := fun e => h (by rw [e]; rfl)
      rw [if_neg h]
      simp [h']
theorem empty_perm {a b : List (List Int)} (h : a.Perm b) : emptyN a a.length = emptyN b b.length := by
  rw [emptyN_is a _ (Nat.le_refl _), emptyN_is b _ (Nat.le_refl _), List.take_length, List.take_length, h.countP_eq]
theorem empty_canon (a : List (List Int)) : emptyN (canonL a) (canonL a).length = emptyN a a.length := by
  rw [emptyN_is _ _ (Nat.le_refl _), emptyN_is a _ (Nat.le_refl _), List.take_length, List.take_length]
  congr 1
  unfold canonL
  rw [List.countP_map]
  congr 1
  funext l
  show decide ((turnL l).length = 0) = decide (l.length = 0)
  rw [turnL_length]
theorem from_rename {es : List Pt} {l : List Int} {h : Nat} (hh : h < 2 * es.length) : fromL (rename es l) h = iat l (fromL es h).toNat := by
  unfold fromL
  rw [rename_at es l (by omega)]
  split <;> rfl
theorem net_rename {n : Nat} {es : List Pt} {l : List Int} (h : netB n es = true) (hl : l.length = n) (he : errL l n = 0) : netB n (rename es l) = true := by
  obtain ⟨n0, n1, hes, hE⟩ := netB_is h
  unfold netB at h ⊢
  rw [Bool.and_eq_true] at h ⊢
  refine ⟨by rw [rename_length]; exact h.1, ?_⟩
  rw [List.all_eq_true]
  intro p hp
  obtain ⟨e, he2, rfl⟩ := List.mem_map.1 hp
  obtain ⟨i, hi, rfl⟩ := List.mem_iff_getElem.1 he2
  have hat : at' es i = es[i] := by simp [at', hi]
  obtain ⟨a, b, c, d⟩ := hE i hi
  rw [hat] at a b c d
  have x := (chk_zero (errN_all _ he es[i].x.toNat (by omega))).1
  have y := (chk_zero (errN_all _ he es[i].y.toNat (by omega))).1
  simp [edB, belowB, x, y]
theorem mv_rot {n : Nat} {es : List Pt} {rs : List (List Int)} {l : List Int} (h0 : rotI n es rs = 0) (he : errL l n = 0) (hl : l.length = n) : rotI n (rename es l) (mvN rs l rs.length) = 0 := by
  obtain ⟨h1, h2, h3⟩ := rot_is h0
  have hrn : rs.length = n := by omega
  obtain ⟨n0, n1, hes, hE⟩ := netB_is h1
  obtain ⟨k1, k2, k3⟩ := holds_iff.1 h3
  have he' : errL l rs.length = 0 := by rw [hrn]; exact he
  have hp := mv_perm he' (by omega)
  have hf := hp.flatten
  have hc : holdsP (rename es l) (mvN rs l rs.length) := by
    refine holds_iff.2 ⟨fun v hv x hx => ?_, hf.nodup_iff.2 k2, by rw [hf.length_eq, k3, rename_length]⟩
    rw [mvN_length] at hv
    have hm : (v : Int) ∈ l := all_in (err_nodup he) (err_in he) hl (by omega)
    obtain ⟨u, hu, e⟩ := mem_iat hm
    have ha := mv_at he' rs.length (by omega) u (by omega)
    rw [e, Int.toNat_natCast] at ha
    rw [ha] at hx
    obtain ⟨x0, x1, x2⟩ := k1 u (by omega) x hx
    refine ⟨x0, by rw [rename_length]; exact x1, ?_⟩
    rw [from_rename (by omega), x2, Int.toNat_natCast, e]
  unfold rotI holdsB
  rw [if_pos (net_rename h1 hl he), if_pos (by rw [mvN_length]; exact h2), decide_eq_true hc]
  rfl
theorem faces_moved {n : Nat} {es : List Pt} {rs : List (List Int)} {l : List Int} (h0 : rotI n es rs = 0) (he : errL l n = 0) (hl : l.length = n) : rotI n (rename es l) (canonL (mvN rs l rs.length)) = 0 ∧ facesL (rename es l) (canonL (mvN rs l rs.length)) = facesL es rs := by
  have hmv := mv_rot h0 he hl
  obtain ⟨h1, h2, h3⟩ := rot_is h0
  have hrn : rs.length = n := by omega
  have he' : errL l rs.length = 0 := by rw [hrn]; exact he
  have hlc : ∀ v, v < (mvN rs l rs.length).length → lat (canonL (mvN rs l rs.length)) v = rotL (lat (mvN rs l rs.length) v) (lowAt (lat (mvN rs l rs.length) v)) := fun v hv => lat_canon hv
  have hlow : ∀ l : List Int, ∃ k, k ≤ l.length ∧ turnL l = rotL l k := fun l => by
    by_cases h : lowAt l ≤ l.length
    · exact ⟨lowAt l, h, rfl⟩
    · refine ⟨l.length, Nat.le_refl _, ?_⟩
      unfold turnL rotL
      rw [List.drop_of_length_le (by omega), List.take_of_length_le (by omega), List.drop_length, List.take_length]
  have hcan := (canon_rot hmv (canonL_length _) fun v hv => by obtain ⟨k, hk, e⟩ := hlow (lat (mvN rs l rs.length) v); exact ⟨k, hk, by rw [lat_canon hv]; exact e⟩).1
  refine ⟨hcan, ?_⟩
  have hnx := nxN_same (es := es) (es' := rename es l) (rename_length es l) h3 (rot_is hcan).2.2 (fun u hu => by
    have hi := (chk_zero (errN_all _ he u (by omega))).1
    have ha := mv_at he' rs.length (by omega) u (by omega)
    obtain ⟨k, hk, e⟩ := hlow (lat rs u)
    refine ⟨(iat l u).toNat, k, by rw [canonL_length, mvN_length]; omega, hk, ?_⟩
    rw [lat_canon (by rw [mvN_length]; omega), ha]
    exact e)
  unfold facesL edgeF
  rw [rename_length, hnx, empty_canon, empty_perm (mv_perm he' (by omega))]
end Go.Proofs.Ytllkadgpkbaghaa

namespace Go.Proofs.Ytllkadgpkbaghaa
open Go.RowKit Go.Sort
open Go
theorem to_rename {es : List Pt} {l : List Int} {h : Nat} (hh : h < 2 * es.length) : toL (rename es l) h = iat l (toL es h).toNat := by
  unfold toL
  rw [rename_at es l (by omega)]
  split <;> rfl
theorem ends_in {n : Nat} {es : List Pt} (hm : netB n es = true) {h : Nat} (hh : h < 2 * es.length) : (0 ≤ fromL es h ∧ fromL es h < n) ∧ 0 ≤ toL es h ∧ toL es h < n := by
  obtain ⟨_, _, _, hE⟩ := netB_is hm
  obtain ⟨a, b, c, d⟩ := hE (h / 2) (by omega)
  unfold fromL toL
  split <;> exact ⟨⟨by assumption, by assumption⟩, by assumption, by assumption⟩
theorem conn_ren {n : Nat} {es : List Pt} {l : List Int} (hm : netB n es = true) (he : errL l n = 0) (hl : l.length = n) {u v : Nat} (h : Conn es u v) : Conn (rename es l) (iat l u).toNat (iat l v).toNat := by
  induction h with
  | refl => exact Conn.refl _
  | step _ h1 h2 h3 ih =>
    rename_i b c h _
    obtain ⟨⟨f0, f1⟩, t0, t1⟩ := ends_in hm h1
    have ib := (chk_zero (errN_all _ he b (by omega))).1
    have ic := (chk_zero (errN_all _ he c (by omega))).1
    refine Conn.step (h := h) ih (by rw [rename_length]; exact h1) ?_ ?_
    · rw [from_rename h1, h2, Int.toNat_natCast]; omega
    · rw [to_rename h1, h3, Int.toNat_natCast]; omega
/-- Where each number went. -/
def invL (l : List Int) (n : Nat) : List Int := plN l n l.length
theorem inv_at {n : Nat} {l : List Int} (he : errL l n = 0) (hl : l.length = n) {u : Nat} (hu : u < n) : iat (invL l n) (iat l u).toNat = u := by
  have hi := (chk_zero (errN_all _ he u (by omega))).1
  exact (plN_at (errN_all _ he) (iat l u).toNat (by omega)).1 u (by omega) (by omega)
theorem inv_to {n : Nat} {l : List Int} (he : errL l n = 0) (hl : l.length = n) {x : Nat} (hx : x < n) : ∃ u, u < n ∧ iat l u = x ∧ iat (invL l n) x = u := by
  have hm : (x : Int) ∈ l := all_in (err_nodup he) (err_in he) hl hx
  obtain ⟨u, hu, e⟩ := mem_iat hm
  have := inv_at he hl (u := u) (by omega)
  rw [e, Int.toNat_natCast] at this
  exact ⟨u, by omega, e, this⟩
theorem inv_err {n : Nat} {l : List Int} (he : errL l n = 0) (hl : l.length = n) : errL (invL l n) n = 0 ∧ (invL l n).length = n := by
  have hlen : (invL l n).length = n := plN_length _ _ _
  refine ⟨?_, hlen⟩
  unfold errL
  rw [hlen]
  refine errN_zero _ fun j hj => chk_of ?_ ?_
  · obtain ⟨u, hu, _, e⟩ := inv_to he hl hj
    rw [e]; omega
  · intro k hk e
    obtain ⟨u, hu, e1, e2⟩ := inv_to he hl hj
    obtain ⟨u', hu', e3, e4⟩ := inv_to he hl (x := k) (by omega)
    rw [e2, e4] at e
    have : u' = u := by omega
    subst this
    omega
theorem ren_back {n : Nat} {es : List Pt} {l : List Int} (hm : netB n es = true) (he : errL l n = 0) (hl : l.length = n) : rename (rename es l) (invL l n) = es := by
  obtain ⟨_, _, _, hE⟩ := netB_is hm
  refine List.ext_getElem (by rw [rename_length, rename_length]) fun i h1 h2 => ?_
  obtain ⟨a, b, c, d⟩ := hE i h2
  have hat : at' es i = es[i] := by simp [at', h2]
  rw [hat] at a b c d
  simp only [rename, List.getElem_map]
  rw [inv_at he hl (by omega), inv_at he hl (by omega)]
  have e1 : ((es[i].x.toNat : Nat) : Int) = es[i].x := by omega
  have e2 : ((es[i].y.toNat : Nat) : Int) = es[i].y := by omega
  rw [e1, e2]
theorem lab_le {n k k' : Nat} {es es' : List Pt} {C C' : List Int} {r r' : Nat → Nat} (hm : netB n es = true) (hm' : netB n es' = true) (L : Lab es n k n C r NoDue) (L' : Lab es' n k' n C' r' NoDue) (f : Nat → Nat) (hf : ∀ u, u < n → f u < n) (hc : ∀ u v, u < n → v < n → Conn es' (f u) (f v) → Conn es u v) : k ≤ k' := by
  have hlen : ((List.range k).map fun j => iat C' (f (r j))).length = k := by simp
  have hat : ∀ j, j < k → iat ((List.range k).map fun j => iat C' (f (r j))) j = iat C' (f (r j)) := fun j hj => by
    rw [iat_map _ _ 0 (by simpa using hj)]
    simp [hj]
  have he : errL ((List.range k).map fun j => iat C' (f (r j))) k' = 0 := by
    unfold errL
    rw [hlen]
    refine errN_zero _ fun j hj => chk_of ?_ ?_
    · rw [hat j hj]
      have hr := (L.root j hj).1
      have h0 := L'.done _ (hf _ hr) (hf _ hr)
      rcases L'.val _ (hf _ hr) with e | e
      · omega
      · exact e
    · intro i hi e
      rw [hat j hj, hat i (by omega)] at e
      have ri := L.root i (by omega)
      have rj := L.root j hj
      have c1 := hc _ _ ri.1 rj.1 ((L'.conn hm' (hf _ ri.1) (hf _ rj.1)).1 e)
      have c2 := (L.conn hm ri.1 rj.1).2 c1
      rw [ri.2, rj.2] at c2
      omega
  have := chosen_le he
  omega
theorem comp_moved {n : Nat} {es : List Pt} {l : List Int} (hm : netB n es = true) (he : errL l n = 0) (hl : l.length = n) : compN n (rename es l) = compN n es := by
  have hm' := net_rename hm hl he
  obtain ⟨ge, gl⟩ := inv_err he hl
  obtain ⟨r, L⟩ := parts_lab (n := n) (es := es) hm
  obtain ⟨r', L'⟩ := parts_lab (n := n) (es := rename es l) hm'
  have h1 := lab_le hm hm' L L' (fun u => (iat l u).toNat) (fun u hu => by have := (chk_zero (errN_all _ he u (by omega))).1; omega) (fun u v hu hv h => by
    have := conn_ren hm' ge gl h
    rw [ren_back hm he hl, inv_at he hl hu, inv_at he hl hv] at this
    simpa using this)
  have h2 := lab_le hm' hm L' L (fun x => (iat (invL l n) x).toNat) (fun x hx => by obtain ⟨u, hu, _, e⟩ := inv_to he hl hx; rw [e]; simpa using hu) (fun x y hx hy h => by
    obtain ⟨u, hu, e1, e2⟩ := inv_to he hl hx
    obtain ⟨v, hv, e3, e4⟩ := inv_to he hl hy
    have := conn_ren hm he hl h
    rw [e2, e4, Int.toNat_natCast, Int.toNat_natCast, e1, e3] at this
    simpa using this)
  unfold compN
  rw [Int.toNat_natCast]
  omega
theorem genus_moved {n : Nat} {es : List Pt} {rs : List (List Int)} {l : List Int} (h0 : rotI n es rs = 0) (he : errL l n = 0) (hl : l.length = n) : genusI n (rename es l) (canonL (mvN rs l rs.length)) = genusI n es rs := by
  unfold genusI
  rw [comp_moved (rot_is h0).1 he hl, rename_length, (faces_moved h0 he hl).2]
end Go.Proofs.Ytllkadgpkbaghaa

namespace Go.Proofs.Ytllkadgpkbaghaa
open Go.RowKit Go.Sort
open Go
theorem sub_all (n : Int) (p : Option Addr) (es : List Pt) (cp : Nat) (q : Option Addr) (rs : List (List Int)) (cq : Nat) (t : Option Addr) (ct : Nat) (w : World) (h : Has w p es) (hr : RHas w q rs) (hk : IHas w t (upN es.length)) (h0 : rotI n es rs = 0) : Calls Try.prog 30 #[nv n p es.length cp, .slice q rs.length cq, .slice t es.length ct] w fun e w' => ∃ g g5 rv, e = .returned (.tuple #[nv n (some ⟨g, 0, none⟩) es.length es.length, .slice (some ⟨g5, 0, none⟩) rs.length rs.length, .int .i64 0]) ∧ PRow w' w.heap.size g es.length es ∧ Rows w' w.heap.size g5 rs.length rv (fun v => lat (canonL rs) v) ∧ Below w.heap.size w w' := by
  have hm := (rot_is h0).1
  obtain ⟨_, _, hes, _⟩ := netB_is hm
  have := sub30 n p es cp q rs cq t (upN es.length) ct w h hr (by rw [upN_length]; unfold maxLen; omega) hk h0 (by unfold subE; rw [if_pos hm]; exact upN_err _)
  rw [upN_length, pick_up] at this
  refine this.mono ?_
  rintro e w' ⟨g, g5, rv, rfl, hp, hrr, hb⟩
  refine ⟨g, g5, rv, rfl, hp, hrr.congr (fun u hu => ?_), hb⟩
  have := rnL_up (m := es.length) (l := lat rs u) (fun j hj => by have := rot_in h0 u hu j hj; omega)
  rw [upN_length] at this
  rw [this, lat_canon hu]
theorem moved_stay (n : Nat) (p : Option Addr) (es : List Pt) (cp : Nat) (q : Option Addr) (rs : List (List Int)) (cq : Nat) (t : Option Addr) (ct : Nat) (w : World) (h : Has w p es) (hr : RHas w q rs) (hk : IHas w t (upN n)) (h0 : rotI n es rs = 0) : Calls Try.prog 31 #[nv n p es.length cp, .slice q rs.length cq, .slice t n ct] w fun e w' => ∃ g g5 rv, e = .returned (.tuple #[nv n (some ⟨g, 0, none⟩) es.length es.length, .slice (some ⟨g5, 0, none⟩) rs.length rs.length, .int .i64 0]) ∧ PRow w' w.heap.size g es.length es ∧ Rows w' w.heap.size g5 rs.length rv (fun v => lat (canonL rs) v) ∧ Below w.heap.size w w' := by
  have hm := (rot_is h0).1
  have hn := (rot_is h0).2.1
  obtain ⟨_, h1, hes, _⟩ := netB_is hm
  have hrn : rs.length = n := by omega
  have := moved31 n p es cp q rs cq t (upN n) ct w h hr (by rw [upN_length]; unfold maxLen; omega) hk h0 (movE_of hm (by rw [upN_length]) (upN_err n))
  rw [upN_length, rename_up hm] at this
  refine this.mono ?_
  rintro e w' ⟨g, g5, rv, rfl, hp, hrr, hb⟩
  refine ⟨g, g5, rv, rfl, hp, hrr.congr (fun u hu => ?_), hb⟩
  have := mvL_up rs
  rw [hrn] at this
  rw [hrn, this, lat_canon hu]
theorem comp_le {n : Nat} {es : List Pt} (hm : netB n es = true) : compN n es ≤ n := by
  obtain ⟨r, L⟩ := parts_lab (n := n) (es := es) hm
  unfold compN
  rw [Int.toNat_natCast]
  obtain ⟨k, hk⟩ : ∃ k, pcnt (everyN es n n).O (everyN es n n).By (everyN es n n).O.length = k := ⟨_, rfl⟩
  rw [hk] at L ⊢
  have hlen : ((List.range k).map fun j => ((r j : Nat) : Int)).length = k := by simp
  have hat : ∀ j, j < k → iat ((List.range k).map fun j => ((r j : Nat) : Int)) j = r j := fun j hj => by
    rw [iat_map _ _ 0 (by simpa using hj)]
    simp [hj]
  have he : errL ((List.range k).map fun j => ((r j : Nat) : Int)) n = 0 := by
    unfold errL
    rw [hlen]
    refine errN_zero _ fun j hj => chk_of ?_ ?_
    · rw [hat j hj]
      have := (L.root j hj).1
      omega
    · intro i hi e
      rw [hat j hj, hat i (by omega)] at e
      have := L.inc i j hi hj
      omega
  have := chosen_le he
  omega
end Go.Proofs.Ytllkadgpkbaghaa

namespace Go.Proofs.Ytllkadgpkbaghaa
open Go.RowKit Go.Sort
open Go
theorem trIn_face (N : List Int) (id : Int) : ∀ k h C f, (trIn N id k h C f).2.length ≤ f.length + k
  | 0, _, _, f => by simp [trIn]
  | k + 1, h, C, f => by
    unfold trIn
    split
    · have := trIn_face N id k (iat N h.toNat) (C.set h.toNat id) (f ++ [h])
      simp at this
      omega
    · simp
theorem trN_face (N : List Int) (m : Nat) : ∀ v, ∀ f ∈ (trN N m v).2, f.length ≤ m + 1
  | 0 => fun f hf => by simp [trN] at hf
  | v + 1 => fun f hf => by
    unfold trN at hf
    split at hf
    · rcases List.mem_append.1 hf with h | h
      · exact trN_face N m v f h
      · rw [List.mem_singleton.1 h]
        have := trIn_face N (trN N m v).2.length (m + 1) v (trN N m v).1 []
        simpa using this
    · exact trN_face N m v f hf
theorem emptyN_mem (rs : List (List Int)) : ∀ v, ∀ f ∈ emptyN rs v, f = []
  | 0 => fun f hf => by simp [emptyN] at hf
  | v + 1 => fun f hf => by
    unfold emptyN at hf
    split at hf
    · rcases List.mem_append.1 hf with h | h
      · exact emptyN_mem rs v f h
      · exact List.mem_singleton.1 h
    · exact emptyN_mem rs v f hf
theorem lat_mem {L : List (List Int)} {v : Nat} (hv : v < L.length) : lat L v ∈ L := by
  unfold lat
  rw [List.getD_eq_getElem?_getD, List.getElem?_eq_getElem hv]
  exact List.getElem_mem hv
theorem face_le (es : List Pt) (rs : List (List Int)) {v : Nat} (hv : v < (facesL es rs).length) : (lat (facesL es rs) v).length ≤ 2 * es.length + 1 := by
  have := lat_mem hv
  rcases List.mem_append.1 (show lat (facesL es rs) v ∈ edgeF es rs ++ emptyN rs rs.length from this) with h | h
  · exact trN_face _ _ _ _ h
  · rw [emptyN_mem _ _ _ h]; simp
theorem FB.has {w : World} {B : Nat} {p : Option Addr} {c : Nat} {F : List (List Int)} {rv : Nat → Value} (h : FB w B (.slice p F.length c) F rv) (hl : ∀ v, v < F.length → (lat F v).length ≤ maxLen) : RHas w p F := by
  by_cases h0 : F = []
  · exact Or.inl h0
  have hpos : 0 < F.length := by cases F with
    | nil => exact absurd rfl h0
    | cons _ _ => simp
  obtain ⟨g, rfl⟩ : ∃ g, p = some ⟨g, 0, none⟩ := by
    obtain ⟨_, ⟨h1, _⟩ | ⟨g1, c1, cur1, h1, _⟩⟩ := h.lst
    · injection h1 with _ e2 _; omega
    · injection h1 with e1 _ _; exact ⟨g1, e1⟩
  refine Or.inr ⟨g, 0, rfl, fun v hv => ?_⟩
  obtain ⟨p1, c1, e, m, hcap, hnil, _⟩ := (h.own v hv).form
  refine ⟨p1, c1, ?_, m, hl v hv, hcap, hnil⟩
  rw [Nat.zero_add, World.ownsRow.cellAt h.lst v (by omega), ← e]
  simp [hv]
end Go.Proofs.Ytllkadgpkbaghaa
