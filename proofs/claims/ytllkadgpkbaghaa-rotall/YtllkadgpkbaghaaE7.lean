/- Pure: what rot.Sub answers is a rotation, and its genus is no greater. -/
import Derived.Test.YtllkadgpkbaghaaE6
namespace Go.Proofs.Ytllkadgpkbaghaa
open Go.RowKit Go.Sort
open Go

/-- The new numbers of edges. -/
def subT (es : List Pt) (l : List Int) : List Int := plN l es.length l.length
def keepK (es : List Pt) (l : List Int) (e : Nat) : Bool := decide (0 ≤ iat (subT es l) e)
def subG (T : List Int) (z : Int) : Int := 2 * iat T (z.toNat / 2) + (z.toNat % 2 : Nat)
/-- A half-edge of the part, by its number in the whole. -/
def subN (l : List Int) (x : Nat) : Nat := 2 * (iat l (x / 2)).toNat + x % 2
/-- The lists of the part, as they come, not turned. -/
def subL (es : List Pt) (rs : List (List Int)) (l : List Int) : List (List Int) := (List.range rs.length).map fun v => rnL (subT es l) (lat rs v)
variable {n : Nat} {es : List Pt} {rs : List (List Int)} {l : List Int}
theorem subL_length : (subL es rs l).length = rs.length := by simp [subL]
theorem subL_at {v : Nat} (hv : v < rs.length) : lat (subL es rs l) v = rnL (subT es l) (lat rs v) := by
  have : ∀ L : List Int, lat rs v = L → lat ((List.range rs.length).map fun u => rnL (subT es l) (lat rs u)) v = rnL (subT es l) L := fun L e => by
    rw [show lat ((List.range rs.length).map fun u => rnL (subT es l) (lat rs u)) v = ((List.range rs.length).map fun u => rnL (subT es l) (lat rs u)).getD v [] from rfl, List.getD_eq_getElem?_getD, List.getElem?_map, List.getElem?_range hv, ← e]
    rfl
  exact this _ rfl
theorem rnRow_is (T L : List Int) : ∀ j, j ≤ L.length → rnRow T L j = ((L.take j).filter fun z => decide (0 ≤ iat T (z.toNat / 2))).map (subG T)
  | 0, _ => by simp [rnRow]
  | j + 1, hj => by
    unfold rnRow
    rw [rnRow_is T L j (by omega), iat_take (by omega), List.filter_append, List.map_append]
    by_cases h : 0 ≤ iat T ((iat L j).toNat / 2)
    · rw [if_pos h, List.filter_cons, if_pos (by simpa using h)]
      rfl
    · rw [if_neg h, List.filter_cons, if_neg (by simpa using h)]
      simp
theorem rnL_is (T L : List Int) : rnL T L = (L.filter fun z => decide (0 ≤ iat T (z.toNat / 2))).map (subG T) := by
  unfold rnL
  rw [rnRow_is T L _ (Nat.le_refl _), List.take_length]
/-- Where an edge that is kept went. -/
theorem kept_at (he : errL l es.length = 0) {e : Nat} (hel : e < es.length) (hk : 0 ≤ iat (subT es l) e) : ∃ k, k < l.length ∧ iat (subT es l) e = (k : Int) ∧ iat l k = (e : Int) := by
  obtain ⟨h1, h2⟩ := plN_at (errN_all _ he) e hel
  by_cases h : ∃ k, k < l.length ∧ iat l k = (e : Int)
  · obtain ⟨k, hk, e1⟩ := h
    exact ⟨k, hk, h1 k hk e1, e1⟩
  · have := h2 fun k hk e1 => h ⟨k, hk, e1⟩
    unfold subT at hk
    omega
theorem at_kept (he : errL l es.length = 0) {k : Nat} (hk : k < l.length) : (iat l k).toNat < es.length ∧ 0 ≤ iat l k ∧ iat (subT es l) (iat l k).toNat = (k : Int) := by
  have hi := (chk_zero (errN_all _ he k hk)).1
  exact ⟨by omega, hi.1, (plN_at (errN_all _ he) (iat l k).toNat (by omega)).1 k hk (by omega)⟩
/-- There and back. -/
theorem sub_back (he : errL l es.length = 0) {z : Int} (h0 : 0 ≤ z) (hz : z < 2 * es.length) (hk : 0 ≤ iat (subT es l) (z.toNat / 2)) : 0 ≤ subG (subT es l) z ∧ subG (subT es l) z < 2 * l.length ∧ subN l (subG (subT es l) z).toNat = z.toNat := by
  obtain ⟨k, hkl, e1, e2⟩ := kept_at he (e := z.toNat / 2) (by omega) hk
  unfold subG subN
  rw [e1]
  refine ⟨by omega, by omega, ?_⟩
  rw [show (2 * (k : Int) + ((z.toNat % 2 : Nat) : Int)).toNat = 2 * k + z.toNat % 2 by omega, show (2 * k + z.toNat % 2) / 2 = k by omega, e2]
  omega
theorem sub_there (he : errL l es.length = 0) {x : Nat} (hx : x < 2 * l.length) : subN l x < 2 * es.length ∧ 0 ≤ iat (subT es l) (subN l x / 2) ∧ subG (subT es l) (subN l x : Nat) = x := by
  obtain ⟨h1, h2, h3⟩ := at_kept he (k := x / 2) (by omega)
  have hd : subN l x / 2 = (iat l (x / 2)).toNat := by unfold subN; omega
  have hm : subN l x % 2 = x % 2 := by unfold subN; omega
  refine ⟨by unfold subN; omega, by rw [hd, h3]; omega, ?_⟩
  unfold subG
  rw [Int.toNat_natCast, hd, h3, hm]
  omega
theorem from_pick {x : Nat} (hx : x < 2 * l.length) : fromL (pick es l) x = fromL es (subN l x) := by
  unfold fromL
  have hd : subN l x / 2 = (iat l (x / 2)).toNat := by unfold subN; omega
  have hm : subN l x % 2 = x % 2 := by unfold subN; omega
  rw [pick_at es l (by omega), hd, hm]
theorem sub_map (he : errL l es.length = 0) (h : holdsP es rs) {v : Nat} (hv : v < rs.length) : (lat (subL es rs l) v).map (fun z => subN l z.toNat) = (nlR es rs v).filter (pK es.length (keepK es l)) := by
  obtain ⟨h1, _⟩ := holds_iff.1 h
  rw [subL_at hv, rnL_is, List.map_map, filter_nl h hv]
  refine List.map_congr_left fun z hz => ?_
  obtain ⟨z1, z2⟩ := List.mem_filter.1 hz
  have b := h1 v hv z z1
  exact (sub_back he b.1 b.2.1 (by simpa using z2)).2.2
theorem sub_flat : (subL es rs l).flatten = (rs.flatten.filter fun z => decide (0 ≤ iat (subT es l) (z.toNat / 2))).map (subG (subT es l)) := by
  have e : subL es rs l = rs.map fun L => (L.filter fun z => decide (0 ≤ iat (subT es l) (z.toNat / 2))).map (subG (subT es l)) := by
    refine lat_ext (by rw [subL_length]; simp) fun v hv => ?_
    rw [subL_length] at hv
    rw [subL_at hv, rnL_is]
    unfold lat
    rw [List.getD_eq_getElem?_getD, List.getD_eq_getElem?_getD, List.getElem?_map, List.getElem?_eq_getElem hv]
    rfl
  rw [e, List.filter_flatten, List.map_flatten, List.map_map]
  rfl
theorem sub_holds (he : errL l es.length = 0) (h : holdsP es rs) : holdsP (pick es l) (subL es rs l) := by
  obtain ⟨h1, h2, h3⟩ := holds_iff.1 h
  have hin : ∀ y ∈ rs.flatten, 0 ≤ y ∧ y < 2 * es.length := fun y hy => by
    obtain ⟨L, hL, hyl⟩ := List.mem_flatten.1 hy
    obtain ⟨u, hu, e⟩ := List.mem_iff_getElem.1 hL
    have := h1 u hu y (by unfold lat; rw [List.getD_eq_getElem?_getD, List.getElem?_eq_getElem hu]; simpa [e] using hyl)
    omega
  have hnd : (subL es rs l).flatten.Nodup := by
    rw [sub_flat, List.nodup_iff_pairwise_ne, List.pairwise_map]
    refine (List.nodup_iff_pairwise_ne.1 (h2.filter _)).imp_of_mem ?_
    intro a b ha hb hab e
    obtain ⟨a1, a2⟩ := List.mem_filter.1 ha
    obtain ⟨b1, b2⟩ := List.mem_filter.1 hb
    have ia := hin a a1
    have ib := hin b b1
    have ra := (sub_back he ia.1 ia.2 (by simpa using a2)).2.2
    have rb := (sub_back he ib.1 ib.2 (by simpa using b2)).2.2
    rw [e, rb] at ra
    omega
  have hib : ∀ x ∈ (subL es rs l).flatten, 0 ≤ x ∧ x < 2 * (l.length : Int) := fun x hx => by
    rw [sub_flat] at hx
    obtain ⟨z, hz, e⟩ := List.mem_map.1 hx
    obtain ⟨z1, z2⟩ := List.mem_filter.1 hz
    have iz := hin z z1
    have := sub_back he iz.1 iz.2 (by simpa using z2)
    rw [← e]
    exact ⟨this.1, this.2.1⟩
  refine holds_iff.2 ⟨fun v hv x hx => ?_, hnd, ?_⟩
  · rw [subL_length] at hv
    have hx2 := hx
    rw [subL_at hv, rnL_is] at hx
    obtain ⟨z, hz, e⟩ := List.mem_map.1 hx
    obtain ⟨z1, z2⟩ := List.mem_filter.1 hz
    have b := h1 v hv z z1
    have r := sub_back he b.1 b.2.1 (by simpa using z2)
    rw [← e, pick_length]
    refine ⟨r.1, by omega, ?_⟩
    rw [from_pick (by omega), r.2.2, b.2.2]
  · rw [pick_length]
    have hp : ((subL es rs l).flatten).Perm (upN (2 * l.length)) := by
      rw [List.perm_ext_iff_of_nodup hnd (err_nodup (upN_err _))]
      intro x
      constructor
      · intro hx
        have := hib x hx
        obtain ⟨k, rfl⟩ : ∃ k : Nat, x = k := ⟨x.toNat, by omega⟩
        exact all_in (err_nodup (upN_err _)) (err_in (upN_err _)) (upN_length _) (by omega)
      · intro hx
        have := err_in (upN_err _) x hx
        obtain ⟨k, rfl⟩ : ∃ k : Nat, x = k := ⟨x.toNat, by omega⟩
        obtain ⟨t1, t2, t3⟩ := sub_there he (x := k) (by omega)
        rw [sub_flat]
        refine List.mem_map.2 ⟨(subN l k : Nat), List.mem_filter.2 ⟨all_in h2 (fun y hy => by have := hin y hy; omega) h3 t1, ?_⟩, t3⟩
        rw [Int.toNat_natCast]
        exact decide_eq_true t2
    rw [hp.length_eq, upN_length]
theorem net_pick (he : errL l es.length = 0) (hm : netB n es = true) : netB n (pick es l) = true := by
  obtain ⟨n0, n1, hes, hE⟩ := netB_is hm
  have hle := chosen_le he
  refine net_yes n0 ?_ fun j hj => ?_
  · rw [pick_length]
    simp [fitsB]
    omega
  · rw [pick_length] at hj
    have hi := (chk_zero (errN_all _ he j hj)).1
    rw [pick_at es l hj]
    obtain ⟨a, b, c, d⟩ := hE (iat l j).toNat (by omega)
    simp [edB, belowB, a, b, c, d]
theorem sub_rot (he : errL l es.length = 0) (h : rotI n es rs = 0) : rotI n (pick es l) (subL es rs l) = 0 := by
  obtain ⟨h1, h2, h3⟩ := rot_is h
  unfold rotI holdsB
  rw [if_pos (net_pick he h1), if_pos (by rw [subL_length]; exact h2), decide_eq_true (sub_holds he h3)]
  rfl
/-- As many edges are kept as stand in the list. -/
theorem cn_keep (he : errL l es.length = 0) : cn (keepK es l) es.length = l.length := by
  have hc : ∀ (T : List Int) (k : Nat), k ≤ T.length → cn (fun e => decide (0 ≤ iat T e)) k = (T.take k).countP fun x => decide (0 ≤ x) := by
    intro T k
    induction k with
    | zero => intro _; simp [cn]
    | succ k ih =>
      intro hk
      unfold cn
      rw [ih (by omega), iat_take (by omega), List.countP_append]
      congr 1
      simp
  have hlen : (subT es l).length = es.length := plN_length _ _ _
  have h1 := hc (subT es l) es.length (by omega)
  rw [List.take_of_length_le (by omega)] at h1
  show cn (fun e => decide (0 ≤ iat (subT es l) e)) es.length = _
  rw [h1]
  have h2 := plN_count (errN_all _ he)
  rw [← h2]
  unfold subT
  refine List.countP_congr fun x hx => ?_
  obtain ⟨j, hj, e⟩ := mem_iat hx
  rw [plN_length] at hj
  obtain ⟨q1, q2⟩ := plN_at (errN_all _ he) j hj
  have : x = -1 ∨ 0 ≤ x := by
    by_cases hk : ∃ k, k < l.length ∧ iat l k = (j : Int)
    · obtain ⟨k, k1, k2⟩ := hk
      have := q1 k k1 k2
      omega
    · have := q2 fun k k1 k2 => hk ⟨k, k1, k2⟩
      omega
  simp
  omega
theorem emb_sub (he : errL l es.length = 0) (h : holdsP es rs) (hl : rs.length = n) : Emb es.length n (2 * es.length + n) (nlR es rs) (ndR es) (keepK es l) (pick es l) (subL es rs l) (subN l) := by
  refine ⟨sub_holds he h, by rw [subL_length]; exact hl, fun v hv => sub_map he h (by omega), fun x hx => ?_, fun x y hx hy e => ?_⟩
  · unfold subN
    rw [tw_div]
    unfold tw
    split <;> split <;> omega
  · rw [pick_length] at hx hy
    have t1 := (sub_there he hx).2.2
    have t2 := (sub_there he hy).2.2
    rw [e] at t1
    omega
/-- Turned lists have the same faces. -/
theorem faces_canon {es : List Pt} {rs : List (List Int)} (h : rotI n es rs = 0) : rotI n es (canonL rs) = 0 ∧ facesL es (canonL rs) = facesL es rs ∧ genusI n es (canonL rs) = genusI n es rs := by
  have hlow : ∀ l : List Int, ∃ k, k ≤ l.length ∧ turnL l = rotL l k := fun l => by
    by_cases h : lowAt l ≤ l.length
    · exact ⟨lowAt l, h, rfl⟩
    · refine ⟨l.length, Nat.le_refl _, ?_⟩
      unfold turnL rotL
      rw [List.drop_of_length_le (by omega), List.take_of_length_le (by omega), List.drop_length, List.take_length]
  have hcan := (canon_rot h (canonL_length _) fun v hv => by obtain ⟨k, hk, e⟩ := hlow (lat rs v); exact ⟨k, hk, by rw [lat_canon hv]; exact e⟩).1
  have hf : facesL es (canonL rs) = facesL es rs := by
    have hnx := nxN_same (es := es) (es' := es) rfl (rot_is h).2.2 (rot_is hcan).2.2 (fun u hu => by
      obtain ⟨k, hk, e⟩ := hlow (lat rs u)
      exact ⟨u, k, by rw [canonL_length]; exact hu, hk, by rw [lat_canon hu]; exact e⟩)
    unfold facesL edgeF
    rw [hnx, empty_canon]
  refine ⟨hcan, hf, ?_⟩
  unfold genusI
  rw [hf]
/-- Edges taken away never raise the genus. -/
theorem genus_sub (he : errL l es.length = 0) (h : rotI n es rs = 0) : rotI n (pick es l) (canonL (subL es rs l)) = 0 ∧ ∃ a b : Nat, genusI n es rs = a ∧ genusI n (pick es l) (canonL (subL es rs l)) = b ∧ b ≤ a := by
  have hs := sub_rot he h
  obtain ⟨c1, _, c3⟩ := faces_canon hs
  obtain ⟨h1, h2, h3⟩ := rot_is h
  have hl : rs.length = n := by omega
  obtain ⟨S, hst⟩ := sys_of h3 hl
  obtain ⟨a, ga, _, ea⟩ := genus_self h
  obtain ⟨b, gb, _, eb⟩ := (emb_sub he h3 hl).gen S (st := fun v => 2 * es.length + v) hst (net_pick he h1) (by rw [cn_keep he, pick_length])
  exact ⟨c1, a, b, ea, by rw [c3, eb], gb.mono (S.rt (st := fun v => 2 * es.length + v) hst) (fun _ _ _ => rfl) ga⟩
end Go.Proofs.Ytllkadgpkbaghaa
