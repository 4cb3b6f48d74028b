/- Pure: along faces; the mirror's faces. -/
import Derived.Test.YtllkadgpkbaghaaE7
namespace Go.Proofs.Ytllkadgpkbaghaa
open Go.RowKit Go.Sort
open Go
variable {n : Nat} {es : List Pt} {rs : List (List Int)}
theorem edge_ok (h : holdsP es rs) : TrOk (nxN rs (2 * es.length) rs.length) (2 * es.length) (2 * es.length) (trN (nxN rs (2 * es.length) rs.length) (2 * es.length) (2 * es.length)).1 (edgeF es rs) :=
  tr_ok (fun _ hx => real_nn h hx) (real_prm h) _ (Nat.le_refl _)
theorem edge_reps (h : holdsP es rs) : Reps (2 * es.length) (Orb (fT es rs)) (fun i => (iat (lat (edgeF es rs) i) 0).toNat) (edgeF es rs).length :=
  tr_reps (fun _ hx => real_nn h hx) (real_prm h)
theorem lat_app {A B : List (List Int)} {v : Nat} (hv : v < A.length) : lat (A ++ B) v = lat A v := by
  unfold lat
  rw [List.getD_eq_getElem?_getD, List.getD_eq_getElem?_getD, List.getElem?_append, if_pos hv]
theorem lat_get {A : List (List Int)} {v : Nat} (hv : v < A.length) : lat A v = A[v] := by
  unfold lat
  rw [List.getD_eq_getElem?_getD, List.getElem?_eq_getElem hv]
  rfl
theorem lat_empty {v : Nat} (h1 : (edgeF es rs).length ≤ v) (h2 : v < (facesL es rs).length) : lat (facesL es rs) v = [] := by
  have e : lat (facesL es rs) v = lat (emptyN rs rs.length) (v - (edgeF es rs).length) := by
    unfold facesL lat
    rw [List.getD_eq_getElem?_getD, List.getD_eq_getElem?_getD, List.getElem?_append, if_neg (by omega)]
  rw [e]
  unfold facesL at h2
  rw [List.length_append] at h2
  exact emptyN_mem rs _ _ (lat_mem (by omega))
/-- What is known of a half-edge on a face. -/
theorem on_face (h : holdsP es rs) {f k : Nat} (hf : f < (facesL es rs).length) (hk : k < (lat (facesL es rs) f).length) : ∃ x u i : Nat, iat (lat (facesL es rs) f) k = (x : Int) ∧ x < 2 * es.length ∧ iat (lat (facesL es rs) f) 0 ≤ (x : Int) ∧ toL es x = (u : Int) ∧ u < rs.length ∧ i < (lat rs u).length ∧ iat (lat rs u) i = (tw x : Nat) ∧ iat (lat (facesL es rs) f) ((k + 1) % (lat (facesL es rs) f).length) = iat (lat rs u) ((i + 1) % (lat rs u).length) := by
  have P := real_prm h
  by_cases hfe : f < (edgeF es rs).length
  · have el : lat (facesL es rs) f = lat (edgeF es rs) f := by unfold facesL; exact lat_app hfe
    obtain ⟨a, p, ha, _, hp, hl, ep, hall, _⟩ := (edge_ok h).fc f hfe
    rw [el, hl] at hk ⊢
    rw [rd_len] at hk ⊢
    have hlt := P.it_lt ha k
    obtain ⟨u, i, hu, hi, e1, e2, _⟩ := real_at h (tw_lt hlt)
    have hfrom := (real_in h hu hi).2.2
    rw [e1, Int.toNat_natCast, ← to_tw] at hfrom
    rw [tw_tw] at e2
    refine ⟨it (fT es rs) k a, u, i, rd_at hk, hlt, ?_, hfrom, hu, hi, e1, ?_⟩
    · have e0 : iat (rd (fn (nxN rs (2 * es.length) rs.length)) a p) 0 = ((it (fT es rs) 0 a : Nat) : Int) := rd_at hp
      have h0 : it (fT es rs) 0 a = a := rfl
      have h1 : a ≤ it (fT es rs) k a := (hall k hk).2
      rw [e0]
      omega
    · have hm : (k + 1) % p < p := Nat.mod_lt _ hp
      have e0 : iat (rd (fn (nxN rs (2 * es.length) rs.length)) a p) ((k + 1) % p) = ((it (fT es rs) ((k + 1) % p) a : Nat) : Int) := rd_at hm
      have ep' : it (fT es rs) p a = a := ep
      rw [e0, ← it_mod ep' (k + 1), ← e2]
      show (((iat (nxN rs (2 * es.length) rs.length) (it (fT es rs) k a)).toNat : Nat) : Int) = _
      rw [Int.toNat_of_nonneg (real_nn h hlt)]
  · rw [lat_empty (by omega) hf] at hk
    simp at hk
theorem emptyN_flat (rs : List (List Int)) (v : Nat) : (emptyN rs v).flatten = [] := by
  rw [List.flatten_eq_nil_iff]
  exact fun l hl => emptyN_mem rs v l hl
/-- Each half-edge is on one face. -/
theorem faces_flat (h : holdsP es rs) : (facesL es rs).flatten.Nodup ∧ (facesL es rs).flatten.length = 2 * es.length := by
  have k := edge_ok h
  have P := real_prm h
  have e : (facesL es rs).flatten = (edgeF es rs).flatten := by
    unfold facesL
    rw [List.flatten_append, emptyN_flat, List.append_nil]
  rw [e]
  have hmem : ∀ i (hi : i < (edgeF es rs).length), ∀ x ∈ (edgeF es rs)[i], iat (trN (nxN rs (2 * es.length) rs.length) (2 * es.length) (2 * es.length)).1 x.toNat = i ∧ 0 ≤ x ∧ x < 2 * es.length := fun i hi x hx => by
    obtain ⟨a, p, ha, _, hp, hl, ep, hall, _⟩ := k.fc i hi
    rw [lat_get hi] at hl
    rw [hl] at hx
    obtain ⟨j, hj, ej⟩ := mem_iat hx
    rw [rd_len] at hj
    rw [rd_at hj] at ej
    have := P.it_lt ha j
    refine ⟨by rw [← ej, Int.toNat_natCast]; exact (hall j hj).1, by omega, ?_⟩
    have h2 : it (fn (nxN rs (2 * es.length) rs.length)) j a < 2 * es.length := this
    omega
  have hnd : (edgeF es rs).flatten.Nodup := by
    rw [List.nodup_iff_pairwise_ne, List.pairwise_flatten]
    refine ⟨fun l hl => ?_, ?_⟩
    · obtain ⟨i, hi, ei⟩ := List.mem_iff_getElem.1 hl
      obtain ⟨a, p, ha, _, hp, hl2, ep, hall, hin⟩ := k.fc i hi
      rw [lat_get hi, ei] at hl2
      rw [hl2]
      unfold rd
      rw [List.pairwise_map]
      rw [List.pairwise_iff_getElem]
      intro x y hx hy hxy e2
      simp only [List.length_range] at hx hy
      simp only [List.getElem_range] at e2
      have := hin x y hx hy (by omega)
      omega
    · rw [List.pairwise_iff_getElem]
      intro i j hi hj hij x hx y hy exy
      subst exy
      have h1 := (hmem i hi x hx).1
      have h2 := (hmem j hj x hy).1
      omega
  refine ⟨hnd, ?_⟩
  have hp : ((edgeF es rs).flatten).Perm (upN (2 * es.length)) := by
    rw [List.perm_ext_iff_of_nodup hnd (err_nodup (upN_err _))]
    intro x
    constructor
    · intro hx
      obtain ⟨l, hl, hxl⟩ := List.mem_flatten.1 hx
      obtain ⟨i, hi, ei⟩ := List.mem_iff_getElem.1 hl
      have := hmem i hi x (by rw [ei]; exact hxl)
      obtain ⟨y, rfl⟩ : ∃ y : Nat, x = y := ⟨x.toNat, by omega⟩
      exact all_in (err_nodup (upN_err _)) (err_in (upN_err _)) (upN_length _) (by omega)
    · intro hx
      have := err_in (upN_err _) x hx
      obtain ⟨y, rfl⟩ : ∃ y : Nat, x = y := ⟨x.toNat, by omega⟩
      rcases k.mrk y (by omega) with h1 | ⟨i, j, hi, hj, h1, h2⟩
      · have := k.dn y (by omega) (by omega); omega
      · rw [List.mem_flatten]
        refine ⟨lat (edgeF es rs) i, by rw [lat_get hi]; exact List.getElem_mem _, ?_⟩
        rw [← h2]; exact iat_mem hj
  rw [hp.length_eq, upN_length]
/-- What comes is not there yet. -/
theorem new_on {F : List (List Int)} (h : F.flatten.Nodup) {f k : Nat} (hf : f < F.length) (hk : k < (lat F f).length) : iat (lat F f) k ∉ ahead F f k := by
  have hs : (ahead F f (k + 1)).Nodup := by
    refine List.Sublist.nodup ?_ h
    have e : F = F.take f ++ lat F f :: F.drop (f + 1) := by rw [lat_get hf]; simp
    conv => rhs; rw [e]
    rw [List.flatten_append, List.flatten_cons]
    unfold ahead
    exact List.Sublist.append_left ((List.take_sublist _ _).trans (List.sublist_append_left _ _)) _
  rw [ahead_succ hk, List.nodup_append] at hs
  exact fun hm => hs.2.2 _ hm _ (by simp) rfl
/-- Lists gone back. -/
def revL (rs : List (List Int)) : List (List Int) := rs.map List.reverse
theorem revL_at {v : Nat} (hv : v < rs.length) : lat (revL rs) v = (lat rs v).reverse := by
  unfold revL
  rw [lat_get (by simpa using hv), lat_get hv]
  simp
theorem rev_rot (h : rotI n es rs = 0) : rotI n es (revL rs) = 0 := rotI_perm h (by simp [revL]) fun v hv => by rw [revL_at hv]; exact List.reverse_perm _
theorem fT_at (h : holdsP es rs) {u i : Nat} (hu : u < rs.length) (hi : i < (lat rs u).length) : fT es rs (tw (iat (lat rs u) i).toNat) = (iat (lat rs u) ((i + 1) % (lat rs u).length)).toNat := by
  have hn := nxN_at h rs.length (Nat.le_refl _) u hu i hi
  have h0 := (real_in h hu hi).1
  rw [show iat (lat rs u) i = (((iat (lat rs u) i).toNat : Nat) : Int) by omega, twn_tw, Int.toNat_natCast] at hn
  unfold fT fn
  rw [hn]
theorem rev_at {l : List Int} {j : Nat} (hj : j < l.length) : iat l.reverse j = iat l (l.length - 1 - j) := by
  unfold iat
  rw [List.getD_eq_getElem?_getD, List.getD_eq_getElem?_getD, List.getElem?_reverse hj]
/-- One step back in the mirror. -/
theorem rev_step (h : holdsP es rs) (h' : holdsP es (revL rs)) {x : Nat} (hx : x < 2 * es.length) : fT es (revL rs) (tw (fT es rs x)) = tw x := by
  obtain ⟨u, i, hu, hi, e1, _, e2⟩ := real_at h (tw_lt hx)
  rw [tw_tw] at e2
  have hl := revL_at hu
  have hlen : (lat (revL rs) u).length = (lat rs u).length := by rw [hl, List.length_reverse]
  obtain ⟨d, hd⟩ : ∃ d, (lat rs u).length = d := ⟨_, rfl⟩
  have hm : (i + 1) % d < d := Nat.mod_lt _ (by omega)
  have pos := fT_at h' (u := u) (i := d - 1 - (i + 1) % d) (by simpa [revL] using hu) (by omega)
  rw [hl, rev_at (by omega), hd, show d - 1 - (d - 1 - (i + 1) % d) = (i + 1) % d by omega, List.length_reverse, hd] at pos
  have hnx : (d - 1 - (i + 1) % d + 1) % d = d - 1 - i := by
    by_cases hid : i + 1 = d
    · rw [hid, Nat.mod_self, show d - 1 - 0 + 1 = d by omega, Nat.mod_self]; omega
    · rw [Nat.mod_eq_of_lt (show i + 1 < d by omega), Nat.mod_eq_of_lt (by omega)]; omega
  rw [hnx, rev_at (by omega), hd, show d - 1 - (d - 1 - i) = i by omega, e1, Int.toNat_natCast] at pos
  rw [e2, hd]
  exact pos
theorem rev_it (h : holdsP es rs) (h' : holdsP es (revL rs)) : ∀ (k : Nat) {x : Nat}, x < 2 * es.length → it (fT es (revL rs)) k (tw (it (fT es rs) k x)) = tw x
  | 0, _, _ => rfl
  | k + 1, x, hx => by
    rw [← it_one]
    show it (fT es (revL rs)) k (fT es (revL rs) (tw (fT es rs (it (fT es rs) k x)))) = tw x
    rw [rev_step h h' ((real_prm h).it_lt hx k)]
    exact rev_it h h' k hx
theorem rev_orb (h : holdsP es rs) (h' : holdsP es (revL rs)) {x y : Nat} (hx : x < 2 * es.length) (hy : y < 2 * es.length) : Orb (fT es (revL rs)) (tw x) (tw y) ↔ Orb (fT es rs) x y := by
  have P := real_prm h
  have P' := real_prm h'
  have one : ∀ a b, a < 2 * es.length → Orb (fT es rs) a b → Orb (fT es (revL rs)) (tw b) (tw a) := fun a b ha ⟨k, e⟩ => ⟨k, by rw [← e]; exact rev_it h h' k ha⟩
  constructor
  · rintro ⟨k, e⟩
    obtain ⟨p, hp, ep⟩ := P.back hy
    -- y is k steps ahead of some z
    obtain ⟨z, hz, ez⟩ : ∃ z, z < 2 * es.length ∧ it (fT es rs) k z = x := by
      obtain ⟨q, hq, eq⟩ := P.back hx
      refine ⟨it (fT es rs) (q * k - k) x, P.it_lt hx _, ?_⟩
      have hle : k ≤ q * k := Nat.le_mul_of_pos_left k hq
      rw [← it_add, show k + (q * k - k) = q * k by omega]
      exact it_mul eq k
    have := rev_it h h' k hz
    rw [ez, e] at this
    have hyz := tw_inj this
    rw [← hyz] at ez
    exact P.symm hy ⟨k, ez⟩
  · intro o
    exact P'.symm (tw_lt hy) (one x y hx o)
theorem rev_count (h : holdsP es rs) (h' : holdsP es (revL rs)) : (edgeF es (revL rs)).length = (edgeF es rs).length := by
  have R := edge_reps h
  have R' := edge_reps h'
  refine R'.uniq (real_prm h').eqv (r' := fun i => tw (iat (lat (edgeF es rs) i) 0).toNat) ⟨fun i hi => tw_lt (R.lt i hi), fun i j hi hj e => R.sep i j hi hj ((rev_orb h h' (R.lt i hi) (R.lt j hj)).1 e), fun x hx => ?_⟩
  obtain ⟨i, hi, e⟩ := R.all (tw x) (tw_lt hx)
  have := (rev_orb h h' (tw_lt hx) (R.lt i hi)).2 e
  rw [tw_tw] at this
  exact ⟨i, hi, this⟩
theorem rev_empty : (emptyN (revL rs) (revL rs).length) = emptyN rs rs.length := by
  rw [emptyN_is _ _ (Nat.le_refl _), emptyN_is rs _ (Nat.le_refl _), List.take_length, List.take_length]
  congr 1
  unfold revL
  rw [List.countP_map]
  congr 1
  funext l
  simp
/-- Each face of the mirror has a face of the same length. -/
theorem rev_len (h : holdsP es rs) (h' : holdsP es (revL rs)) {i : Nat} (hi : i < (edgeF es rs).length) : ∃ j, j < (edgeF es (revL rs)).length ∧ (lat (edgeF es (revL rs)) j).length = (lat (edgeF es rs) i).length ∧ Orb (fT es (revL rs)) (tw (iat (lat (edgeF es rs) i) 0).toNat) (iat (lat (edgeF es (revL rs)) j) 0).toNat := by
  have P := real_prm h
  have P' := real_prm h'
  have R := edge_reps h
  have R' := edge_reps h'
  obtain ⟨j, hj, o⟩ := R'.all _ (tw_lt (R.lt i hi))
  refine ⟨j, hj, ?_, o⟩
  obtain ⟨a, p, ha, _, hp, hl, ep, _, hin⟩ := (edge_ok h).fc i hi
  obtain ⟨b, q, hb, _, hq, hl', eq, _, hin'⟩ := (edge_ok h').fc j hj
  have ea : (iat (lat (edgeF es rs) i) 0).toNat = a := by rw [hl, rd_at hp, Int.toNat_natCast]; rfl
  have eb : (iat (lat (edgeF es (revL rs)) j) 0).toNat = b := by rw [hl', rd_at hq, Int.toNat_natCast]; rfl
  rw [ea, eb] at o
  rw [hl, hl', rd_len, rd_len]
  have ep : it (fT es rs) p a = a := ep
  have eq : it (fT es (revL rs)) q b = b := eq
  have hin : ∀ j k, j < p → k < p → it (fT es rs) j a = it (fT es rs) k a → j = k := hin
  have hin' : ∀ j k, j < q → k < q → it (fT es (revL rs)) j b = it (fT es (revL rs)) k b → j = k := hin'
  -- of each one of the one face the twin is on the other
  have c1 : ∀ k, ∃ t, t < q ∧ it (fT es (revL rs)) t b = tw (it (fT es rs) k a) := fun k => by
    have o2 := (rev_orb h h' ha (P.it_lt ha k)).2 ⟨k, rfl⟩
    obtain ⟨t, ht⟩ := (P'.symm (tw_lt ha) o).trans o2
    rw [it_mod eq] at ht
    exact ⟨t % q, Nat.mod_lt _ hq, ht⟩
  have c2 : ∀ k, ∃ t, t < p ∧ tw (it (fT es rs) t a) = it (fT es (revL rs)) k b := fun k => by
    have hlt := P'.it_lt hb k
    have o2 : Orb (fT es (revL rs)) (tw a) (tw (tw (it (fT es (revL rs)) k b))) := by rw [tw_tw]; exact o.trans ⟨k, rfl⟩
    obtain ⟨t, ht⟩ := (rev_orb h h' ha (tw_lt hlt)).1 o2
    rw [it_mod ep] at ht
    exact ⟨t % p, Nat.mod_lt _ hp, by rw [ht, tw_tw]⟩
  obtain ⟨g1, hg1⟩ := Classical.axiomOfChoice c1
  obtain ⟨g2, hg2⟩ := Classical.axiomOfChoice c2
  have l1 := pig q g1 p (fun k _ => (hg1 k).1) (fun x y hx hy e => by
    have e1 := (hg1 x).2
    have e2 := (hg1 y).2
    rw [e, e2] at e1
    exact (hin y x hy hx (tw_inj e1)).symm)
  have l2 := pig p g2 q (fun k _ => (hg2 k).1) (fun x y hx hy e => by
    have e1 := (hg2 x).2
    have e2 := (hg2 y).2
    rw [e, e2] at e1
    exact (hin' y x hy hx e1).symm)
  omega
theorem len_map (F : List (List Int)) : F.map List.length = (List.range F.length).map fun i => (lat F i).length := by
  refine List.ext_getElem (by simp) fun i h1 h2 => ?_
  simp only [List.getElem_map, List.getElem_range]
  rw [lat_get (by simpa using h1)]
theorem rev_lens (h : holdsP es rs) (h' : holdsP es (revL rs)) : ((facesL es (revL rs)).map List.length).Perm ((facesL es rs).map List.length) := by
  have hc := rev_count h h'
  have R := edge_reps h
  have R' := edge_reps h'
  have P' := real_prm h'
  unfold facesL
  rw [List.map_append, List.map_append, rev_empty]
  refine List.Perm.append_right _ ?_
  have hex : ∀ i, ∃ j, i < (edgeF es rs).length → (j < (edgeF es (revL rs)).length ∧ (lat (edgeF es (revL rs)) j).length = (lat (edgeF es rs) i).length ∧ Orb (fT es (revL rs)) (tw (iat (lat (edgeF es rs) i) 0).toNat) (iat (lat (edgeF es (revL rs)) j) 0).toNat) := fun i => by
    by_cases hi : i < (edgeF es rs).length
    · obtain ⟨j, hj⟩ := rev_len h h' hi
      exact ⟨j, fun _ => hj⟩
    · exact ⟨0, fun h => absurd h hi⟩
  obtain ⟨g, hg⟩ := Classical.axiomOfChoice hex
  have ginj : ∀ i j, i < (edgeF es rs).length → j < (edgeF es rs).length → g i = g j → i = j := fun i j hi hj e => by
    obtain ⟨a1, _, a3⟩ := hg i hi
    obtain ⟨b1, _, b3⟩ := hg j hj
    rw [← e] at b3
    have := a3.trans (P'.symm (tw_lt (R.lt j hj)) b3)
    exact R.sep i j hi hj ((rev_orb h h' (R.lt i hi) (R.lt j hj)).1 this)
  rw [len_map, len_map, hc]
  have e1 : ((List.range (edgeF es rs).length).map fun i => (lat (edgeF es rs) i).length) = ((List.range (edgeF es rs).length).map g).map fun j => (lat (edgeF es (revL rs)) j).length := by
    rw [List.map_map]
    refine List.map_congr_left fun i hi => ?_
    exact (hg i (List.mem_range.1 hi)).2.1.symm
  rw [e1]
  refine List.Perm.map _ ?_
  have nd : ((List.range (edgeF es rs).length).map g).Nodup := by
    rw [List.nodup_iff_pairwise_ne, List.pairwise_map, List.pairwise_iff_getElem]
    intro i j hi hj hij e
    simp only [List.length_range] at hi hj
    simp only [List.getElem_range] at e
    have := ginj i j hi hj e
    omega
  refine ((List.perm_ext_iff_of_nodup nd List.nodup_range).2 fun x => ?_).symm
  constructor
  · intro hx
    obtain ⟨i, hi, e⟩ := List.mem_map.1 hx
    have := (hg i (List.mem_range.1 hi)).1
    rw [List.mem_range]
    omega
  · intro hx
    have hx := List.mem_range.1 hx
    -- else one could be put in besides
    apply Classical.byContradiction
    intro hno
    have := nodup_nat (edgeF es rs).length (x :: (List.range (edgeF es rs).length).map g) (List.nodup_cons.2 ⟨hno, nd⟩) (fun y hy => by
      rcases List.mem_cons.1 hy with e | hy
      · omega
      · obtain ⟨i, hi, e⟩ := List.mem_map.1 hy
        have := (hg i (List.mem_range.1 hi)).1
        omega)
    simp at this
    omega
theorem mirror_is (rs : List (List Int)) : mirrorL rs = canonL (revL rs) := rfl
/-- The mirror of the mirror. -/
theorem turn_back {l : List Int} (hn : l.Nodup) : turnL (turnL l.reverse).reverse = turnL l := by
  obtain ⟨k, hk, e⟩ : ∃ k, k ≤ l.reverse.length ∧ turnL l.reverse = rotL l.reverse k := by
    by_cases h : lowAt l.reverse ≤ l.reverse.length
    · exact ⟨lowAt l.reverse, h, rfl⟩
    · refine ⟨l.reverse.length, Nat.le_refl _, ?_⟩
      unfold turnL rotL
      rw [List.drop_of_length_le (by omega), List.take_of_length_le (by omega), List.drop_length, List.take_length]
  rw [List.length_reverse] at hk
  have : (rotL l.reverse k).reverse = rotL l (l.length - k) := by
    unfold rotL
    rw [List.reverse_append, List.reverse_drop, List.reverse_take, List.reverse_reverse, List.length_reverse]
  rw [e, this]
  exact turnL_rot hn (by omega)
theorem mirror_mirror (h : holdsP es rs) : mirrorL (mirrorL rs) = canonL rs := by
  refine lat_ext (by rw [mirrorL_length, mirrorL_length, canonL_length]) fun v hv => ?_
  rw [mirrorL_length, mirrorL_length] at hv
  rw [lat_mirror (by rw [mirrorL_length]; exact hv), lat_mirror hv, lat_canon hv]
  exact turn_back (lat_nodup (holds_iff.1 h).2.1 hv)
/-- All that RotFaces asks of the mirror. -/
theorem mirror_all (h : rotI n es rs = 0) : rotI n es (mirrorL rs) = 0 ∧ (facesL es (mirrorL rs)).length = (facesL es rs).length ∧ genusI n es (mirrorL rs) = genusI n es rs ∧ ((facesL es (mirrorL rs)).map List.length).Perm ((facesL es rs).map List.length) ∧ mirrorL (mirrorL rs) = canonL rs := by
  have h' := rev_rot h
  have h3 := (rot_is h).2.2
  have h3' := (rot_is h').2.2
  obtain ⟨c1, c2, c3⟩ := faces_canon h'
  have hl := rev_lens h3 h3'
  have hlen : (facesL es (revL rs)).length = (facesL es rs).length := by simpa using hl.length_eq
  rw [mirror_is]
  refine ⟨c1, by rw [c2]; exact hlen, ?_, by rw [c2]; exact hl, ?_⟩
  · rw [c3]
    unfold genusI
    rw [hlen]
  · rw [← mirror_is]; exact mirror_mirror h3
end Go.Proofs.Ytllkadgpkbaghaa
