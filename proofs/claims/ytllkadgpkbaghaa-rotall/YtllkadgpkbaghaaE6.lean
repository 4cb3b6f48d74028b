/- Pure: the genus of a rotation is a number, and not negative; with fewer edges it is no greater. -/
import Derived.Test.YtllkadgpkbaghaaE5
namespace Go.Proofs.Ytllkadgpkbaghaa
open Go.RowKit Go.Sort
open Go

theorem to_tw (es : List Pt) (x : Nat) : toL es x = fromL es (tw x) := by
  unfold toL fromL
  rw [tw_div]
  unfold tw
  split
  · rw [if_neg (by omega)]
  · rw [if_pos (by omega)]
variable {m n N : Nat} {nl : Nat → List Nat} {nd st : Nat → Nat} {K : Nat → Bool} {es : List Pt} {rs : List (List Int)} {nu : Nat → Nat}
theorem Emb.conn (S : Sys m n N nl nd) (E : Emb m n N nl nd K es rs nu) {a b : Nat} : CK m nd K a b ↔ Conn es a b := by
  constructor
  · intro h
    induction h with
    | refl => exact .refl _
    | step _ h1 h2 h3 h4 ih =>
      rename_i h _
      have := S.half
      obtain ⟨x, hx, e⟩ := E.onto S (y := h) (by omega) (pK_iff.2 ⟨h1, h2⟩)
      refine .step (h := x) ih hx ?_ ?_
      · rw [(E.nd_ S hx).1, e, h3]
      · rw [to_tw, (E.nd_ S (tw_lt hx)).1, E.twi x hx, e, h4]
  · intro h
    induction h with
    | refl => exact .refl _
    | step _ h1 h2 h3 ih =>
      rename_i x _
      obtain ⟨p1, p2⟩ := pK_iff.1 (E.pk h1)
      refine .step (h := nu x) ih p1 p2 ?_ ?_
      · have := (E.nd_ S h1).1; omega
      · rw [to_tw, (E.nd_ S (tw_lt h1)).1, E.twi x h1] at h3; omega
theorem comp_reps (hm : netB n es = true) : ∃ r, Reps n (Conn es) r (compN n es) := by
  obtain ⟨r, L⟩ := parts_lab (n := n) (es := es) hm
  unfold compN
  rw [Int.toNat_natCast]
  refine ⟨r, fun i hi => (L.root i hi).1, fun i j hi hj e => ?_, fun x hx => ?_⟩
  · have h1 := L.root i hi
    have h2 := L.root j hj
    have := (L.conn hm h1.1 h2.1).2 e
    omega
  · have h0 := L.done x hx hx
    rcases L.val x hx with h | h
    · omega
    · obtain ⟨j, hj⟩ : ∃ j : Nat, iat (plab (everyN es n n).O (everyN es n n).By n (everyN es n n).O.length) x = j := ⟨(iat (plab (everyN es n n).O (everyN es n n).By n (everyN es n n).O.length) x).toNat, by omega⟩
      exact ⟨j, by omega, (L.con x j hx hj).1.symm⟩
/-- The genus, as it is told. -/
theorem Emb.gen (S : Sys m n N nl nd) (hst : ∀ v, v < n → st v < N ∧ nd (st v) = v) (E : Emb m n N nl nd K es rs nu) (hm : netB n es = true) (hcn : cn K m = es.length) : ∃ g : Nat, Gen m n N (nxt nl nd) nd K g ∧ 2 * compN n es + es.length = n + (facesL es rs).length + 2 * g ∧ genusI n es rs = g := by
  have H := S.rt hst
  obtain ⟨g, hg⟩ := Gen.exist H K
  obtain ⟨r, hr⟩ := E.faces S hst
  obtain ⟨r2, hr2⟩ := comp_reps (n := n) hm
  have e := hg.at_ H hr (hr2.congr fun a b _ _ => (E.conn S).symm)
  rw [hcn] at e
  refine ⟨g, hg, e, ?_⟩
  unfold genusI
  rw [show (2 * ((compN n es : Nat) : Int) - (n : Int) + (es.length : Int) - ((facesL es rs).length : Int)) = 2 * (g : Int) by omega]
  exact Int.mul_tdiv_cancel_left _ (by decide)
/-- The lists of a rotation, with an item of its own at each node. -/
def nlR (es : List Pt) (rs : List (List Int)) (v : Nat) : List Nat := (lat rs v).map Int.toNat ++ [2 * es.length + v]
def ndR (es : List Pt) (x : Nat) : Nat := if x < 2 * es.length then (fromL es x).toNat else x - 2 * es.length
theorem ndR_half {x : Nat} (h : x < 2 * es.length) : ndR es x = (fromL es x).toNat := by unfold ndR; rw [if_pos h]
theorem nat_nodup {l : List Int} (hn : l.Nodup) (h0 : ∀ x ∈ l, 0 ≤ x) : (l.map Int.toNat).Nodup := by
  rw [List.nodup_iff_pairwise_ne] at hn ⊢
  rw [List.pairwise_map]
  refine hn.imp_of_mem ?_
  intro a b ha hb hab
  have := h0 a ha
  have := h0 b hb
  omega
theorem sys_of (h : holdsP es rs) (hl : rs.length = n) : Sys es.length n (2 * es.length + n) (nlR es rs) (ndR es) ∧ ∀ v, v < n → 2 * es.length + v < 2 * es.length + n ∧ ndR es (2 * es.length + v) = v := by
  obtain ⟨h1, h2, h3⟩ := holds_iff.1 h
  have hst : ∀ v, v < n → 2 * es.length + v < 2 * es.length + n ∧ ndR es (2 * es.length + v) = v := fun v hv => ⟨by omega, by unfold ndR; rw [if_neg (by omega)]; omega⟩
  refine ⟨⟨by omega, fun v hv => ?_, fun v hv x hx => ?_, fun x hx => ?_⟩, hst⟩
  · unfold nlR
    rw [List.nodup_append]
    refine ⟨nat_nodup (lat_nodup h2 (by omega)) fun x hx => (h1 v (by omega) x hx).1, by simp, fun a ha b hb => ?_⟩
    obtain ⟨z, hz, e⟩ := List.mem_map.1 ha
    have := h1 v (by omega) z hz
    simp at hb
    omega
  · unfold nlR at hx
    rcases List.mem_append.1 hx with hx | hx
    · obtain ⟨z, hz, e⟩ := List.mem_map.1 hx
      obtain ⟨b1, b2, b3⟩ := h1 v (by omega) z hz
      rw [e] at b3
      exact ⟨by omega, by rw [ndR_half (by omega), b3]; simp⟩
    · simp at hx
      rw [hx]
      exact hst v hv
  · by_cases hx2 : x < 2 * es.length
    · obtain ⟨u, i, hu, hi, e⟩ := half_in h hx2
      have b := h1 u hu _ (iat_mem hi)
      rw [e, Int.toNat_natCast] at b
      have hnd : ndR es x = u := by rw [ndR_half hx2, b.2.2]; simp
      rw [hnd]
      refine ⟨by omega, List.mem_append_left _ (List.mem_map.2 ⟨(x : Int), ?_, by simp⟩)⟩
      rw [← e]; exact iat_mem hi
    · obtain ⟨v, rfl⟩ : ∃ v, x = 2 * es.length + v := ⟨x - 2 * es.length, by omega⟩
      rw [(hst v (by omega)).2]
      exact ⟨by omega, List.mem_append_right _ (by simp)⟩
theorem cn_all (h : ∀ x, K x = true) : ∀ m, cn K m = m
  | 0 => rfl
  | m + 1 => by unfold cn; rw [cn_all h m, h m]; rfl
theorem filter_nl (h : holdsP es rs) {v : Nat} (hv : v < rs.length) (K : Nat → Bool) : (nlR es rs v).filter (pK es.length K) = ((lat rs v).filter fun z => K (z.toNat / 2)).map Int.toNat := by
  obtain ⟨h1, _⟩ := holds_iff.1 h
  unfold nlR
  rw [List.filter_append, List.filter_map]
  have e1 : [2 * es.length + v].filter (pK es.length K) = [] := by
    rw [List.filter_cons, if_neg (fun h => by have := (pK_iff.1 h).1; omega)]
    rfl
  rw [e1, List.append_nil]
  congr 1
  refine List.filter_congr fun z hz => ?_
  have := h1 v hv z hz
  show pK es.length K z.toNat = _
  unfold pK
  rw [decide_eq_true (by omega)]
  rfl
/-- A rotation lies within itself, all edges kept. -/
theorem emb_self (h : holdsP es rs) (hl : rs.length = n) : Emb es.length n (2 * es.length + n) (nlR es rs) (ndR es) (fun _ => true) es rs id := by
  refine ⟨h, hl, fun v hv => ?_, fun x _ => rfl, fun x y _ _ e => e⟩
  rw [filter_nl h (by omega)]
  rw [List.filter_eq_self.2 fun _ _ => rfl]
  rfl
/-- Euler's count is twice a number that is not negative. -/
theorem genus_self (h : rotI n es rs = 0) : ∃ g : Nat, Gen es.length n (2 * es.length + n) (nxt (nlR es rs) (ndR es)) (ndR es) (fun _ => true) g ∧ 2 * compN n es + es.length = n + (facesL es rs).length + 2 * g ∧ genusI n es rs = g := by
  obtain ⟨h1, h2, h3⟩ := rot_is h
  have hl : rs.length = n := by omega
  obtain ⟨S, hst⟩ := sys_of h3 hl
  exact (emb_self h3 hl).gen S (st := fun v => 2 * es.length + v) hst h1 (cn_all (fun _ => rfl) _)
end Go.Proofs.Ytllkadgpkbaghaa
