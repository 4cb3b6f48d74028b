/- Pure: no subdivision is one with an edge more. -/
import Derived.Test.YtaebbfilgfkckaaKD2
namespace Go.Proofs.Ytaebbfilgfkckaa
open Go.RowKit Go.Sort
open Go
theorem ofD_same {D D' : List Int} {d : Int} {n : Nat} (h : ∀ v, v < n → (iat D' v = d ↔ iat D v = d)) : ofD D' d n = ofD D d n := by
  rw [ofD_is, ofD_is]
  congr 1
  refine List.filter_congr fun v hv => ?_
  have := h v (List.mem_range.1 hv)
  simp [this]
theorem kd_same {D D' : List Int} {n : Nat} (h3 : ofD D' 3 n = ofD D 3 n) (h4 : ofD D' 4 n = ofD D 4 n) (hd : (∀ v, v < n → dgOk (iat D' v)) ↔ (∀ v, v < n → dgOk (iat D v))) : kdI D' n = kdI D n ∧ brL D' n = brL D n := by
  have e : kdI D' n = kdI D n := by
    unfold kdI
    rw [h3, h4]
    by_cases h : ∀ v, v < n → dgOk (iat D v)
    · rw [if_pos h, if_pos (hd.2 h)]
    · rw [if_neg h, if_neg fun h' => h (hd.1 h')]
  refine ⟨e, ?_⟩
  unfold brL
  rw [e, h3, h4]
theorem net_ins {n : Nat} {pk : List Pt} {j v : Nat} (hm' : netB n (insE pk j ⟨v, v⟩) = true) : netB n pk = true ∧ v < n := by
  obtain ⟨n0, n1, hl, hE⟩ := netB_is hm'
  rw [insE_length] at hl
  have hin : ∀ p ∈ insE pk j ⟨(v : Int), (v : Int)⟩, 0 ≤ p.x ∧ p.x < n ∧ 0 ≤ p.y ∧ p.y < n := fun p hp => by
    obtain ⟨i, hi, e⟩ := List.getElem_of_mem hp
    have := hE i hi
    rw [at_get hi, e] at this
    exact this
  refine ⟨net_yes n0 (by simp [fitsB]; omega) fun i hi => ?_, ?_⟩
  · have hmem : at' pk i ∈ insE pk j ⟨(v : Int), (v : Int)⟩ := by
      have : at' pk i ∈ pk.take j ++ pk.drop j := by rw [List.take_append_drop, at_get hi]; exact List.getElem_mem hi
      unfold insE
      rw [List.mem_append, List.mem_cons]
      rcases List.mem_append.1 this with h | h
      · exact Or.inl h
      · exact Or.inr (Or.inr h)
    have := hin _ hmem
    simp [edB, belowB, this]
  · have := hin ⟨(v : Int), (v : Int)⟩ (by unfold insE; simp)
    simp only at this
    omega
section
variable {n : Nat} {pk : List Pt} {j v : Nat} (hm' : netB n (insE pk j ⟨v, v⟩) = true) (hj : j ≤ pk.length) (hv : dgL pk (v : Int) = 0)
include hm' hj hv
theorem fol_ins {h : Nat} (hh : h < 2 * pk.length) (hb : (ow pk (fromL pk h).toNat).length ≠ 2) : folL (insE pk j ⟨v, v⟩) (ph j h) = (folL pk h).map (phI j) ∧ endI (insE pk j ⟨v, v⟩) (ph j h) = endI pk h := by
  have hm := (net_ins hm').1
  have hf : fin (insE pk j ⟨v, v⟩) (2 * (insE pk j ⟨(v : Int), (v : Int)⟩).length) (ph j h) = fin pk (2 * pk.length) h := by
    rw [insE_length, fin_ins hm hj hv _ hh, fin_more hm hh hb (by omega)]
  have hr := fin_runs pk (2 * pk.length) h
  constructor
  · unfold folL pthN
    rw [hf, List.map_map, List.map_map, List.map_map]
    refine List.map_congr_left fun i hi => ?_
    have hi := List.mem_range.1 hi
    show ((itN _ (ph j h) i : Nat) : Int) = phI j ((itN pk h i : Nat) : Int)
    rw [it_ins hm hj hv hh (i := i) fun x hx => hr x (by omega)]
    unfold phI; rw [Int.toNat_natCast]
  · unfold endI
    rw [hf, it_ins hm hj hv hh hr]
    exact (ins_from hj _).2
theorem lyR_ins {u : Nat} (hu : u ≠ v) (hu2 : (ow pk u).length ≠ 2) {P P' : Pt → List Int} (hP : ∀ p, P' p = (P p).map (phI j)) : ∀ k, k ≤ (ow pk u).length → ∀ p, lyR (insE pk j ⟨v, v⟩) u P' k p = (lyR pk u P k p).map (phI j)
  | 0, _, p => hP p
  | k + 1, hk, p => by
    obtain ⟨h, h1, h2, h3⟩ := outL_at (es := pk) (h := 2 * pk.length) (v := u) (j := k) hk
    have h1' : iat (ow pk u) k = h := h1
    have hx : iat (ow (insE pk j ⟨v, v⟩) u) k = (ph j h : Nat) := by
      rw [ow_ins hj (show (v : Int) ≠ u by omega) (show (v : Int) ≠ u by omega)]
      unfold iat at h1' ⊢
      rw [List.getD_eq_getElem?_getD, List.getElem?_map, List.getElem?_eq_getElem (by omega)]
      rw [List.getD_eq_getElem?_getD, List.getElem?_eq_getElem (by omega)] at h1'
      simp only [Option.getD_some] at h1'
      simp only [Option.map_some, Option.getD_some, h1', phI, Int.toNat_natCast]
    obtain ⟨f1, f2⟩ := fol_ins hm' hj hv h2 (by rw [h3, Int.toNat_natCast]; exact hu2)
    show updL _ ⟨(u : Int), endI _ (iat (ow (insE pk j ⟨v, v⟩) u) k).toNat⟩ (folL _ (iat (ow (insE pk j ⟨v, v⟩) u) k).toNat) p = (updL _ ⟨(u : Int), endI pk (iat (ow pk u) k).toNat⟩ (folL pk (iat (ow pk u) k).toNat) p).map (phI j)
    rw [hx, h1', Int.toNat_natCast, Int.toNat_natCast, f1, f2]
    unfold updL
    split
    · rfl
    · exact lyR_ins hu hu2 hP k (by omega) p
theorem lyB_ins {br : List Int} (hbr : ∀ x ∈ br, ∃ u : Nat, x = u ∧ u ≠ v ∧ (ow pk u).length ≠ 2) : ∀ i, i ≤ br.length → ∀ p, lyB (insE pk j ⟨v, v⟩) br i p = (lyB pk br i p).map (phI j)
  | 0, _, _ => rfl
  | i + 1, hi, p => by
    obtain ⟨u, hu, h1, h2⟩ := hbr (iat br i) (iat_mem (by omega))
    show lyR _ (iat br i).toNat _ (ow _ (iat br i).toNat).length p = (lyR pk (iat br i).toNat _ (ow pk (iat br i).toNat).length p).map (phI j)
    rw [hu, Int.toNat_natCast, ow_ins hj (show (v : Int) ≠ u by omega) (show (v : Int) ≠ u by omega), List.length_map]
    exact lyR_ins hm' hj hv h1 h2 (fun p => lyB_ins hbr i (by omega) p) _ (Nat.le_refl _) p
omit hj in
theorem kdS_ins : kdS n (insE pk j ⟨v, v⟩) = kdS n pk ∧ brS n (insE pk j ⟨v, v⟩) = brS n pk := by
  obtain ⟨hm, hvn⟩ := net_ins hm'
  have hd : ∀ w, w < n → iat (degN (insE pk j ⟨v, v⟩) n (insE pk j ⟨v, v⟩).length) w = iat (degN pk n pk.length) w + if v = w then 2 else 0 := fun w hw => by
    rw [deg_dgL hm' hw, deg_dgL hm hw, insE_dgL]
    by_cases e : v = w
    · subst e; simp
    · rw [if_neg (show ¬ (v : Int) = w by omega), if_neg e]; simp
  have h0 : iat (degN pk n pk.length) v = 0 := by rw [deg_dgL hm hvn, hv]; rfl
  have key : ∀ d : Int, d = 3 ∨ d = 4 → ofD (degN (insE pk j ⟨v, v⟩) n (insE pk j ⟨v, v⟩).length) d n = ofD (degN pk n pk.length) d n := fun d hd2 => ofD_same fun w hw => by
    rw [hd w hw]
    by_cases e : v = w
    · subst e; rw [if_pos rfl, h0]; omega
    · rw [if_neg e]; omega
  refine kd_same (key 3 (Or.inl rfl)) (key 4 (Or.inr rfl)) ⟨fun h w hw => ?_, fun h w hw => ?_⟩
  · have := h w hw
    rw [hd w hw] at this
    by_cases e : v = w
    · subst e; rw [h0]; exact Or.inl rfl
    · rw [if_neg e] at this; simpa using this
  · rw [hd w hw]
    by_cases e : v = w
    · subst e; rw [if_pos rfl, h0]; exact Or.inr (Or.inl rfl)
    · rw [if_neg e]; simpa using h w hw
theorem wyS_ins : ∀ p, wyS n (insE pk j ⟨v, v⟩) p = (wyS n pk p).map (phI j) := fun p => by
  have hm := (net_ins hm').1
  unfold wyS
  rw [(kdS_ins hm' hv).2]
  refine lyB_ins hm' hj hv (fun x hx => ?_) _ (Nat.le_refl _) p
  obtain ⟨u, e, h1, h2⟩ := br_mem hm hx
  refine ⟨u, e, fun e2 => ?_, by omega⟩
  have h3 := deg_dgL hm h1
  rw [deg_all hm h1, e2, hv] at h3
  rw [e2] at h2
  omega
theorem sd_ins (br : List Int) : ∀ k, sdO (wyS n (insE pk j ⟨v, v⟩)) br k = sdO (wyS n pk) br k ∧ sdT (wyS n (insE pk j ⟨v, v⟩)) br k = sdT (wyS n pk) br k
  | 0 => ⟨rfl, rfl⟩
  | k + 1 => by
    obtain ⟨e1, e2⟩ := sd_ins br k
    unfold sdO sdT
    rw [e1, e2, wyS_ins hm' hj hv]
    by_cases h : wyS n pk ⟨iat br 0, iat br k⟩ = []
    · rw [if_pos h, if_pos (by rw [h]; rfl), if_pos (by rw [h]; rfl), if_pos h]; exact ⟨rfl, rfl⟩
    · have h' : ¬ (wyS n pk ⟨iat br 0, iat br k⟩).map (phI j) = [] := fun e => h (List.map_eq_nil_iff.1 e)
      rw [if_neg h, if_neg h', if_neg h', if_neg h]; exact ⟨rfl, rfl⟩
theorem bsS_ins : bsS n (insE pk j ⟨v, v⟩) = bsS n pk := by
  unfold bsS sidesL
  rw [(kdS_ins hm' hv).1, (kdS_ins hm' hv).2, (sd_ins hm' hj hv _ _).1, (sd_ins hm' hj hv _ _).2]
theorem cov_ins : covN (ptS n (insE pk j ⟨v, v⟩)) (ptS n (insE pk j ⟨v, v⟩)).length = covN (ptS n pk) (ptS n pk).length := by
  have hl : (ptS n (insE pk j ⟨v, v⟩)).length = (ptS n pk).length := by rw [pt_length, pt_length, (kdS_ins hm' hv).1]
  rw [hl]
  have : ∀ k, k ≤ (ptS n pk).length → covN (ptS n (insE pk j ⟨v, v⟩)) k = covN (ptS n pk) k := by
    intro k
    induction k with
    | zero => intro _; rfl
    | succ k ih =>
      intro hk
      unfold covN
      rw [ih (by omega), pt_at (by rw [pt_length] at hk; rw [(kdS_ins hm' hv).1]; omega), pt_at (by rw [pt_length] at hk; omega), (kdS_ins hm' hv).1, bsS_ins hm' hj hv, wyS_ins hm' hj hv, List.length_map]
  exact this _ (Nat.le_refl _)
end
/-- No subdivision is one with an edge more. -/
theorem ok_more {n : Nat} {pk : List Pt} {j : Nat} {q : Pt} (hm : netB n pk = true) (hm' : netB n (insE pk j q) = true) (hj : j ≤ pk.length) (h : okS n pk) (h' : okS n (insE pk j q)) : False := by
  obtain ⟨v, hv, rfl, h0⟩ := kd_more hm hm' h.1 h'.1
  have e := cov_ins hm' hj h0
  rw [h.2.2, h'.2.2, insE_length] at e
  omega
end Go.Proofs.Ytaebbfilgfkckaa
