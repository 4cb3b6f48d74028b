/- Pure: edges that are picked; what stands in a map of paths; rows that are renamed. -/
import Derived.Test.YtaebbfilgfkckaaKC3
namespace Go.Proofs.Ytaebbfilgfkckaa
open Go.RowKit Go.Sort
open Go
theorem sub_ok {n : Int} {es : List Pt} {l : List Int} (h : subE n es l = 0) : netB n es = true ∧ (∀ i, i < l.length → 0 ≤ iat l i ∧ iat l i < es.length) ∧ ∀ i k, k < i → i < l.length → iat l k ≠ iat l i := by
  unfold subE at h
  by_cases hm : netB n es = true
  · rw [if_pos hm] at h
    have hc := errN_all _ h
    exact ⟨hm, fun i hi => (chk_zero (hc i hi)).1, fun i k hk hi => (chk_zero (hc i hi)).2 k hk⟩
  · rw [if_neg hm] at h; cases h
theorem sub_len {n : Int} {es : List Pt} {l : List Int} (h : subE n es l = 0) : l.length ≤ es.length := by
  obtain ⟨_, h1, h2⟩ := sub_ok h
  have := nodup_nat es.length (l.map Int.toNat) (by
    rw [List.nodup_iff_pairwise_ne, List.pairwise_map, List.pairwise_iff_getElem]
    intro i j hi hj hij e
    have ei : iat l i = l[i] := by unfold iat; rw [List.getD_eq_getElem?_getD, List.getElem?_eq_getElem hi]; rfl
    have ej : iat l j = l[j] := by unfold iat; rw [List.getD_eq_getElem?_getD, List.getElem?_eq_getElem hj]; rfl
    have a := h1 i hi
    have b := h1 j hj
    exact h2 j i hij hj (by rw [ei, ej] at *; omega)) (by
    intro x hx
    obtain ⟨y, hy, rfl⟩ := List.mem_map.1 hx
    obtain ⟨j, hj, e⟩ := List.getElem_of_mem hy
    have a := h1 j hj
    have ej : iat l j = l[j] := by unfold iat; rw [List.getD_eq_getElem?_getD, List.getElem?_eq_getElem hj]; rfl
    rw [ej, e] at a
    omega)
  simpa using this
theorem net_pick {n : Int} {es : List Pt} {l : List Int} (h : subE n es l = 0) : netB n (pick es l) = true := by
  obtain ⟨hm, h1, _⟩ := sub_ok h
  have hl := sub_len h
  obtain ⟨n0, n1, he, hE⟩ := netB_is hm
  refine net_yes n0 (by rw [pick_length]; simp [fitsB]; omega) fun j hj => ?_
  rw [pick_length] at hj
  rw [pick_at _ _ hj]
  have a := h1 j hj
  have := hE (iat l j).toNat (by omega)
  simp [edB, belowB, this]
/-- What is laid into a map of paths is a path. -/
def IsPath (es : List Pt) (p : Pt) (l : List Int) : Prop := ∃ h : Nat, h < 2 * es.length ∧ l = folL es h ∧ fromL es h = p.x ∧ endI es h = p.y
theorem lyR_is {es : List Pt} {v : Nat} {P : Pt → List Int} (hP : ∀ p, P p = [] ∨ IsPath es p (P p)) : ∀ k, k ≤ (ow es v).length → ∀ p, lyR es v P k p = [] ∨ IsPath es p (lyR es v P k p)
  | 0, _, p => hP p
  | k + 1, hk, p => by
    obtain ⟨h, h1, h2, h3⟩ := outL_at (es := es) (h := 2 * es.length) (v := v) (j := k) hk
    have h1' : iat (ow es v) k = h := h1
    show updL _ _ _ p = [] ∨ IsPath es p (updL _ _ _ p)
    unfold updL
    rw [h1', Int.toNat_natCast]
    by_cases e : p = ⟨(v : Int), endI es h⟩
    · rw [if_pos e]
      exact Or.inr ⟨h, h2, rfl, by rw [e]; exact h3, by rw [e]⟩
    · rw [if_neg e]
      exact lyR_is hP k (by omega) p
theorem lyB_is {es : List Pt} {br : List Int} : ∀ i p, lyB es br i p = [] ∨ IsPath es p (lyB es br i p)
  | 0, _ => Or.inl rfl
  | i + 1, p => lyR_is (lyB_is i) _ (Nat.le_refl _) p
theorem fol_in {es : List Pt} {n : Nat} (hm : netB n es = true) {h : Nat} (hh : h < 2 * es.length) {j : Nat} (hj : j < (folL es h).length) : 0 ≤ iat (folL es h) j ∧ iat (folL es h) j < 2 * es.length := by
  rw [fol_length] at hj
  rw [fol_at es h (by omega)]
  have := it_lt hm hh (i := j) (fun x hx => fin_runs es (2 * es.length) h x (by omega))
  omega
/-- The paths that are chosen. -/
def ptS (n : Nat) (pk : List Pt) : List (List Int) := (List.range (jsK (kdS n pk)).length).map fun i => wyS n pk (keyP (bsS n pk) (jsK (kdS n pk)) i)
theorem pt_length (n : Nat) (pk : List Pt) : (ptS n pk).length = (jsK (kdS n pk)).length := by simp [ptS]
theorem pt_at {n : Nat} {pk : List Pt} {i : Nat} (h : i < (jsK (kdS n pk)).length) : lat (ptS n pk) i = wyS n pk (keyP (bsS n pk) (jsK (kdS n pk)) i) := by
  unfold lat ptS
  rw [List.getD_eq_getElem?_getD, List.getElem?_map, List.getElem?_range h]
  rfl
/-- The edges form a subdivision. -/
def okS (n : Nat) (pk : List Pt) : Prop := kdS n pk ≠ 0 ∧ (∀ i, i < (jsK (kdS n pk)).length → wyS n pk (keyP (bsS n pk) (jsK (kdS n pk)) i) ≠ []) ∧ covN (ptS n pk) (ptS n pk).length = pk.length
theorem pt_len {n : Nat} {pk : List Pt} {v : Nat} (hv : v < (ptS n pk).length) : (lat (ptS n pk) v).length ≤ 2 * pk.length + 1 := by
  rw [pt_length] at hv
  rw [pt_at hv]
  rcases lyB_is (es := pk) (br := brS n pk) (brS n pk).length (keyP (bsS n pk) (jsK (kdS n pk)) v) with h | ⟨h, _, h2, _⟩
  · show (lyB _ _ _ _).length ≤ _
    rw [h]; simp
  · show (lyB _ _ _ _).length ≤ _
    rw [h2, fol_length]
    have := fin_le pk (2 * pk.length) h
    omega
theorem js_pos {n : Nat} {pk : List Pt} (h : kdS n pk ≠ 0) : (jsK (kdS n pk)).length = 10 ∧ kdS n pk = 5 ∨ (jsK (kdS n pk)).length = 9 ∧ kdS n pk = 33 := by
  rcases bs_len h with ⟨h1, _⟩ | ⟨h1, _⟩
  · left; rw [h1]; exact ⟨j5_length, rfl⟩
  · right; rw [h1]; exact ⟨j33_length, rfl⟩
theorem pk_pos {n : Nat} {pk : List Pt} (hm : netB n pk = true) (h : kdS n pk ≠ 0) : 0 < pk.length := by
  have hb := bs_len h
  have hl : 0 < (brS n pk).length := by rw [← bs_length]; omega
  obtain ⟨v, _, _, hv⟩ := br_mem hm (iat_mem (l := brS n pk) (j := 0) hl)
  have := ow_fits pk v
  omega
/-- One list of a row is written over. -/
theorem Rows.grown {w w' : World} {B g n k : Nat} {rv : Nat → Value} {L : Nat → List Int} {l' : List Int} (h : Rows w B g n rv L) (hk : k < n) (gr : w.grownBy w' (rv k).ownBlock) (o : IOwns w' B (rv k) l') : Rows w' B g n rv (upd L k l') := by
  obtain ⟨h1, h2, h3⟩ := h
  obtain ⟨cur, hg⟩ := row_kind h1
  have hap : (rv k).ownBlock ≠ some g := row_apart hg (h3 k hk) (by decide)
  refine ⟨World.ownsRow.kept h1 gr (Or.inr (fun e => hap e.symm)), h2, fun v hv => ?_⟩
  by_cases hvk : v = k
  · rw [hvk, upd_same]; exact o
  · rw [upd_other _ _ hvk]
    refine World.ownsRow.kept (h3 v hv) gr ?_
    cases hb : (rv v).ownBlock with
    | none => exact Or.inl rfl
    | some j => exact Or.inr (fun e => hvk (h2 v k j hv hk hb e.symm))
/-- What formed answers. -/
def FgPost (n : Int) (es : List Pt) (l : List Int) (w : World) (e : Ending) (w' : World) : Prop :=
  (subE n es l ≠ 0 ∧ e = .returned (.tuple #[.agg #[.int .i64 0, .slice none 0 0, .slice none 0 0], .int .i64 (subE n es l)])) ∨
  (subE n es l = 0 ∧ ¬ okS n.toNat (pick es l) ∧ e = .returned (.tuple #[.agg #[.int .i64 0, .slice none 0 0, .slice none 0 0], .int .i64 0])) ∨
  (subE n es l = 0 ∧ okS n.toNat (pick es l) ∧ ∃ p c g rv, e = .returned (.tuple #[.agg #[.int .i64 (kdS n.toNat (pick es l)), .slice p (bsS n.toNat (pick es l)).length c, .slice (some ⟨g, 0, none⟩) (ptS n.toNat (pick es l)).length (ptS n.toNat (pick es l)).length], .int .i64 0]) ∧ IOwns w' w.heap.size (.slice p (bsS n.toNat (pick es l)).length c) (bsS n.toNat (pick es l)) ∧ Rows w' w.heap.size g (ptS n.toNat (pick es l)).length rv (fun i => (lat (ptS n.toNat (pick es l)) i).map (rnI l)))
end Go.Proofs.Ytaebbfilgfkckaa
