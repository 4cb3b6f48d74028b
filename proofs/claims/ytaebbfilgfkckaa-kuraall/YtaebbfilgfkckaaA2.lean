/- Pure: paths gone back; half-edges of the chosen edges among all. -/
import Derived.Test.YtaebbfilgfkckaaKD2
import Derived.Test.YtaebbfilgfkckaaKC4
namespace Go.Proofs.Ytaebbfilgfkckaa
open Go.RowKit Go.Sort
open Go
section
variable {n : Nat} {es : List Pt}
theorem to_twA (es : List Pt) (h : Nat) : toL es (tw h) = fromL es h := by
  have := from_tw (es := es) (tw h)
  rw [tw_tw] at this
  exact this.symm
theorem tw_ne (h : Nat) : tw h ≠ h := by unfold tw; split <;> omega
theorem nx_rev (hm : netB n es = true) {h : Nat} (hl : h < 2 * es.length) (hg : Goes es h) : Goes es (tw (nx es h)) ∧ nx es (tw (nx es h)) = tw h := by
  obtain ⟨_, n1, n2, n3, _⟩ := nx_is hm hl hg
  have ht : tN es (tw (nx es h)) = tN es h := by
    have e : toL es (tw (nx es h)) = tN es h := by rw [to_twA]; exact n2
    show (toL es (tw (nx es h))).toNat = _
    rw [e, Int.toNat_natCast]
  have hg' : Goes es (tw (nx es h)) := by unfold Goes; rw [ht]; exact hg
  obtain ⟨_, _, _, _, m4⟩ := nx_is hm (tw_lt n1) hg'
  have hf : fromL es (tw h) = tN es (tw (nx es h)) := by
    have := (toL_in hm h hl).1
    rw [from_tw, ht]
    unfold tN
    omega
  refine ⟨hg', ?_⟩
  rcases m4 (tw h) (tw_lt hl) hf with e | e
  · rw [tw_tw] at e; exact absurd e.symm n3
  · exact e.symm
/-- Gone back: the same half-edges, turned. -/
theorem it_rev (hm : netB n es = true) {h : Nat} (hl : h < 2 * es.length) {i : Nat} (hr : Runs es h i) : ∀ j, j ≤ i → itN es (tw (itN es h i)) j = tw (itN es h (i - j))
  | 0, _ => rfl
  | j + 1, hj => by
    show nx es (itN es (tw (itN es h i)) j) = _
    rw [it_rev hm hl hr j (by omega), show i - j = (i - (j + 1)) + 1 by omega]
    exact (nx_rev hm (it_lt hm hl fun x hx => hr x (by omega)) (hr _ (by omega))).2
theorem runs_rev (hm : netB n es = true) {h : Nat} (hl : h < 2 * es.length) {i : Nat} (hr : Runs es h i) : Runs es (tw (itN es h i)) i := fun j hj => by
  rw [it_rev hm hl hr j (by omega), show i - j = (i - (j + 1)) + 1 by omega]
  exact (nx_rev hm (it_lt hm hl fun x hx => hr x (by omega)) (hr _ (by omega))).1
/-- No edge is gone along both ways. -/
theorem it_ne_tw (hm : netB n es = true) {h : Nat} (hl : h < 2 * es.length) {i : Nat} (hr : Runs es h i) : ∀ d j, j + d ≤ i → itN es h (j + d) ≠ tw (itN es h j)
  | 0, j, _, e => tw_ne _ e.symm
  | 1, j, hj, e => (nx_is hm (it_lt hm hl fun x hx => hr x (by omega)) (hr j (by omega))).2.2.2.1 e
  | d + 2, j, hj, e => by
    have e1 : nx es (itN es h (j + d + 1)) = tw (itN es h j) := e
    have h2 := (nx_rev hm (it_lt hm hl fun x hx => hr x (by omega)) (hr (j + d + 1) (by omega))).2
    rw [e1, tw_tw] at h2
    have h3 : itN es h (j + 1) = tw (itN es h (j + d + 1)) := h2
    refine it_ne_tw hm hl hr d (j + 1) (by omega) ?_
    rw [h3, tw_tw, show j + 1 + d = j + d + 1 by omega]
/-- A path has no more half-edges than there are edges. -/
theorem runs_few (hm : netB n es = true) {h : Nat} (hl : h < 2 * es.length) (hb : (ow es (fromL es h).toNat).length ≠ 2) {i : Nat} (hr : Runs es h i) : i < es.length := by
  have hn : ((pthN es h i).map (· / 2)).Nodup := by
    unfold pthN
    rw [List.map_map, List.nodup_iff_pairwise_ne, List.pairwise_map]
    refine (List.pairwise_lt_range (n := i + 1)).imp_of_mem ?_
    intro a b ha hb2 hab e
    have hb3 := List.mem_range.1 hb2
    have h1 := it_ne hm hl hb hr a b hab (by omega)
    have h2 := it_ne_tw hm hl hr (b - a) a (by omega)
    rw [show a + (b - a) = b by omega] at h2
    have e' : itN es h a / 2 = itN es h b / 2 := e
    unfold tw at h2
    split at h2 <;> omega
  have hlt : ∀ x ∈ (pthN es h i).map (· / 2), x < es.length := fun x hx => by
    obtain ⟨y, hy, rfl⟩ := List.mem_map.1 hx
    obtain ⟨j, hj, rfl⟩ := List.mem_map.1 hy
    have := List.mem_range.1 hj
    have := it_lt hm hl (i := j) fun y hy => hr y (by omega)
    show _ / 2 < _
    omega
  have hsub := nodup_nat es.length _ hn hlt
  have : ((pthN es h i).map (· / 2)).length = i + 1 := by simp [pthN]
  omega
/-- Where a path ends it does not go on. -/
theorem end_stop (hm : netB n es = true) {h : Nat} (hl : h < 2 * es.length) (hb : (ow es (fromL es h).toNat).length ≠ 2) : ¬ Goes es (itN es h (fin es (2 * es.length) h)) :=
  fin_stop _ _ (runs_lt hm hl hb (fin_runs es (2 * es.length) h))
/-- The other end's half-edge. -/
def bk (es : List Pt) (h : Nat) : Nat := tw (itN es h (fin es (2 * es.length) h))
theorem fol_back (hm : netB n es = true) {h : Nat} (hl : h < 2 * es.length) (hb : (ow es (fromL es h).toNat).length ≠ 2) : bk es h < 2 * es.length ∧ fromL es (bk es h) = endI es h ∧ endI es (bk es h) = fromL es h ∧ (folL es (bk es h)).length = (folL es h).length := by
  have hr := fin_runs es (2 * es.length) h
  have hlt := it_lt hm hl hr
  have hf := fin_is (es := es) (fin es (2 * es.length) h) (2 * es.length) (bk es h) (runs_rev hm hl hr) (by
    unfold bk
    rw [it_rev hm hl hr _ (Nat.le_refl _), Nat.sub_self]
    show ¬ (ow es (tN es (tw h))).length = 2
    unfold tN
    rw [to_twA]
    exact hb) (fin_le _ _ _)
  refine ⟨tw_lt hlt, ?_, ?_, ?_⟩
  · unfold bk; rw [from_tw]; rfl
  · unfold endI
    rw [hf]
    unfold bk
    rw [it_rev hm hl hr _ (Nat.le_refl _), Nat.sub_self, to_twA]
    rfl
  · rw [fol_length, fol_length, hf]
/-- Where a path ends, there is a node whose degree is not 2. -/
theorem end_deg (hm : netB n es = true) {h : Nat} (hl : h < 2 * es.length) (hb : (ow es (fromL es h).toNat).length ≠ 2) : ∃ v : Nat, endI es h = v ∧ v < n ∧ (ow es v).length ≠ 2 ∧ 0 < (ow es v).length := by
  obtain ⟨b1, b2, _, _⟩ := fol_back hm hl hb
  have hlt := it_lt hm hl (fin_runs es (2 * es.length) h)
  have ht := toL_in hm _ hlt
  refine ⟨(endI es h).toNat, ?_, ?_, end_stop hm hl hb, ?_⟩
  · unfold endI; omega
  · unfold endI; omega
  · obtain ⟨j, hj, _⟩ := outL_mem (es := es) (h := 2 * es.length) b1 (v := (endI es h).toNat) (by rw [b2]; unfold endI; omega)
    have : j < (ow es (endI es h).toNat).length := hj
    omega
end
/-- Of a half-edge of the chosen edges, its number among all. -/
def rnN (l : List Int) (q : Nat) : Nat := 2 * (iat l (q / 2)).toNat + q % 2
/-- The half-edges of the chosen edges that leave a node. -/
def eoL (es : List Pt) (l : List Int) (k v : Nat) : List Int := ((List.range k).filter fun h => decide (((h / 2 : Nat) : Int) ∈ l ∧ fromL es h = (v : Int))).map fun (h : Nat) => (h : Int)
abbrev eo (es : List Pt) (l : List Int) (v : Nat) : List Int := eoL es l (2 * es.length) v
section
variable {n : Nat} {es : List Pt} {l : List Int}
theorem rn_is (hs : subE n es l = 0) {q : Nat} (hq : q < 2 * l.length) : rnI l (q : Int) = (rnN l q : Nat) ∧ rnN l q < 2 * es.length ∧ fromL es (rnN l q) = fromL (pick es l) q ∧ toL es (rnN l q) = toL (pick es l) q ∧ tw (rnN l q) = rnN l (tw q) ∧ ((rnN l q / 2 : Nat) : Int) ∈ l := by
  obtain ⟨_, hin, _⟩ := sub_ok hs
  obtain ⟨a, b⟩ := hin (q / 2) (by omega)
  have h2 : rnN l q / 2 = (iat l (q / 2)).toNat := by unfold rnN; omega
  have hm2 : rnN l q % 2 = q % 2 := by unfold rnN; omega
  refine ⟨?_, ?_, ?_, ?_, ?_, ?_⟩
  · unfold rnI rnN; rw [Int.toNat_natCast]; omega
  · unfold rnN; omega
  · unfold fromL; rw [h2, hm2, pick_at _ _ (by omega)]
  · unfold toL; rw [h2, hm2, pick_at _ _ (by omega)]
  · have hq2 : tw q / 2 = q / 2 := by unfold tw; split <;> omega
    have e1 : rnN l (tw q) = 2 * (iat l (q / 2)).toNat + tw q % 2 := by unfold rnN; rw [hq2]
    rw [e1]
    unfold tw
    rw [hm2]
    unfold rnN
    split <;> omega
  · rw [h2, Int.toNat_of_nonneg a]; exact iat_mem (by omega)
theorem rn_inj (hs : subE n es l = 0) {p q : Nat} (hp : p < 2 * l.length) (hq : q < 2 * l.length) (e : rnN l p = rnN l q) : p = q := by
  obtain ⟨_, hin, hd⟩ := sub_ok hs
  obtain ⟨a, b⟩ := hin (q / 2) (by omega)
  obtain ⟨a', b'⟩ := hin (p / 2) (by omega)
  unfold rnN at e
  have e2 : iat l (p / 2) = iat l (q / 2) := by omega
  have : p / 2 = q / 2 := by
    rcases Nat.lt_trichotomy (p / 2) (q / 2) with h | h | h
    · exact absurd e2 (hd _ _ h (by omega))
    · exact h
    · exact absurd e2.symm (hd _ _ h (by omega))
  omega
theorem eo_mem (hs : subE n es l = 0) {v : Nat} {x : Int} : x ∈ eo es l v ↔ ∃ q : Nat, q < 2 * l.length ∧ fromL (pick es l) q = v ∧ x = (rnN l q : Nat) := by
  unfold eo eoL
  rw [List.mem_map]
  constructor
  · rintro ⟨h, hh, rfl⟩
    rw [List.mem_filter, List.mem_range] at hh
    obtain ⟨h1, h2⟩ := hh
    obtain ⟨h3, h4⟩ := of_decide_eq_true h2
    obtain ⟨i, hi, e⟩ := mem_iat h3
    have hq : 2 * i + h % 2 < 2 * l.length := by omega
    have e1 : rnN l (2 * i + h % 2) = h := by
      unfold rnN
      rw [show (2 * i + h % 2) / 2 = i by omega, e]
      omega
    refine ⟨2 * i + h % 2, hq, ?_, by rw [e1]⟩
    rw [← (rn_is hs hq).2.2.1, e1, h4]
  · rintro ⟨q, hq, hf, rfl⟩
    obtain ⟨_, r2, r3, _, _, r6⟩ := rn_is hs hq
    refine ⟨rnN l q, ?_, rfl⟩
    rw [List.mem_filter, List.mem_range]
    exact ⟨r2, decide_eq_true ⟨r6, by rw [r3, hf]⟩⟩
theorem eo_rise (es : List Pt) (l : List Int) (v : Nat) : (eo es l v).Pairwise (· < ·) :=
  List.Pairwise.map _ (fun x y h => by omega) (List.pairwise_lt_range.filter _)
theorem ow_rise (pk : List Pt) (v : Nat) : (ow pk v).Pairwise (· < ·) := by
  unfold ow outL
  exact List.Pairwise.map _ (fun x y h => by omega) (List.pairwise_lt_range.filter _)
theorem ow_mem {pk : List Pt} {v : Nat} {x : Int} : x ∈ ow pk v ↔ ∃ q : Nat, q < 2 * pk.length ∧ fromL pk q = v ∧ x = q := by
  constructor
  · intro h
    obtain ⟨j, hj, e⟩ := mem_iat h
    obtain ⟨k, k1, k2, k3⟩ := outL_at hj
    exact ⟨k, k2, k3, by rw [← e]; exact k1⟩
  · rintro ⟨q, hq, hf, rfl⟩
    obtain ⟨j, hj, e⟩ := outL_mem hq hf
    rw [← e]
    exact iat_mem hj
theorem eo_perm (hs : subE n es l = 0) (v : Nat) : (eo es l v).Perm ((ow (pick es l) v).map (rnI l)) := by
  have hp : (pick es l).length = l.length := pick_length _ _
  refine (List.perm_ext_iff_of_nodup (rise_nodup (eo_rise es l v)) ?_).2 fun x => ?_
  · rw [List.nodup_iff_pairwise_ne, List.pairwise_map]
    refine (ow_rise (pick es l) v).imp_of_mem ?_
    intro a b ha hb hab e
    obtain ⟨p, hp1, _, rfl⟩ := ow_mem.1 ha
    obtain ⟨q, hq1, _, rfl⟩ := ow_mem.1 hb
    rw [hp] at hp1 hq1
    rw [(rn_is hs hp1).1, (rn_is hs hq1).1] at e
    have := rn_inj hs hp1 hq1 (by omega)
    omega
  · rw [eo_mem hs, List.mem_map]
    constructor
    · rintro ⟨q, h1, h2, rfl⟩
      exact ⟨q, ow_mem.2 ⟨q, by rw [hp]; exact h1, h2, rfl⟩, (rn_is hs h1).1⟩
    · rintro ⟨y, hy, rfl⟩
      obtain ⟨q, h1, h2, rfl⟩ := ow_mem.1 hy
      rw [hp] at h1
      exact ⟨q, h1, h2, (rn_is hs h1).1⟩
theorem eo_length (hs : subE n es l = 0) (v : Nat) : (eo es l v).length = (ow (pick es l) v).length := by
  rw [(eo_perm hs v).length_eq, List.length_map]
/-- Each of them is one of the chosen edges'. -/
theorem eo_at (hs : subE n es l = 0) {v j : Nat} (hj : j < (eo es l v).length) : ∃ q : Nat, q < 2 * l.length ∧ fromL (pick es l) q = v ∧ iat (eo es l v) j = (rnN l q : Nat) := (eo_mem hs).1 (iat_mem hj)
theorem eo_inj {v i j : Nat} (hi : i < (eo es l v).length) (hj : j < (eo es l v).length) (e : iat (eo es l v) i = iat (eo es l v) j) : i = j := iat_inj (rise_nodup (eo_rise es l v)) hi hj e
theorem eo_has (hs : subE n es l = 0) {v q : Nat} (hq : q < 2 * l.length) (hf : fromL (pick es l) q = v) : ∃ j, j < (eo es l v).length ∧ iat (eo es l v) j = (rnN l q : Nat) := mem_iat ((eo_mem hs).2 ⟨q, hq, hf, rfl⟩)
/-- The half-edge that goes on, told by the document. -/
theorem eo_next (hs : subE n es l = 0) {k : Nat} (hk : k < 2 * l.length) (hg : Goes (pick es l) k) : besI (eo es l (tN (pick es l) k)) (tw (rnN l k) : Nat) = (rnN l (nx (pick es l) k) : Nat) := by
  have hp : (pick es l).length = l.length := pick_length _ _
  have hm := net_pick hs
  obtain ⟨_, n1, _, n3, n4⟩ := nx_is hm (h := k) (by rw [hp]; exact hk) hg
  have h2 : (eo es l (tN (pick es l) k)).length = 2 := by rw [eo_length hs]; exact hg
  obtain ⟨a, ha, fa, ea⟩ := eo_at hs (v := tN (pick es l) k) (j := 0) (by omega)
  obtain ⟨b, hb, fb, eb⟩ := eo_at hs (v := tN (pick es l) k) (j := 1) (by omega)
  have hab : a ≠ b := fun e => by
    have := eo_inj (es := es) (l := l) (v := tN (pick es l) k) (i := 0) (j := 1) (by omega) (by omega) (by rw [ea, eb, e])
    omega
  have a4 := n4 a (by rw [hp]; exact ha) fa
  have b4 := n4 b (by rw [hp]; exact hb) fb
  have htw := (rn_is hs hk).2.2.2.2.1
  have htl : tw k < 2 * l.length := tw_lt hk
  unfold besI
  rw [ea, eb, htw]
  rcases a4 with rfl | rfl
  · rw [if_pos rfl]
    rcases b4 with rfl | rfl
    · exact absurd rfl hab
    · rfl
  · rw [if_neg fun e => n3 (rn_inj hs (by rw [← hp]; exact n1) htl (by omega))]
end
end Go.Proofs.Ytaebbfilgfkckaa
