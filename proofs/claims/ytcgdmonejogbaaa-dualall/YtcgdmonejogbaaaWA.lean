/- slices.Clone of edges. -/
import Derived.Test.YtcgdmonejogbaaaW8
import Derived.Deep.RegionHeld3
/- Pure: lists with an edge more are a rotation of the net with the edge. -/
namespace Go.Proofs.Ytcgdmonejogbaaa
open Go.RowKit Go.Sort
open Go
theorem insL_perm (l : List Int) (i : Nat) (x : Int) : (insL l i x).Perm (x :: l) := by
  unfold insL
  have h := List.perm_middle (a := x) (l₁ := l.take i) (l₂ := l.drop i)
  rw [List.take_append_drop] at h
  exact h
theorem putL_perm (l : List Int) (a x : Int) : (putL l a x).Perm (x :: l) := insL_perm _ _ _
theorem flat_upd {L : Nat → List Int} {v : Nat} {l' : List Int} {x : Int} (h : l'.Perm (x :: L v)) : ∀ n, v < n → (((List.range n).map (upd L v l')).flatten).Perm (x :: ((List.range n).map L).flatten)
  | 0, hv => by omega
  | n + 1, hv => by
    rw [List.range_succ, List.map_append, List.map_append, List.flatten_append, List.flatten_append]
    simp only [List.map_cons, List.map_nil, List.flatten_cons, List.flatten_nil, List.append_nil]
    by_cases e : v = n
    · subst e
      rw [upd_same]
      have e2 : (List.range v).map (upd L v l') = (List.range v).map L := List.map_congr_left fun u hu => upd_other _ _ (by have := List.mem_range.1 hu; omega)
      rw [e2]
      exact (List.Perm.append_left _ h).trans List.perm_middle
    · rw [upd_other _ _ (fun h => e h.symm)]
      exact (List.Perm.append_right _ (flat_upd h n (by omega))).trans (by rw [List.cons_append])
/-- The lists as a list. -/
def betR (rs : List (List Int)) (va : Nat) (aa : Int) (vb : Nat) (ab f : Int) : List (List Int) := (List.range rs.length).map (betL rs va aa vb ab f)
theorem betR_length (rs : List (List Int)) (va : Nat) (aa : Int) (vb : Nat) (ab f : Int) : (betR rs va aa vb ab f).length = rs.length := by simp [betR]
theorem betR_at {rs : List (List Int)} {va vb v : Nat} {aa ab f : Int} (hv : v < rs.length) : lat (betR rs va aa vb ab f) v = betL rs va aa vb ab f v := by
  rw [lat_get (by rw [betR_length]; exact hv)]
  simp [betR]
theorem map_lat (rs : List (List Int)) : (List.range rs.length).map (fun v => lat rs v) = rs := by
  refine List.ext_getElem (by simp) fun i h1 h2 => ?_
  simp only [List.getElem_map, List.getElem_range]
  exact lat_get h2
theorem betR_perm {rs : List (List Int)} {va vb : Nat} {aa ab f : Int} (hva : va < rs.length) (hvb : vb < rs.length) : (betR rs va aa vb ab f).flatten.Perm ((f + 1) :: f :: rs.flatten) := by
  have h1 := flat_upd (L := fun v => lat rs v) (v := va) (putL_perm (lat rs va) aa f) rs.length hva
  rw [map_lat] at h1
  have h2 := flat_upd (L := betA rs va aa f) (v := vb) (putL_perm (betA rs va aa f vb) (if va = vb ∧ aa = ab then f else ab) (f + 1)) rs.length hvb
  exact h2.trans (List.Perm.cons _ h1)
theorem betL_mem {rs : List (List Int)} {va vb v : Nat} {aa ab f x : Int} (h : x ∈ betL rs va aa vb ab f v) : x ∈ lat rs v ∨ (x = f ∧ v = va) ∨ (x = f + 1 ∧ v = vb) := by
  have hA : ∀ y, y ∈ betA rs va aa f v → y ∈ lat rs v ∨ (y = f ∧ v = va) := fun y hy => by
    unfold betA at hy
    by_cases e : v = va
    · subst e
      rw [upd_same] at hy
      rcases List.mem_cons.1 ((putL_perm _ _ _).mem_iff.1 hy) with h1 | h1
      · exact Or.inr ⟨h1, rfl⟩
      · exact Or.inl h1
    · rw [upd_other _ _ e] at hy; exact Or.inl hy
  unfold betL at h
  by_cases e : v = vb
  · subst e
    rw [upd_same] at h
    rcases List.mem_cons.1 ((putL_perm _ _ _).mem_iff.1 h) with h1 | h1
    · exact Or.inr (Or.inr ⟨h1, rfl⟩)
    · exact (hA x h1).imp id Or.inl
  · rw [upd_other _ _ e] at h
    exact (hA x h).imp id Or.inl
/-- The net with an edge more. -/
def layN (es : List Pt) (va vb : Nat) : List Pt := es ++ [⟨(va : Int), (vb : Int)⟩]
theorem layN_length (es : List Pt) (va vb : Nat) : (layN es va vb).length = es.length + 1 := by simp [layN]
theorem layN_at {es : List Pt} {va vb j : Nat} : at' (layN es va vb) j = if j < es.length then at' es j else if j = es.length then ⟨(va : Int), (vb : Int)⟩ else ⟨0, 0⟩ := by
  unfold layN at'
  rw [List.getD_eq_getElem?_getD, List.getElem?_append]
  split
  · rw [List.getD_eq_getElem?_getD]
  · by_cases e : j = es.length
    · subst e; simp
    · rw [if_neg e, List.getElem?_eq_none (by simp; omega)]; rfl
theorem from_lay {es : List Pt} {va vb x : Nat} : (x < 2 * es.length → fromL (layN es va vb) x = fromL es x) ∧ fromL (layN es va vb) (2 * es.length) = va ∧ fromL (layN es va vb) (2 * es.length + 1) = vb := by
  refine ⟨fun hx => ?_, ?_, ?_⟩
  · unfold fromL
    have e : at' (layN es va vb) (x / 2) = at' es (x / 2) := by rw [layN_at, if_pos (show x / 2 < es.length by omega)]
    rw [e]
  · unfold fromL
    rw [if_pos (by omega), layN_at, if_neg (by omega), if_pos (by omega)]
  · unfold fromL
    rw [if_neg (by omega), layN_at, if_neg (by omega), if_pos (by omega)]
theorem lay_net {n : Nat} {es : List Pt} {va vb : Nat} (hm : netB n es = true) (hva : va < n) (hvb : vb < n) : netB n (layN es va vb) = decide (es.length + 1 ≤ 3072) := by
  obtain ⟨n0, n1, hes, hE⟩ := netB_is hm
  by_cases h : es.length + 1 ≤ 3072
  · rw [decide_eq_true h]
    refine net_yes n0 (by rw [layN_length]; simp [fitsB]; omega) fun j hj => ?_
    rw [layN_length] at hj
    rw [layN_at]
    by_cases h1 : j < es.length
    · rw [if_pos h1]
      obtain ⟨a, b, c, d⟩ := hE j h1
      simp [edB, belowB, a, b, c, d]
    · rw [if_neg h1, if_pos (by omega)]
      simp [edB, belowB]
      omega
  · rw [decide_eq_false h]
    cases hb : netB n (layN es va vb)
    · rfl
    · have := (netB_is hb).2.2.1
      rw [layN_length] at this
      omega
theorem lay_holds {n : Nat} {es : List Pt} {rs : List (List Int)} {va vb : Nat} {aa ab : Int} (h : holdsP es rs) (hl : rs.length = n) (hva : va < n) (hvb : vb < n) : holdsP (layN es va vb) (betR rs va aa vb ab (2 * es.length : Nat)) := by
  obtain ⟨h1, h2, h3⟩ := holds_iff.1 h
  have hp := betR_perm (rs := rs) (va := va) (vb := vb) (aa := aa) (ab := ab) (f := ((2 * es.length : Nat) : Int)) (by omega) (by omega)
  have hin : ∀ y ∈ rs.flatten, 0 ≤ y ∧ y < 2 * es.length := fun y hy => by
    obtain ⟨L, hL, hyl⟩ := List.mem_flatten.1 hy
    obtain ⟨u, hu, e⟩ := List.mem_iff_getElem.1 hL
    have := h1 u hu y (by rw [lat_get hu, e]; exact hyl)
    omega
  obtain ⟨f1, f2, f3⟩ := from_lay (es := es) (va := va) (vb := vb) (x := 0)
  refine holds_iff.2 ⟨fun v hv x hx => ?_, hp.nodup_iff.2 ?_, ?_⟩
  · rw [betR_length] at hv
    rw [betR_at hv] at hx
    rw [layN_length]
    rcases betL_mem hx with hx | ⟨e, hx⟩ | ⟨e, hx⟩
    · obtain ⟨b1, b2, b3⟩ := h1 v hv x hx
      refine ⟨b1, by omega, ?_⟩
      rw [(from_lay (x := x.toNat)).1 (by omega)]
      exact b3
    · refine ⟨by omega, by omega, ?_⟩
      rw [e, Int.toNat_natCast, f2, hx]
    · refine ⟨by omega, by omega, ?_⟩
      rw [e, show (((2 * es.length : Nat) : Int) + 1).toNat = 2 * es.length + 1 by omega, f3, hx]
  · rw [List.nodup_cons, List.nodup_cons]
    refine ⟨fun hm => ?_, fun hm => ?_, h2⟩
    · rcases List.mem_cons.1 hm with e | hm
      · omega
      · have := hin _ hm; omega
    · have := hin _ hm; omega
  · rw [hp.length_eq, layN_length, List.length_cons, List.length_cons, h3]
    omega
theorem lay_rot {n : Nat} {es : List Pt} {rs : List (List Int)} {va vb : Nat} {aa ab : Int} (h : rotI n es rs = 0) (hva : va < n) (hvb : vb < n) (hm : netB n (layN es va vb) = true) : rotI n (layN es va vb) (betR rs va aa vb ab (2 * es.length : Nat)) = 0 := by
  obtain ⟨h1, h2, h3⟩ := rot_is h
  unfold rotI holdsB
  rw [if_pos hm, if_pos (by rw [betR_length]; exact h2), decide_eq_true (lay_holds h3 (by omega) hva hvb)]
  rfl
end Go.Proofs.Ytcgdmonejogbaaa
namespace Go.Proofs.Ytcgdmonejogbaaa
open Go.RowKit Go.Sort
open Go
set_option maxRecDepth 100000 in
set_option maxHeartbeats 8000000 in
theorem clone50 (p : Option Addr) (l : List Pt) (c : Nat) (w : World) (m : Has w p l) (hnil : p = none → c = 0) (hl : l.length ≤ 90000) : Calls Try.prog 50 #[.slice p l.length c] w fun e w' => ∃ v, e = .returned v ∧ Owns w' w.heap.size v l ∧ Below w.heap.size w w' := by
  have hq := Lib.run_eql_slice_nil (P := Try.prog) w 22 64 p l.length c 0 0 Try.underlying22
  cases p with
  | none =>
    have hl0 : l = [] := by
      rcases m with h | ⟨b, off, h, _⟩
      · exact h
      · cases h
    subst hl0
    clear m hnil
    simp only [List.length_nil] at hq ⊢
    go_enter Try.func50, Try.ntmps50
    go_wp2
    go_ret
    exact ⟨_, rfl, World.ownsRow_nil _ _ _ _, Below.refl _ _⟩
  | some ad =>
    have hb0 : Below w.heap.size w (w.alloc (.cells #[] 64)) := by go_grown
    have o0 : Owns (w.alloc (.cells #[] 64)) w.heap.size (.slice (some ⟨w.heap.size, 0, none⟩) 0 0) [] := ⟨rfl, Or.inr ⟨w.heap.size, 0, #[], rfl, Nat.le_refl _, (by show (w.heap.push _)[w.heap.size]? = _; rw [Array.getElem?_push, if_pos rfl]), Nat.le_refl _, Nat.zero_le _, rfl, rfl⟩⟩
    obtain ⟨v1, D, ea, o1, g1⟩ := append_prs o0 (some ad) c l hnil (m.later hb0) hb0.size (by simp; omega)
    rw [List.nil_append] at o1
    have HB : Hid (Below w.heap.size w D) := below_grown hb0 o0 (Nat.le_refl _) hb0.size g1
    have HO := hide o1
    clear m hnil o0 o1 g1 hb0
    go_enter Try.func50, Try.ntmps50
    go_wp2_with (at_builtin; refine wpList_run_append rfl (.tmp 5) (.tmp 6) 22 rfl 22 rfl _ _ _ D rfl rfl ea ?_)
    go_ret
    exact ⟨_, rfl, HO.out, HB.out⟩
end Go.Proofs.Ytcgdmonejogbaaa
