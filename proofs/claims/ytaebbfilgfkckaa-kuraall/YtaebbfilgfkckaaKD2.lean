/- Pure: an edge laid in, apart from all paths, changes no path but the numbers of its half-edges. -/
import Derived.Test.YtaebbfilgfkckaaKD1
namespace Go.Proofs.Ytaebbfilgfkckaa
open Go.RowKit Go.Sort
open Go
/-- A half-edge's number behind an edge laid in. -/
def ph (j h : Nat) : Nat := if h < 2 * j then h else h + 2
def phI (j : Nat) (x : Int) : Int := (ph j x.toNat : Nat)
theorem ph_inj {j a b : Nat} (h : ph j a = ph j b) : a = b := by unfold ph at h; split at h <;> split at h <;> omega
theorem ph_lt {j m h : Nat} (hh : h < 2 * m) : ph j h < 2 * (m + 1) := by unfold ph; split <;> omega
theorem tw_ph (j h : Nat) : tw (ph j h) = ph j (tw h) := by
  unfold tw ph
  repeat' split
  all_goals omega
theorem ins_at {pk : List Pt} {j : Nat} {q : Pt} (hj : j ≤ pk.length) (i : Nat) : at' (insE pk j q) i = if i < j then at' pk i else if i = j then q else at' pk (i - 1) := by
  unfold at' insE
  rw [List.getD_eq_getElem?_getD, List.getD_eq_getElem?_getD, List.getD_eq_getElem?_getD]
  by_cases h1 : i < j
  · rw [if_pos h1, List.getElem?_append_left (by rw [List.length_take]; omega), List.getElem?_take_of_lt h1]
  · rw [if_neg h1, List.getElem?_append_right (by rw [List.length_take]; omega), List.length_take, Nat.min_eq_left hj]
    by_cases h2 : i = j
    · subst h2; rw [if_pos rfl, Nat.sub_self]; rfl
    · rw [if_neg h2]
      obtain ⟨k, rfl⟩ : ∃ k, i = j + k + 1 := ⟨i - j - 1, by omega⟩
      rw [show j + k + 1 - j = k + 1 by omega, List.getElem?_cons_succ, List.getElem?_drop, show j + k + 1 - 1 = j + k by omega]
theorem ins_from {pk : List Pt} {j : Nat} {q : Pt} (hj : j ≤ pk.length) (h : Nat) : fromL (insE pk j q) (ph j h) = fromL pk h ∧ toL (insE pk j q) (ph j h) = toL pk h := by
  have e : at' (insE pk j q) (ph j h / 2) = at' pk (h / 2) := by
    rw [ins_at hj]
    unfold ph
    by_cases h1 : h < 2 * j
    · rw [if_pos h1, if_pos (by omega)]
    · rw [if_neg h1, if_neg (by omega), if_neg (by omega), show (h + 2) / 2 - 1 = h / 2 by omega]
  have e2 : ph j h % 2 = h % 2 := by unfold ph; split <;> omega
  unfold fromL toL
  rw [e, e2]
  exact ⟨rfl, rfl⟩
theorem ins_new {pk : List Pt} {j : Nat} {q : Pt} (hj : j ≤ pk.length) : fromL (insE pk j q) (2 * j) = q.x ∧ fromL (insE pk j q) (2 * j + 1) = q.y := by
  unfold fromL
  rw [if_pos (by omega), if_neg (by omega), ins_at hj, ins_at hj, if_neg (by omega), if_pos (by omega), if_neg (by omega), if_pos (by omega)]
  exact ⟨rfl, rfl⟩
theorem ow_ins {pk : List Pt} {j : Nat} {q : Pt} (hj : j ≤ pk.length) {u : Nat} (h1 : q.x ≠ u) (h2 : q.y ≠ u) : ow (insE pk j q) u = (ow pk u).map (phI j) := by
  obtain ⟨n1, n2⟩ := ins_new (q := q) hj
  show outL _ _ _ = (outL _ _ _).map _
  unfold outL
  rw [insE_length, show 2 * (pk.length + 1) = 2 * j + (2 + 2 * (pk.length - j)) by omega, List.range_add, List.range_add, show 2 * pk.length = 2 * j + 2 * (pk.length - j) by omega, List.range_add]
  simp only [List.map_append, List.filter_append, List.map_map]
  congr 1
  · have hf : (List.range (2 * j)).filter (fun k => decide (fromL (insE pk j q) k = (u : Int))) = (List.range (2 * j)).filter (fun k => decide (fromL pk k = (u : Int))) := List.filter_congr fun k hk => by
      have hk := List.mem_range.1 hk
      have := (ins_from (q := q) hj k).1
      rw [show ph j k = k by unfold ph; rw [if_pos hk]] at this
      rw [this]
    rw [hf]
    refine List.map_congr_left fun k hk => ?_
    have hk := List.mem_range.1 (List.mem_filter.1 hk).1
    show (k : Int) = ((ph j ((k : Int).toNat) : Nat) : Int)
    rw [Int.toNat_natCast]
    unfold ph; rw [if_pos hk]
  · have hz : (((List.range 2).map fun x => 2 * j + x).filter fun k => decide (fromL (insE pk j q) k = (u : Int))) = [] := by
      rw [List.filter_eq_nil_iff]
      intro k hk
      obtain ⟨x, hx, rfl⟩ := List.mem_map.1 hk
      have hx := List.mem_range.1 hx
      rcases (by omega : x = 0 ∨ x = 1) with rfl | rfl
      · rw [Nat.add_zero, n1]; simpa using h1
      · rw [n2]; simpa using h2
    rw [hz, List.map_nil, List.nil_append, List.filter_map, List.filter_map, List.map_map]
    have hf : (List.range (2 * (pk.length - j))).filter ((fun k => decide (fromL (insE pk j q) k = (u : Int))) ∘ ((fun x => 2 * j + x) ∘ fun x => 2 + x)) = (List.range (2 * (pk.length - j))).filter ((fun k => decide (fromL pk k = (u : Int))) ∘ fun x => 2 * j + x) := List.filter_congr fun k _ => by
      have := (ins_from (q := q) hj (2 * j + k)).1
      rw [show ph j (2 * j + k) = 2 * j + (2 + k) by unfold ph; rw [if_neg (by omega)]; omega] at this
      show decide (fromL (insE pk j q) (2 * j + (2 + k)) = _) = decide (fromL pk (2 * j + k) = _)
      rw [this]
    rw [hf, List.map_map]
    refine List.map_congr_left fun k _ => ?_
    show ((2 * j + (2 + k) : Nat) : Int) = ((ph j ((2 * j + k : Nat) : Int).toNat : Nat) : Int)
    rw [Int.toNat_natCast]
    unfold ph; rw [if_neg (by omega)]; omega
theorem dgL_mem {v : Int} : ∀ {pk : List Pt}, dgL pk v = 0 → ∀ p ∈ pk, p.x ≠ v ∧ p.y ≠ v
  | [], _, p, hp => by cases hp
  | a :: ps, h, p, hp => by
    simp only [dgL] at h
    rcases List.mem_cons.1 hp with rfl | hm
    · constructor
      · intro e; rw [if_pos e] at h; omega
      · intro e; rw [if_pos e] at h; omega
    · exact dgL_mem (by omega) p hm
theorem dgL_to {pk : List Pt} {v : Int} (h : dgL pk v = 0) {k : Nat} (hk : k < 2 * pk.length) : fromL pk k ≠ v ∧ toL pk k ≠ v := by
  have hi : k / 2 < pk.length := by omega
  have := dgL_mem h (at' pk (k / 2)) (by rw [at_get hi]; exact List.getElem_mem hi)
  unfold fromL toL
  split
  · exact ⟨this.1, this.2⟩
  · exact ⟨this.2, this.1⟩
section
variable {n : Nat} {pk : List Pt} {j v : Nat} (hm : netB n pk = true) (hj : j ≤ pk.length) (hv : dgL pk (v : Int) = 0)
include hm hj hv
theorem tN_ins {h : Nat} (hh : h < 2 * pk.length) : tN (insE pk j ⟨v, v⟩) (ph j h) = tN pk h ∧ (v : Int) ≠ (tN pk h : Nat) := by
  unfold tN
  rw [(ins_from hj h).2]
  have := (dgL_to hv hh).2
  have := toL_in hm h hh
  exact ⟨rfl, by omega⟩
theorem ow_ins' {h : Nat} (hh : h < 2 * pk.length) : ow (insE pk j ⟨v, v⟩) (tN (insE pk j ⟨v, v⟩) (ph j h)) = (ow pk (tN pk h)).map (phI j) := by
  obtain ⟨e, hne⟩ := tN_ins hm hj hv hh
  rw [e]
  exact ow_ins hj hne hne
theorem goes_ins {h : Nat} (hh : h < 2 * pk.length) : Goes (insE pk j ⟨v, v⟩) (ph j h) ↔ Goes pk h := by
  unfold Goes
  rw [ow_ins' hm hj hv hh, List.length_map]
theorem nx_ins {h : Nat} (hh : h < 2 * pk.length) (hg : Goes pk h) : nx (insE pk j ⟨v, v⟩) (ph j h) = ph j (nx pk h) := by
  unfold nx
  rw [ow_ins' hm hj hv hh, tw_ph]
  obtain ⟨a, b, ha, hb, _, _, _, _, _⟩ := ow_two hg
  have hl : (ow pk (tN pk h)).length = 2 := hg
  have m0 : iat ((ow pk (tN pk h)).map (phI j)) 0 = (ph j a : Nat) := by
    unfold iat at ha ⊢
    rw [List.getD_eq_getElem?_getD, List.getElem?_map, List.getElem?_eq_getElem (by omega)]
    rw [List.getD_eq_getElem?_getD, List.getElem?_eq_getElem (by omega)] at ha
    simp only [Option.getD_some] at ha
    simp only [Option.map_some, Option.getD_some, ha, phI, Int.toNat_natCast]
  have m1 : iat ((ow pk (tN pk h)).map (phI j)) 1 = (ph j b : Nat) := by
    unfold iat at hb ⊢
    rw [List.getD_eq_getElem?_getD, List.getElem?_map, List.getElem?_eq_getElem (by omega)]
    rw [List.getD_eq_getElem?_getD, List.getElem?_eq_getElem (by omega)] at hb
    simp only [Option.getD_some] at hb
    simp only [Option.map_some, Option.getD_some, hb, phI, Int.toNat_natCast]
  unfold besI
  rw [m0, m1, ha, hb]
  by_cases e : a = tw h
  · rw [if_pos (by rw [e]), if_pos (by rw [e])]; simp
  · rw [if_neg (fun e' => e (ph_inj (j := j) (by omega))), if_neg (by omega)]; simp
theorem it_ins {h : Nat} (hh : h < 2 * pk.length) : ∀ {i : Nat}, Runs pk h i → itN (insE pk j ⟨v, v⟩) (ph j h) i = ph j (itN pk h i)
  | 0, _ => rfl
  | i + 1, hr => by
    have hr' : Runs pk h i := fun x hx => hr x (by omega)
    show nx _ (itN _ _ i) = ph j (nx pk (itN pk h i))
    rw [it_ins hh hr']
    exact nx_ins hm hj hv (it_lt hm hh hr') (hr i (by omega))
theorem fin_ins : ∀ (k : Nat) {h : Nat}, h < 2 * pk.length → fin (insE pk j ⟨v, v⟩) k (ph j h) = fin pk k h
  | 0, _, _ => rfl
  | k + 1, h, hh => by
    unfold fin
    by_cases hg : Goes pk h
    · rw [if_pos hg, if_pos ((goes_ins hm hj hv hh).2 hg), nx_ins hm hj hv hh hg, fin_ins k (nx_is hm hh hg).2.1]
    · rw [if_neg hg, if_neg fun e => hg ((goes_ins hm hj hv hh).1 e)]
end
theorem fin_stop {es : List Pt} : ∀ (k h : Nat), fin es k h < k → ¬ Goes es (itN es h (fin es k h))
  | 0, h, hlt => by omega
  | k + 1, h, hlt => by
    unfold fin at hlt ⊢
    by_cases hg : Goes es h
    · rw [if_pos hg] at hlt ⊢
      rw [← it_next]
      exact fin_stop k (nx es h) (by omega)
    · rw [if_neg hg]; exact hg
/-- More fuel changes nothing. -/
theorem fin_more {n : Nat} {es : List Pt} (hm : netB n es = true) {h : Nat} (hl : h < 2 * es.length) (hb : (ow es (fromL es h).toNat).length ≠ 2) {k : Nat} (hk : 2 * es.length ≤ k) : fin es k h = fin es (2 * es.length) h := by
  have h1 := runs_lt hm hl hb (fin_runs es (2 * es.length) h)
  exact fin_is _ k h (fin_runs es (2 * es.length) h) (fin_stop _ _ h1) (by omega)
end Go.Proofs.Ytaebbfilgfkckaa
