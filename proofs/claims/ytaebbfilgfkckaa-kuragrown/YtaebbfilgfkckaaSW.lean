/- A net with an edge split (carried from the net seat). -/
import Derived.Test.YtaebbfilgfkckaaKG4
import Derived.Test.YtaebbfilgfkckaaT2
namespace Go.Proofs.Ytaebbfilgfkckaa
open Go.RowKit Go.Sort
open Go

theorem at_set_lt {l : List Pt} {i j : Nat} {p : Pt} (h : j < l.length) : at' (l.set i p) j = if i = j then p else at' l j := at_set l i j p h
/-- Where an edge is split: itself, the new one, and the others. -/
theorem split_atW (m : Int) (es : List Pt) {a : Nat} (ha : a < es.length) : at' (splitL m es a) a = ⟨(at' es a).x, m⟩ ∧ at' (splitL m es a) es.length = ⟨m, (at' es a).y⟩ ∧ ∀ i, i < es.length → i ≠ a → at' (splitL m es a) i = at' es i := by
  have hl : (es ++ [(⟨0, 0⟩ : Pt)]).length = es.length + 1 := by simp
  unfold splitL
  refine ⟨?_, ?_, fun i hi hne => ?_⟩
  · rw [at_set_lt (by rw [List.length_set, hl]; omega), if_neg (by omega), at_set_lt (by rw [hl]; omega), if_pos rfl]
  · rw [at_set_lt (by rw [List.length_set, hl]; omega), if_pos rfl]
  · rw [at_set_lt (by rw [List.length_set, hl]; omega), if_neg (by omega), at_set_lt (by rw [hl]; omega), if_neg (fun e => hne e.symm)]
    unfold at'
    rw [List.getD_eq_getElem?_getD, List.getD_eq_getElem?_getD, List.getElem?_append_left hi]
end Go.Proofs.Ytaebbfilgfkckaa
namespace Go.Proofs.Ytaebbfilgfkckaa
open Go.RowKit Go.Sort
open Go
theorem split_net {es : List Pt} {m : Nat} {a : Nat} (hm : netB m es = true) (ha : a < es.length) (h1 : m + 1 ≤ 1024) (h2 : es.length + 1 ≤ 3072) : netB ((m : Int) + 1) (splitL m es a) = true := by
  obtain ⟨n0, n1, hes, hE⟩ := netB_is hm
  obtain ⟨s1, s2, s3⟩ := split_atW m es ha
  refine net_yes (by omega) (by rw [splitL_length]; simp [fitsB]; omega) (fun j hj => ?_)
  rw [splitL_length] at hj
  simp only [edB, belowB, Bool.and_eq_true, decide_eq_true_eq]
  by_cases e1 : j = a
  · rw [e1, s1]; have := hE a ha; simp only; omega
  · by_cases e2 : j = es.length
    · rw [e2, s2]; have := hE a ha; simp only; omega
    · rw [s3 j (by omega) e1]; have := hE j (by omega); omega
/-- How many ends of an edge are at a node. -/
def cE (p : Pt) (v : Int) : Nat := (if p.x = v then 1 else 0) + (if p.y = v then 1 else 0)
theorem dgL_set : ∀ {l : List Pt} {i : Nat} (_ : i < l.length) (q : Pt) (v : Int), dgL (l.set i q) v + cE (at' l i) v = dgL l v + cE q v
  | [], i, h, _, _ => by simp at h
  | p :: ps, 0, _, q, v => by
    show dgL (q :: ps) v + cE p v = dgL (p :: ps) v + cE q v
    simp only [dgL, cE]
    omega
  | p :: ps, i + 1, h, q, v => by
    have ih := dgL_set (l := ps) (i := i) (by simpa using h) q v
    show dgL (p :: ps.set i q) v + cE (at' ps i) v = dgL (p :: ps) v + cE q v
    simp only [dgL]
    omega
theorem splitL_app (m : Int) (es : List Pt) {a : Nat} (ha : a < es.length) : splitL m es a = es.set a ⟨(at' es a).x, m⟩ ++ [⟨m, (at' es a).y⟩] := by
  unfold splitL
  rw [List.set_append_left _ _ ha, List.set_append_right _ _ (by rw [List.length_set]; omega), List.length_set, Nat.sub_self]
  rfl
theorem dgL_out {n : Int} {pk : List Pt} (hm : netB n pk = true) {v : Int} (hv : v < 0 ∨ n ≤ v) : dgL pk v = 0 := by
  have hE := (netB_is hm).2.2.2
  have hin : ∀ p ∈ pk, 0 ≤ p.x ∧ p.x < n ∧ 0 ≤ p.y ∧ p.y < n := fun p hp => by
    obtain ⟨i, hi, e⟩ := List.getElem_of_mem hp
    have := hE i hi
    rw [at_get hi, e] at this
    exact this
  clear hE hm
  induction pk with
  | nil => rfl
  | cons p ps ih =>
    have := hin p List.mem_cons_self
    simp only [dgL]
    rw [ih fun q hq => hin q (List.mem_cons_of_mem _ hq), if_neg (by omega), if_neg (by omega)]
theorem dgL_split {n : Nat} {pk : List Pt} (hm : netB n pk = true) {a : Nat} (ha : a < pk.length) (v : Int) : dgL (splitL n pk a) v = dgL pk v + if v = n then 2 else 0 := by
  have h0 := dgL_out hm (v := (n : Int)) (Or.inr (Int.le_refl _))
  obtain ⟨_, _, _, hE⟩ := netB_is hm
  obtain ⟨x0, x1, y0, y1⟩ := hE a ha
  rw [splitL_app _ _ ha, dgL_append]
  have h1 := dgL_set ha ⟨(at' pk a).x, (n : Int)⟩ v
  simp only [dgL, cE] at h1 ⊢
  by_cases e : v = n
  · subst e
    rw [h0, if_neg (show ¬ (at' pk a).x = (n : Int) by omega), if_neg (show ¬ (at' pk a).y = (n : Int) by omega)] at h1
    rw [h0, if_neg (show ¬ (at' pk a).y = (n : Int) by omega)]
    simp at h1 ⊢
    omega
  · rw [if_neg (show ¬ (n : Int) = v from fun e' => e e'.symm)] at h1 ⊢
    rw [if_neg e]
    omega
/-- An edge of it is split. -/
theorem SubI.split {n : Nat} {pk : List Pt} {b dg : Nat} {js : List Pt} {Ps : List (List Nat)} (hS : SubI n pk b dg js Ps) {a : Nat} (ha : a < pk.length) (h1 : n + 1 ≤ 1024) (h2 : pk.length + 1 ≤ 3072) : ∃ Ps', SubI (n + 1) (splitL n pk a) b dg js Ps' := by
  obtain ⟨s1, s2, s3⟩ := split_atW (n : Int) pk ha
  obtain ⟨f, hf⟩ : ∃ f : Nat → List Nat, ∀ h, (h / 2 = a → h % 2 = 0 → f h = [2 * a, 2 * pk.length]) ∧ (h / 2 = a → h % 2 = 1 → f h = [2 * pk.length + 1, 2 * a + 1]) ∧ (h / 2 ≠ a → f h = [h]) :=
    ⟨fun h => if h / 2 = a then (if h % 2 = 0 then [2 * a, 2 * pk.length] else [2 * pk.length + 1, 2 * a + 1]) else [h], fun h => ⟨fun e1 e2 => by show (if h / 2 = a then _ else _) = _; rw [if_pos e1, if_pos e2], fun e1 e2 => by show (if h / 2 = a then _ else _) = _; rw [if_pos e1, if_neg (by omega)], fun e => if_neg e⟩⟩
  refine ⟨Ps.map fun P => P.flatMap f, ?_, by have := hS.bn; omega, by rw [List.length_map]; exact hS.len, ?_, fun i hi => ?_, fun v hv => ?_, fun v hv => ?_⟩
  · have := split_net hS.net ha h1 h2
    exact this
  · rw [flat_map_flat, splitL_length]
    have key : ∀ (L : List Nat), (L.map (· / 2)).Nodup → ((L.flatMap f).map (· / 2)).Perm (if a ∈ L.map (· / 2) then pk.length :: L.map (· / 2) else L.map (· / 2)) := by
      intro L
      induction L with
      | nil => intro _; rw [if_neg (by simp)]; exact List.Perm.refl _
      | cons x xs ih =>
        intro hn
        rw [List.map_cons, List.nodup_cons] at hn
        have ih := ih hn.2
        rw [List.flatMap_cons, List.map_append, List.map_cons]
        by_cases e : x / 2 = a
        · have hna : a ∉ xs.map (· / 2) := by rw [← e]; exact hn.1
          rw [if_neg hna] at ih
          rw [if_pos (by rw [e]; exact List.mem_cons_self), e]
          rcases (by omega : x % 2 = 0 ∨ x % 2 = 1) with e2 | e2
          · rw [(hf x).1 e e2]
            show ([2 * a / 2, 2 * pk.length / 2] ++ _).Perm _
            rw [show 2 * a / 2 = a by omega, show 2 * pk.length / 2 = pk.length by omega]
            exact (List.Perm.swap _ _ _).trans ((List.Perm.cons _ (List.Perm.cons _ ih)))
          · rw [(hf x).2.1 e e2]
            show ([(2 * pk.length + 1) / 2, (2 * a + 1) / 2] ++ _).Perm _
            rw [show (2 * a + 1) / 2 = a by omega, show (2 * pk.length + 1) / 2 = pk.length by omega]
            exact List.Perm.cons _ (List.Perm.cons _ ih)
        · rw [(hf x).2.2 e]
          show ([x / 2] ++ _).Perm _
          by_cases hm : a ∈ xs.map (· / 2)
          · rw [if_pos hm] at ih
            rw [if_pos (List.mem_cons_of_mem _ hm)]
            exact (List.Perm.cons _ ih).trans (List.Perm.swap _ _ _)
          · rw [if_neg hm] at ih
            rw [if_neg (by rw [List.mem_cons]; exact fun h => h.elim (fun h => e h.symm) hm)]
            exact List.Perm.cons _ ih
    have hk := key Ps.flatten (hS.cover.nodup_iff.2 List.nodup_range)
    rw [if_pos (hS.cover.mem_iff.2 (List.mem_range.2 ha))] at hk
    refine hk.trans ((List.Perm.cons _ hS.cover).trans ?_)
    rw [List.range_succ]
    exact (List.perm_append_comm (l₁ := [pk.length]) (l₂ := List.range pk.length))
  · rw [flat_map_getD]
    refine Pth.over (fun h hh => ?_) (hS.path i hi) (fun x hx => hS.low hx)
    by_cases e : h / 2 = a
    · have hb : (b : Int) ≤ n := by have := hS.bn; omega
      have fa : fromL (splitL n pk a) (2 * a) = (at' pk a).x ∧ toL (splitL n pk a) (2 * a) = n := by
        unfold fromL toL
        rw [if_pos (by omega), if_pos (by omega), show 2 * a / 2 = a by omega, s1]
        exact ⟨rfl, rfl⟩
      have fa1 : fromL (splitL n pk a) (2 * a + 1) = n ∧ toL (splitL n pk a) (2 * a + 1) = (at' pk a).x := by
        unfold fromL toL
        rw [if_neg (by omega), if_neg (by omega), show (2 * a + 1) / 2 = a by omega, s1]
        exact ⟨rfl, rfl⟩
      have fm : fromL (splitL n pk a) (2 * pk.length) = n ∧ toL (splitL n pk a) (2 * pk.length) = (at' pk a).y := by
        unfold fromL toL
        rw [if_pos (by omega), if_pos (by omega), show 2 * pk.length / 2 = pk.length by omega, s2]
        exact ⟨rfl, rfl⟩
      have fm1 : fromL (splitL n pk a) (2 * pk.length + 1) = (at' pk a).y ∧ toL (splitL n pk a) (2 * pk.length + 1) = n := by
        unfold fromL toL
        rw [if_neg (by omega), if_neg (by omega), show (2 * pk.length + 1) / 2 = pk.length by omega, s2]
        exact ⟨rfl, rfl⟩
      rcases (by omega : h % 2 = 0 ∨ h % 2 = 1) with e2 | e2
      · rw [(hf h).1 e e2]
        have hx : fromL pk h = (at' pk a).x ∧ toL pk h = (at' pk a).y := by unfold fromL toL; rw [if_pos e2, if_pos e2, e]; exact ⟨rfl, rfl⟩
        rw [hx.1, hx.2]
        exact ⟨fa.1, by rw [fa.2]; exact hb, by rw [fa.2]; exact fm.1, fm.2⟩
      · rw [(hf h).2.1 e e2]
        have hx : fromL pk h = (at' pk a).y ∧ toL pk h = (at' pk a).x := by unfold fromL toL; rw [if_neg (by omega), if_neg (by omega), e]; exact ⟨rfl, rfl⟩
        rw [hx.1, hx.2]
        exact ⟨fm1.1, by rw [fm1.2]; exact hb, by rw [fm1.2]; exact fa1.1, fa1.2⟩
    · rw [(hf h).2.2 e]
      have := s3 (h / 2) (by omega) e
      unfold Pth fromL toL
      rw [this]
      exact ⟨rfl, rfl⟩
  · rw [dgL_split hS.net ha, hS.degB v hv, if_neg (by have := hS.bn; omega), Nat.add_zero]
  · rw [dgL_split hS.net ha]
    by_cases e : (v : Int) = n
    · rw [if_pos e, e, dgL_out hS.net (Or.inr (Int.le_refl _))]
      exact Or.inr rfl
    · rw [if_neg e, Nat.add_zero]
      exact hS.degO v hv
end Go.Proofs.Ytaebbfilgfkckaa
