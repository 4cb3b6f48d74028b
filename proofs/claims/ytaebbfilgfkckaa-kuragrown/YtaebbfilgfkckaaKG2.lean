/- Pure: edges that lie in paths between branch nodes, as K5 or K3,3 asks, are told as what they are. -/
import Derived.Test.YtaebbfilgfkckaaKG1
namespace Go.Proofs.Ytaebbfilgfkckaa
open Go.RowKit Go.Sort
open Go
/-- All edges lie in paths, one for each pair of places, between the nodes below b, which have the degree dg. -/
structure SubI (n : Nat) (pk : List Pt) (b dg : Nat) (js : List Pt) (Ps : List (List Nat)) : Prop where
  net : netB n pk = true
  bn : b ≤ n
  len : Ps.length = js.length
  cover : (Ps.flatten.map (· / 2)).Perm (List.range pk.length)
  path : ∀ i, i < js.length → Pth pk b (at' js i).x (at' js i).y (Ps.getD i [])
  degB : ∀ v : Nat, v < b → dgL pk v = dg
  degO : ∀ v : Nat, b ≤ v → dgL pk v = 0 ∨ dgL pk v = 2
theorem Pth.first {pk : List Pt} {b : Int} : ∀ {Q : List Nat} {u v : Int} {g : Nat}, Pth pk b u v Q → g ∈ Q → fromL pk g < b → ∃ t, Q = g :: t
  | [], _, _, _, hp, _, _ => hp.elim
  | [a], _, _, g, _, hg, _ => ⟨[], by rw [List.mem_singleton.1 hg]⟩
  | a :: a' :: t, u, v, g, hp, hg, hb => by
    rcases List.mem_cons.1 hg with rfl | hg
    · exact ⟨_, rfl⟩
    · obtain ⟨t', e⟩ := Pth.first hp.2.2 hg hb
      have := hp.2.2
      rw [e] at this
      have h1 := this.head
      have h2 := hp.2.1
      omega
theorem flat_mem {Ps : List (List Nat)} {g : Nat} (h : g ∈ Ps.flatten) : ∃ i, i < Ps.length ∧ g ∈ Ps.getD i [] := by
  obtain ⟨P, hP, hg⟩ := List.mem_flatten.1 h
  obtain ⟨i, hi, e⟩ := List.getElem_of_mem hP
  refine ⟨i, hi, ?_⟩
  rw [List.getD_eq_getElem?_getD, List.getElem?_eq_getElem hi, Option.getD_some, e]
  exact hg
theorem flat_of {Ps : List (List Nat)} {g i : Nat} (hg : g ∈ Ps.getD i []) : g ∈ Ps.flatten := by
  by_cases hi : i < Ps.length
  · rw [List.getD_eq_getElem?_getD, List.getElem?_eq_getElem hi, Option.getD_some] at hg
    exact List.mem_flatten.2 ⟨_, List.getElem_mem hi, hg⟩
  · rw [List.getD_eq_getElem?_getD, List.getElem?_eq_none (by omega)] at hg
    cases hg
theorem flat_nodup : ∀ {Ps : List (List Nat)}, (Ps.flatten.map (· / 2)).Nodup → ∀ i, ((Ps.getD i []).map (· / 2)).Nodup
  | [], _, i => by simp
  | P :: Ps, h, i => by
    rw [List.flatten_cons, List.map_append, List.nodup_append] at h
    cases i with
    | zero => exact h.1
    | succ i => rw [List.getD_cons_succ]; exact flat_nodup h.2.1 i
section
variable {n : Nat} {pk : List Pt} {b dg : Nat} {js : List Pt} {Ps : List (List Nat)} (hS : SubI n pk b dg js Ps) (hd : 3 ≤ dg)
include hS
theorem SubI.low {i x : Nat} (hx : x ∈ Ps.getD i []) : x < 2 * pk.length := by
  have h1 : x / 2 ∈ Ps.flatten.map (· / 2) := List.mem_map_of_mem (flat_of hx)
  have := List.mem_range.1 (hS.cover.mem_iff.1 h1)
  omega
theorem SubI.once (i : Nat) : ((Ps.getD i []).map (· / 2)).Nodup := flat_nodup (hS.cover.nodup_iff.2 List.nodup_range) i
theorem SubI.ow_len {v : Nat} (hv : v < n) : (ow pk v).length = dgL pk v := by
  have h1 := deg_all hS.net hv
  rw [deg_dgL hS.net hv] at h1
  omega
theorem SubI.deg_o (w : Nat) (h : (b : Int) ≤ w) (hw : w < n) : (ow pk w).length = 0 ∨ (ow pk w).length = 2 := by
  rw [hS.ow_len hw]
  exact hS.degO w (by omega)
include hd
theorem SubI.deg_b {v : Int} (h0 : 0 ≤ v) (hv : v < b) : (ow pk v.toNat).length ≠ 2 := by
  have := hS.bn
  rw [hS.ow_len (by omega), hS.degB _ (by omega)]
  omega
/-- A half-edge that leaves a branch node begins a path, or ends one, gone back. -/
theorem SubI.start (hjs : ∀ i, i < js.length → 0 ≤ (at' js i).x ∧ (at' js i).x < b ∧ 0 ≤ (at' js i).y ∧ (at' js i).y < b) {h : Nat} (hh : h < 2 * pk.length) (hb : fromL pk h < b) : ∃ i, i < js.length ∧ ((fromL pk h = (at' js i).x ∧ endI pk h = (at' js i).y ∧ folL pk h = (Ps.getD i []).map (fun (x : Nat) => (x : Int))) ∨ (fromL pk h = (at' js i).y ∧ endI pk h = (at' js i).x)) := by
  have h1 : h / 2 ∈ Ps.flatten.map (· / 2) := hS.cover.mem_iff.2 (List.mem_range.2 (by omega))
  obtain ⟨g, hg, e⟩ := List.mem_map.1 h1
  obtain ⟨i, hi, hgi⟩ := flat_mem hg
  rw [hS.len] at hi
  have hp := hS.path i hi
  obtain ⟨x0, x1, y0, y1⟩ := hjs i hi
  have hgh : h = g ∨ h = tw g := by
    have e' : g / 2 = h / 2 := e
    unfold tw; split <;> omega
  refine ⟨i, hi, ?_⟩
  rcases hgh with rfl | rfl
  · obtain ⟨t, et⟩ := hp.first hgi hb
    have hl := fun x hx => hS.low (i := i) (x := x) hx
    have ho := hS.once i
    rw [et] at hp hl ho
    obtain ⟨f1, f2⟩ := pth_end hS.net hS.deg_o (hS.deg_b hd y0 y1) hp hl ho
    exact Or.inl ⟨hp.head, f2, by rw [et]; exact f1⟩
  · have hr := hp.rev
    have hm : tw g ∈ (Ps.getD i []).reverse.map tw := List.mem_map_of_mem (List.mem_reverse.2 hgi)
    obtain ⟨t, et⟩ := hr.first hm hb
    have hl : ∀ x ∈ (Ps.getD i []).reverse.map tw, x < 2 * pk.length := fun x hx => by
      obtain ⟨y, hy, rfl⟩ := List.mem_map.1 hx
      exact tw_lt (hS.low (List.mem_reverse.1 hy))
    have ho : (((Ps.getD i []).reverse.map tw).map (· / 2)).Nodup := by
      rw [List.map_map, show ((· / 2) ∘ tw : Nat → Nat) = (· / 2) from funext fun k => by show tw k / 2 = k / 2; unfold tw; split <;> omega, List.map_reverse]
      exact (List.reverse_perm _).nodup_iff.2 (hS.once i)
    rw [et] at hr hl ho
    obtain ⟨_, f2⟩ := pth_end hS.net hS.deg_o (hS.deg_b hd x0 x1) hr hl ho
    exact Or.inr ⟨hr.head, f2⟩
end
theorem fol_ne (es : List Pt) (h : Nat) : folL es h ≠ [] := fun e => by
  have := fol_length es h
  rw [e] at this
  simp at this
theorem lyR_ne {es : List Pt} {v : Nat} {P : Pt → List Int} {p : Pt} : ∀ k, P p ≠ [] → lyR es v P k p ≠ []
  | 0, h => h
  | k + 1, h => by
    show updL _ _ _ p ≠ []
    unfold updL
    split
    · exact fol_ne _ _
    · exact lyR_ne k h
theorem lyR_laid {es : List Pt} {v : Nat} {P : Pt → List Int} {p : Pt} {j h : Nat} (hj : iat (ow es v) j = h) (hp : p = ⟨(v : Int), endI es h⟩) : ∀ k, j < k → lyR es v P k p ≠ []
  | 0, hk => by omega
  | k + 1, hk => by
    show updL _ _ _ p ≠ []
    unfold updL
    by_cases e : j = k
    · subst e
      rw [hj, Int.toNat_natCast, if_pos hp]
      exact fol_ne _ _
    · split
      · exact fol_ne _ _
      · exact lyR_laid hj hp k (by omega)
theorem lyB_ne {es : List Pt} {br : List Int} {p : Pt} {i : Nat} (h : lyB es br i p ≠ []) : ∀ k, i ≤ k → lyB es br k p ≠ []
  | 0, hk => by rw [show i = 0 by omega] at h; exact h
  | k + 1, hk => by
    by_cases e : i = k + 1
    · rw [← e]; exact h
    · exact lyR_ne _ (lyB_ne h k (by omega))
theorem lyB_laid {es : List Pt} {br : List Int} {u h i : Nat} (hi : i < br.length) (hu : iat br i = u) (hh : h < 2 * es.length) (hf : fromL es h = u) : lyB es br br.length ⟨(u : Int), endI es h⟩ ≠ [] := by
  obtain ⟨j, hj, e⟩ := outL_mem (es := es) (h := 2 * es.length) hh hf
  refine lyB_ne (i := i + 1) ?_ _ hi
  show lyR es (iat br i).toNat _ _ _ ≠ []
  rw [hu, Int.toNat_natCast]
  exact lyR_laid e rfl _ hj
end Go.Proofs.Ytaebbfilgfkckaa
