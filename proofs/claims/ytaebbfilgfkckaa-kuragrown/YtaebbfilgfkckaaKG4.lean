/- Pure: a split edge, a turned list and other nodes leave it so. -/
import Derived.Test.YtaebbfilgfkckaaKG3
namespace Go.Proofs.Ytaebbfilgfkckaa
open Go.RowKit Go.Sort
open Go
theorem k5_sub0 : SubI 5 (fullL 5 5) 5 4 (jsK 5) [[0], [2], [4], [6], [8], [10], [12], [14], [16], [18]] where
  net := by decide
  bn := by decide
  len := by decide
  cover := by decide
  path := by
    have : ∀ i, i < 10 → fromL (fullL 5 5) (([[0], [2], [4], [6], [8], [10], [12], [14], [16], [18]] : List (List Nat)).getD i []).head! = (at' (jsK 5) i).x ∧ toL (fullL 5 5) (([[0], [2], [4], [6], [8], [10], [12], [14], [16], [18]] : List (List Nat)).getD i []).head! = (at' (jsK 5) i).y := by decide
    intro i hi
    rw [show (jsK 5).length = 10 from j5_length] at hi
    have h := this i hi
    have hc : i = 0 ∨ i = 1 ∨ i = 2 ∨ i = 3 ∨ i = 4 ∨ i = 5 ∨ i = 6 ∨ i = 7 ∨ i = 8 ∨ i = 9 := by omega
    rcases hc with rfl | rfl | rfl | rfl | rfl | rfl | rfl | rfl | rfl | rfl <;> exact h
  degB := by
    intro v hv
    have : ∀ v : Nat, v < 5 → dgL (fullL 5 5) v = 4 := by decide
    exact this v hv
  degO := by
    intro v hv
    left
    have : ∀ p ∈ fullL 5 5, p.x < 5 ∧ p.y < 5 := by decide
    have key : ∀ (l : List Pt), (∀ p ∈ l, p.x < 5 ∧ p.y < 5) → dgL l v = 0 := by
      intro l
      induction l with
      | nil => intro _; rfl
      | cons p ps ih =>
        intro h
        have := h p List.mem_cons_self
        simp only [dgL]
        rw [ih fun q hq => h q (List.mem_cons_of_mem _ hq), if_neg (by omega), if_neg (by omega)]
    exact key _ this
theorem k33_sub0 : SubI 6 (twoL 3 3 3) 6 3 (jsK 33) [[0], [2], [4], [6], [8], [10], [12], [14], [16]] where
  net := by decide
  bn := by decide
  len := by decide
  cover := by decide
  path := by
    have : ∀ i, i < 9 → fromL (twoL 3 3 3) (([[0], [2], [4], [6], [8], [10], [12], [14], [16]] : List (List Nat)).getD i []).head! = (at' (jsK 33) i).x ∧ toL (twoL 3 3 3) (([[0], [2], [4], [6], [8], [10], [12], [14], [16]] : List (List Nat)).getD i []).head! = (at' (jsK 33) i).y := by decide
    intro i hi
    rw [show (jsK 33).length = 9 from j33_length] at hi
    have h := this i hi
    have hc : i = 0 ∨ i = 1 ∨ i = 2 ∨ i = 3 ∨ i = 4 ∨ i = 5 ∨ i = 6 ∨ i = 7 ∨ i = 8 := by omega
    rcases hc with rfl | rfl | rfl | rfl | rfl | rfl | rfl | rfl | rfl <;> exact h
  degB := by
    intro v hv
    have : ∀ v : Nat, v < 6 → dgL (twoL 3 3 3) v = 3 := by decide
    exact this v hv
  degO := by
    intro v hv
    left
    have : ∀ p ∈ twoL 3 3 3, p.x < 6 ∧ p.y < 6 := by decide
    have key : ∀ (l : List Pt), (∀ p ∈ l, p.x < 6 ∧ p.y < 6) → dgL l v = 0 := by
      intro l
      induction l with
      | nil => intro _; rfl
      | cons p ps ih =>
        intro h
        have := h p List.mem_cons_self
        simp only [dgL]
        rw [ih fun q hq => h q (List.mem_cons_of_mem _ hq), if_neg (by omega), if_neg (by omega)]
    exact key _ this
/-- More nodes. -/
theorem SubI.wide {n n' : Nat} {pk : List Pt} {b dg : Nat} {js : List Pt} {Ps : List (List Nat)} (hS : SubI n pk b dg js Ps) (hn : n ≤ n') (h1 : n' ≤ 1024) : SubI n' pk b dg js Ps :=
  { hS with
    net := by
      obtain ⟨_, _, hl, hE⟩ := netB_is hS.net
      refine net_yes (by omega) (by simp [fitsB]; omega) fun j hj => ?_
      have := hE j hj
      simp [edB, belowB]
      omega
    bn := Nat.le_trans hS.bn hn }
/-- Paths over edges that are numbered anew. -/
theorem Pth.over {pk pk' : List Pt} {b : Int} {f : Nat → List Nat} (hf : ∀ h, h < 2 * pk.length → Pth pk' b (fromL pk h) (toL pk h) (f h)) : ∀ {Q : List Nat} {u v : Int}, Pth pk b u v Q → (∀ x ∈ Q, x < 2 * pk.length) → Pth pk' b u v (Q.flatMap f)
  | [], _, _, hp, _ => hp.elim
  | [a], u, v, hp, hl => by
    have := hf a (hl a List.mem_cons_self)
    rw [hp.1, hp.2] at this
    rw [List.flatMap_cons, List.flatMap_nil, List.append_nil]
    exact this
  | a :: a' :: t, u, v, hp, hl => by
    obtain ⟨e1, e2, e3⟩ := hp
    have h1 := hf a (hl a List.mem_cons_self)
    rw [e1] at h1
    have h2 := Pth.over hf e3 (fun x hx => hl x (List.mem_cons_of_mem _ hx))
    rw [List.flatMap_cons]
    exact join h1 e2 h2
where
  join {pk' : List Pt} {b : Int} : ∀ {Q R : List Nat} {u c v : Int}, Pth pk' b u c Q → b ≤ c → Pth pk' b c v R → Pth pk' b u v (Q ++ R)
    | [], _, _, _, _, hp, _, _ => hp.elim
    | [a], R, u, c, v, hp, hb, hr => by
      cases R with
      | nil => exact hr.elim
      | cons r rs => exact ⟨hp.1, by rw [hp.2]; exact hb, by rw [hp.2]; exact hr⟩
    | a :: a' :: t, R, u, c, v, hp, hb, hr => ⟨hp.1, hp.2.1, join hp.2.2 hb hr⟩
theorem flat_map_getD (Ps : List (List Nat)) (f : Nat → List Nat) (i : Nat) : (Ps.map fun P => P.flatMap f).getD i [] = (Ps.getD i []).flatMap f := by
  rw [List.getD_eq_getElem?_getD, List.getD_eq_getElem?_getD, List.getElem?_map]
  cases Ps[i]? <;> rfl
theorem flat_map_flat (f : Nat → List Nat) : ∀ (Ps : List (List Nat)), (Ps.map fun P => P.flatMap f).flatten = Ps.flatten.flatMap f
  | [] => rfl
  | P :: Ps => by
    rw [List.map_cons, List.flatten_cons, List.flatten_cons, List.flatMap_append, flat_map_flat f Ps]
theorem dgL_perm {a b : List Pt} (h : a.Perm b) (v : Int) : dgL a v = dgL b v := by
  induction h with
  | nil => rfl
  | cons x _ ih => simp only [dgL]; omega
  | swap x y l => simp only [dgL]; omega
  | trans _ _ h1 h2 => omega
/-- The list turned. -/
theorem SubI.turn {n : Nat} {pk : List Pt} {b dg : Nat} {js : List Pt} {Ps : List (List Nat)} (hS : SubI n pk b dg js Ps) {k : Nat} (hk : k ≤ pk.length) : ∃ Ps', SubI n (pk.drop k ++ pk.take k) b dg js Ps' := by
  have hlen : (pk.drop k ++ pk.take k).length = pk.length := by rw [List.length_append, List.length_drop, List.length_take]; omega
  have hperm : (pk.drop k ++ pk.take k).Perm pk := by
    refine List.Perm.trans List.perm_append_comm ?_
    rw [List.take_append_drop]
  obtain ⟨sg, hsg⟩ : ∃ f : Nat → Nat, f = fun e => if e < k then e + (pk.length - k) else e - k := ⟨_, rfl⟩
  have hsgl : ∀ e, e < pk.length → sg e < pk.length := fun e he => by rw [hsg]; show (if e < k then _ else _) < _; split <;> omega
  have hat : ∀ e, e < pk.length → at' (pk.drop k ++ pk.take k) (sg e) = at' pk e := fun e he => by
    rw [hsg]
    unfold at'
    rw [List.getD_eq_getElem?_getD, List.getD_eq_getElem?_getD]
    show ((pk.drop k ++ pk.take k)[if e < k then e + (pk.length - k) else e - k]?).getD _ = _
    by_cases h : e < k
    · rw [if_pos h, List.getElem?_append_right (by rw [List.length_drop]; omega), List.length_drop, show e + (pk.length - k) - (pk.length - k) = e by omega, List.getElem?_take_of_lt h]
    · rw [if_neg h, List.getElem?_append_left (by rw [List.length_drop]; omega), List.getElem?_drop, show k + (e - k) = e by omega]
  obtain ⟨f, hf⟩ : ∃ f : Nat → List Nat, f = fun h => [2 * sg (h / 2) + h % 2] := ⟨_, rfl⟩
  have hft : ∀ h, h < 2 * pk.length → fromL (pk.drop k ++ pk.take k) (2 * sg (h / 2) + h % 2) = fromL pk h ∧ toL (pk.drop k ++ pk.take k) (2 * sg (h / 2) + h % 2) = toL pk h := fun h hh => by
    have e := hat (h / 2) (by omega)
    unfold fromL toL
    rw [show (2 * sg (h / 2) + h % 2) / 2 = sg (h / 2) by omega, show (2 * sg (h / 2) + h % 2) % 2 = h % 2 by omega, e]
    exact ⟨rfl, rfl⟩
  refine ⟨Ps.map fun P => P.flatMap f, ?_, hS.bn, by rw [List.length_map]; exact hS.len, ?_, fun i hi => ?_, fun v hv => by rw [dgL_perm hperm]; exact hS.degB v hv, fun v hv => by rw [dgL_perm hperm]; exact hS.degO v hv⟩
  · obtain ⟨n0, n1, hl, hE⟩ := netB_is hS.net
    refine net_yes n0 (by rw [hlen]; simp [fitsB]; omega) fun j hj => ?_
    have hm : at' (pk.drop k ++ pk.take k) j ∈ pk := by rw [at_get hj]; exact hperm.mem_iff.1 (List.getElem_mem hj)
    obtain ⟨i, hi, e⟩ := List.getElem_of_mem hm
    have := hE i hi
    rw [at_get hi, e] at this
    simp [edB, belowB, this]
  · rw [flat_map_flat, hlen]
    have e1 : (Ps.flatten.flatMap f).map (· / 2) = (Ps.flatten.map (· / 2)).map sg := by
      rw [hf, List.map_map]
      induction Ps.flatten with
      | nil => rfl
      | cons x xs ih =>
        rw [List.flatMap_cons, List.map_append, ih, List.map_cons]
        show [(2 * sg (x / 2) + x % 2) / 2] ++ _ = sg (x / 2) :: _
        rw [show (2 * sg (x / 2) + x % 2) / 2 = sg (x / 2) by omega]
        rfl
    rw [e1]
    refine (hS.cover.map sg).trans ?_
    have e2 : List.range pk.length = List.range k ++ (List.range (pk.length - k)).map fun x => k + x := by
      conv => lhs; rw [show pk.length = k + (pk.length - k) by omega, List.range_add]
    have e3 : List.range pk.length = List.range (pk.length - k) ++ (List.range k).map fun x => pk.length - k + x := by
      conv => lhs; rw [show pk.length = (pk.length - k) + k by omega, List.range_add]
    have e4 : (List.range pk.length).map sg = (List.range k).map (fun x => pk.length - k + x) ++ List.range (pk.length - k) := by
      rw [e2, List.map_append, List.map_map]
      congr 1
      · refine List.map_congr_left fun x hx => ?_
        have := List.mem_range.1 hx
        rw [hsg]
        show (if x < k then x + (pk.length - k) else x - k) = _
        rw [if_pos this]; omega
      · conv => rhs; rw [← List.map_id (List.range (pk.length - k))]
        refine List.map_congr_left fun x hx => ?_
        rw [hsg]
        show (if k + x < k then k + x + (pk.length - k) else k + x - k) = x
        rw [if_neg (by omega)]; omega
    rw [e4]
    refine List.Perm.trans List.perm_append_comm ?_
    rw [← e3]
  · rw [flat_map_getD]
    refine Pth.over (fun h hh => ?_) (hS.path i hi) (fun x hx => hS.low hx)
    obtain ⟨a1, a2⟩ := hft h hh
    rw [hf]
    exact ⟨a1, a2⟩
end Go.Proofs.Ytaebbfilgfkckaa
