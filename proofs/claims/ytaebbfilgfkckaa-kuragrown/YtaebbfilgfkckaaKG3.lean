/- Pure: such edges are told as what they are. -/
import Derived.Test.YtaebbfilgfkckaaKG2
namespace Go.Proofs.Ytaebbfilgfkckaa
open Go.RowKit Go.Sort
open Go
theorem upL_at {b i : Nat} (h : i < b) : iat (upL b) i = i := iat_range (f := fun i => ((i : Nat) : Int)) h
theorem jsB {b : Nat} {js : List Pt} (hlt : ∀ i, i < js.length → ∃ x y : Nat, at' js i = ⟨x, y⟩ ∧ x < y ∧ y < b) : ∀ i, i < js.length → 0 ≤ (at' js i).x ∧ (at' js i).x < b ∧ 0 ≤ (at' js i).y ∧ (at' js i).y < b := fun i hi => by
  obtain ⟨x, y, e, h1, h2⟩ := hlt i hi
  rw [e]
  exact ⟨by show (0 : Int) ≤ x; omega, by show (x : Int) < b; omega, by show (0 : Int) ≤ y; omega, by show (y : Int) < b; omega⟩
section
variable {n : Nat} {pk : List Pt} {b dg : Nat} {js : List Pt} {Ps : List (List Nat)} (hS : SubI n pk b dg js Ps)
include hS
theorem SubI.dval {v : Nat} (hv : v < n) : iat (degN pk n pk.length) v = (dgL pk v : Nat) := deg_dgL hS.net hv
theorem SubI.ofB (hd : 3 ≤ dg) : ofD (degN pk n pk.length) dg n = upL b := by
  rw [ofD_is]
  obtain ⟨r, hr⟩ : ∃ r, n = b + r := ⟨n - b, by have := hS.bn; omega⟩
  unfold upL
  congr 1
  have e1 : (List.range b).filter (fun v => decide (iat (degN pk n pk.length) v = (dg : Int))) = List.range b := List.filter_eq_self.2 fun v hv => by
    have hv := List.mem_range.1 hv
    rw [hS.dval (by omega), hS.degB v hv]
    simp
  have e2 : ((List.range r).map fun x => b + x).filter (fun v => decide (iat (degN pk n pk.length) v = (dg : Int))) = [] := List.filter_eq_nil_iff.2 fun v hv => by
    obtain ⟨x, hx, rfl⟩ := List.mem_map.1 hv
    have hx := List.mem_range.1 hx
    rw [hS.dval (by omega)]
    have := hS.degO (b + x) (by omega)
    intro hc
    have hc := of_decide_eq_true hc
    omega
  have e0 : List.range n = List.range b ++ (List.range r).map fun x => b + x := by rw [hr, List.range_add]
  rw [e0, List.filter_append, e1, e2, List.append_nil]
theorem SubI.ofN {d : Nat} (h0 : d ≠ 0) (h2 : d ≠ 2) (hd : d ≠ dg) : ofD (degN pk n pk.length) d n = [] := by
  rw [ofD_is, List.map_eq_nil_iff, List.filter_eq_nil_iff]
  intro v hv
  have hv := List.mem_range.1 hv
  rw [hS.dval hv]
  by_cases hb : v < b
  · rw [hS.degB v hb]; simp; omega
  · have := hS.degO v (by omega)
    simp
    omega
theorem SubI.ok (h : dg = 3 ∨ dg = 4) : ∀ v, v < n → dgOk (iat (degN pk n pk.length) v) := fun v hv => by
  rw [hS.dval hv]
  unfold dgOk
  by_cases hb : v < b
  · rw [hS.degB v hb]; omega
  · have := hS.degO v (by omega); omega
variable (hd : 3 ≤ dg) (hbr : brS n pk = upL b) (hlt : ∀ i, i < js.length → ∃ x y : Nat, at' js i = ⟨x, y⟩ ∧ x < y ∧ y < b)
include hd hbr hlt
omit hbr in
theorem SubI.wy_is {u v : Nat} (hu : u < b) (hne : wyS n pk ⟨u, v⟩ ≠ []) : ∃ i, i < js.length ∧ ((at' js i = ⟨u, v⟩ ∧ wyS n pk ⟨u, v⟩ = (Ps.getD i []).map (fun (x : Nat) => (x : Int))) ∨ at' js i = ⟨v, u⟩) := by
  rcases lyB_is (es := pk) (br := brS n pk) (brS n pk).length ⟨u, v⟩ with h | ⟨h, h1, h2, h3, h4⟩
  · exact absurd h hne
  · obtain ⟨i, hi, ⟨e1, e2, e3⟩ | ⟨e1, e2⟩⟩ := hS.start hd (jsB hlt) h1 (by rw [h3]; show (u : Int) < b; omega)
    · refine ⟨i, hi, Or.inl ⟨?_, by show lyB _ _ _ _ = _; rw [h2, e3]⟩⟩
      rw [h3] at e1
      rw [h4] at e2
      rw [show at' js i = ⟨(at' js i).x, (at' js i).y⟩ from rfl, ← e1, ← e2]
    · refine ⟨i, hi, Or.inr ?_⟩
      rw [h3] at e1
      rw [h4] at e2
      rw [show at' js i = ⟨(at' js i).x, (at' js i).y⟩ from rfl, ← e1, ← e2]
theorem SubI.wy_at {i : Nat} (hi : i < js.length) : wyS n pk (at' js i) ≠ [] := by
  obtain ⟨x, y, e, hxy, hy⟩ := hlt i hi
  have hp := hS.path i hi
  rw [e] at hp ⊢
  cases hP : Ps.getD i [] with
  | nil => rw [hP] at hp; exact hp.elim
  | cons h t =>
    rw [hP] at hp
    have hl : ∀ z ∈ h :: t, z < 2 * pk.length := fun z hz => hS.low (i := i) (by rw [hP]; exact hz)
    have ho := hS.once i
    rw [hP] at ho
    obtain ⟨_, f2⟩ := pth_end hS.net hS.deg_o (hS.deg_b hd (v := (y : Int)) (by omega) (by omega)) hp hl ho
    have := lyB_laid (es := pk) (br := brS n pk) (u := x) (h := h) (i := x) (by rw [hbr, upL_length]; omega) (by rw [hbr]; exact upL_at (by omega)) (hl h List.mem_cons_self) hp.head
    rw [f2] at this
    exact this
theorem SubI.wy_path (hinj : ∀ i j, i < js.length → j < js.length → at' js i = at' js j → i = j) {i : Nat} (hi : i < js.length) : wyS n pk (at' js i) = (Ps.getD i []).map (fun (x : Nat) => (x : Int)) := by
  have hne := hS.wy_at hd hbr hlt hi
  obtain ⟨x, y, e, hxy, hy⟩ := hlt i hi
  rw [e] at hne
  obtain ⟨i', hi', ⟨e1, e2⟩ | e1⟩ := hS.wy_is hd hlt (by omega) hne
  · have := hinj i i' hi hi' (by rw [e, e1])
    rw [e, e2, this]
  · obtain ⟨x', y', e', hxy', _⟩ := hlt i' hi'
    rw [e'] at e1
    injection e1 with e3 e4
    omega
end
theorem cov_flat {F : List (List Int)} {Ps : List (List Nat)} (hl : F.length = Ps.length) (h : ∀ i, i < F.length → (lat F i).length = (Ps.getD i []).length) : covN F F.length = Ps.flatten.length := by
  have : ∀ k, k ≤ F.length → covN F k = (Ps.take k).flatten.length := by
    intro k
    induction k with
    | zero => intro _; simp [covN]
    | succ k ih =>
      intro hk
      unfold covN
      rw [ih (by omega), h k (by omega), List.take_add_one, List.getElem?_eq_getElem (show k < Ps.length by omega), Option.toList_some, List.flatten_append, List.length_append, List.getD_eq_getElem?_getD, List.getElem?_eq_getElem (show k < Ps.length by omega)]
      simp
  rw [this _ (Nat.le_refl _), hl, List.take_length]
/-- The last step: what the paths are gives the verdict. -/
theorem SubI.done {n : Nat} {pk : List Pt} {b dg : Nat} {k : Int} {Ps : List (List Nat)} (hS : SubI n pk b dg (jsK k) Ps) (hd : 3 ≤ dg) (hk : kdS n pk = k) (hk0 : k ≠ 0) (hbr : brS n pk = upL b) (hbs : bsS n pk = upL b) (hlt : ∀ i, i < (jsK k).length → ∃ x y : Nat, at' (jsK k) i = ⟨x, y⟩ ∧ x < y ∧ y < b) (hinj : ∀ i j, i < (jsK k).length → j < (jsK k).length → at' (jsK k) i = at' (jsK k) j → i = j) : okS n pk := by
  have hkey : ∀ i, i < (jsK k).length → keyP (bsS n pk) (jsK k) i = at' (jsK k) i := fun i hi => by
    obtain ⟨x, y, e, h1, h2⟩ := hlt i hi
    unfold keyP
    rw [hbs, e]
    simp only [Int.toNat_natCast]
    rw [upL_at (by omega), upL_at (by omega)]
  refine ⟨by rw [hk]; exact hk0, fun i hi => ?_, ?_⟩
  · rw [hk] at hi ⊢
    rw [hkey i hi]
    exact hS.wy_at hd hbr hlt hi
  · rw [cov_flat (Ps := Ps) (by rw [pt_length, hk, hS.len]) (fun i hi => by
      rw [pt_length, hk] at hi
      rw [pt_at (by rw [hk]; exact hi), hk, hkey i hi, hS.wy_path hd hbr hlt hinj hi, List.length_map])]
    have := hS.cover.length_eq
    rw [List.length_map, List.length_range] at this
    exact this
theorem sub_five {n : Nat} {pk : List Pt} {Ps : List (List Nat)} (hS : SubI n pk 5 4 (jsK 5) Ps) : okS n pk ∧ kdS n pk = 5 := by
  have h4 : ofD (degN pk n pk.length) 4 n = upL 5 := hS.ofB (by omega)
  have h3 : ofD (degN pk n pk.length) 3 n = [] := hS.ofN (d := 3) (by omega) (by omega) (by omega)
  have hk : kdS n pk = 5 := by
    unfold kdS
    rw [kd_good (hS.ok (Or.inr rfl)), if_pos ⟨by rw [h3]; rfl, by rw [h4, upL_length]⟩]
  have hbr : brS n pk = upL 5 := by
    have : kdI (degN pk n pk.length) n = 5 := hk
    unfold brS brL
    rw [if_pos this, h4]
  have hbs : bsS n pk = upL 5 := by unfold bsS; rw [if_neg (by rw [hk]; decide), hbr]
  refine ⟨hS.done (by omega) hk (by decide) hbr hbs (fun i hi => ?_) (fun i j hi hj => ?_), hk⟩
  · rw [show jsK 5 = j5 5 6 from rfl, j5_length] at hi
    exact j5_at i hi
  · rw [show jsK 5 = j5 5 6 from rfl, j5_length] at hi hj
    exact j5_inj i j hi hj
theorem sub_threes {n : Nat} {pk : List Pt} {Ps : List (List Nat)} (hS : SubI n pk 6 3 (jsK 33) Ps) : okS n pk ∧ kdS n pk = 33 := by
  have h3 : ofD (degN pk n pk.length) 3 n = upL 6 := hS.ofB (by omega)
  have h4 : ofD (degN pk n pk.length) 4 n = [] := hS.ofN (d := 4) (by omega) (by omega) (by omega)
  have hk : kdS n pk = 33 := by
    unfold kdS
    rw [kd_good (hS.ok (Or.inl rfl)), if_neg (by rw [h3, upL_length]; omega), if_pos ⟨by rw [h3, upL_length], by rw [h4]; rfl⟩]
  have hbr : brS n pk = upL 6 := by
    have : kdI (degN pk n pk.length) n = 33 := hk
    unfold brS brL
    rw [if_neg (by rw [this]; decide), if_pos this, h3]
  have hlt : ∀ i, i < (jsK 33).length → ∃ x y : Nat, at' (jsK 33) i = ⟨x, y⟩ ∧ x < y ∧ y < 6 := fun i hi => by
    rw [show jsK 33 = j33 3 3 from rfl, j33_length] at hi
    exact ⟨i / 3, 3 + i % 3, j33_at i hi, by omega, by omega⟩
  have hinj : ∀ i j, i < (jsK 33).length → j < (jsK 33).length → at' (jsK 33) i = at' (jsK 33) j → i = j := fun i j hi hj e => by
    rw [show jsK 33 = j33 3 3 from rfl, j33_length] at hi hj
    have e' : at' (j33 3 3) i = at' (j33 3 3) j := e
    rw [j33_at i hi, j33_at j hj] at e'
    injection e' with e1 e2
    omega
  have hno : ∀ v : Nat, v < 3 → wyS n pk ⟨(0 : Nat), (v : Nat)⟩ = [] := fun v hv => by
    by_cases h : wyS n pk ⟨(0 : Nat), (v : Nat)⟩ = []
    · exact h
    · obtain ⟨i, hi, ⟨e, _⟩ | e⟩ := hS.wy_is (by omega) hlt (u := 0) (by omega) h
      · rw [show jsK 33 = j33 3 3 from rfl, j33_length] at hi
        have e' : at' (j33 3 3) i = _ := e
        rw [j33_at i hi] at e'
        injection e' with e1 e2
        omega
      · rw [show jsK 33 = j33 3 3 from rfl, j33_length] at hi
        have e' : at' (j33 3 3) i = _ := e
        rw [j33_at i hi] at e'
        injection e' with e1 e2
        omega
  have hyes : ∀ v : Nat, 3 ≤ v → v < 6 → wyS n pk ⟨(0 : Nat), (v : Nat)⟩ ≠ [] := fun v h3 h6 => by
    have := hS.wy_at (by omega) hbr hlt (i := v - 3) (by rw [show jsK 33 = j33 3 3 from rfl, j33_length]; omega)
    rw [show at' (jsK 33) (v - 3) = at' (j33 3 3) (v - 3) from rfl, j33_at _ (by omega), show (v - 3) / 3 = 0 by omega, show 3 + (v - 3) % 3 = v by omega] at this
    exact this
  have hat : ∀ i, i < 6 → iat (upL 6) i = i := fun i hi => upL_at hi
  have hbs : bsS n pk = upL 6 := by
    unfold bsS
    rw [if_pos hk, hbr]
    unfold sidesL
    rw [upL_length]
    have a0 : iat (upL 6) 0 = ((0 : Nat) : Int) := hat 0 (by omega)
    have a1 : iat (upL 6) 1 = ((1 : Nat) : Int) := hat 1 (by omega)
    have a2 : iat (upL 6) 2 = ((2 : Nat) : Int) := hat 2 (by omega)
    have a3 : iat (upL 6) 3 = ((3 : Nat) : Int) := hat 3 (by omega)
    have a4 : iat (upL 6) 4 = ((4 : Nat) : Int) := hat 4 (by omega)
    have a5 : iat (upL 6) 5 = ((5 : Nat) : Int) := hat 5 (by omega)
    simp only [sdO, sdT, a0, a1, a2, a3, a4, a5]
    rw [if_pos (hno 0 (by omega)), if_pos (hno 1 (by omega)), if_pos (hno 2 (by omega)), if_neg (hyes 3 (by omega) (by omega)), if_neg (hyes 4 (by omega) (by omega)), if_neg (hyes 5 (by omega) (by omega)), if_pos (hno 0 (by omega)), if_pos (hno 1 (by omega)), if_pos (hno 2 (by omega)), if_neg (hyes 3 (by omega) (by omega)), if_neg (hyes 4 (by omega) (by omega)), if_neg (hyes 5 (by omega) (by omega))]
    rfl
  exact ⟨hS.done (by omega) hk (by decide) hbr hbs hlt hinj, hk⟩
end Go.Proofs.Ytaebbfilgfkckaa
