/- Components: labels that spread along edges, as the document's Parts lays them. -/
import Derived.Test.YtcgdmonejogbaaaY1
namespace Go.Proofs.Ytcgdmonejogbaaa
open Go.RowKit Go.Sort
open Go
inductive Conn (es : List Pt) : Nat → Nat → Prop
  | refl (a : Nat) : Conn es a a
  | step {a b c h : Nat} : Conn es a b → h < 2 * es.length → fromL es h = b → toL es h = c → Conn es a c
theorem twin_is (es : List Pt) (h : Nat) (hl : h < 2 * es.length) : ∃ t, t < 2 * es.length ∧ fromL es t = toL es h ∧ toL es t = fromL es h := by
  by_cases h2 : h % 2 = 0
  · refine ⟨h + 1, by omega, ?_, ?_⟩
    · unfold fromL toL; rw [if_neg (by omega), if_pos h2, show (h + 1) / 2 = h / 2 by omega]
    · unfold fromL toL; rw [if_neg (by omega), if_pos h2, show (h + 1) / 2 = h / 2 by omega]
  · refine ⟨h - 1, by omega, ?_, ?_⟩
    · unfold fromL toL; rw [if_pos (by omega), if_neg h2, show (h - 1) / 2 = h / 2 by omega]
    · unfold fromL toL; rw [if_pos (by omega), if_neg h2, show (h - 1) / 2 = h / 2 by omega]
structure Lab (es : List Pt) (n k s : Nat) (C : List Int) (r : Nat → Nat) (due : Nat → Nat → Prop) : Prop where
  len : C.length = n
  val : ∀ v, v < n → iat C v = -1 ∨ (0 ≤ iat C v ∧ iat C v < k)
  cl : ∀ h u x : Nat, h < 2 * es.length → fromL es h = u → toL es h = x → 0 ≤ iat C u → iat C x = iat C u ∨ (iat C u + 1 = k ∧ due h u)
  con : ∀ v j : Nat, v < n → iat C v = j → Conn es (r j) v ∧ r j ≤ v
  root : ∀ j, j < k → r j < n ∧ iat C (r j) = j
  done : ∀ v, v < s → v < n → 0 ≤ iat C v
  rlt : ∀ j, j < k → r j < s
  inc : ∀ i j, i < j → j < k → r i < r j
theorem iat_put {l : List Int} {j : Nat} {x : Int} (h : j < l.length) : iat (l.set j x) j = x := by
  unfold iat; rw [List.getD_eq_getElem?_getD, List.getElem?_set_self h]; rfl
theorem iat_put_ne {l : List Int} {j k : Nat} {x : Int} (h : k ≠ j) : iat (l.set j x) k = iat l k := by
  unfold iat; rw [List.getD_eq_getElem?_getD, List.getElem?_set_ne (fun e => h e.symm), List.getD_eq_getElem?_getD]
def NoDue (_ _ : Nat) : Prop := False
def Due (T : List Nat) (_ u : Nat) : Prop := u ∈ T
def DueI (T : List Nat) (v : Nat) (L : List Int) (j h u : Nat) : Prop := u ∈ T ∨ (u = v ∧ ∃ i, j ≤ i ∧ i < L.length ∧ iat L i = h)
variable {es : List Pt} {n k s : Nat} {C : List Int} {r : Nat → Nat}
theorem iat_fill {n v : Nat} {x : Int} (h : v < n) : iat (List.replicate n x) v = x := by unfold iat; simp [List.getD_eq_getElem?_getD, h]
theorem lab_start (n : Nat) (hin : ∀ t, t < 2 * es.length → fromL es t < n) : Lab es n 0 0 (List.replicate n (-1)) r NoDue where
  len := by simp
  val v hv := Or.inl (iat_fill hv)
  cl h u x h1 h2 _ hc := by
    exfalso
    have := hin h h1
    rw [iat_fill (by omega)] at hc
    omega
  con v j hv hj := by
    exfalso
    rw [iat_fill hv] at hj
    omega
  root j hj := by omega
  done v hv := by omega
  rlt j hj := by omega
  inc i j _ hj := by omega
theorem Lab.mono {due due' : Nat → Nat → Prop} (h : Lab es n k s C r due) (hd : ∀ t u : Nat, t < 2 * es.length → fromL es t = u → due t u → due' t u) : Lab es n k s C r due' :=
  { h with cl := fun t u x h1 h2 h3 h4 => (h.cl t u x h1 h2 h3 h4).imp id fun ⟨a, b⟩ => ⟨a, hd t u h1 h2 b⟩ }
theorem Lab.over (h : Lab es n k s C r NoDue) (hs : 0 ≤ iat C s) : Lab es n k (s + 1) C r NoDue :=
  { h with
    done := fun v hv hn => by
      by_cases e : v = s
      · rw [e]; exact hs
      · exact h.done v (by omega) hn
    rlt := fun j hj => Nat.lt_succ_of_lt (h.rlt j hj) }
theorem Lab.begin (h : Lab es n k s C r NoDue) (hsn : s < n) (hs : ¬ 0 ≤ iat C s) : Lab es n (k + 1) (s + 1) (C.set s k) (upd r k s) (Due [s]) := by
  have hl := h.len
  have hneg : iat C s = -1 := by rcases h.val s hsn with h | h; exact h; omega
  have e1 : iat (C.set s k) s = k := iat_put (by omega)
  have e2 : ∀ v, v ≠ s → iat (C.set s k) v = iat C v := fun v hv => iat_put_ne hv
  refine ⟨by simp [hl], ?_, ?_, ?_, ?_, ?_, ?_, ?_⟩
  · intro v hv
    by_cases hvs : v = s
    · rw [hvs, e1]; right; omega
    · rw [e2 v hvs]; have := h.val v hv; omega
  · intro t u x h1 h2 h3 h4
    by_cases hus : u = s
    · rw [hus, e1]; right; exact ⟨by omega, by simp [Due]⟩
    · rw [e2 u hus] at h4 ⊢
      rcases h.cl t u x h1 h2 h3 h4 with h5 | ⟨_, h5⟩
      · have hxs : x ≠ s := fun e => by rw [e, hneg] at h5; omega
        rw [e2 x hxs]; exact Or.inl h5
      · exact absurd h5 (by simp [NoDue])
  · intro v j hv hj
    by_cases hvs : v = s
    · rw [hvs, e1] at hj
      have : j = k := by omega
      rw [this, upd_same, hvs]
      exact ⟨.refl s, Nat.le_refl s⟩
    · rw [e2 v hvs] at hj
      have hk := h.val v hv
      rw [upd_other _ _ (by omega)]
      exact h.con v j hv hj
  · intro j hj
    by_cases hjk : j = k
    · rw [hjk, upd_same, e1]; exact ⟨hsn, rfl⟩
    · rw [upd_other _ _ hjk]
      have := h.root j (by omega)
      have h2 := h.rlt j (by omega)
      rw [e2 _ (by omega)]
      exact this
  · intro v hv hn
    by_cases hvs : v = s
    · rw [hvs, e1]; omega
    · rw [e2 v hvs]; exact h.done v (by omega) hn
  · intro j hj
    by_cases hjk : j = k
    · rw [hjk, upd_same]; omega
    · rw [upd_other _ _ hjk]; have := h.rlt j (by omega); omega
  · intro i j hij hj
    rw [upd_other _ _ (by omega)]
    by_cases hjk : j = k
    · rw [hjk, upd_same]; exact h.rlt i (by omega)
    · rw [upd_other _ _ hjk]; exact h.inc i j hij (by omega)
theorem Lab.stop {T : List Nat} (h : Lab es n k s C r (Due T)) (hT : T = []) : Lab es n k s C r NoDue := h.mono fun t u _ _ d => by simp [Due, hT] at d
theorem Lab.pop {T : List Nat} {v : Nat} (h : Lab es n k s C r (Due (T ++ [v]))) : Lab es n k s C r (DueI T v (outL es (2 * es.length) v) 0) := h.mono fun t u h1 h2 d => by
  unfold Due at d
  rcases List.mem_append.1 d with d | d
  · exact Or.inl d
  · have : u = v := by simpa using d
    subst this
    obtain ⟨j, hj, e⟩ := outL_mem h1 h2
    exact Or.inr ⟨rfl, j, by omega, hj, e⟩
theorem Lab.shut {T : List Nat} {v : Nat} {L : List Int} {j : Nat} (h : Lab es n k s C r (DueI T v L j)) (hj : L.length ≤ j) : Lab es n k s C r (Due T) := h.mono fun t u _ _ d => by
  rcases d with d | ⟨_, i, h1, h2, _⟩
  · exact d
  · omega
theorem Lab.alike {T : List Nat} {v x j t : Nat} {L : List Int} (h : Lab es n k s C r (DueI T v L j)) (ht : t < 2 * es.length) (hf : fromL es t = v) (hto : toL es t = x) (hv : iat C v + 1 = k) (hx : 0 ≤ iat C x) : iat C x = iat C v := by
  obtain ⟨t', h1, h2, h3⟩ := twin_is es t ht
  rw [hto] at h2
  rw [hf] at h3
  rcases h.cl t' x v h1 h2 h3 hx with h4 | ⟨h4, _⟩ <;> omega
theorem Lab.skip {T : List Nat} {v x j t : Nat} {L : List Int} (h : Lab es n k s C r (DueI T v L j)) (hL : iat L j = t) (ht : t < 2 * es.length) (hf : fromL es t = v) (hto : toL es t = x) (hv : iat C v + 1 = k) (hx : 0 ≤ iat C x) : Lab es n k s C r (DueI T v L (j + 1)) :=
  { h with
    cl := fun t' u y h1 h2 h3 h4 => by
      rcases h.cl t' u y h1 h2 h3 h4 with h5 | ⟨h5, h6⟩
      · exact Or.inl h5
      · rcases h6 with h6 | ⟨h6, i, h7, h8, h9⟩
        · exact Or.inr ⟨h5, Or.inl h6⟩
        · by_cases hij : i = j
          · left
            rw [hij, hL] at h9
            have : t = t' := by omega
            subst this
            rw [hto] at h3
            have : x = y := by omega
            subst this
            rw [h6]
            exact h.alike ht hf hto hv hx
          · exact Or.inr ⟨h5, Or.inr ⟨h6, i, by omega, h8, h9⟩⟩ }
theorem Lab.label {T : List Nat} {v x j t : Nat} {L : List Int} (h : Lab es n (k + 1) s C r (DueI T v L j)) (hL : iat L j = t) (ht : t < 2 * es.length) (hf : fromL es t = v) (hto : toL es t = x) (hvn : v < n) (hxn : x < n) (hv : iat C v = k) (hx : ¬ 0 ≤ iat C x) : Lab es n (k + 1) s (C.set x k) r (DueI (T ++ [x]) v L (j + 1)) := by
  have hl := h.len
  have hneg : iat C x = -1 := by rcases h.val x hxn with h | h; exact h; omega
  have e1 : iat (C.set x k) x = k := iat_put (by omega)
  have e2 : ∀ v, v ≠ x → iat (C.set x k) v = iat C v := fun v hv => iat_put_ne hv
  refine ⟨by simp [hl], ?_, ?_, ?_, ?_, ?_, h.rlt, h.inc⟩
  · intro u hu
    by_cases hux : u = x
    · rw [hux, e1]; right; omega
    · rw [e2 u hux]; exact h.val u hu
  · intro t' u y h1 h2 h3 h4
    by_cases hux : u = x
    · rw [hux, e1]; right; exact ⟨by omega, Or.inl (by simp)⟩
    · rw [e2 u hux] at h4 ⊢
      rcases h.cl t' u y h1 h2 h3 h4 with h5 | ⟨h5, h6⟩
      · have hyx : y ≠ x := fun e => by rw [e, hneg] at h5; omega
        rw [e2 y hyx]; exact Or.inl h5
      · rcases h6 with h6 | ⟨h6, i, h7, h8, h9⟩
        · exact Or.inr ⟨h5, Or.inl (by simp [h6])⟩
        · by_cases hij : i = j
          · left
            rw [hij, hL] at h9
            have : t = t' := by omega
            subst this
            rw [hto] at h3
            have : x = y := by omega
            subst this
            rw [e1, h6, hv]
          · exact Or.inr ⟨h5, Or.inr ⟨h6, i, by omega, h8, h9⟩⟩
  · intro u q hu hq
    by_cases hux : u = x
    · rw [hux, e1] at hq
      have : q = k := by omega
      subst this
      rw [hux]
      refine ⟨.step (h.con v _ hvn hv).1 ht hf hto, ?_⟩
      have h5 := h.rlt q (by omega)
      by_cases hxs : x < s
      · exact absurd (h.done x hxs hxn) hx
      · omega
    · rw [e2 u hux] at hq
      exact h.con u q hu hq
  · intro q hq
    have h5 := h.root q hq
    have : r q ≠ x := fun e => by rw [e, hneg] at h5; omega
    rw [e2 _ this]
    exact h5
  · intro u hu hn
    by_cases hux : u = x
    · rw [hux, e1]; omega
    · rw [e2 u hux]; exact h.done u hu hn
/-- How many have no label. -/
def unl (C : List Int) : Nat := C.countP fun x => decide (x < 0)
theorem unl_set : ∀ (C : List Int) (j : Nat) (x : Int), j < C.length → ¬ 0 ≤ iat C j → 0 ≤ x → unl (C.set j x) + 1 = unl C
  | [], j, x, h, _, _ => by simp at h
  | c :: C, 0, x, _, h, hx => by
    have hc : c < 0 := by simpa [iat] using h
    have hx' : ¬ x < 0 := by omega
    simp [unl, hc, hx']
  | c :: C, j + 1, x, hj, h, hx => by
    have ih := unl_set C j x (by simpa using hj) (by simpa [iat] using h) hx
    unfold unl at ih ⊢
    rw [List.set_cons_succ, List.countP_cons, List.countP_cons]
    omega
end Go.Proofs.Ytcgdmonejogbaaa
