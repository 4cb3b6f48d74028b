/- Pure: the walk through a net that tells its blocks. -/
import Derived.Test.YtobkejnlkjieoaaZC02
namespace Go.Proofs.Ytobkejnlkjieoaa
open Go.RowKit Go.Sort
open Go
/-- The walk's state: of each node how many of its half-edges were looked at, its place and low; the edges gone over; how many nodes are found; the trail; the open edges; of each edge its block, and how many blocks are whole. -/
structure BS where
  rs : Nat → Nat
  pl : Nat → Int
  lw : Nat → Int
  ov : Nat → Bool
  fd : Nat
  tr : List Nat
  op : List Nat
  bk : Nat → Int
  ct : Nat
/-- The half-edges that leave a node. -/
abbrev ob (es : List Pt) (v : Nat) : List Int := outL es (2 * es.length) v
/-- The nodes that a half-edge leaves and comes to. -/
def fN (es : List Pt) (h : Nat) : Nat := (fromL es h).toNat
def gN (es : List Pt) (h : Nat) : Nat := (toL es h).toNat
/-- A block is whole: the open edges from this one on. -/
def shutB (f : Nat) (s : BS) : BS := { s with op := s.op.takeWhile fun e => decide (e ≠ f), bk := fun e => if e ∈ s.op.dropWhile (fun e => decide (e ≠ f)) then (s.ct : Int) else s.bk e, ct := s.ct + 1 }
def findB (v : Nat) (s : BS) : BS := { s with pl := upd s.pl v (s.fd : Int), lw := upd s.lw v (s.fd : Int), fd := s.fd + 1 }
/-- An edge is gone over. -/
def overB (h : Nat) (s : BS) : BS := { s with ov := upd s.ov (h / 2) true, op := s.op ++ [h / 2] }
def goOverB (es : List Pt) (h : Nat) (s : BS) : BS × Nat :=
  if fN es h = gN es h then (shutB (h / 2) (overB h s), fN es h)
  else if 0 ≤ s.pl (gN es h) then ({ overB h s with lw := upd s.lw (fN es h) (min (s.lw (fN es h)) (s.pl (gN es h))) }, fN es h)
  else ({ findB (gN es h) (overB h s) with tr := s.tr ++ [h] }, gN es h)
/-- The walk goes back up the last half-edge of its trail. -/
def lowB (es : List Pt) (h : Nat) (s : BS) : BS := { s with tr := s.tr.dropLast, lw := upd s.lw (fN es h) (min (s.lw (fN es h)) (s.lw (gN es h))) }
def goBackB (es : List Pt) (h : Nat) (s : BS) : BS × Nat :=
  if s.pl (fN es h) ≤ (lowB es h s).lw (gN es h) then (shutB (h / 2) (lowB es h s), fN es h) else (lowB es h s, fN es h)
/-- One half-edge more is looked at. -/
def lookB (v : Nat) (s : BS) : BS := { s with rs := upd s.rs v (s.rs v + 1) }
def nextH (es : List Pt) (v : Nat) (s : BS) : Nat := (iat (ob es v) (s.rs v)).toNat
/-- The walk, so many steps. -/
def thrB (es : List Pt) : Nat → BS → Nat → BS
  | 0, s, _ => s
  | k + 1, s, v =>
    if s.rs v < (ob es v).length then
      if s.ov (nextH es v s / 2) then thrB es k (lookB v s) v
      else thrB es k (goOverB es (nextH es v s) (lookB v s)).1 (goOverB es (nextH es v s) (lookB v s)).2
    else match s.tr.getLast? with
      | none => s
      | some h => thrB es k (goBackB es h s).1 (goBackB es h s).2
/-- What keeps the walk from a panic. -/
structure BI (n : Nat) (es : List Pt) (s : BS) (v : Nat) : Prop where
  nod : s.op.Nodup
  opn : ∀ e ∈ s.op, e < es.length ∧ s.ov e = true
  sub : (s.tr.map (· / 2)).Sublist s.op
  trl : ∀ h ∈ s.tr, h < 2 * es.length ∧ 0 ≤ s.pl (fN es h) ∧ 0 ≤ s.pl (gN es h)
  vn : v < n ∧ 0 ≤ s.pl v
  rst : ∀ u, s.rs u ≤ (ob es u).length
theorem fg_in {n : Nat} {es : List Pt} (hm : netB n es = true) {h : Nat} (hl : h < 2 * es.length) : fN es h < n ∧ gN es h < n := by
  have h1 := fromL_in hm h hl
  have h2 := toL_in hm h hl
  unfold fN gN
  omega
theorem tw_split {l : List Nat} {f : Nat} (h : f ∈ l) : ∃ b, l = l.takeWhile (fun e => decide (e ≠ f)) ++ f :: b ∧ l.dropWhile (fun e => decide (e ≠ f)) = f :: b := by
  induction l with
  | nil => cases h
  | cons x t ih =>
    by_cases e : x = f
    · subst e
      exact ⟨t, by simp, by simp⟩
    · have hm : f ∈ t := by
        rcases List.mem_cons.1 h with h | h
        · exact absurd h.symm e
        · exact h
      obtain ⟨b, h1, h2⟩ := ih hm
      refine ⟨b, ?_, ?_⟩
      · rw [List.takeWhile_cons_of_pos (by simpa using e), List.cons_append, ← h1]
      · rw [List.dropWhile_cons_of_pos (by simpa using e), h2]
/-- The edges ahead of the last of a trail lie ahead of it among the open ones. -/
theorem sub_cut {t l : List Nat} {f : Nat} (hn : l.Nodup) (h : (t ++ [f]).Sublist l) : t.Sublist (l.takeWhile fun e => decide (e ≠ f)) := by
  have hf : f ∈ l := h.subset (by simp)
  obtain ⟨b, h1, _⟩ := tw_split hf
  rw [h1] at h hn
  have hnb : f ∉ b := by
    have := (List.nodup_append.1 hn).2.1
    exact (List.nodup_cons.1 this).1
  rw [show l.takeWhile (fun e => decide (e ≠ f)) ++ f :: b = (l.takeWhile (fun e => decide (e ≠ f)) ++ [f]) ++ b by simp] at h
  obtain ⟨t1, t2, e, s1, s2⟩ := List.sublist_append_iff.1 h
  have ht2 : t2 = [] := by
    rcases List.eq_nil_or_concat t2 with h | ⟨x, y, h⟩
    · exact h
    · exfalso
      rw [List.concat_eq_append] at h
      rw [h, ← List.append_assoc] at e
      have := List.append_inj_right' e (by simp)
      simp at this
      rw [h] at s2
      exact hnb (s2.subset (by rw [this]; simp))
  rw [ht2, List.append_nil] at e
  rw [← e] at s1
  obtain ⟨u1, u2, e2, r1, r2⟩ := List.sublist_append_iff.1 s1
  rcases List.eq_nil_or_concat u2 with h | ⟨x, y, h⟩
  · rw [h, List.append_nil] at e2
    exfalso
    have hfm : f ∈ u1 := by rw [← e2]; simp
    exact (List.nodup_append.1 hn).2.2 f (r1.subset hfm) f List.mem_cons_self rfl
  · rw [List.concat_eq_append] at h
    have hl : u2.length ≤ 1 := by have := r2.length_le; simpa using this
    have hx : x = [] := by
      cases x with
      | nil => rfl
      | cons a c => rw [h] at hl; simp at hl
    rw [hx] at h
    rw [h] at e2
    have := List.append_inj_left' e2 (by simp)
    rw [this]
    exact r1
theorem upd_ge {f : Nat → Int} {a u : Nat} {x : Int} (hx : 0 ≤ x) (h : 0 ≤ f u) : 0 ≤ upd f a x u := by
  unfold upd
  split
  · exact hx
  · exact h
/-- Looked at. -/
theorem BI.look {n : Nat} {es : List Pt} {s : BS} {v : Nat} (h : BI n es s v) (hl : s.rs v < (ob es v).length) : BI n es (lookB v s) v := by
  refine ⟨h.nod, h.opn, h.sub, h.trl, h.vn, fun u => ?_⟩
  show upd s.rs v (s.rs v + 1) u ≤ _
  by_cases e : u = v
  · rw [e, upd_same]; omega
  · rw [upd_other _ _ e]; exact h.rst u
/-- Gone over, where the edge is new. -/
theorem BI.goOver {n : Nat} {es : List Pt} (hm : netB n es = true) {s : BS} {v h : Nat} (hi : BI n es s v) (hl : h < 2 * es.length) (hv : fN es h = v) (hn : s.ov (h / 2) = false) : BI n es (goOverB es h s).1 (goOverB es h s).2 := by
  obtain ⟨f1, f2⟩ := fg_in hm hl
  have hnew : h / 2 ∉ s.op := fun e => by have := (hi.opn _ e).2; rw [hn] at this; cases this
  have hnod : (s.op ++ [h / 2]).Nodup := by
    rw [List.nodup_append]
    refine ⟨hi.nod, by simp, fun a ha b hb e => ?_⟩
    simp at hb
    exact hnew (by rw [← hb, ← e]; exact ha)
  have hov : ∀ e ∈ s.op ++ [h / 2], e < es.length ∧ upd s.ov (h / 2) true e = true := fun e he => by
    unfold upd
    rcases List.mem_append.1 he with he | he
    · have := hi.opn e he
      refine ⟨this.1, ?_⟩
      split
      · rfl
      · exact this.2
    · simp at he
      subst he
      exact ⟨by omega, by rw [if_pos rfl]⟩
  have htw : (s.op ++ [h / 2]).takeWhile (fun e => decide (e ≠ h / 2)) = s.op := by
    rw [List.takeWhile_append_of_pos (fun a ha => by simp; exact fun e => hnew (e ▸ ha))]
    simp
  unfold goOverB
  by_cases h1 : fN es h = gN es h
  · rw [if_pos h1]
    refine ⟨?_, ?_, ?_, hi.trl, by rw [hv]; exact hi.vn, hi.rst⟩
    · show ((s.op ++ [h / 2]).takeWhile _).Nodup
      rw [htw]; exact hi.nod
    · show ∀ e ∈ (s.op ++ [h / 2]).takeWhile _, _
      rw [htw]
      exact fun e he => hov e (List.mem_append_left _ he)
    · show List.Sublist _ ((s.op ++ [h / 2]).takeWhile _)
      rw [htw]; exact hi.sub
  · rw [if_neg h1]
    by_cases h2 : 0 ≤ s.pl (gN es h)
    · rw [if_pos h2]
      exact ⟨hnod, hov, hi.sub.trans (List.sublist_append_left _ _), hi.trl, by rw [hv]; exact hi.vn, hi.rst⟩
    · rw [if_neg h2]
      refine ⟨hnod, hov, ?_, fun x hx => ?_, ⟨f2, ?_⟩, hi.rst⟩
      · show ((s.tr ++ [h]).map _).Sublist _
        rw [List.map_append]
        exact hi.sub.append (List.Sublist.refl _)
      · rcases List.mem_append.1 hx with hx | hx
        · have := hi.trl x hx
          exact ⟨this.1, upd_ge (by omega) this.2.1, upd_ge (by omega) this.2.2⟩
        · simp at hx
          subst hx
          refine ⟨hl, ?_, ?_⟩
          · exact upd_ge (by omega) (by rw [hv]; exact hi.vn.2)
          · show 0 ≤ upd _ _ _ _
            rw [upd_same]; omega
      · show 0 ≤ upd _ _ _ _
        rw [upd_same]; omega
/-- Gone back. -/
theorem BI.goBack {n : Nat} {es : List Pt} (hm : netB n es = true) {s : BS} {v h : Nat} (hi : BI n es s v) (ht : s.tr.getLast? = some h) : BI n es (goBackB es h s).1 (goBackB es h s).2 := by
  obtain ⟨t, e⟩ := List.getLast?_eq_some_iff.1 ht
  have hx := hi.trl h (by rw [e]; simp)
  have hd : s.tr.dropLast = t := by rw [e]; simp
  obtain ⟨f1, _⟩ := fg_in hm hx.1
  have hsub := hi.sub
  rw [e, List.map_append] at hsub
  have hcut := sub_cut hi.nod hsub
  have htl : ∀ x ∈ t, x < 2 * es.length ∧ 0 ≤ s.pl (fN es x) ∧ 0 ≤ s.pl (gN es x) := fun x hx => hi.trl x (by rw [e]; simp [hx])
  unfold goBackB
  by_cases h1 : s.pl (fN es h) ≤ (lowB es h s).lw (gN es h)
  · rw [if_pos h1]
    refine ⟨hi.nod.sublist (List.takeWhile_sublist _), fun x hx => hi.opn x ((List.takeWhile_sublist _).subset hx), ?_, ?_, ⟨f1, hx.2.1⟩, hi.rst⟩
    · show ((s.tr.dropLast).map _).Sublist (s.op.takeWhile _)
      rw [hd]; exact hcut
    · show ∀ x ∈ s.tr.dropLast, _
      rw [hd]; exact htl
  · rw [if_neg h1]
    refine ⟨hi.nod, hi.opn, ?_, ?_, ⟨f1, hx.2.1⟩, hi.rst⟩
    · show ((s.tr.dropLast).map _).Sublist s.op
      rw [hd]; exact hcut.trans (List.takeWhile_sublist _)
    · show ∀ x ∈ s.tr.dropLast, _
      rw [hd]; exact htl
end Go.Proofs.Ytobkejnlkjieoaa

/- Pure: the walk through a component: what holds all along it, and what it leaves. -/
namespace Go.Proofs.Ytobkejnlkjieoaa
open Go.RowKit Go.Sort
open Go
/-- How many of the first nodes are found. -/
def cf : Nat → (Nat → Int) → Nat
  | 0, _ => 0
  | n + 1, f => cf n f + if 0 ≤ f n then 1 else 0
theorem cf_le (n : Nat) (f : Nat → Int) : cf n f ≤ n := by
  induction n with
  | zero => exact Nat.le_refl _
  | succ n ih => unfold cf; split <;> omega
theorem cf_out {n v : Nat} (f : Nat → Int) (x : Int) (h : n ≤ v) : cf n (upd f v x) = cf n f := by
  induction n with
  | zero => rfl
  | succ n ih => unfold cf; rw [ih (by omega), upd_other _ _ (by omega)]
theorem cf_in {n v : Nat} {f : Nat → Int} {x : Int} (h : v < n) (h0 : f v < 0) (hx : 0 ≤ x) : cf n (upd f v x) = cf n f + 1 := by
  induction n with
  | zero => omega
  | succ n ih =>
    unfold cf
    by_cases e : v = n
    · subst e
      rw [cf_out f x (Nat.le_refl _), upd_same, if_pos hx, if_neg (by omega)]
    · rw [ih (by omega), upd_other _ _ (fun k => e k.symm)]
      omega
/-- How many half-edges are not looked at yet. -/
def lf (es : List Pt) : Nat → (Nat → Nat) → Nat
  | 0, _ => 0
  | n + 1, f => lf es n f + ((ob es n).length - f n)
theorem lf_out {es : List Pt} {n v : Nat} (f : Nat → Nat) (x : Nat) (h : n ≤ v) : lf es n (upd f v x) = lf es n f := by
  induction n with
  | zero => rfl
  | succ n ih => unfold lf; rw [ih (by omega), upd_other _ _ (by omega)]
theorem lf_in {es : List Pt} {n v : Nat} {f : Nat → Nat} (h : v < n) (h0 : f v < (ob es v).length) : lf es n (upd f v (f v + 1)) + 1 = lf es n f := by
  induction n with
  | zero => omega
  | succ n ih =>
    unfold lf
    by_cases e : v = n
    · subst e
      rw [lf_out f _ (Nat.le_refl _), upd_same]
      omega
    · have := ih (by omega)
      rw [upd_other _ _ (fun k => e k.symm)]
      omega
theorem lf_zero {es : List Pt} {n v : Nat} {f : Nat → Nat} (h : v < n) (h0 : f v < (ob es v).length) : 0 < lf es n f := by
  have := lf_in h h0
  omega
/-- How many of the first edges are gone over. -/
def cb : Nat → (Nat → Bool) → Nat
  | 0, _ => 0
  | n + 1, f => cb n f + if f n then 1 else 0
theorem cb_le (n : Nat) (f : Nat → Bool) : cb n f ≤ n := by
  induction n with
  | zero => exact Nat.le_refl _
  | succ n ih => unfold cb; split <;> omega
theorem cb_out {n v : Nat} (f : Nat → Bool) (h : n ≤ v) : cb n (upd f v true) = cb n f := by
  induction n with
  | zero => rfl
  | succ n ih => unfold cb; rw [ih (by omega), upd_other _ _ (by omega)]
theorem cb_in {n v : Nat} {f : Nat → Bool} (h : v < n) (h0 : f v = false) : cb n (upd f v true) = cb n f + 1 := by
  induction n with
  | zero => omega
  | succ n ih =>
    unfold cb
    by_cases e : v = n
    · subst e
      rw [cb_out f (Nat.le_refl _), upd_same, if_pos rfl, h0, if_neg (by simp)]
    · rw [ih (by omega), upd_other _ _ (fun k => e k.symm)]
      omega
theorem cb_none (n : Nat) : cb n (fun _ => false) = 0 := by
  induction n with
  | zero => rfl
  | succ n ih => unfold cb; rw [ih]; rfl
theorem tw_less {l : List Nat} {f : Nat} (h : f ∈ l) : (l.takeWhile fun e => decide (e ≠ f)).length + 1 ≤ l.length := by
  obtain ⟨b, h1, _⟩ := tw_split h
  have := congrArg List.length h1
  rw [List.length_append, List.length_cons] at this
  omega
/-- The trail leads from the root to where the walk is. -/
inductive Ch (es : List Pt) (r : Nat) : List Nat → Nat → Prop
  | nil : Ch es r [] r
  | snoc {t : List Nat} (h : Nat) (k : Ch es r t (fN es h)) : Ch es r (t ++ [h]) (gN es h)
theorem Ch.mem {es : List Pt} {r v : Nat} {t : List Nat} (h : Ch es r t v) : v ∈ r :: t.map (gN es) := by
  cases h with
  | nil => simp
  | snoc h k => simp
theorem Ch.none {es : List Pt} {r v : Nat} (h : Ch es r [] v) : v = r := by
  generalize e : ([] : List Nat) = t at h
  cases h with
  | nil => rfl
  | snoc h k => simp at e
theorem Ch.last {es : List Pt} {r v h : Nat} {t : List Nat} (hc : Ch es r (t ++ [h]) v) : v = gN es h ∧ Ch es r t (fN es h) := by
  generalize e : t ++ [h] = l at hc
  cases hc with
  | nil => simp at e
  | snoc h' k =>
    obtain ⟨e1, e2⟩ := List.append_inj' e rfl
    simp at e2
    subst e1; subst e2
    exact ⟨rfl, k⟩
/-- What holds along the walk from a root. -/
structure DI (n : Nat) (es : List Pt) (r : Nat) (s : BS) (v : Nat) : Prop where
  bi : BI n es s v
  ch : Ch es r s.tr v
  dn : ∀ u, u < n → 0 ≤ s.pl u → u ∉ r :: s.tr.map (gN es) → s.rs u = (ob es u).length
  lk : ∀ u k, k < s.rs u → s.ov ((iat (ob es u) k).toNat / 2) = true
  hd : s.op.head? = s.tr.head?.map (· / 2)
  lo : ∀ u, u ∈ r :: s.tr.map (gN es) → s.pl r ≤ s.pl u ∧ s.pl r ≤ s.lw u
  cl : ∀ e, s.ov e = true → e ∈ s.op ∨ (0 ≤ s.bk e ∧ s.bk e < s.ct)
  fd : s.fd = cf n s.pl
  pr : 0 ≤ s.pl r ∧ s.pl r ≤ s.fd
  cn : s.ct + s.op.length ≤ cb es.length s.ov
theorem cl_shut {s : BS} (f : Nat) (h : ∀ e, s.ov e = true → e ∈ s.op ∨ (0 ≤ s.bk e ∧ s.bk e < s.ct)) : ∀ e, (shutB f s).ov e = true → e ∈ (shutB f s).op ∨ (0 ≤ (shutB f s).bk e ∧ (shutB f s).bk e < (shutB f s).ct) := fun e he => by
  show e ∈ s.op.takeWhile _ ∨ (0 ≤ (if _ then _ else _ : Int) ∧ (if _ then _ else _ : Int) < ((s.ct + 1 : Nat) : Int))
  by_cases hd : e ∈ s.op.dropWhile fun e => decide (e ≠ f)
  · rw [if_pos hd]
    exact Or.inr ⟨by omega, by omega⟩
  · rw [if_neg hd]
    rcases h e he with h | h
    · rw [← List.takeWhile_append_dropWhile (p := fun e => decide (e ≠ f)) (l := s.op)] at h
      rcases List.mem_append.1 h with h | h
      · exact Or.inl h
      · exact absurd h hd
    · exact Or.inr ⟨h.1, by omega⟩
theorem next_is {es : List Pt} {v : Nat} {s : BS} (hl : s.rs v < (ob es v).length) : nextH es v s < 2 * es.length ∧ fN es (nextH es v s) = v ∧ iat (ob es v) (s.rs v) = (nextH es v s : Int) := by
  obtain ⟨k, e1, e2, e3⟩ := outL_at hl
  unfold nextH fN
  rw [e1]
  simp only [Int.toNat_natCast]
  exact ⟨e2, by rw [e3]; simp⟩
/-- The other half of an edge leaves where the half-edge comes to. -/
def twinH (h : Nat) : Nat := if h % 2 = 0 then h + 1 else h - 1
theorem twin_is {es : List Pt} {h : Nat} (hl : h < 2 * es.length) : twinH h < 2 * es.length ∧ fromL es (twinH h) = toL es h ∧ twinH h / 2 = h / 2 ∧ toL es (twinH h) = fromL es h := by
  unfold twinH
  rcases Nat.mod_two_eq_zero_or_one h with e | e
  · rw [if_pos e]
    refine ⟨by omega, ?_, by omega, ?_⟩
    · unfold fromL toL
      rw [if_neg (by omega), if_pos e, show (h + 1) / 2 = h / 2 by omega]
    · unfold fromL toL
      rw [if_neg (by omega), if_pos e, show (h + 1) / 2 = h / 2 by omega]
  · rw [if_neg (by omega)]
    refine ⟨by omega, ?_, by omega, ?_⟩
    · unfold fromL toL
      rw [if_pos (by omega), if_neg (by omega), show (h - 1) / 2 = h / 2 by omega]
    · unfold fromL toL
      rw [if_pos (by omega), if_neg (by omega), show (h - 1) / 2 = h / 2 by omega]
/-- A node found to which a new edge leads is on the path. -/
theorem DI.up {n : Nat} {es : List Pt} (hm : netB n es = true) {r v : Nat} {s : BS} (hi : DI n es r s v) {h : Nat} (hl : h < 2 * es.length) (hn : s.ov (h / 2) = false) (hp : 0 ≤ s.pl (gN es h)) : gN es h ∈ r :: s.tr.map (gN es) := by
  refine Classical.byContradiction fun hc => ?_
  obtain ⟨t1, t2, t3, _⟩ := twin_is hl
  have hg := (fg_in hm hl).2
  have hf := toL_in hm h hl
  have e : fromL es (twinH h) = ((gN es h : Nat) : Int) := by rw [t2]; unfold gN; omega
  obtain ⟨j, hj, e2⟩ := outL_mem t1 e
  have := hi.lk (gN es h) j (by rw [hi.dn _ hg hp hc]; exact hj)
  rw [show iat (ob es (gN es h)) j = iat (outL es (2 * es.length) (gN es h)) j from rfl, e2, Int.toNat_natCast, t3, hn] at this
  cases this
theorem DI.over {n : Nat} {es : List Pt} (hm : netB n es = true) {r v : Nat} {s : BS} (hi : DI n es r s v) (hl : s.rs v < (ob es v).length) (hn : s.ov (nextH es v s / 2) = false) : DI n es r (goOverB es (nextH es v s) (lookB v s)).1 (goOverB es (nextH es v s) (lookB v s)).2 := by
  obtain ⟨n1, n2, n3⟩ := next_is hl
  have hb := (hi.bi.look hl).goOver hm n1 n2 hn
  have hup := hi.up hm n1 hn
  obtain ⟨f1, f2⟩ := fg_in hm n1
  revert hb
  obtain ⟨h, hh⟩ : ∃ h, nextH es v s = h := ⟨_, rfl⟩
  rw [hh] at n1 n2 n3 hup f1 f2 hn ⊢
  intro hb
  have hvm := hi.ch.mem
  have hvn := hi.bi.vn
  have lk' : ∀ u k, k < upd s.rs v (s.rs v + 1) u → upd s.ov (h / 2) true ((iat (ob es u) k).toNat / 2) = true := fun u k hk => by
    unfold upd
    split
    · rfl
    · rename_i hne
      by_cases e : u = v
      · subst e
        rw [upd_same] at hk
        by_cases ek : k = s.rs u
        · exact absurd (by rw [ek, n3]; simp) hne
        · exact hi.lk u k (by omega)
      · rw [upd_other _ _ e] at hk
        exact hi.lk u k hk
  have dn' : ∀ u, u < n → 0 ≤ s.pl u → u ∉ r :: s.tr.map (gN es) → upd s.rs v (s.rs v + 1) u = (ob es u).length := fun u h1 h2 h3 => by
    have huv : u ≠ v := fun e => h3 (by rw [e]; exact hvm)
    rw [upd_other _ _ huv]
    exact hi.dn u h1 h2 h3
  have cl' : ∀ e, upd s.ov (h / 2) true e = true → e ∈ s.op ++ [h / 2] ∨ (0 ≤ s.bk e ∧ s.bk e < s.ct) := fun e he => by
    by_cases e1 : e = h / 2
    · exact Or.inl (by simp [e1])
    · rw [upd_other _ _ e1] at he
      rcases hi.cl e he with h | h
      · exact Or.inl (List.mem_append_left _ h)
      · exact Or.inr h
  have hnew : h / 2 ∉ s.op := fun e => by have := (hi.bi.opn _ e).2; rw [hn] at this; cases this
  have htw : (s.op ++ [h / 2]).takeWhile (fun e => decide (e ≠ h / 2)) = s.op := by
    rw [List.takeWhile_append_of_pos (fun a ha => by simp; exact fun e => hnew (e ▸ ha))]
    simp
  have cn' : s.ct + (s.op ++ [h / 2]).length ≤ cb es.length (upd s.ov (h / 2) true) := by
    rw [cb_in (by omega) hn]
    have := hi.cn
    simp
    omega
  unfold goOverB at hb ⊢
  by_cases h1 : fN es h = gN es h
  · rw [if_pos h1] at hb ⊢
    refine ⟨hb, ?_, dn', lk', ?_, hi.lo, cl_shut (s := overB h (lookB v s)) _ cl', hi.fd, hi.pr, ?_⟩
    · show Ch es r s.tr (fN es h)
      rw [n2]; exact hi.ch
    · show ((s.op ++ [h / 2]).takeWhile _).head? = _
      rw [htw]; exact hi.hd
    · show s.ct + 1 + ((s.op ++ [h / 2]).takeWhile _).length ≤ cb es.length (upd s.ov (h / 2) true)
      rw [htw]
      simp at cn'
      omega
  · rw [if_neg h1] at hb ⊢
    by_cases h2 : 0 ≤ (lookB v s).pl (gN es h)
    · rw [if_pos h2] at hb ⊢
      have hto := hup h2
      refine ⟨hb, ?_, dn', lk', ?_, ?_, cl', hi.fd, hi.pr, cn'⟩
      · show Ch es r s.tr (fN es h)
        rw [n2]; exact hi.ch
      · show (s.op ++ [h / 2]).head? = s.tr.head?.map _
        have hh := hi.hd
        cases ht : s.tr with
        | nil =>
          exfalso
          rw [ht] at hto
          have := hi.ch
          rw [ht] at this
          have e1 := this.none
          simp at hto
          exact h1 (by rw [n2, e1, hto])
        | cons x t =>
          rw [ht] at hh
          cases ho : s.op with
          | nil => rw [ho] at hh; simp at hh
          | cons y q => rw [ho] at hh; simpa using hh
      · intro u hu
        show s.pl r ≤ s.pl u ∧ s.pl r ≤ upd s.lw (fN es h) (min (s.lw (fN es h)) (s.pl (gN es h))) u
        refine ⟨(hi.lo u hu).1, ?_⟩
        unfold upd
        split
        · have a1 := (hi.lo v hvm).2
          have a2 := (hi.lo _ hto).1
          rw [n2]
          omega
        · exact (hi.lo u hu).2
    · rw [if_neg h2] at hb ⊢
      have h2' : s.pl (gN es h) < 0 := by
        have : ¬ 0 ≤ s.pl (gN es h) := h2
        omega
      have hrt : r ≠ gN es h := fun e => by have := hi.pr.1; rw [e] at this; omega
      refine ⟨hb, ?_, ?_, lk', ?_, ?_, cl', ?_, ?_, cn'⟩
      · show Ch es r (s.tr ++ [h]) (gN es h)
        exact Ch.snoc h (by rw [n2]; exact hi.ch)
      · intro u h3 h4 h5
        have h5' : u ∉ r :: (s.tr ++ [h]).map (gN es) := h5
        have h4' : 0 ≤ upd s.pl (gN es h) (s.fd : Int) u := h4
        have hug : u ≠ gN es h := fun e => h5' (by simp [e])
        rw [upd_other _ _ hug] at h4'
        exact dn' u h3 h4' fun k => h5' (by
          rcases List.mem_cons.1 k with k | k
          · rw [k]; exact List.mem_cons_self
          · exact List.mem_cons_of_mem _ (by rw [List.map_append]; exact List.mem_append_left _ k))
      · show (s.op ++ [h / 2]).head? = (s.tr ++ [h]).head?.map _
        have hh := hi.hd
        cases ht : s.tr with
        | nil =>
          rw [ht] at hh
          cases ho : s.op with
          | nil => simp
          | cons y q => rw [ho] at hh; simp at hh
        | cons x t =>
          rw [ht] at hh
          cases ho : s.op with
          | nil => rw [ho] at hh; simp at hh
          | cons y q => rw [ho] at hh; simpa using hh
      · intro u hu
        have hu' : u ∈ r :: (s.tr ++ [h]).map (gN es) := hu
        show upd s.pl (gN es h) (s.fd : Int) r ≤ upd s.pl (gN es h) (s.fd : Int) u ∧ upd s.pl (gN es h) (s.fd : Int) r ≤ upd s.lw (gN es h) (s.fd : Int) u
        rw [upd_other _ _ hrt]
        by_cases e : u = gN es h
        · rw [e, upd_same, upd_same]; exact ⟨hi.pr.2, hi.pr.2⟩
        · rw [upd_other _ _ e, upd_other _ _ e]
          refine hi.lo u ?_
          rw [List.map_append] at hu'
          rcases List.mem_cons.1 hu' with k | k
          · rw [k]; exact List.mem_cons_self
          · rcases List.mem_append.1 k with k | k
            · exact List.mem_cons_of_mem _ k
            · simp at k; exact absurd k e
      · show s.fd + 1 = cf n (upd s.pl (gN es h) (s.fd : Int))
        rw [cf_in f2 h2' (by omega), hi.fd]
      · show 0 ≤ upd s.pl (gN es h) (s.fd : Int) r ∧ upd s.pl (gN es h) (s.fd : Int) r ≤ ((s.fd + 1 : Nat) : Int)
        rw [upd_other _ _ hrt]
        have := hi.pr
        omega
theorem DI.look {n : Nat} {es : List Pt} {r v : Nat} {s : BS} (hi : DI n es r s v) (hl : s.rs v < (ob es v).length) (hn : s.ov (nextH es v s / 2) = true) : DI n es r (lookB v s) v := by
  refine ⟨hi.bi.look hl, hi.ch, fun u h1 h2 h3 => ?_, fun u k hk => ?_, hi.hd, hi.lo, hi.cl, hi.fd, hi.pr, hi.cn⟩
  · show upd s.rs v (s.rs v + 1) u = _
    have huv : u ≠ v := fun e => h3 (by rw [e]; exact hi.ch.mem)
    rw [upd_other _ _ huv]
    exact hi.dn u h1 h2 h3
  · have hk' : k < upd s.rs v (s.rs v + 1) u := hk
    show s.ov _ = true
    by_cases e : u = v
    · subst e
      rw [upd_same] at hk'
      by_cases ek : k = s.rs u
      · rw [ek]; exact hn
      · exact hi.lk u k (by omega)
    · rw [upd_other _ _ e] at hk'
      exact hi.lk u k hk'
theorem DI.back {n : Nat} {es : List Pt} (hm : netB n es = true) {r v : Nat} {s : BS} (hi : DI n es r s v) {h : Nat} (ht : s.tr.getLast? = some h) (hr : s.rs v = (ob es v).length) : DI n es r (goBackB es h s).1 (goBackB es h s).2 := by
  have hb := hi.bi.goBack hm ht
  obtain ⟨t, e⟩ := List.getLast?_eq_some_iff.1 ht
  have hd : s.tr.dropLast = t := by rw [e]; simp
  have hc := hi.ch
  rw [e] at hc
  obtain ⟨hv, hct⟩ := hc.last
  have hlo := hi.lo
  rw [e] at hlo
  have hsub : ∀ u, u ∈ r :: t.map (gN es) → u ∈ r :: (t ++ [h]).map (gN es) := fun u k => by
    rcases List.mem_cons.1 k with k | k
    · rw [k]; exact List.mem_cons_self
    · exact List.mem_cons_of_mem _ (by rw [List.map_append]; exact List.mem_append_left _ k)
  have hgm : gN es h ∈ r :: (t ++ [h]).map (gN es) := by simp
  have hfm := hct.mem
  have dn' : ∀ u, u < n → 0 ≤ s.pl u → u ∉ r :: t.map (gN es) → s.rs u = (ob es u).length := fun u h1 h2 h3 => by
    by_cases eu : u = v
    · rw [eu]; exact hr
    · refine hi.dn u h1 h2 fun k => h3 ?_
      rw [e, List.map_append] at k
      rcases List.mem_cons.1 k with k | k
      · rw [k]; exact List.mem_cons_self
      · rcases List.mem_append.1 k with k | k
        · exact List.mem_cons_of_mem _ k
        · simp at k; exact absurd (k.trans hv.symm) eu
  have lo' : ∀ u, u ∈ r :: t.map (gN es) → s.pl r ≤ s.pl u ∧ s.pl r ≤ upd s.lw (fN es h) (min (s.lw (fN es h)) (s.lw (gN es h))) u := fun u hu => by
    refine ⟨(hlo u (hsub u hu)).1, ?_⟩
    unfold upd
    split
    · have a1 := (hlo _ (hsub _ hfm)).2
      have a2 := (hlo _ hgm).2
      omega
    · exact (hlo u (hsub u hu)).2
  have hh := hi.hd
  rw [e] at hh
  have hnod : (t.map (· / 2)).head? ≠ some (h / 2) := fun k => by
    have hs := hi.bi.sub
    rw [e, List.map_append] at hs
    have := hi.bi.nod.sublist hs
    rw [List.nodup_append] at this
    cases ht : t with
    | nil => rw [ht] at k; simp at k
    | cons x q =>
      rw [ht] at this k
      simp only [List.map_cons, List.head?_cons, Option.some.injEq] at k
      exact this.2.2 (x / 2) (by simp) (h / 2) (by simp) k
  unfold goBackB at hb ⊢
  by_cases h1 : s.pl (fN es h) ≤ (lowB es h s).lw (gN es h)
  · rw [if_pos h1] at hb ⊢
    have hin : h / 2 ∈ s.op := hi.bi.sub.subset (by rw [e]; simp)
    refine ⟨hb, ?_, ?_, hi.lk, ?_, ?_, cl_shut (s := lowB es h s) _ hi.cl, hi.fd, hi.pr, ?_⟩
    · show Ch es r s.tr.dropLast (fN es h)
      rw [hd]; exact hct
    · show ∀ u, u < n → 0 ≤ s.pl u → u ∉ r :: s.tr.dropLast.map (gN es) → _
      rw [hd]; exact dn'
    · show (s.op.takeWhile _).head? = s.tr.dropLast.head?.map _
      rw [hd]
      cases ho : s.op with
      | nil => rw [ho] at hh; cases t <;> simp at hh
      | cons y q =>
        rw [ho] at hh
        cases ht : t with
        | nil =>
          rw [ht] at hh
          simp at hh
          simp [hh]
        | cons x z =>
          rw [ht] at hh hnod
          simp at hh hnod
          rw [List.takeWhile_cons_of_pos (by rw [hh]; simpa using hnod)]
          simpa using hh
    · show ∀ u, u ∈ r :: s.tr.dropLast.map (gN es) → _
      rw [hd]; exact lo'
    · show s.ct + 1 + (s.op.takeWhile _).length ≤ cb es.length s.ov
      have := tw_less hin
      have := hi.cn
      omega
  · rw [if_neg h1] at hb ⊢
    refine ⟨hb, ?_, ?_, hi.lk, ?_, ?_, hi.cl, hi.fd, hi.pr, hi.cn⟩
    · show Ch es r s.tr.dropLast (fN es h)
      rw [hd]; exact hct
    · show ∀ u, u < n → 0 ≤ s.pl u → u ∉ r :: s.tr.dropLast.map (gN es) → _
      rw [hd]; exact dn'
    · show s.op.head? = s.tr.dropLast.head?.map _
      rw [hd]
      cases ht : t with
      | nil =>
        exfalso
        rw [ht] at hct
        have e1 := hct.none
        refine h1 ?_
        rw [e1]
        have a1 := (hlo (gN es h) hgm).2
        show s.pl r ≤ upd s.lw (fN es h) (min (s.lw (fN es h)) (s.lw (gN es h))) (gN es h)
        have a2 := (hlo r (by simp)).2
        unfold upd
        split
        · rw [e1]; omega
        · exact a1
      | cons x z =>
        rw [ht] at hh
        simpa using hh
    · show ∀ u, u ∈ r :: s.tr.dropLast.map (gN es) → _
      rw [hd]; exact lo'
/-- What holds between two components. -/
structure OI (n : Nat) (es : List Pt) (s : BS) : Prop where
  tr0 : s.tr = []
  op0 : s.op = []
  dn : ∀ u, u < n → 0 ≤ s.pl u → s.rs u = (ob es u).length
  rst : ∀ u, s.rs u ≤ (ob es u).length
  lk : ∀ u k, k < s.rs u → s.ov ((iat (ob es u) k).toNat / 2) = true
  cl : ∀ e, s.ov e = true → 0 ≤ s.bk e ∧ s.bk e < s.ct
  fd : s.fd = cf n s.pl
  cn : s.ct ≤ cb es.length s.ov
theorem OI.find {n : Nat} {es : List Pt} {s : BS} (h : OI n es s) {v : Nat} (hv : v < n) (hp : s.pl v < 0) : DI n es v (findB v s) v := by
  have ht : (findB v s).tr = [] := h.tr0
  have ho : (findB v s).op = [] := h.op0
  refine ⟨⟨by rw [ho]; simp, by rw [ho]; simp, by rw [ht]; simp, by rw [ht]; simp, ⟨hv, ?_⟩, h.rst⟩, by rw [ht]; exact Ch.nil, ?_, h.lk, by rw [ht, ho]; rfl, ?_, fun e he => Or.inr (h.cl e he), ?_, ?_, by rw [ho]; exact h.cn⟩
  · show 0 ≤ upd s.pl v (s.fd : Int) v
    rw [upd_same]; omega
  · intro u h1 h2 h3
    have hu : u ≠ v := fun e => h3 (by rw [e]; exact List.mem_cons_self)
    have h2' : 0 ≤ upd s.pl v (s.fd : Int) u := h2
    rw [upd_other _ _ hu] at h2'
    exact h.dn u h1 h2'
  · rw [ht]
    intro u hu
    simp at hu
    subst hu
    show upd s.pl u (s.fd : Int) u ≤ upd s.pl u (s.fd : Int) u ∧ upd s.pl u (s.fd : Int) u ≤ upd s.lw u (s.fd : Int) u
    rw [upd_same, upd_same]
    omega
  · show s.fd + 1 = cf n (upd s.pl v (s.fd : Int))
    rw [cf_in hv hp (by omega), h.fd]
  · show 0 ≤ upd s.pl v (s.fd : Int) v ∧ upd s.pl v (s.fd : Int) v ≤ ((s.fd + 1 : Nat) : Int)
    rw [upd_same]
    omega
theorem DI.out {n : Nat} {es : List Pt} {r v : Nat} {s : BS} (h : DI n es r s v) (ht : s.tr.getLast? = none) (hr : ¬ s.rs v < (ob es v).length) : OI n es s := by
  have ht' : s.tr = [] := by simpa using ht
  have ho : s.op = [] := by
    have := h.hd
    rw [ht'] at this
    simpa using this
  have hv : v = r := by
    have := h.ch
    rw [ht'] at this
    exact this.none
  refine ⟨ht', ho, fun u h1 h2 => ?_, h.bi.rst, h.lk, fun e he => ?_, h.fd, by have := h.cn; omega⟩
  · by_cases e : u = r
    · rw [e, ← hv]
      have := h.bi.rst v
      omega
    · refine h.dn u h1 h2 ?_
      rw [ht']
      simpa using e
  · rcases h.cl e he with k | k
    · rw [ho] at k; cases k
    · exact k
/-- How far the walk is from its end, at most. -/
def phB (n : Nat) (es : List Pt) (s : BS) : Nat := 2 * lf es n s.rs + s.tr.length
theorem ph_look {n : Nat} {es : List Pt} {s : BS} {v : Nat} (hv : v < n) (hl : s.rs v < (ob es v).length) : phB n es (lookB v s) + 2 = phB n es s := by
  have := lf_in (es := es) (f := s.rs) hv hl
  unfold phB
  show 2 * lf es n (upd s.rs v (s.rs v + 1)) + s.tr.length + 2 = _
  omega
theorem ph_over (n : Nat) (es : List Pt) (h : Nat) (s : BS) : phB n es (goOverB es h s).1 ≤ phB n es s + 1 := by
  unfold goOverB
  split
  · exact Nat.le_succ _
  · split
    · exact Nat.le_succ _
    · show 2 * lf es n s.rs + (s.tr ++ [h]).length ≤ 2 * lf es n s.rs + s.tr.length + 1
      rw [List.length_append, List.length_singleton]
      omega
theorem ph_back (n : Nat) (es : List Pt) (h : Nat) (s : BS) (ht : s.tr ≠ []) : phB n es (goBackB es h s).1 + 1 = phB n es s := by
  have : (s.tr.dropLast).length + 1 = s.tr.length := by
    have := List.length_pos_iff.2 ht
    rw [List.length_dropLast]; omega
  unfold goBackB
  split
  · show 2 * lf es n s.rs + (s.tr.dropLast).length + 1 = _
    unfold phB; omega
  · show 2 * lf es n s.rs + (s.tr.dropLast).length + 1 = _
    unfold phB; omega
/-- Who is found stays found. -/
theorem found_over {es : List Pt} {h u : Nat} {s : BS} (hu : 0 ≤ s.pl u) : 0 ≤ (goOverB es h s).1.pl u := by
  unfold goOverB
  split
  · exact hu
  · split
    · exact hu
    · show 0 ≤ upd s.pl _ _ u
      unfold upd
      split
      · omega
      · exact hu
theorem found_back {es : List Pt} {h u : Nat} {s : BS} (hu : 0 ≤ s.pl u) : 0 ≤ (goBackB es h s).1.pl u := by
  unfold goBackB
  split
  · exact hu
  · exact hu
/-- The walk comes to its end. -/
theorem thr_out {n : Nat} {es : List Pt} (hm : netB n es = true) {r : Nat} : ∀ (k : Nat) (s : BS) (v : Nat), DI n es r s v → phB n es s ≤ k → OI n es (thrB es k s v) ∧ ∀ u, 0 ≤ s.pl u → 0 ≤ (thrB es k s v).pl u := by
  intro k
  induction k with
  | zero =>
    intro s v hi hk
    have h0 : s.tr = [] := by
      unfold phB at hk
      exact List.length_eq_zero_iff.1 (by omega)
    refine ⟨hi.out (by rw [h0]; rfl) fun hl => ?_, fun u hu => hu⟩
    have := lf_zero (es := es) (f := s.rs) hi.bi.vn.1 hl
    unfold phB at hk
    omega
  | succ k ih =>
    intro s v hi hk
    unfold thrB
    by_cases hl : s.rs v < (ob es v).length
    · rw [if_pos hl]
      have hp := ph_look (n := n) hi.bi.vn.1 hl
      cases ho : s.ov (nextH es v s / 2)
      · rw [if_neg (by simp)]
        have := ph_over n es (nextH es v s) (lookB v s)
        obtain ⟨a1, a2⟩ := ih _ _ (hi.over hm hl ho) (by omega)
        exact ⟨a1, fun u hu => a2 u (found_over hu)⟩
      · rw [if_pos rfl]
        exact ih _ _ (hi.look hl ho) (by omega)
    · rw [if_neg hl]
      cases ht : s.tr.getLast? with
      | none => exact ⟨hi.out ht hl, fun u hu => hu⟩
      | some h =>
        have hr : s.rs v = (ob es v).length := by have := hi.bi.rst v; omega
        have := ph_back n es h s (fun e => by rw [e] at ht; cases ht)
        obtain ⟨a1, a2⟩ := ih _ _ (hi.back hm ht hr) (by omega)
        exact ⟨a1, fun u hu => a2 u (found_back hu)⟩
/-- All components, node by node. -/
def throughB (n : Nat) (es : List Pt) (s : BS) (v : Nat) : BS := thrB es (phB n es (findB v s)) (findB v s) v
def zeroB : BS := ⟨fun _ => 0, fun _ => -1, fun _ => 0, fun _ => false, 0, [], [], fun _ => 0, 0⟩
def ptdB (n : Nat) (es : List Pt) : Nat → BS
  | 0 => zeroB
  | v + 1 => if (ptdB n es v).pl v < 0 then throughB n es (ptdB n es v) v else ptdB n es v
theorem cf_none (n : Nat) : cf n (fun _ => -1) = 0 := by
  induction n with
  | zero => rfl
  | succ n ih => unfold cf; rw [ih]; rfl
theorem par_out {n : Nat} {es : List Pt} (hm : netB n es = true) : ∀ (v : Nat), v ≤ n → OI n es (ptdB n es v) ∧ ∀ u, u < v → 0 ≤ (ptdB n es v).pl u := by
  intro v
  induction v with
  | zero => intro _; exact ⟨⟨rfl, rfl, fun u _ h => by have : (0 : Int) ≤ -1 := h; omega, fun u => Nat.zero_le _, fun u k hk => by have : k < 0 := hk; omega, fun e he => (by cases he), (cf_none n).symm, Nat.zero_le _⟩, fun u hu => by omega⟩
  | succ v ih =>
    intro hv
    obtain ⟨h1, h2⟩ := ih (by omega)
    unfold ptdB
    split
    · rename_i hp
      have hd := h1.find (by omega) hp
      obtain ⟨a1, a2⟩ := thr_out hm (phB n es (findB v (ptdB n es v))) _ v hd (Nat.le_refl _)
      refine ⟨a1, fun u hu => a2 u ?_⟩
      show 0 ≤ upd (ptdB n es v).pl v _ u
      by_cases e : u = v
      · rw [e, upd_same]; omega
      · rw [upd_other _ _ e]; exact h2 u (by omega)
    · rename_i hp
      refine ⟨h1, fun u hu => ?_⟩
      by_cases e : u = v
      · rw [e]; omega
      · exact h2 u (by omega)
/-- Each edge is in a block that there is. -/
theorem par_in {n : Nat} {es : List Pt} (hm : netB n es = true) {e : Nat} (he : e < es.length) : 0 ≤ (ptdB n es n).bk e ∧ (ptdB n es n).bk e < (ptdB n es n).ct := by
  obtain ⟨h1, h2⟩ := par_out hm n (Nat.le_refl _)
  have hl : 2 * e < 2 * es.length := by omega
  obtain ⟨f1, _⟩ := fg_in hm hl
  have hf := fromL_in hm (2 * e) hl
  obtain ⟨j, hj, e2⟩ := outL_mem (es := es) (v := fN es (2 * e)) hl (by unfold fN; omega)
  have := h1.lk (fN es (2 * e)) j (by rw [h1.dn _ f1 (h2 _ f1)]; exact hj)
  rw [show iat (ob es (fN es (2 * e))) j = iat (outL es (2 * es.length) (fN es (2 * e))) j from rfl, e2, Int.toNat_natCast, show 2 * e / 2 = e by omega] at this
  exact h1.cl e this
end Go.Proofs.Ytobkejnlkjieoaa
