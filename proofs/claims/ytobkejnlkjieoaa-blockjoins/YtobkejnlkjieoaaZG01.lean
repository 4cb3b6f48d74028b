/- Pure: when two edges are in one block, and what that says of ways without a node. -/
import Derived.Test.YtobkejnlkjieoaaZG00
import Derived.Test.YtobkejnlkjieoaaZC03
import Derived.Test.YtobkejnlkjieoaaZF3
namespace Go.Proofs.Ytobkejnlkjieoaa
open Go.RowKit Go.Sort
open Go
variable {n : Nat} {es : List Pt} {bk : Nat → Int} {ct : Nat} {pl : Nat → Int} {U : Nat → Nat} {X : Nat → Nat → Prop} {rt : Nat → Prop}
/-- The ends of an edge. -/
theorem tch_iff {Y : Nat → Prop} {h : Nat} (hl : h < 2 * es.length) : Tch es Y (h / 2) ↔ Y (fN es h) ∨ Y (gN es h) := by
  constructor
  · rintro ⟨g, _, g2, g3⟩
    rcases tw_h g2 with e | e
    · rw [e] at g3; exact Or.inl g3
    · rw [e, tw_f hl] at g3; exact Or.inr g3
  · rintro (h1 | h1)
    · exact ⟨h, hl, rfl, h1⟩
    · exact ⟨twinH h, (twin_is hl).1, (twin_is hl).2.2.1, by rw [tw_f hl]; exact h1⟩
theorem BF.stay (b : BF n es bk ct pl U X rt) {j : Nat} (hj : j < ct) {a c v : Nat} (hv : U j = v) (h : JP es (fun z => z ≠ v) a c) (ha : X j a) : X j c := by
  induction h with
  | refl _ => exact ha
  | step g k hl hp ih =>
    rcases b.cx j hj g hl ih with h1 | h1
    · exact h1
    · exact absurd (by rw [h1, hv]) hp
/-- Where two edges at a node go on to what is joined without it, they are in one block. -/
theorem BF.d1 (b : BF n es bk ct pl U X rt) {e e' : Nat} (h : RB es e e') : bk e = bk e' := by
  obtain ⟨g, g', g1, g2, g3, g4, g5, g6⟩ := h
  have n1 : ¬ Lp es e := fun h1 => by
    rw [← g3] at h1
    exact g6.left ((lp_iff g1).1 h1).symm
  have n2 : ¬ Lp es e' := fun h1 => by
    rw [← g4] at h1
    exact g6.right (by rw [g5]; exact ((lp_iff g2).1 h1).symm)
  have key : ∀ i, i < ct → (Tch es (X i) e ↔ Tch es (X i) e') := fun i hi => by
    rw [← g3, ← g4, tch_iff g1, tch_iff g2, ← g5]
    by_cases hx : X i (fN es g)
    · exact ⟨fun _ => Or.inl hx, fun _ => Or.inl hx⟩
    · have hu : ∀ g0, g0 < 2 * es.length → fN es g0 = fN es g → X i (gN es g0) → U i = fN es g := fun g0 h1 h2 h3 => by
        have h4 := b.cx i hi (twinH g0) (twin_is h1).1 (by rw [tw_f h1]; exact h3)
        rw [tw_g h1, h2] at h4
        rcases h4 with h4 | h4
        · exact absurd h4 hx
        · exact h4.symm
      constructor
      · rintro (h1 | h1)
        · exact absurd h1 hx
        · exact Or.inr (b.stay hi (hu g g1 rfl h1) g6 h1)
      · rintro (h1 | h1)
        · exact absurd h1 hx
        · exact Or.inr (b.stay hi (hu g' g2 g5.symm h1) g6.symm h1)
  obtain ⟨j, j1, j2, j3, j4⟩ := b.cb e (by omega) n1
  obtain ⟨k, k1, k2, k3, k4⟩ := b.cb e' (by omega) n2
  rw [j1, k1]
  have h1 := (key j j2).1 j3
  have h2 := (key k k2).2 k3
  rcases Nat.lt_trichotomy j k with h | h | h
  · exact absurd h1 (k4 j h)
  · rw [h]
  · exact absurd h2 (j4 k h)
/-- The edges' other ends are joined without a node. -/
def Jv (es : List Pt) (v e e' : Nat) : Prop := ∀ g g', g < 2 * es.length → g' < 2 * es.length → g / 2 = e → g' / 2 = e' → fN es g ≠ v → fN es g' ≠ v → JP es (fun z => z ≠ v) (fN es g) (fN es g')
theorem jv_self {v e : Nat} : Jv es v e e := fun g g' h1 h2 h3 h4 h5 h6 => by
  rcases tw_h (h := g) (g := g') (by omega) with e | e
  · rw [e]; exact .refl _ h5
  · rw [e, tw_f h1] at h6 ⊢
    exact .one h1 h5 h6
theorem jv_one {v e e' : Nat} (h : RB es e e') : Jv es v e e' := by
  obtain ⟨g, g', g1, g2, g3, g4, g5, g6⟩ := h
  intro a a' a1 a2 a3 a4 a5 a6
  by_cases hv : fN es g = v
  · have e1 : fN es a = gN es g := by
      rcases tw_h (h := g) (g := a) (by omega) with e | e
      · rw [e] at a5; exact absurd hv a5
      · rw [e, tw_f g1]
    have e2 : fN es a' = gN es g' := by
      rcases tw_h (h := g') (g := a') (by omega) with e | e
      · rw [e, ← g5] at a6; exact absurd hv a6
      · rw [e, tw_f g2]
    rw [e1, e2, ← hv]
    exact g6
  · have h1 := jv_self (es := es) (v := v) (e := e) a g a1 g1 a3 g3 a5 hv
    have h2 := jv_self (es := es) (v := v) (e := e') g' a' g2 a2 g4 a4 (by rw [← g5]; exact hv) a6
    rw [g5] at h1
    exact h1.trans h2
theorem rb_ends {e e' : Nat} (h : RB es e e') (v : Nat) : (∃ g, g < 2 * es.length ∧ g / 2 = e ∧ fN es g ≠ v) ∧ ∃ g, g < 2 * es.length ∧ g / 2 = e' ∧ fN es g ≠ v := by
  obtain ⟨g, g', g1, g2, g3, g4, g5, g6⟩ := h
  by_cases hv : fN es g = v
  · refine ⟨⟨twinH g, (twin_is g1).1, by rw [(twin_is g1).2.2.1]; exact g3, ?_⟩, ⟨twinH g', (twin_is g2).1, by rw [(twin_is g2).2.2.1]; exact g4, ?_⟩⟩
    · rw [tw_f g1, ← hv]; exact g6.left
    · rw [tw_f g2, ← hv]; exact g6.right
  · exact ⟨⟨g, g1, g3, hv⟩, ⟨g', g2, g4, by rw [← g5]; exact hv⟩⟩
theorem rc_jv {e e' : Nat} (h : RC es e e') (v : Nat) : e = e' ∨ (((∃ g, g < 2 * es.length ∧ g / 2 = e ∧ fN es g ≠ v) ∧ ∃ g, g < 2 * es.length ∧ g / 2 = e' ∧ fN es g ≠ v) ∧ Jv es v e e') := by
  induction h with
  | refl e => exact Or.inl rfl
  | one h => exact Or.inr ⟨rb_ends h v, jv_one h⟩
  | symm _ ih =>
    rcases ih with ih | ⟨⟨h1, h2⟩, h3⟩
    · exact Or.inl ih.symm
    · exact Or.inr ⟨⟨h2, h1⟩, fun g g' a1 a2 a3 a4 a5 a6 => (h3 g' g a2 a1 a4 a3 a6 a5).symm⟩
  | trans _ _ ih1 ih2 =>
    rcases ih1 with ih1 | ⟨⟨h1, h2⟩, h3⟩
    · rw [ih1]; exact ih2
    · rcases ih2 with ih2 | ⟨⟨k1, k2⟩, k3⟩
      · rw [← ih2]; exact Or.inr ⟨⟨h1, h2⟩, h3⟩
      · obtain ⟨m, m1, m2, m3⟩ := h2
        exact Or.inr ⟨⟨h1, k2⟩, fun g g' a1 a2 a3 a4 a5 a6 => (h3 g m a1 m1 a3 m2 a5 m3).trans (k3 m g' m1 a2 m2 a4 m3 a6)⟩
/-- Two edges of one block at a node go on to what is joined without it. -/
theorem BF.d2 (b : BF n es bk ct pl U X rt) {g g' : Nat} (h1 : g < 2 * es.length) (h2 : g' < 2 * es.length) (hb : bk (g / 2) = bk (g' / 2)) (n1 : gN es g ≠ fN es g) (n2 : gN es g' ≠ fN es g) : JP es (fun z => z ≠ fN es g) (gN es g) (gN es g') := by
  have hj : Jv es (fN es g) (g / 2) (g' / 2) := by
    rcases rc_jv (b.rc (g / 2) (g' / 2) (by omega) (by omega) hb) (fN es g) with e | ⟨_, h⟩
    · rw [← e]; exact jv_self
    · exact h
  have := hj (twinH g) (twinH g') (twin_is h1).1 (twin_is h2).1 (twin_is h1).2.2.1 (twin_is h2).2.2.1 (by rw [tw_f h1]; exact n1) (by rw [tw_f h2]; exact n2)
  rw [tw_f h1, tw_f h2] at this
  exact this
/-- A node in the part that hangs on another has its edges in that block or in ones that were whole before. -/
theorem BF.hang (b : BF n es bk ct pl U X rt) {g : Nat} (hg : g < 2 * es.length) (hn : fN es g ≠ gN es g) : ∃ j : Nat, bk (g / 2) = j ∧ j < ct ∧ ((U j = fN es g ∧ X j (gN es g)) ∨ (X j (fN es g) ∧ ∀ i, i < j → ¬ X i (fN es g))) := by
  obtain ⟨j, j1, j2, j3, j4⟩ := b.cb (g / 2) (by omega) fun h => hn ((lp_iff hg).1 h)
  refine ⟨j, j1, j2, ?_⟩
  rcases (tch_iff hg).1 j3 with h | h
  · exact Or.inr ⟨h, fun i hi hx => j4 i hi ((tch_iff hg).2 (Or.inl hx))⟩
  · by_cases hx : X j (fN es g)
    · exact Or.inr ⟨hx, fun i hi hx => j4 i hi ((tch_iff hg).2 (Or.inl hx))⟩
    · left
      have := b.cx j j2 (twinH g) (twin_is hg).1 (by rw [tw_f hg]; exact h)
      rw [tw_g hg] at this
      rcases this with h1 | h1
      · exact absurd h1 hx
      · exact ⟨h1.symm, h⟩
/-- Of the blocks at a node at most one does not hang on it; a root has none such, every other node has one. -/
theorem BF.one (b : BF n es bk ct pl U X rt) {g g' : Nat} (h1 : g < 2 * es.length) (h2 : g' < 2 * es.length) (hf : fN es g = fN es g') {j j' : Nat} (hj : bk (g / 2) = j) (hj' : bk (g' / 2) = j') (u : U j ≠ fN es g) (u' : U j' ≠ fN es g) : j = j' := by
  have nl : ∀ (x k : Nat), x < 2 * es.length → bk (x / 2) = k → U k ≠ fN es x → fN es x ≠ gN es x := fun x k hx hk hu e => by
    have hlx := (lp_iff hx).2 e
    have hkc : k < ct := by have := (b.bin (x / 2) (by omega)).2; omega
    obtain ⟨y, y1, y2, y3⟩ := b.up k hkc
    have := b.lp (x / 2) (y / 2) (by omega) (by omega) hlx (by rw [hk, y2])
    rcases tw_h this.symm with e1 | e1
    · exact hu (by rw [← y3, e1])
    · rw [e1, tw_f hx, ← e] at y3
      exact hu y3.symm
  obtain ⟨k, k1, k2, k3⟩ := b.hang h1 (nl g j h1 hj u)
  obtain ⟨k', l1, l2, l3⟩ := b.hang h2 (nl g' j' h2 hj' (by rw [← hf]; exact u'))
  have e1 : k = j := by omega
  have e2 : k' = j' := by omega
  subst e1; subst e2
  rcases k3 with ⟨k3, _⟩ | ⟨k3, k4⟩
  · exact absurd k3 u
  · rcases l3 with ⟨l3, _⟩ | ⟨l3, l4⟩
    · exact absurd l3 (by rw [← hf]; exact u')
    · rw [← hf] at l3 l4
      rcases Nat.lt_trichotomy k k' with h | h | h
      · exact absurd k3 (l4 k h)
      · exact h
      · exact absurd l3 (k4 k' h)
theorem BF.root (b : BF n es bk ct pl U X rt) {g j : Nat} (h1 : g < 2 * es.length) (hj : bk (g / 2) = j) (hr : rt (fN es g)) : U j = fN es g := by
  refine Classical.byContradiction fun hu => ?_
  have hkc : j < ct := by have := (b.bin (g / 2) (by omega)).2; omega
  have nl : fN es g ≠ gN es g := fun e => by
    have hlx := (lp_iff h1).2 e
    obtain ⟨y, y1, y2, y3⟩ := b.up j hkc
    have := b.lp (g / 2) (y / 2) (by omega) (by omega) hlx (by rw [hj, y2])
    rcases tw_h this.symm with e1 | e1
    · exact hu (by rw [← y3, e1])
    · rw [e1, tw_f h1, ← e] at y3
      exact hu y3.symm
  obtain ⟨k, k1, k2, k3⟩ := b.hang h1 nl
  have e1 : k = j := by omega
  subst e1
  rcases k3 with ⟨k3, _⟩ | ⟨k3, _⟩
  · exact hu k3
  · exact b.ro _ hr _ hkc k3
theorem least_nat {p : Nat → Prop} (h : ∃ i, p i) : ∃ i, p i ∧ ∀ k, k < i → ¬ p k := by
  obtain ⟨m, hm⟩ := h
  induction m using Nat.strongRecOn with
  | ind m ih =>
    by_cases hx : ∃ k, k < m ∧ p k
    · obtain ⟨k, hk, hp⟩ := hx
      exact ih k hk hp
    · exact ⟨m, hm, fun k hk hp => hx ⟨k, hk, hp⟩⟩
theorem BF.child (b : BF n es bk ct pl U X rt) {v : Nat} (hv : v < n) (hr : ¬ rt v) : ∃ g, g < 2 * es.length ∧ fN es g = v ∧ ∃ j : Nat, bk (g / 2) = j ∧ j < ct ∧ U j ≠ v := by
  obtain ⟨j, ⟨j1, j2⟩, j3⟩ := least_nat (p := fun j => j < ct ∧ X j v) (by rcases b.fr v hv with h | h; exact absurd h hr; exact h)
  rcases b.te v hv with h | ⟨g, g1, g2, g3⟩
  · exact absurd h hr
  · have hne : fN es g ≠ gN es g := fun e => by rw [e, g2] at g3; omega
    refine ⟨twinH g, (twin_is g1).1, by rw [tw_f g1, g2], j, ?_, j1, fun e => (b.cu j j1).1 (by rw [e]; exact j2)⟩
    rw [(twin_is g1).2.2.1]
    obtain ⟨k, k1, k2, k3, k4⟩ := b.cb (g / 2) (by omega) fun h => hne ((lp_iff g1).1 h)
    have hjk : ¬ j < k := fun h => k4 j h ((tch_iff g1).2 (Or.inr (by rw [g2]; exact j2)))
    have hkj : ¬ k < j := fun h => by
      rcases (tch_iff g1).1 k3 with h1 | h1
      · rcases b.cx k k2 g g1 h1 with h2 | h2
        · rw [g2] at h2; exact j3 k h ⟨k2, h2⟩
        · have := (b.cu k k2).2 _ h1
          rw [← h2, g2] at this
          omega
      · rw [g2] at h1; exact j3 k h ⟨k2, h1⟩
    rw [k1]
    omega
end Go.Proofs.Ytobkejnlkjieoaa

/- Pure: blocks by number; cut nodes; counting. -/
namespace Go.Proofs.Ytobkejnlkjieoaa
open Go.RowKit Go.Sort
open Go
/-- What goes one to one into a list is no longer than it. -/
theorem rel_len {α β : Type} {l : List α} : ∀ {l' : List β} (R : α → β → Prop), l.Nodup → (∀ x, x ∈ l → ∃ y, y ∈ l' ∧ R x y) → (∀ x x' y, x ∈ l → x' ∈ l → y ∈ l' → R x y → R x' y → x = x') → l.length ≤ l'.length := by
  induction l with
  | nil => intro l' R _ _ _; exact Nat.zero_le _
  | cons x t ih =>
    intro l' R hn hm hi
    classical
    obtain ⟨y, hy, hr⟩ := hm x List.mem_cons_self
    obtain ⟨hx, ht⟩ := List.nodup_cons.1 hn
    have h1 := ih (l' := l'.erase y) R ht (fun x' hx' => by
      obtain ⟨y', hy', hr'⟩ := hm x' (List.mem_cons_of_mem _ hx')
      refine ⟨y', (List.mem_erase_of_ne fun e => ?_).2 hy', hr'⟩
      rw [e] at hr'
      have := hi x x' y List.mem_cons_self (List.mem_cons_of_mem _ hx') hy hr hr'
      exact hx (by rw [this]; exact hx')) fun a a' b ha ha' hb => hi a a' b (List.mem_cons_of_mem _ ha) (List.mem_cons_of_mem _ ha') (List.mem_of_mem_erase hb)
    rw [List.length_erase_of_mem hy] at h1
    have : 0 < l'.length := List.length_pos_of_mem hy
    simp only [List.length_cons]
    omega
theorem cf_all {c : Nat} {f : Nat → Int} (h : ∀ k, k < c → 0 ≤ f k) : cf c f = c := by
  induction c with
  | zero => rfl
  | succ c ih =>
    unfold cf
    rw [ih fun k hk => h k (by omega), if_pos (h c (by omega))]
/-- Unlike blocks have unlike numbers. -/
theorem nb_inj {of : Nat → Int} {m c : Nat} (h : ∀ e, e < m → 0 ≤ of e ∧ of e < c) : ∀ e, e ≤ m → ∀ k k', 0 ≤ (nbB of e).1 k → (nbB of e).1 k = (nbB of e).1 k' → k = k' := by
  intro e
  induction e with
  | zero =>
    intro _ k k' h1
    have h2 : (0 : Int) ≤ -1 := h1
    omega
  | succ e ih =>
    intro he k k' h1 h2
    obtain ⟨_, g2, _⟩ := nb_cf h e (by omega)
    unfold nbB at h1 h2
    by_cases hn : (nbB of e).1 (of e).toNat < 0
    · simp only [hn, if_true] at h1 h2
      by_cases e1 : k = (of e).toNat
      · by_cases e2 : k' = (of e).toNat
        · rw [e1, e2]
        · rw [e1, upd_same, upd_other _ _ e2] at h2
          have := g2 k'
          omega
      · rw [upd_other _ _ e1] at h1 h2
        by_cases e2 : k' = (of e).toNat
        · rw [e2, upd_same] at h2
          have := g2 k
          omega
        · rw [upd_other _ _ e2] at h2
          exact ih (by omega) k k' h1 h2
    · simp only [hn, if_false] at h1 h2
      exact ih (by omega) k k' h1 h2
theorem nb_onto {of : Nat → Int} : ∀ (e i : Nat), i < (nbB of e).2 → ∃ j, j < e ∧ noB of j = i := by
  intro e
  induction e with
  | zero => intro i hi; exact absurd hi (Nat.not_lt_zero _)
  | succ e ih =>
    intro i hi
    by_cases hn : (nbB of e).1 (of e).toNat < 0
    · have h1 : (nbB of (e + 1)).2 = (nbB of e).2 + 1 := by rw [nbB]; simp only [hn, if_true]
      by_cases h2 : i < (nbB of e).2
      · obtain ⟨j, a, b⟩ := ih i h2
        exact ⟨j, by omega, b⟩
      · refine ⟨e, by omega, ?_⟩
        unfold noB
        rw [nbB]
        simp only [hn, if_true]
        rw [upd_same]
        omega
    · have h1 : (nbB of (e + 1)).2 = (nbB of e).2 := by rw [nbB]; simp only [hn, if_false]
      obtain ⟨j, a, b⟩ := ih i (by omega)
      exact ⟨j, by omega, b⟩
theorem no_last {of : Nat → Int} {m c : Nat} (h : ∀ e, e < m → 0 ≤ of e ∧ of e < c) {e : Nat} (he : e < m) : noB of e = (nbB of m).1 (of e).toNat ∧ 0 ≤ noB of e := by
  obtain ⟨_, _, h3⟩ := nb_cf h (e + 1) (by omega)
  have := h3 e (by omega)
  unfold noB
  exact ⟨(nb_stays' (by omega) this).symm, this⟩
theorem no_iff {of : Nat → Int} {m c : Nat} (h : ∀ e, e < m → 0 ≤ of e ∧ of e < c) {e e' : Nat} (he : e < m) (he' : e' < m) : noB of e = noB of e' ↔ of e = of e' := by
  obtain ⟨a1, a2⟩ := no_last h he
  obtain ⟨b1, b2⟩ := no_last h he'
  constructor
  · intro hh
    rw [a1, b1] at hh
    rw [a1] at a2
    have := nb_inj h m (Nat.le_refl _) _ _ a2 hh
    have := h e he
    have := h e' he'
    omega
  · intro hh
    rw [a1, b1, hh]
/-- Each number is that of a block. -/
theorem no_onto {of : Nat → Int} {m c : Nat} (h : ∀ e, e < m → 0 ≤ of e ∧ of e < c) (ho : ∀ j : Nat, j < c → ∃ e, e < m ∧ of e = j) {i : Nat} (hi : i < c) : ∃ e, e < m ∧ noB of e = i := by
  obtain ⟨h1, _, h3⟩ := nb_cf h m (Nat.le_refl _)
  have h4 : cf c (nbB of m).1 = c := cf_all fun k hk => by
    obtain ⟨e, e1, e2⟩ := ho k hk
    have := h3 e e1
    rw [e2, Int.toNat_natCast] at this
    exact this
  exact nb_onto m i (by omega)
/-- Edges of two blocks at a node. -/
def Sev (es : List Pt) (of : Nat → Int) (v : Nat) : Prop := ∃ g g', g < 2 * es.length ∧ g' < 2 * es.length ∧ fN es g = v ∧ fN es g' = v ∧ of (g / 2) ≠ of (g' / 2)
theorem ct_is {es : List Pt} {of : Nat → Int} (hof : ∀ e, e < es.length → 0 ≤ of e) : ∀ h, h ≤ 2 * es.length → ∀ v, ((ctB es of h).1 v < 0 ∧ (∀ g, g < h → fN es g ≠ v) ∧ (ctB es of h).2 v = false) ∨ ∃ g0, g0 < h ∧ fN es g0 = v ∧ (ctB es of h).1 v = of (g0 / 2) ∧ ((ctB es of h).2 v = true ↔ ∃ g, g < h ∧ fN es g = v ∧ of (g / 2) ≠ of (g0 / 2)) := by
  intro h
  induction h with
  | zero => intro _ v; exact Or.inl ⟨by show (-1 : Int) < 0; omega, fun g hg => absurd hg (Nat.not_lt_zero _), rfl⟩
  | succ h ih =>
    intro hh v
    have ih' := ih (by omega) v
    have ho := hof (h / 2) (by omega)
    by_cases ev : fN es h = v
    · have e1 : (ctB es of (h + 1)).1 v = if (ctB es of h).1 v < 0 then of (h / 2) else (ctB es of h).1 v := by
        rw [ctB, ev]
        show (if (ctB es of h).1 v < 0 then upd (ctB es of h).1 v (of (h / 2)) else (ctB es of h).1) v = _
        by_cases hn : (ctB es of h).1 v < 0
        · rw [if_pos hn, if_pos hn, upd_same]
        · rw [if_neg hn, if_neg hn]
      have e2 : (ctB es of (h + 1)).2 v = ((ctB es of h).2 v || decide ((ctB es of (h + 1)).1 v ≠ of (h / 2))) := by
        rw [e1, ctB, ev]
        show upd (ctB es of h).2 v ((ctB es of h).2 v || decide ((if (ctB es of h).1 v < 0 then upd (ctB es of h).1 v (of (h / 2)) else (ctB es of h).1) v ≠ of (h / 2))) v = _
        rw [upd_same]
        by_cases hn : (ctB es of h).1 v < 0
        · rw [if_pos hn, if_pos hn, upd_same]
        · rw [if_neg hn, if_neg hn]
      right
      rcases ih' with ⟨a1, a2, a3⟩ | ⟨g0, b1, b2, b3, b4⟩
      · rw [if_pos a1] at e1
        refine ⟨h, by omega, ev, e1, ?_⟩
        rw [e2, e1, a3]
        simp only [ne_eq, not_true_eq_false, decide_false, Bool.or_self, Bool.false_eq_true, false_iff]
        rintro ⟨g, g1, g2, g3⟩
        by_cases eg : g = h
        · exact g3 (by rw [eg])
        · exact a2 g (by omega) g2
      · have hb : 0 ≤ of (g0 / 2) := hof _ (by omega)
        rw [if_neg (by omega), b3] at e1
        refine ⟨g0, by omega, b2, e1, ?_⟩
        rw [e2, e1, Bool.or_eq_true, decide_eq_true_eq, b4]
        constructor
        · rintro (⟨g, g1, g2, g3⟩ | g3)
          · exact ⟨g, by omega, g2, g3⟩
          · exact ⟨h, by omega, ev, fun e => g3 e.symm⟩
        · rintro ⟨g, g1, g2, g3⟩
          by_cases eg : g = h
          · rw [eg] at g3
            exact Or.inr fun e => g3 e.symm
          · exact Or.inl ⟨g, by omega, g2, g3⟩
    · have e1 : (ctB es of (h + 1)).1 v = (ctB es of h).1 v := by
        rw [ctB]
        show (if (ctB es of h).1 (fN es h) < 0 then upd (ctB es of h).1 (fN es h) (of (h / 2)) else (ctB es of h).1) v = _
        split
        · rw [upd_other _ _ fun e => ev e.symm]
        · rfl
      have e2 : (ctB es of (h + 1)).2 v = (ctB es of h).2 v := by
        rw [ctB]
        show upd (ctB es of h).2 (fN es h) _ v = _
        rw [upd_other _ _ fun e => ev e.symm]
      rw [e1, e2]
      rcases ih' with ⟨a1, a2, a3⟩ | ⟨g0, b1, b2, b3, b4⟩
      · refine Or.inl ⟨a1, fun g hg => ?_, a3⟩
        by_cases eg : g = h
        · rw [eg]; exact ev
        · exact a2 g (by omega)
      · refine Or.inr ⟨g0, by omega, b2, b3, b4.trans ⟨fun ⟨g, g1, g2⟩ => ⟨g, by omega, g2⟩, fun ⟨g, g1, g2, g3⟩ => ⟨g, ?_, g2, g3⟩⟩⟩
        have : g ≠ h := fun e => ev (by rw [← e]; exact g2)
        omega
theorem cut_mem {n : Nat} {es : List Pt} {of : Nat → Int} (hof : ∀ e, e < es.length → 0 ≤ of e) {x : Int} : x ∈ cutB n es of ↔ ∃ v : Nat, v < n ∧ x = v ∧ Sev es of v := by
  have key : ∀ v, (ctB es of (2 * es.length)).2 v = true ↔ Sev es of v := fun v => by
    rcases ct_is hof (2 * es.length) (Nat.le_refl _) v with ⟨a1, a2, a3⟩ | ⟨g0, b1, b2, b3, b4⟩
    · rw [a3]
      simp only [Bool.false_eq_true, false_iff]
      rintro ⟨g, _, g1, _, g2, _⟩
      exact a2 g g1 g2
    · rw [b4]
      constructor
      · rintro ⟨g, g1, g2, g3⟩
        exact ⟨g, g0, g1, b1, g2, b2, g3⟩
      · rintro ⟨g, g', g1, g2, g3, g4, g5⟩
        by_cases h : of (g / 2) = of (g0 / 2)
        · exact ⟨g', g2, g4, fun e => g5 (by rw [h, e])⟩
        · exact ⟨g, g1, g3, h⟩
  unfold cutB
  simp only [List.mem_map, List.mem_filter, List.mem_range]
  constructor
  · rintro ⟨v, ⟨h1, h2⟩, h3⟩
    exact ⟨v, h1, h3.symm, (key v).1 h2⟩
  · rintro ⟨v, h1, h2, h3⟩
    exact ⟨v, ⟨h1, (key v).2 h3⟩, h2.symm⟩
end Go.Proofs.Ytobkejnlkjieoaa

/- Components where some nodes and edges are left out: labels that spread along the others, as the document's Parts lays them. -/
namespace Go.Proofs.Ytobkejnlkjieoaa
open Go.RowKit Go.Sort
open Go
/-- Joined by a way that goes over no node of G and no edge of K. -/
inductive ConnX (es : List Pt) (G K : Nat → Bool) : Nat → Nat → Prop
  | refl (a : Nat) (h : G a = false) : ConnX es G K a a
  | step {a b c h : Nat} : ConnX es G K a b → h < 2 * es.length → fromL es h = b → toL es h = c → G c = false → K (h / 2) = false → ConnX es G K a c
structure LabX (es : List Pt) (G K : Nat → Bool) (n k s : Nat) (C : List Int) (r : Nat → Nat) (due : Nat → Nat → Prop) : Prop where
  len : C.length = n
  val : ∀ v, v < n → iat C v = -1 ∨ (0 ≤ iat C v ∧ iat C v < k)
  cl : ∀ h u x : Nat, h < 2 * es.length → fromL es h = u → toL es h = x → 0 ≤ iat C u → G x = false → K (h / 2) = false → iat C x = iat C u ∨ (iat C u + 1 = k ∧ due h u)
  con : ∀ v j : Nat, v < n → iat C v = j → ConnX es G K (r j) v ∧ r j ≤ v
  root : ∀ j, j < k → r j < n ∧ iat C (r j) = j
  done : ∀ v, v < s → v < n → G v = false → 0 ≤ iat C v
  gone : ∀ v, v < n → G v = true → iat C v = -1
  rlt : ∀ j, j < k → r j < s
  inc : ∀ i j, i < j → j < k → r i < r j
variable {es : List Pt} {G K : Nat → Bool} {n k s : Nat} {C : List Int} {r : Nat → Nat}
theorem LabX.not_gone {due : Nat → Nat → Prop} (h : LabX es G K n k s C r due) {v : Nat} (hv : v < n) (hc : 0 ≤ iat C v) : G v = false := by
  cases hg : G v
  · rfl
  · have := h.gone v hv hg
    omega
theorem labx_start (n : Nat) (hin : ∀ t, t < 2 * es.length → fromL es t < n) : LabX es G K n 0 0 (List.replicate n (-1)) r NoDue where
  len := by simp
  val v hv := Or.inl (iat_fill hv)
  cl h u x h1 h2 _ hc _ _ := by
    exfalso
    have := hin h h1
    rw [iat_fill (by omega)] at hc
    omega
  con v j hv hj := by
    exfalso
    rw [iat_fill hv] at hj
    omega
  root j hj := by omega
  done v hv := by omega
  gone v hv _ := iat_fill hv
  rlt j hj := by omega
  inc i j _ hj := by omega
theorem LabX.mono {due due' : Nat → Nat → Prop} (h : LabX es G K n k s C r due) (hd : ∀ t u : Nat, t < 2 * es.length → fromL es t = u → due t u → due' t u) : LabX es G K n k s C r due' :=
  { h with cl := fun t u x h1 h2 h3 h4 h5 h6 => (h.cl t u x h1 h2 h3 h4 h5 h6).imp id fun ⟨a, b⟩ => ⟨a, hd t u h1 h2 b⟩ }
theorem LabX.over (h : LabX es G K n k s C r NoDue) (hs : 0 ≤ iat C s ∨ G s = true) : LabX es G K n k (s + 1) C r NoDue :=
  { h with
    done := fun v hv hn hg => by
      by_cases e : v = s
      · rw [e] at hg ⊢
        rcases hs with hs | hs
        · exact hs
        · rw [hs] at hg; cases hg
      · exact h.done v (by omega) hn hg
    rlt := fun j hj => Nat.lt_succ_of_lt (h.rlt j hj) }
theorem LabX.begin (h : LabX es G K n k s C r NoDue) (hsn : s < n) (hs : ¬ 0 ≤ iat C s) (hg : G s = false) : LabX es G K n (k + 1) (s + 1) (C.set s k) (upd r k s) (Due [s]) := by
  have hl := h.len
  have hneg : iat C s = -1 := by rcases h.val s hsn with h | h; exact h; omega
  have e1 : iat (C.set s k) s = k := iat_putW (by omega)
  have e2 : ∀ v, v ≠ s → iat (C.set s k) v = iat C v := fun v hv => iat_put_neW hv
  refine ⟨by simp [hl], ?_, ?_, ?_, ?_, ?_, ?_, ?_, ?_⟩
  · intro v hv
    by_cases hvs : v = s
    · rw [hvs, e1]; right; omega
    · rw [e2 v hvs]; have := h.val v hv; omega
  · intro t u x h1 h2 h3 h4 hgx hkx
    by_cases hus : u = s
    · rw [hus, e1]; right; exact ⟨by omega, by simp [Due]⟩
    · rw [e2 u hus] at h4 ⊢
      rcases h.cl t u x h1 h2 h3 h4 hgx hkx with h5 | ⟨_, h5⟩
      · have hxs : x ≠ s := fun e => by rw [e, hneg] at h5; omega
        rw [e2 x hxs]; exact Or.inl h5
      · exact absurd h5 (by simp [NoDue])
  · intro v j hv hj
    by_cases hvs : v = s
    · rw [hvs, e1] at hj
      have : j = k := by omega
      rw [this, upd_same, hvs]
      exact ⟨.refl s hg, Nat.le_refl s⟩
    · rw [e2 v hvs] at hj
      have hk := h.val v hv
      rw [upd_other _ _ (by omega)]
      exact h.con v j hv hj
  · intro j hj
    by_cases hjk : j = k
    · rw [hjk, upd_same, e1]; exact ⟨hsn, rfl⟩
    · rw [upd_other _ _ hjk]
      have := h.root j (by omega)
      have h2 := h.rlt j (by omega)
      rw [e2 _ (by omega)]
      exact this
  · intro v hv hn hgv
    by_cases hvs : v = s
    · rw [hvs, e1]; omega
    · rw [e2 v hvs]; exact h.done v (by omega) hn hgv
  · intro v hv hgv
    have hvs : v ≠ s := fun e => by rw [e, hg] at hgv; cases hgv
    rw [e2 v hvs]; exact h.gone v hv hgv
  · intro j hj
    by_cases hjk : j = k
    · rw [hjk, upd_same]; omega
    · rw [upd_other _ _ hjk]; have := h.rlt j (by omega); omega
  · intro i j hij hj
    rw [upd_other _ _ (by omega)]
    by_cases hjk : j = k
    · rw [hjk, upd_same]; exact h.rlt i (by omega)
    · rw [upd_other _ _ hjk]; exact h.inc i j hij (by omega)
theorem LabX.stop {T : List Nat} (h : LabX es G K n k s C r (Due T)) (hT : T = []) : LabX es G K n k s C r NoDue := h.mono fun t u _ _ d => by simp [Due, hT] at d
theorem LabX.pop {T : List Nat} {v : Nat} (h : LabX es G K n k s C r (Due (T ++ [v]))) : LabX es G K n k s C r (DueI T v (outL es (2 * es.length) v) 0) := h.mono fun t u h1 h2 d => by
  unfold Due at d
  rcases List.mem_append.1 d with d | d
  · exact Or.inl d
  · have : u = v := by simpa using d
    subst this
    obtain ⟨j, hj, e⟩ := outL_mem h1 h2
    exact Or.inr ⟨rfl, j, by omega, hj, e⟩
theorem LabX.shut {T : List Nat} {v : Nat} {L : List Int} {j : Nat} (h : LabX es G K n k s C r (DueI T v L j)) (hj : L.length ≤ j) : LabX es G K n k s C r (Due T) := h.mono fun t u _ _ d => by
  rcases d with d | ⟨_, i, h1, h2, _⟩
  · exact d
  · omega
theorem LabX.alike {T : List Nat} {v x j t : Nat} {L : List Int} (h : LabX es G K n k s C r (DueI T v L j)) (hvn : v < n) (ht : t < 2 * es.length) (hf : fromL es t = v) (hto : toL es t = x) (hv : iat C v + 1 = k) (hx : 0 ≤ iat C x) (hv0 : 0 ≤ iat C v) (hk : K (t / 2) = false) : iat C x = iat C v := by
  have hg := h.not_gone hvn hv0
  have key : ∃ t', t' < 2 * es.length ∧ fromL es t' = toL es t ∧ toL es t' = fromL es t ∧ t' / 2 = t / 2 := by
    by_cases h2 : t % 2 = 0
    · refine ⟨t + 1, by omega, ?_, ?_, by omega⟩
      · unfold fromL toL; rw [if_neg (by omega), if_pos h2, show (t + 1) / 2 = t / 2 by omega]
      · unfold fromL toL; rw [if_neg (by omega), if_pos h2, show (t + 1) / 2 = t / 2 by omega]
    · refine ⟨t - 1, by omega, ?_, ?_, by omega⟩
      · unfold fromL toL; rw [if_pos (by omega), if_neg h2, show (t - 1) / 2 = t / 2 by omega]
      · unfold fromL toL; rw [if_pos (by omega), if_neg h2, show (t - 1) / 2 = t / 2 by omega]
  obtain ⟨t', h1, h2, h3, h5⟩ := key
  rw [hto] at h2
  rw [hf] at h3
  rcases h.cl t' x v h1 h2 h3 hx hg (by rw [h5]; exact hk) with h4 | ⟨h4, _⟩ <;> omega
/-- A half-edge that leads nowhere new. -/
theorem LabX.skip {T : List Nat} {v x j t : Nat} {L : List Int} (h : LabX es G K n k s C r (DueI T v L j)) (hvn : v < n) (hL : iat L j = t) (ht : t < 2 * es.length) (hf : fromL es t = v) (hto : toL es t = x) (hv : iat C v + 1 = k) (hv0 : 0 ≤ iat C v) (hx : 0 ≤ iat C x ∨ G x = true ∨ K (t / 2) = true) : LabX es G K n k s C r (DueI T v L (j + 1)) :=
  { h with
    cl := fun t' u y h1 h2 h3 h4 hgy hky => by
      rcases h.cl t' u y h1 h2 h3 h4 hgy hky with h5 | ⟨h5, h6⟩
      · exact Or.inl h5
      · rcases h6 with h6 | ⟨h6, i, h7, h8, h9⟩
        · exact Or.inr ⟨h5, Or.inl h6⟩
        · by_cases hij : i = j
          · left
            rw [hij, hL] at h9
            have : t = t' := by omega
            subst this
            rw [hto] at h3
            have : x = y := by omega
            subst this
            rw [h6]
            rcases hx with hx | hx | hx
            · exact h.alike hvn ht hf hto hv hx hv0 hky
            · rw [hx] at hgy; cases hgy
            · rw [hx] at hky; cases hky
          · exact Or.inr ⟨h5, Or.inr ⟨h6, i, by omega, h8, h9⟩⟩ }
theorem LabX.label {T : List Nat} {v x j t : Nat} {L : List Int} (h : LabX es G K n (k + 1) s C r (DueI T v L j)) (hL : iat L j = t) (ht : t < 2 * es.length) (hf : fromL es t = v) (hto : toL es t = x) (hvn : v < n) (hxn : x < n) (hv : iat C v = k) (hx : ¬ 0 ≤ iat C x) (hg : G x = false) (hkt : K (t / 2) = false) : LabX es G K n (k + 1) s (C.set x k) r (DueI (T ++ [x]) v L (j + 1)) := by
  have hl := h.len
  have hneg : iat C x = -1 := by rcases h.val x hxn with h | h; exact h; omega
  have e1 : iat (C.set x k) x = k := iat_putW (by omega)
  have e2 : ∀ v, v ≠ x → iat (C.set x k) v = iat C v := fun v hv => iat_put_neW hv
  refine ⟨by simp [hl], ?_, ?_, ?_, ?_, ?_, ?_, h.rlt, h.inc⟩
  · intro u hu
    by_cases hux : u = x
    · rw [hux, e1]; right; omega
    · rw [e2 u hux]; exact h.val u hu
  · intro t' u y h1 h2 h3 h4 hgy hky
    by_cases hux : u = x
    · rw [hux, e1]; right; exact ⟨by omega, Or.inl (by simp)⟩
    · rw [e2 u hux] at h4 ⊢
      rcases h.cl t' u y h1 h2 h3 h4 hgy hky with h5 | ⟨h5, h6⟩
      · have hyx : y ≠ x := fun e => by rw [e, hneg] at h5; omega
        rw [e2 y hyx]; exact Or.inl h5
      · rcases h6 with h6 | ⟨h6, i, h7, h8, h9⟩
        · exact Or.inr ⟨h5, Or.inl (by simp [h6])⟩
        · by_cases hij : i = j
          · left
            rw [hij, hL] at h9
            have : t = t' := by omega
            subst this
            rw [hto] at h3
            have : x = y := by omega
            subst this
            rw [e1, h6, hv]
          · exact Or.inr ⟨h5, Or.inr ⟨h6, i, by omega, h8, h9⟩⟩
  · intro u q hu hq
    by_cases hux : u = x
    · rw [hux, e1] at hq
      have : q = k := by omega
      subst this
      rw [hux]
      refine ⟨.step (h.con v _ hvn hv).1 ht hf hto hg hkt, ?_⟩
      have h5 := h.rlt q (by omega)
      by_cases hxs : x < s
      · exact absurd (h.done x hxs hxn hg) hx
      · omega
    · rw [e2 u hux] at hq
      exact h.con u q hu hq
  · intro q hq
    have h5 := h.root q hq
    have : r q ≠ x := fun e => by rw [e, hneg] at h5; omega
    rw [e2 _ this]
    exact h5
  · intro u hu hn hgu
    by_cases hux : u = x
    · rw [hux, e1]; omega
    · rw [e2 u hux]; exact h.done u hu hn hgu
  · intro u hu hgu
    have hux : u ≠ x := fun e => by rw [e, hg] at hgu; cases hgu
    rw [e2 u hux]; exact h.gone u hu hgu
end Go.Proofs.Ytobkejnlkjieoaa

/- Pure: components by their labels; how many there are without a node. -/
namespace Go.Proofs.Ytobkejnlkjieoaa
open Go.RowKit Go.Sort
open Go
variable {n : Nat} {es : List Pt}
theorem connx_jp {G K : Nat → Bool} {a b : Nat} (h : ConnX es G K a b) : JP es (fun z => G z = false) a b := by
  induction h with
  | refl h => exact .refl _ h
  | @step b c h k hl h1 h2 h3 h4 ih =>
    have e1 : b = fN es h := by unfold fN; omega
    have e2 : c = gN es h := by unfold gN; omega
    rw [e1] at ih
    rw [e2] at h3 ⊢
    exact .step h ih hl h3
theorem jp_connx (hm : netB n es = true) {G : Nat → Bool} {a b : Nat} (h : JP es (fun z => G z = false) a b) : ConnX es G (fun _ => false) a b := by
  induction h with
  | refl h => exact .refl _ h
  | step h k hl hp ih =>
    have h1 := fromL_in hm h hl
    have h2 := toL_in hm h hl
    exact .step ih hl (by unfold fN; omega) (by unfold gN; omega) hp rfl
theorem JP.in {P : Nat → Prop} (hm : netB n es = true) {a b : Nat} (h : JP es P a b) (ha : a < n) : b < n := by
  cases h with
  | refl _ => exact ha
  | step h k hl hp => exact (fg_in hm hl).2
/-- Joined nodes have one label. -/
theorem LabX.join {G : Nat → Bool} {k : Nat} {C : List Int} {r : Nat → Nat} (hm : netB n es = true) (L : LabX es G (fun _ => false) n k n C r NoDue) {a b : Nat} (h : JP es (fun z => G z = false) a b) : iat C a = iat C b := by
  induction h with
  | refl h => rfl
  | step g k' hl hp ih =>
    rw [ih]
    have h1 := fromL_in hm g hl
    have h2 := toL_in hm g hl
    have h3 := k'.right
    have hb := (fg_in hm hl).1
    rcases L.cl g (fN es g) (gN es g) hl (by unfold fN; omega) (by unfold gN; omega) (L.done _ hb hb h3) hp rfl with h | ⟨_, h⟩
    · exact h.symm
    · exact h.elim
theorem LabX.root' {G : Nat → Bool} {k : Nat} {C : List Int} {r : Nat → Nat} (L : LabX es G (fun _ => false) n k n C r NoDue) {a j : Nat} (ha : a < n) (h : iat C a = j) : JP es (fun z => G z = false) (r j) a := connx_jp (L.con a j ha h).1
theorem LabX.is {G : Nat → Bool} {k : Nat} {C : List Int} {r : Nat → Nat} (L : LabX es G (fun _ => false) n k n C r NoDue) {a : Nat} (ha : a < n) (h : G a = false) : ∃ j : Nat, j < k ∧ iat C a = j := by
  have h1 := L.done a ha ha h
  have h2 := L.val a ha
  exact ⟨(iat C a).toNat, by omega, by omega⟩
/-- Nodes of one label are joined. -/
theorem LabX.joined {G : Nat → Bool} {k : Nat} {C : List Int} {r : Nat → Nat} (L : LabX es G (fun _ => false) n k n C r NoDue) {a b : Nat} (ha : a < n) (hb : b < n) (hg : G a = false) (h : iat C a = iat C b) : JP es (fun z => G z = false) a b := by
  obtain ⟨j, _, h2⟩ := L.is ha hg
  exact (L.root' ha h2).symm.trans (L.root' hb (by rw [← h]; exact h2))
/-- A way either goes by a node, or over it. -/
theorem jp_split {v a b : Nat} (h : JP es (fun _ => True) a b) (ha : a ≠ v) : (b ≠ v → JP es (fun z => z ≠ v) a b ∨ ∃ g g', g < 2 * es.length ∧ g' < 2 * es.length ∧ fN es g = v ∧ fN es g' = v ∧ JP es (fun z => z ≠ v) a (gN es g) ∧ JP es (fun z => z ≠ v) (gN es g') b) ∧ (b = v → ∃ g, g < 2 * es.length ∧ fN es g = v ∧ JP es (fun z => z ≠ v) a (gN es g)) := by
  induction h with
  | refl _ => exact ⟨fun h => Or.inl (.refl _ h), fun h => absurd h ha⟩
  | step g k hl hp ih =>
    obtain ⟨h1, h2⟩ := ih
    by_cases hf : fN es g = v
    · obtain ⟨x, x1, x2, x3⟩ := h2 hf
      refine ⟨fun hb => Or.inr ⟨x, g, x1, hl, x2, hf, x3, .refl _ hb⟩, fun _ => ⟨x, x1, x2, x3⟩⟩
    · have h3 := h1 hf
      refine ⟨fun hb => ?_, fun hb => ?_⟩
      · rcases h3 with h3 | ⟨x, y, x1, y1, x2, y2, x3, y3⟩
        · exact Or.inl (.step g h3 hl hb)
        · exact Or.inr ⟨x, y, x1, y1, x2, y2, x3, .step g y3 hl hb⟩
      · rcases h3 with h3 | ⟨x, y, x1, y1, x2, y2, x3, y3⟩
        · refine ⟨twinH g, (twin_is hl).1, by rw [tw_f hl]; exact hb, ?_⟩
          rw [tw_g hl]; exact h3
        · exact ⟨x, x1, x2, x3⟩
/-- Without a node that has no loop there are more components just if its edges' other ends fall apart. -/
theorem cut_count (hm : netB n es = true) {v : Nat} (hv : v < n) {k k' : Nat} {C C' : List Int} {r r' : Nat → Nat} (L : LabX es (fun _ => false) (fun _ => false) n k n C r NoDue) (L' : LabX es (fun z => decide (z = v)) (fun _ => false) n k' n C' r' NoDue) (hl : ∀ g, g < 2 * es.length → fN es g = v → gN es g ≠ v) (hd : ∃ g, g < 2 * es.length ∧ fN es g = v) : k < k' ↔ ∃ g g', g < 2 * es.length ∧ g' < 2 * es.length ∧ fN es g = v ∧ fN es g' = v ∧ ¬ JP es (fun z => z ≠ v) (gN es g) (gN es g') := by
  have hG : ∀ {a b : Nat}, JP es (fun z => z ≠ v) a b ↔ JP es (fun z => decide (z = v) = false) a b := by
    intro a b
    exact ⟨fun h => h.mono fun z hz => by simpa using hz, fun h => h.mono fun z hz => by simpa using hz⟩
  have hT : ∀ {a b : Nat}, JP es (fun z => z ≠ v) a b → JP es (fun z => (fun _ : Nat => false) z = false) a b := fun h => h.mono fun _ _ => rfl
  constructor
  · intro hk
    refine Classical.byContradiction fun hno => ?_
    have hall : ∀ g g', g < 2 * es.length → g' < 2 * es.length → fN es g = v → fN es g' = v → JP es (fun z => z ≠ v) (gN es g) (gN es g') := fun g g' h1 h2 h3 h4 => Classical.byContradiction fun h5 => hno ⟨g, g', h1, h2, h3, h4, h5⟩
    have hr : ∀ i, i < k' → r' i < n ∧ r' i ≠ v ∧ iat C' (r' i) = i := fun i hi => by
      obtain ⟨h1, h2⟩ := L'.root i hi
      refine ⟨h1, fun e => ?_, h2⟩
      have := L'.gone (r' i) h1 (by simp [e])
      omega
    have h1 := rel_len (l := List.range k') (l' := List.range k) (fun i y => iat C (r' i) = (y : Int)) List.nodup_range (fun i hi => by
      obtain ⟨a1, a2, a3⟩ := hr i (by simpa using hi)
      obtain ⟨j, j1, j2⟩ := L.is a1 rfl
      exact ⟨j, by simpa using j1, j2⟩) (fun i i' y hi hi' hy e1 e2 => by
      obtain ⟨a1, a2, a3⟩ := hr i (by simpa using hi)
      obtain ⟨b1, b2, b3⟩ := hr i' (by simpa using hi')
      have h2 := L.joined a1 b1 rfl (by rw [e1, e2])
      have h3 : JP es (fun z => z ≠ v) (r' i) (r' i') := by
        rcases (jp_split (h2.mono fun _ _ => trivial) a2).1 b2 with h3 | ⟨x, y', x1, y1, x2, y2, x3, y3⟩
        · exact h3
        · exact (x3.trans (hall x y' x1 y1 x2 y2)).trans y3
      have h4 := L'.join hm (hG.1 h3)
      rw [a3, b3] at h4
      omega)
    simp at h1
    omega
  · rintro ⟨g, g', g1, g2, g3, g4, g5⟩
    obtain ⟨cv, cv1, cv2⟩ := L.is hv rfl
    have w1 := (fg_in hm g1).2
    have w2 := (fg_in hm g2).2
    have n1 := hl g g1 g3
    have n2 := hl g' g2 g4
    have c1 : iat C (gN es g) = cv := by
      rw [← cv2]
      refine (L.join hm ?_).symm
      have := JP.one (es := es) (P := fun _ => (false = false)) g1 rfl rfl
      rw [g3] at this
      exact this
    have c2 : iat C (gN es g') = cv := by
      rw [← cv2]
      refine (L.join hm ?_).symm
      have := JP.one (es := es) (P := fun _ => (false = false)) g2 rfl rfl
      rw [g4] at this
      exact this
    have hb : ∀ i, ∃ b, (i = k → b = gN es g') ∧ (i = cv → b = gN es g) ∧ (i < k → i ≠ cv → b = r i) := fun i => by
      by_cases h1 : i = k
      · exact ⟨gN es g', fun _ => rfl, fun h => by omega, fun h => by omega⟩
      · by_cases h2 : i = cv
        · exact ⟨gN es g, fun h => absurd h h1, fun _ => rfl, fun _ h => absurd h2 h⟩
        · exact ⟨r i, fun h => absurd h h1, fun h => absurd h h2, fun _ _ => rfl⟩
    have hb' : ∃ f : Nat → Nat, ∀ i, (i = k → f i = gN es g') ∧ (i = cv → f i = gN es g) ∧ (i < k → i ≠ cv → f i = r i) := ⟨fun i => Classical.choose (hb i), fun i => Classical.choose_spec (hb i)⟩
    obtain ⟨f, hf⟩ := hb'
    have hfn : ∀ i, i < k + 1 → f i < n ∧ f i ≠ v ∧ iat C (f i) = (if i = k then cv else i : Nat) := fun i hi => by
      obtain ⟨h1, h2, h3⟩ := hf i
      by_cases e1 : i = k
      · rw [h1 e1, if_pos e1]; exact ⟨w2, n2, c2⟩
      · rw [if_neg e1]
        by_cases e2 : i = cv
        · rw [h2 e2, e2]; exact ⟨w1, n1, c1⟩
        · rw [h3 (by omega) e2]
          obtain ⟨a1, a2⟩ := L.root i (by omega)
          refine ⟨a1, fun e => e2 ?_, a2⟩
          rw [e, cv2] at a2
          omega
    have h1 := rel_len (l := List.range (k + 1)) (l' := List.range k') (fun i y => iat C' (f i) = (y : Int)) List.nodup_range (fun i hi => by
      obtain ⟨a1, a2, a3⟩ := hfn i (by simpa using hi)
      obtain ⟨j, j1, j2⟩ := L'.is a1 (by simpa using a2)
      exact ⟨j, by simpa using j1, j2⟩) (fun i i' y hi hi' hy e1 e2 => by
      have hi : i < k + 1 := by simpa using hi
      have hi' : i' < k + 1 := by simpa using hi'
      obtain ⟨a1, a2, a3⟩ := hfn i hi
      obtain ⟨b1, b2, b3⟩ := hfn i' hi'
      have h2 := hG.2 (L'.joined a1 b1 (by simpa using a2) (by rw [e1, e2]))
      have h4 := L.join hm (hT h2)
      rw [a3, b3] at h4
      by_cases x1 : i = k <;> by_cases x2 : i' = k
      · omega
      · rw [if_pos x1, if_neg x2] at h4
        rw [(hf i).1 x1, (hf i').2.1 (by omega)] at h2
        exact absurd h2.symm g5
      · rw [if_neg x1, if_pos x2] at h4
        rw [(hf i).2.1 (by omega), (hf i').1 x2] at h2
        exact absurd h2 g5
      · rw [if_neg x1, if_neg x2] at h4
        omega)
    simp at h1
    omega
end Go.Proofs.Ytobkejnlkjieoaa

/- Pure: the tree of the blocks: its edges, and how its nodes are joined. -/
namespace Go.Proofs.Ytobkejnlkjieoaa
open Go.RowKit Go.Sort
open Go
/-- The blocks of a net, by the numbers that are told. -/
structure BG (n : Nat) (es : List Pt) (of : Nat → Int) (c : Nat) (V : Nat → Nat) (rt : Nat → Prop) : Prop where
  hm : netB n es = true
  oin : ∀ e, e < es.length → 0 ≤ of e ∧ of e < c
  onto : ∀ i : Nat, i < c → ∃ e, e < es.length ∧ of e = i
  up : ∀ i : Nat, i < c → ∃ g, g < 2 * es.length ∧ of (g / 2) = i ∧ fN es g = V i
  one : ∀ g g', g < 2 * es.length → g' < 2 * es.length → fN es g = fN es g' → ∀ j j' : Nat, of (g / 2) = j → of (g' / 2) = j' → V j ≠ fN es g → V j' ≠ fN es g → j = j'
  root : ∀ g, g < 2 * es.length → ∀ j : Nat, of (g / 2) = j → rt (fN es g) → V j = fN es g
  child : ∀ v, v < n → ¬ rt v → ∃ g, g < 2 * es.length ∧ fN es g = v ∧ ∃ j : Nat, of (g / 2) = j ∧ j < c ∧ V j ≠ v
  d1 : ∀ e e', RB es e e' → of e = of e'
  rc : ∀ e e', e < es.length → e' < es.length → of e = of e' → RC es e e'
  lp : ∀ e e', e < es.length → e' < es.length → Lp es e → of e = of e' → e = e'
  rn : ∀ z, rt z → z < n
  rtc : ∀ z, z < n → ∃ ρ, rt ρ ∧ JP es (fun _ => True) ρ z
  ru : ∀ a b, rt a → rt b → JP es (fun _ => True) a b → a = b
theorem jp_conn {n : Nat} {es : List Pt} (hm : netB n es = true) {a b : Nat} {P : Nat → Prop} (h : JP es P a b) : Conn es a b := by
  induction h with
  | refl _ => exact .refl _
  | step h k hl hp ih => exact conn_f ih hm hl
theorem bg_is {n : Nat} {es : List Pt} (hm : netB n es = true) : ∃ V rt, BG n es (ofB n es) (ctsB n es) V rt := by
  obtain ⟨U, X, rt, b⟩ := bf_is hm
  have hin := b.bin
  have hiff : ∀ {e e' : Nat}, e < es.length → e' < es.length → (ofB n es e = ofB n es e' ↔ (ptdB n es n).bk e = (ptdB n es n).bk e') := fun h1 h2 => no_iff hin h1 h2
  have hhit : ∀ j : Nat, j < (ptdB n es n).ct → ∃ e, e < es.length ∧ (ptdB n es n).bk e = j := fun j hj => by
    obtain ⟨g, g1, g2, _⟩ := b.up j hj
    exact ⟨g / 2, by omega, g2⟩
  have honto : ∀ i : Nat, i < ctsB n es → ∃ e, e < es.length ∧ ofB n es e = i := fun i hi => no_onto hin hhit hi
  have hj : ∀ i : Nat, ∃ j : Nat, i < ctsB n es → j < ctsB n es ∧ ∀ e, e < es.length → (ofB n es e = i ↔ (ptdB n es n).bk e = j) := fun i => by
    by_cases hi : i < ctsB n es
    · obtain ⟨e, e1, e2⟩ := honto i hi
      have h1 := hin e e1
      refine ⟨((ptdB n es n).bk e).toNat, fun _ => ⟨by show _ < (ptdB n es n).ct; omega, fun e' he' => ?_⟩⟩
      rw [← e2, hiff he' e1]
      omega
    · exact ⟨0, fun h => absurd h hi⟩
  have hj' : ∃ f : Nat → Nat, ∀ i, i < ctsB n es → f i < ctsB n es ∧ ∀ e, e < es.length → (ofB n es e = i ↔ (ptdB n es n).bk e = f i) := ⟨fun i => Classical.choose (hj i), fun i => Classical.choose_spec (hj i)⟩
  obtain ⟨f, hf⟩ := hj'
  have hof : ∀ e, e < es.length → 0 ≤ ofB n es e ∧ ofB n es e < ctsB n es := fun e he => of_in hm he
  have hb : ∀ {e i : Nat}, e < es.length → ofB n es e = i → (ptdB n es n).bk e = f i := fun he hi => by
    have := hof _ he
    exact ((hf _ (by omega)).2 _ he).1 hi
  have hrn : ∀ z, z < n → ∃ ρ, (rt ρ ∧ ρ < n) ∧ JP es (fun _ => True) ρ z := by
    have key : ∀ (m z : Nat), z < n → ((ptdB n es n).pl z).toNat ≤ m → ∃ ρ, (rt ρ ∧ ρ < n) ∧ JP es (fun _ => True) ρ z := by
      intro m
      induction m with
      | zero =>
        intro z hz hm0
        rcases b.te z hz with h | ⟨g, g1, g2, g3⟩
        · exact ⟨z, ⟨h, hz⟩, .refl _ trivial⟩
        · have h1 := b.pn _ (fg_in hm g1).1
          omega
      | succ m ih =>
        intro z hz hm0
        rcases b.te z hz with h | ⟨g, g1, g2, g3⟩
        · exact ⟨z, ⟨h, hz⟩, .refl _ trivial⟩
        · have h1 := b.pn _ (fg_in hm g1).1
          obtain ⟨ρ, h2, h3⟩ := ih (fN es g) (fg_in hm g1).1 (by omega)
          refine ⟨ρ, h2, ?_⟩
          rw [← g2]
          exact .step g h3 g1 trivial
    exact fun z hz => key _ z hz (Nat.le_refl _)
  refine ⟨fun i => U (f i), fun z => rt z ∧ z < n, hm, hof, honto, fun i hi => ?_, fun g g' h1 h2 h3 j j' h4 h5 h6 h7 => ?_, fun g h1 j h2 h3 => ?_, fun v hv hr => ?_, fun e e' h => ?_, fun e e' h1 h2 h3 => ?_, fun e e' h1 h2 h3 h4 => ?_, fun z hz => hz.2, hrn, fun x y hx hy h => b.ru x y hx.1 hy.1 (jp_conn hm h)⟩
  · obtain ⟨g, g1, g2, g3⟩ := b.up (f i) (hf i hi).1
    exact ⟨g, g1, ((hf i hi).2 _ (by omega)).2 g2, g3⟩
  · have := b.one h1 h2 h3 (hb (by omega) h4) (hb (by omega) h5) h6 h7
    have e1 := hb (e := g / 2) (by omega) h4
    have e2 := hb (e := g' / 2) (by omega) h5
    have := (hiff (e := g / 2) (e' := g' / 2) (by omega) (by omega)).2 (by rw [e1, e2, this])
    omega
  · exact b.root h1 (hb (by omega) h2) h3.1
  · obtain ⟨g, g1, g2, j, j1, j2, j3⟩ := b.child hv fun h => hr ⟨h, hv⟩
    have h1 := hof (g / 2) (by omega)
    refine ⟨g, g1, g2, (ofB n es (g / 2)).toNat, by omega, by omega, ?_⟩
    have := hb (e := g / 2) (i := (ofB n es (g / 2)).toNat) (by omega) (by omega)
    rw [j1] at this
    rw [show f (ofB n es (g / 2)).toNat = j by omega]
    exact j3
  · obtain ⟨g, g', g1, g2, g3, g4, _⟩ := id h
    exact (hiff (by omega) (by omega)).2 (b.d1 h)
  · exact b.rc e e' h1 h2 ((hiff h1 h2).1 h3)
  · exact b.lp e e' h1 h2 h3 ((hiff h1 h2).1 h4)
theorem mem_ddP {L : List Pt} {p : Pt} : p ∈ ddP L ↔ p ∈ L := by
  have h1 : ∀ i, i ≤ L.length → ∀ j, j < i → at' L j ∈ ddN L i := by
    intro i
    induction i with
    | zero => intro _ j hj; exact absurd hj (Nat.not_lt_zero _)
    | succ i ih =>
      intro hi j hj
      unfold ddN
      by_cases e : j = i
      · subst e
        split
        · exact List.mem_append_right _ (List.mem_singleton.2 rfl)
        · rename_i h
          have h2 : at' L j = at' L (j - 1) := Classical.byContradiction fun h3 => h (Or.inr h3)
          have h4 : j ≠ 0 := fun h3 => h (Or.inl h3)
          rw [h2]
          exact ih (by omega) (j - 1) (by omega)
      · have := ih (by omega) j (by omega)
        split
        · exact List.mem_append_left _ this
        · exact this
  have h2 : ∀ i, i ≤ L.length → ∀ p, p ∈ ddN L i → p ∈ L := by
    intro i
    induction i with
    | zero => intro _ p hp; cases hp
    | succ i ih =>
      intro hi p hp
      unfold ddN at hp
      split at hp
      · rcases List.mem_append.1 hp with h | h
        · exact ih (by omega) p h
        · rw [List.mem_singleton.1 h]
          exact at_mem (by omega)
      · exact ih (by omega) p hp
  constructor
  · exact h2 _ (Nat.le_refl _) p
  · intro hp
    obtain ⟨j, hj, e⟩ := List.getElem_of_mem hp
    have := h1 L.length (Nat.le_refl _) j hj
    rw [show at' L j = p by rw [← e]; unfold at'; rw [List.getD_eq_getElem?_getD, List.getElem?_eq_getElem hj]; rfl] at this
    exact this
/-- The order of the tree's edges. -/
def PtL (p q : Pt) : Prop := p.x < q.x ∨ (p.x = q.x ∧ p.y < q.y)
theorem ptl_sort (L : List Pt) : (sortP L).Pairwise fun a b => ¬ PtL b a := by
  have h1 := List.pairwise_mergeSort (le := fun x y => !(ltOf cmpP) y x) (fun a b c h1 h2 => by
    simp only [lt_cmpP, Bool.not_eq_true', decide_eq_false_iff_not] at h1 h2 ⊢
    omega) (fun a b => by
    simp only [lt_cmpP, Bool.or_eq_true, Bool.not_eq_true', decide_eq_false_iff_not]
    omega) L
  refine h1.imp fun h => ?_
  simp only [lt_cmpP, Bool.not_eq_true', decide_eq_false_iff_not] at h
  exact h
theorem ddN_up {L : List Pt} (h : L.Pairwise fun a b => ¬ PtL b a) : ∀ i, i ≤ L.length → (ddN L i).Pairwise PtL ∧ (∀ p, p ∈ ddN L i → ∀ j, i ≤ j + 1 → j < L.length → p = at' L j ∨ PtL p (at' L j)) := by
  have hle : ∀ i j, i < j → j < L.length → ¬ PtL (at' L j) (at' L i) := fun i j h1 h2 => by
    have := (List.pairwise_iff_getElem.1 h) i j (by omega) h2 h1
    unfold at'
    rw [List.getD_eq_getElem?_getD, List.getD_eq_getElem?_getD, List.getElem?_eq_getElem h2, List.getElem?_eq_getElem (by omega)]
    exact this
  have hge : ∀ {p q : Pt}, ¬ PtL q p → p = q ∨ PtL p q := fun {p q} h => by
    unfold PtL at h ⊢
    by_cases e1 : p.x = q.x
    · by_cases e2 : p.y = q.y
      · left
        cases p; cases q
        simp only at e1 e2
        rw [e1, e2]
      · omega
    · omega
  have htr : ∀ {p q r : Pt}, PtL p q → PtL q r → PtL p r := fun h1 h2 => by unfold PtL at *; omega
  intro i
  induction i with
  | zero => intro _; exact ⟨List.Pairwise.nil, fun p hp => by cases hp⟩
  | succ i ih =>
    intro hi
    obtain ⟨a1, a2⟩ := ih (by omega)
    unfold ddN
    split
    · rename_i hc
      constructor
      · rw [List.pairwise_append]
        refine ⟨a1, List.pairwise_singleton _ _, fun p hp q hq => ?_⟩
        rw [List.mem_singleton.1 hq]
        rcases hc with hc | hc
        · subst hc; cases hp
        · by_cases i0 : i = 0
          · subst i0; cases hp
          · rcases a2 p hp (i - 1) (by omega) (by omega) with h1 | h1
            · rcases hge (hle (i - 1) i (by omega) (by omega)) with h2 | h2
              · exact absurd h2.symm hc
              · rw [h1]; exact h2
            · rcases hge (hle (i - 1) i (by omega) (by omega)) with h2 | h2
              · rw [← h2]; exact h1
              · exact htr h1 h2
      · intro p hp j hj hjl
        rcases List.mem_append.1 hp with h1 | h1
        · exact a2 p h1 j (by omega) hjl
        · rw [List.mem_singleton.1 h1]
          by_cases e : i = j
          · rw [e]; exact Or.inl rfl
          · exact hge (hle i j (by omega) hjl)
    · exact ⟨a1, fun p hp j hj hjl => a2 p hp j (by omega) hjl⟩
theorem mem_joH {es : List Pt} {of : Nat → Int} {cu : List Int} {ct : Int} {p : Pt} : ∀ {h : Nat}, p ∈ joH es of cu ct h ↔ ∃ g, g < h ∧ fromL es g ∈ cu ∧ p = ⟨of (g / 2), ct + lsN cu (fromL es g)⟩
  | 0 => ⟨(fun h => by cases h), (fun ⟨g, h, _⟩ => absurd h (Nat.not_lt_zero _))⟩
  | h + 1 => by
    have ih := mem_joH (es := es) (of := of) (cu := cu) (ct := ct) (p := p) (h := h)
    unfold joH
    split
    · rename_i hc
      rw [List.mem_append, ih, List.mem_singleton]
      constructor
      · rintro (⟨g, g1, g2⟩ | e)
        · exact ⟨g, by omega, g2⟩
        · exact ⟨h, by omega, hc, e⟩
      · rintro ⟨g, g1, g2, g3⟩
        by_cases e : g = h
        · rw [e] at g3; exact Or.inr g3
        · exact Or.inl ⟨g, by omega, g2, g3⟩
    · rename_i hc
      rw [ih]
      constructor
      · rintro ⟨g, g1, g2⟩
        exact ⟨g, by omega, g2⟩
      · rintro ⟨g, g1, g2, g3⟩
        by_cases e : g = h
        · rw [e] at g2; exact absurd g2 hc
        · exact ⟨g, by omega, g2, g3⟩
theorem mem_joB' {es : List Pt} {of : Nat → Int} {cu : List Int} {ct : Int} {p : Pt} : p ∈ joB es of cu ct ↔ ∃ g, g < 2 * es.length ∧ fromL es g ∈ cu ∧ p = ⟨of (g / 2), ct + lsN cu (fromL es g)⟩ := by
  unfold joB
  rw [mem_ddP]
  unfold sortP
  rw [(List.mergeSort_perm _ _).mem_iff, mem_joH]
theorem joB_up (es : List Pt) (of : Nat → Int) (cu : List Int) (ct : Int) : (joB es of cu ct).Pairwise PtL := (ddN_up (ptl_sort _) _ (Nat.le_refl _)).1
theorem joB_nodup (es : List Pt) (of : Nat → Int) (cu : List Int) (ct : Int) : (joB es of cu ct).Nodup := (joB_up es of cu ct).imp fun {a b} h e => by
  rw [e] at h
  unfold PtL at h
  omega
/-- The place of a number in a list that rises. -/
theorem ls_at {l : List Int} (h : Up l) {i : Nat} (hi : i < l.length) : lsN l (iat l i) = i := srch_end (by omega) (fun t ht => h.lt ht hi) fun t h1 h2 => by
  by_cases e : i = t
  · rw [e]; exact Int.le_refl _
  · have := h.lt (show i < t by omega) h2
    omega
theorem ls_mem {l : List Int} (h : Up l) {x : Int} (hx : x ∈ l) : lsN l x < l.length ∧ iat l (lsN l x) = x := by
  obtain ⟨i, hi, e⟩ := mem_iat hx
  rw [← e, ls_at h hi]
  exact ⟨hi, rfl⟩
end Go.Proofs.Ytobkejnlkjieoaa
