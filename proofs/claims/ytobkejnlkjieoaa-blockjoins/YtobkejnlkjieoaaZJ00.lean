/- Pure: an edge more within a component, and the blocks that it makes one. -/
import Derived.Test.YtobkejnlkjieoaaZG02
import Derived.Test.YtobkejnlkjieoaaZWB8
namespace Go.Proofs.Ytobkejnlkjieoaa
open Go.RowKit Go.Sort
open Go
theorem at_app {es : List Pt} {q : Pt} {i : Nat} (h : i < es.length) : at' (es ++ [q]) i = at' es i := by
  unfold at'
  rw [List.getD_eq_getElem?_getD, List.getElem?_append_left h, List.getD_eq_getElem?_getD]
theorem at_new (es : List Pt) (q : Pt) : at' (es ++ [q]) es.length = q := by
  unfold at'
  rw [List.getD_eq_getElem?_getD, List.getElem?_append_right (Nat.le_refl _), Nat.sub_self]
  rfl
section
variable {es : List Pt} {u v : Nat}
theorem fN_app {q : Pt} {h : Nat} (hl : h < 2 * es.length) : fN (es ++ [q]) h = fN es h ∧ gN (es ++ [q]) h = gN es h := by
  unfold fN gN fromL toL
  rw [at_app (by omega)]
  exact ⟨rfl, rfl⟩
theorem fN_new : (fN (es ++ [⟨(u : Int), (v : Int)⟩]) (2 * es.length) = u ∧ gN (es ++ [⟨(u : Int), (v : Int)⟩]) (2 * es.length) = v) ∧ fN (es ++ [⟨(u : Int), (v : Int)⟩]) (2 * es.length + 1) = v ∧ gN (es ++ [⟨(u : Int), (v : Int)⟩]) (2 * es.length + 1) = u := by
  unfold fN gN fromL toL
  rw [show 2 * es.length / 2 = es.length by omega, show (2 * es.length + 1) / 2 = es.length by omega, at_new, if_pos (by omega), if_pos (by omega), if_neg (by omega), if_neg (by omega)]
  simp
theorem app_len {q : Pt} : (es ++ [q]).length = es.length + 1 := by simp
theorem JP.app {P : Nat → Prop} {a b : Nat} {q : Pt} (h : JP es P a b) : JP (es ++ [q]) P a b := by
  induction h with
  | refl h => exact .refl _ h
  | step h k hl hp ih =>
    obtain ⟨e1, e2⟩ := fN_app (q := q) hl
    rw [← e1] at ih
    rw [← e2] at hp ⊢
    exact .step h ih (by rw [app_len]; omega) hp
theorem RB.app {e e' : Nat} {q : Pt} (h : RB es e e') : RB (es ++ [q]) e e' := by
  obtain ⟨g, g', g1, g2, g3, g4, g5, g6⟩ := h
  obtain ⟨a1, a2⟩ := fN_app (q := q) g1
  obtain ⟨b1, b2⟩ := fN_app (q := q) g2
  exact ⟨g, g', by rw [app_len]; omega, by rw [app_len]; omega, g3, g4, by rw [a1, b1, g5], by rw [a1, a2, b2]; exact g6.app⟩
theorem RC.app {e e' : Nat} {q : Pt} (h : RC es e e') : RC (es ++ [q]) e e' := by
  induction h with
  | refl e => exact .refl _
  | one h => exact .one h.app
  | symm _ ih => exact ih.symm
  | trans _ _ ih1 ih2 => exact ih1.trans ih2
/-- A way with the new edge goes over it, or not. -/
theorem jp_new {P : Nat → Prop} {a b : Nat} (h : JP (es ++ [⟨(u : Int), (v : Int)⟩]) P a b) : JP es P a b ∨ (JP es P a u ∧ JP es P v b) ∨ (JP es P a v ∧ JP es P u b) := by
  induction h with
  | refl h => exact Or.inl (.refl _ h)
  | step h k hl hp ih =>
    rw [app_len] at hl
    obtain ⟨⟨n1, n2⟩, n3, n4⟩ := fN_new (es := es) (u := u) (v := v)
    by_cases h1 : h < 2 * es.length
    · obtain ⟨e1, e2⟩ := fN_app (q := ⟨(u : Int), (v : Int)⟩) h1
      rw [e1] at ih
      rw [e2] at hp ⊢
      rcases ih with ih | ⟨i1, i2⟩ | ⟨i1, i2⟩
      · exact Or.inl (.step h ih h1 hp)
      · exact Or.inr (Or.inl ⟨i1, .step h i2 h1 hp⟩)
      · exact Or.inr (Or.inr ⟨i1, .step h i2 h1 hp⟩)
    · have h2 : h = 2 * es.length ∨ h = 2 * es.length + 1 := by omega
      rcases h2 with h2 | h2
      · rw [h2, n1] at ih
        rw [h2, n2] at hp ⊢
        rcases ih with ih | ⟨i1, i2⟩ | ⟨i1, i2⟩
        · exact Or.inr (Or.inl ⟨ih, .refl _ hp⟩)
        · exact Or.inr (Or.inl ⟨i1, .refl _ hp⟩)
        · exact Or.inl i1
      · rw [h2, n3] at ih
        rw [h2, n4] at hp ⊢
        rcases ih with ih | ⟨i1, i2⟩ | ⟨i1, i2⟩
        · exact Or.inr (Or.inr ⟨ih, .refl _ hp⟩)
        · exact Or.inl i1
        · exact Or.inr (Or.inr ⟨i1, .refl _ hp⟩)
/-- A way back from v to u: its nodes are unlike each other, each half-edge comes to the node ahead. -/
structure Bk (es : List Pt) (u v K : Nat) (pw hw : Nat → Nat) : Prop where
  pos : 0 < K
  first : pw 0 = v
  last : pw K = u
  edge : ∀ i, i < K → hw i < 2 * es.length ∧ gN es (hw i) = pw i ∧ fN es (hw i) = pw (i + 1)
  inj : ∀ i j, i ≤ K → j ≤ K → pw i = pw j → i = j
variable {K : Nat} {pw hw : Nat → Nat}
theorem Bk.upper (b : Bk es u v K pw hw) : ∀ i, i ≤ K → JP es (fun z => ∃ j, j ≤ i ∧ z = pw j) (pw i) v
  | 0, _ => by rw [b.first]; exact .refl _ ⟨0, Nat.le_refl _, b.first.symm⟩
  | i + 1, hi => by
    have ih := b.upper i (by omega)
    obtain ⟨h1, h2, h3⟩ := b.edge i (by omega)
    have h4 : JP es (fun z => ∃ j, j ≤ i + 1 ∧ z = pw j) (fN es (hw i)) (gN es (hw i)) := .one h1 ⟨i + 1, Nat.le_refl _, h3⟩ ⟨i, by omega, h2⟩
    rw [h2, h3] at h4
    exact h4.trans (ih.mono fun z ⟨j, j1, j2⟩ => ⟨j, by omega, j2⟩)
theorem Bk.lower (b : Bk es u v K pw hw) : ∀ k i, k + i = K → JP es (fun z => ∃ j, i ≤ j ∧ j ≤ K ∧ z = pw j) (pw i) u
  | 0, i, hi => by
    have : i = K := by omega
    subst this
    rw [b.last]
    exact .refl _ ⟨i, Nat.le_refl _, Nat.le_refl _, b.last.symm⟩
  | k + 1, i, hi => by
    have ih := b.lower k (i + 1) (by omega)
    obtain ⟨h1, h2, h3⟩ := b.edge i (by omega)
    have h4 : JP es (fun z => ∃ j, i ≤ j ∧ j ≤ K ∧ z = pw j) (gN es (hw i)) (fN es (hw i)) := (JP.one h1 ⟨i + 1, by omega, by omega, h3⟩ ⟨i, Nat.le_refl _, by omega, h2⟩).symm
    rw [h2, h3] at h4
    exact h4.trans (ih.mono fun z ⟨j, j1, j2, j3⟩ => ⟨j, by omega, j2, j3⟩)
/-- v's side of a node of the way, and u's. -/
theorem Bk.above (b : Bk es u v K pw hw) {i : Nat} (hi : i < K) : JP es (fun z => z ≠ pw (i + 1)) v (pw i) := (b.upper i (by omega)).symm.mono fun z ⟨j, j1, j2⟩ e => by
  have := b.inj (i + 1) j (by omega) (by omega) (by rw [← e, j2])
  omega
theorem Bk.below (b : Bk es u v K pw hw) {i : Nat} (hi : i < K) : JP es (fun z => z ≠ pw i) u (pw (i + 1)) := (b.lower (K - (i + 1)) (i + 1) (by omega)).symm.mono fun z ⟨j, j1, j2, j3⟩ e => by
  have := b.inj i j (by omega) (by omega) (by rw [← e, j3])
  omega
theorem Bk.off (b : Bk es u v K pw hw) {x : Nat} (hx : ¬ ∃ i, i ≤ K ∧ pw i = x) : JP es (fun z => z ≠ x) v u := by
  have := b.lower K 0 (by omega)
  rw [b.first] at this
  exact this.mono fun z ⟨j, _, j2, j3⟩ e => hx ⟨j, j2, by rw [← j3, e]⟩
/-- The edges of the way, and the blocks that it goes through. -/
def Dn (es : List Pt) (of : Nat → Int) (K : Nat) (hw : Nat → Nat) (f : Nat) : Prop := f = es.length ∨ (f < es.length ∧ ∃ i, i < K ∧ of f = of (hw i / 2))
variable {n c : Nat} {of : Nat → Int} {V : Nat → Nat} {rt : Nat → Prop}
theorem dn_at (b : BG n es of c V rt) (k : Bk es u v K pw hw) {h i : Nat} (hl : h < 2 * es.length) (hi : i < K) (hx : fN es h = pw i ∧ JP es (fun z => z ≠ pw i) (gN es h) (pw (i + 1)) ∨ fN es h = pw (i + 1) ∧ JP es (fun z => z ≠ pw (i + 1)) (gN es h) (pw i)) : Dn es of K hw (h / 2) := by
  obtain ⟨h1, h2, h3⟩ := k.edge i hi
  refine Or.inr ⟨by omega, i, hi, b.d1 _ _ ?_⟩
  rcases hx with ⟨x1, x2⟩ | ⟨x1, x2⟩
  · refine ⟨h, twinH (hw i), hl, (twin_is h1).1, rfl, (twin_is h1).2.2.1, by rw [tw_f h1, h2, x1], ?_⟩
    rw [tw_g h1, h3, x1]; exact x2
  · refine ⟨h, hw i, hl, h1, rfl, rfl, by rw [h3, x1], ?_⟩
    rw [h2, x1]; exact x2
/-- Whatever lies together with the new edge lay together, or goes with it. -/
theorem rb_new (b : BG n es of c V rt) (k : Bk es u v K pw hw) {f f' : Nat} (h : RB (es ++ [⟨(u : Int), (v : Int)⟩]) f f') : RB es f f' ∨ (Dn es of K hw f ∧ Dn es of K hw f') := by
  obtain ⟨⟨n1, n2⟩, n3, n4⟩ := fN_new (es := es) (u := u) (v := v)
  -- one that is new: the other one is on the way's first or last block
  have one : ∀ {g g' : Nat}, (g = 2 * es.length ∨ g = 2 * es.length + 1) → g' < 2 * es.length → fN (es ++ [⟨(u : Int), (v : Int)⟩]) g = fN es g' → JP (es ++ [⟨(u : Int), (v : Int)⟩]) (fun z => z ≠ fN es g') (gN (es ++ [⟨(u : Int), (v : Int)⟩]) g) (gN es g') → Dn es of K hw (g' / 2) := fun {g g'} hg hg' hf hj => by
    rcases hg with hg | hg
    · rw [hg, n1] at hf
      rw [hg, n2, ← hf] at hj
      have hj' : JP es (fun z => z ≠ u) v (gN es g') := by
        rcases jp_new hj with h1 | ⟨h1, _⟩ | ⟨_, h1⟩
        · exact h1
        · exact absurd rfl h1.right
        · exact absurd rfl h1.left
      have h2 := k.above (i := K - 1) (by have := k.pos; omega)
      have hK : K - 1 + 1 = K := by have := k.pos; omega
      rw [hK, k.last] at h2
      exact dn_at b k hg' (i := K - 1) (by have := k.pos; omega) (Or.inr ⟨by rw [hK, k.last, ← hf], by rw [hK, k.last]; exact hj'.symm.trans h2⟩)
    · rw [hg, n3] at hf
      rw [hg, n4, ← hf] at hj
      have hj' : JP es (fun z => z ≠ v) u (gN es g') := by
        rcases jp_new hj with h1 | ⟨_, h1⟩ | ⟨h1, _⟩
        · exact h1
        · exact absurd rfl h1.left
        · exact absurd rfl h1.right
      have h2 := k.below (i := 0) k.pos
      rw [k.first] at h2
      exact dn_at b k hg' (i := 0) k.pos (Or.inl ⟨by rw [k.first, ← hf], by rw [k.first]; exact hj'.symm.trans h2⟩)
  obtain ⟨g, g', g1, g2, g3, g4, g5, g6⟩ := h
  rw [app_len] at g1 g2
  by_cases h1 : g < 2 * es.length
  · obtain ⟨a1, a2⟩ := fN_app (q := ⟨(u : Int), (v : Int)⟩) h1
    rw [a1] at g5 g6
    rw [a2] at g6
    by_cases h2 : g' < 2 * es.length
    · obtain ⟨b1, b2⟩ := fN_app (q := ⟨(u : Int), (v : Int)⟩) h2
      rw [b1] at g5
      rw [b2] at g6
      have same : JP es (fun z => z ≠ fN es g) (gN es g) (gN es g') → RB es f f' := fun hj => ⟨g, g', h1, h2, g3, g4, g5, hj⟩
      -- both sides of the new edge
      have sides : ∀ {p q : Nat}, p < 2 * es.length → q < 2 * es.length → fN es p = fN es q → JP es (fun z => z ≠ fN es p) (gN es p) u → JP es (fun z => z ≠ fN es p) v (gN es q) → JP es (fun z => z ≠ fN es p) (gN es p) (gN es q) ∨ (Dn es of K hw (p / 2) ∧ Dn es of K hw (q / 2)) := fun {p q} hp hq hpq h3 h4 => by
        by_cases hx : ∃ i, i ≤ K ∧ pw i = fN es p
        · obtain ⟨i, hi, ei⟩ := hx
          have i1 : i ≠ K := fun e => h3.right (by rw [← ei, e, k.last])
          have i2 : i ≠ 0 := fun e => h4.left (by rw [← ei, e, k.first])
          right
          have h5 := k.below (i := i) (by omega)
          have h6 := k.above (i := i - 1) (by omega)
          have hK : i - 1 + 1 = i := by omega
          rw [hK] at h6
          rw [ei] at h5 h6
          refine ⟨dn_at b k hp (i := i) (by omega) (Or.inl ⟨ei.symm, by rw [ei]; exact h3.trans h5⟩), dn_at b k hq (i := i - 1) (by omega) (Or.inr ⟨by rw [hK, ei, hpq], by rw [hK, ei]; exact h4.symm.trans h6⟩)⟩
        · exact Or.inl ((h3.trans (k.off hx).symm).trans h4)
      rcases jp_new g6 with h3 | ⟨h3, h4⟩ | ⟨h3, h4⟩
      · exact Or.inl (same h3)
      · rcases sides h1 h2 g5 h3 h4 with h5 | h5
        · exact Or.inl (same h5)
        · rw [← g3, ← g4]; exact Or.inr h5
      · rcases sides h2 h1 g5.symm (by rw [← g5]; exact h4.symm) (by rw [← g5]; exact h3.symm) with h5 | ⟨h5, h6⟩
        · rw [← g5] at h5
          exact Or.inl (same h5.symm)
        · rw [← g3, ← g4]; exact Or.inr ⟨h6, h5⟩
    · right
      rw [← g3, ← g4]
      refine ⟨one (g := g') (by omega) h1 g5.symm g6.symm, Or.inl (by omega)⟩
  · by_cases h2 : g' < 2 * es.length
    · obtain ⟨b1, b2⟩ := fN_app (q := ⟨(u : Int), (v : Int)⟩) h2
      right
      rw [← g3, ← g4]
      rw [b1] at g5
      rw [b2, g5] at g6
      exact ⟨Or.inl (by omega), one (by omega) h2 g5 g6⟩
    · right
      rw [← g3, ← g4]
      exact ⟨Or.inl (by omega), Or.inl (by omega)⟩
theorem rc_of (b : BG n es of c V rt) {e f : Nat} (h : RC es e f) : e = f ∨ (e < es.length ∧ f < es.length ∧ of e = of f) := by
  induction h with
  | refl e => exact Or.inl rfl
  | one h =>
    obtain ⟨g, g', g1, g2, g3, g4, _⟩ := id h
    exact Or.inr ⟨by omega, by omega, b.d1 _ _ h⟩
  | symm _ ih =>
    rcases ih with ih | ⟨h1, h2, h3⟩
    · exact Or.inl ih.symm
    · exact Or.inr ⟨h2, h1, h3.symm⟩
  | trans _ _ ih1 ih2 =>
    rcases ih1 with ih1 | ⟨h1, h2, h3⟩
    · rw [ih1]; exact ih2
    · rcases ih2 with ih2 | ⟨k1, k2, k3⟩
      · rw [← ih2]; exact Or.inr ⟨h1, h2, h3⟩
      · exact Or.inr ⟨h1, k2, h3.trans k3⟩
theorem dn_rc (b : BG n es of c V rt) {e f : Nat} (h : RC es e f) (hd : Dn es of K hw f) : Dn es of K hw e := by
  rcases rc_of b h with e1 | ⟨h1, h2, h3⟩
  · rw [e1]; exact hd
  · rcases hd with hd | ⟨_, i, i1, i2⟩
    · omega
    · exact Or.inr ⟨h1, i, i1, by rw [h3, i2]⟩
theorem rc_new (b : BG n es of c V rt) (k : Bk es u v K pw hw) {e f : Nat} (h : RC (es ++ [⟨(u : Int), (v : Int)⟩]) e f) : RC es e f ∨ (Dn es of K hw e ∧ Dn es of K hw f) := by
  induction h with
  | refl e => exact Or.inl (.refl _)
  | one h =>
    rcases rb_new b k h with h | h
    · exact Or.inl (.one h)
    · exact Or.inr h
  | symm _ ih =>
    rcases ih with ih | ⟨h1, h2⟩
    · exact Or.inl ih.symm
    · exact Or.inr ⟨h2, h1⟩
  | trans _ _ ih1 ih2 =>
    rcases ih1 with h1 | ⟨h1, h2⟩
    · rcases ih2 with h3 | ⟨h3, h4⟩
      · exact Or.inl (h1.trans h3)
      · exact Or.inr ⟨dn_rc b h1 h3, h4⟩
    · rcases ih2 with h3 | ⟨h3, h4⟩
      · exact Or.inr ⟨h1, dn_rc b h3.symm h2⟩
      · exact Or.inr ⟨h1, h4⟩
variable {c' : Nat} {of' : Nat → Int} {V' : Nat → Nat} {rt' : Nat → Prop}
/-- All edges of the way go into the new edge's block. -/
theorem way_new (b' : BG n (es ++ [⟨(u : Int), (v : Int)⟩]) of' c' V' rt') (k : Bk es u v K pw hw) : ∀ i, i < K → of' (hw i / 2) = of' es.length
  | 0, hi => by
    obtain ⟨⟨n1, n2⟩, n3, n4⟩ := fN_new (es := es) (u := u) (v := v)
    obtain ⟨h1, h2, h3⟩ := k.edge 0 hi
    obtain ⟨a1, a2⟩ := fN_app (q := ⟨(u : Int), (v : Int)⟩) (twin_is h1).1
    refine b'.d1 _ _ ⟨twinH (hw 0), 2 * es.length + 1, by rw [app_len]; have := (twin_is h1).1; omega, by rw [app_len]; omega, (twin_is h1).2.2.1, by omega, by rw [a1, tw_f h1, h2, k.first, n3], ?_⟩
    rw [a1, a2, tw_f h1, tw_g h1, h2, h3, n4]
    exact (k.below hi).symm.app
  | i + 1, hi => by
    rw [← way_new b' k i (by omega)]
    obtain ⟨⟨n1, n2⟩, n3, n4⟩ := fN_new (es := es) (u := u) (v := v)
    obtain ⟨h1, h2, h3⟩ := k.edge (i + 1) hi
    obtain ⟨l1, l2, l3⟩ := k.edge i (by omega)
    obtain ⟨a1, a2⟩ := fN_app (q := ⟨(u : Int), (v : Int)⟩) (twin_is h1).1
    obtain ⟨b1, b2⟩ := fN_app (q := ⟨(u : Int), (v : Int)⟩) l1
    refine b'.d1 _ _ ⟨twinH (hw (i + 1)), hw i, by rw [app_len]; have := (twin_is h1).1; omega, by rw [app_len]; omega, (twin_is h1).2.2.1, rfl, by rw [a1, tw_f h1, h2, b1, l3], ?_⟩
    rw [a1, a2, b2, tw_f h1, tw_g h1, h2, h3, l2]
    have e1 := (k.below hi).symm.app (q := ⟨(u : Int), (v : Int)⟩)
    have e2 := (k.above (show i < K by omega)).app (q := ⟨(u : Int), (v : Int)⟩)
    have e3 : JP (es ++ [⟨(u : Int), (v : Int)⟩]) (fun z => z ≠ pw (i + 1)) (fN (es ++ [⟨(u : Int), (v : Int)⟩]) (2 * es.length)) (gN (es ++ [⟨(u : Int), (v : Int)⟩]) (2 * es.length)) := .one (by rw [app_len]; omega) (by rw [n1]; exact e1.right) (by rw [n2]; exact e2.left)
    rw [n1, n2] at e3
    exact (e1.trans e3).trans e2
/-- The law. -/
theorem joins_on (b : BG n es of c V rt) (b' : BG n (es ++ [⟨(u : Int), (v : Int)⟩]) of' c' V' rt') (k : Bk es u v K pw hw) {e : Nat} (he : e < es.length) : (∃ i, i < K ∧ of (hw i / 2) = of e) ↔ of' e = of' es.length := by
  constructor
  · rintro ⟨i, hi, h1⟩
    have h2 := b.rc (hw i / 2) e (by have := (k.edge i hi).1; omega) he h1
    rw [← way_new b' k i hi]
    rcases rc_of b' h2.app with h3 | ⟨_, _, h3⟩
    · rw [h3]
    · exact h3.symm
  · intro h1
    have h2 := b'.rc e es.length (by rw [app_len]; omega) (by rw [app_len]; omega) h1
    rcases rc_new b k h2 with h3 | ⟨h3, _⟩
    · rcases rc_of b h3 with h4 | ⟨_, h4, _⟩ <;> omega
    · rcases h3 with h3 | ⟨_, i, i1, i2⟩
      · omega
      · exact ⟨i, i1, i2.symm⟩
theorem joins_off (b : BG n es of c V rt) (b' : BG n (es ++ [⟨(u : Int), (v : Int)⟩]) of' c' V' rt') (k : Bk es u v K pw hw) {e f : Nat} (he : e < es.length) (hf : f < es.length) (h0 : ¬ ∃ i, i < K ∧ of (hw i / 2) = of e) : of e = of f ↔ of' e = of' f := by
  constructor
  · intro h1
    rcases rc_of b' (b.rc e f he hf h1).app with h3 | ⟨_, _, h3⟩
    · rw [h3]
    · exact h3
  · intro h1
    rcases rc_new b k (b'.rc e f (by rw [app_len]; omega) (by rw [app_len]; omega) h1) with h3 | ⟨h3, _⟩
    · rcases rc_of b h3 with h4 | ⟨_, _, h4⟩
      · rw [h4]
      · exact h4
    · rcases h3 with h3 | ⟨_, i, i1, i2⟩
      · omega
      · exact absurd ⟨i, i1, i2.symm⟩ h0
end
end Go.Proofs.Ytobkejnlkjieoaa

/- Pure: the way back that a tour tells; marks along it. -/
namespace Go.Proofs.Ytobkejnlkjieoaa
open Go.RowKit Go.Sort
open Go
def pwN (es : List Pt) (By : List Int) (v : Nat) : Nat → Nat
  | 0 => v
  | i + 1 => fN es (iat By (pwN es By v i)).toNat
def hwN (es : List Pt) (By : List Int) (v i : Nat) : Nat := (iat By (pwN es By v i)).toNat
theorem pw_is {es : List Pt} {n u v : Nat} {st : St} (R : Reach es n u st) (hv : v < n) (h0 : 0 ≤ iat st.Fa v) : ∀ i, i ≤ (iat st.Fa v).toNat → pwN es st.By v i < n ∧ iat st.Fa (pwN es st.By v i) = iat st.Fa v - i
  | 0, _ => ⟨hv, by show iat st.Fa v = _; omega⟩
  | i + 1, hi => by
    obtain ⟨h1, h2⟩ := pw_is R hv h0 i (by omega)
    rcases R.tree.back _ h1 (by omega) with ⟨h3, _⟩ | ⟨h, x, a1, a2, a3, a4, a5, a6, a7⟩
    · omega
    · have e : pwN es st.By v (i + 1) = x := by
        show fN es (iat st.By (pwN es st.By v i)).toNat = x
        rw [a3, Int.toNat_natCast]
        unfold fN
        rw [a5]
        exact Int.toNat_natCast x
      rw [e]
      exact ⟨a2, by omega⟩
theorem hw_is {es : List Pt} {n u v : Nat} {st : St} (R : Reach es n u st) (hv : v < n) (h0 : 0 ≤ iat st.Fa v) {i : Nat} (hi : i < (iat st.Fa v).toNat) : hwN es st.By v i < 2 * es.length ∧ iat st.By (pwN es st.By v i) = hwN es st.By v i ∧ gN es (hwN es st.By v i) = pwN es st.By v i ∧ fromL es (hwN es st.By v i) = pwN es st.By v (i + 1) := by
  obtain ⟨h1, h2⟩ := pw_is R hv h0 i (by omega)
  rcases R.tree.back _ h1 (by omega) with ⟨h3, _⟩ | ⟨h, x, a1, a2, a3, a4, a5, a6, a7⟩
  · omega
  · have e : hwN es st.By v i = h := by
      show (iat st.By (pwN es st.By v i)).toNat = h
      rw [a3, Int.toNat_natCast]
    have e2 : pwN es st.By v (i + 1) = x := by
      show fN es (hwN es st.By v i) = x
      rw [e]
      unfold fN
      rw [a5]
      exact Int.toNat_natCast x
    rw [e, e2]
    refine ⟨a1, a3, ?_, a5⟩
    unfold gN
    rw [a4]
    exact Int.toNat_natCast _
theorem bk_is {es : List Pt} {n u v : Nat} {st : St} (R : Reach es n u st) (hv : v < n) (huv : u ≠ v) (h0 : 0 ≤ iat st.Fa v) : Bk es u v (iat st.Fa v).toNat (pwN es st.By v) (hwN es st.By v) where
  pos := by
    refine Nat.pos_of_ne_zero fun h => huv ?_
    exact (R.zero v hv (by omega)).symm
  first := rfl
  last := by
    obtain ⟨h1, h2⟩ := pw_is R hv h0 _ (Nat.le_refl _)
    exact R.zero _ h1 (by omega)
  edge i hi := by
    obtain ⟨h1, h2, h3, h4⟩ := hw_is R hv h0 hi
    refine ⟨h1, h3, ?_⟩
    unfold fN
    rw [h4]
    exact Int.toNat_natCast _
  inj i j hi hj h := by
    obtain ⟨_, h2⟩ := pw_is R hv h0 i hi
    obtain ⟨_, h4⟩ := pw_is R hv h0 j hj
    rw [h] at h2
    omega
/-- The marks of the blocks along the way. -/
def mkO (of : Nat → Int) (hw : Nat → Nat) : Nat → Nat → Bool
  | 0 => fun _ => false
  | i + 1 => upd (mkO of hw i) (of (hw i / 2)).toNat true
theorem mkO_is {of : Nat → Int} {hw : Nat → Nat} {m k : Nat} {x : Int} (hof : ∀ e, e < m → 0 ≤ of e) (hx : 0 ≤ x) : ∀ i, i ≤ k → (∀ t, t < k → hw t / 2 < m) → (mkO of hw i x.toNat = true ↔ ∃ t, t < i ∧ of (hw t / 2) = x)
  | 0, _, _ => ⟨(fun h => by cases h), (fun ⟨t, h, _⟩ => absurd h (Nat.not_lt_zero _))⟩
  | i + 1, hi, hm => by
    have ih := mkO_is hof hx i (by omega) hm
    have ho := hof _ (hm i (by omega))
    unfold mkO
    by_cases e : x.toNat = (of (hw i / 2)).toNat
    · rw [e, upd_same]
      exact ⟨fun _ => ⟨i, by omega, by omega⟩, fun _ => rfl⟩
    · rw [upd_other _ _ e, ih]
      constructor
      · rintro ⟨t, t1, t2⟩; exact ⟨t, by omega, t2⟩
      · rintro ⟨t, t1, t2⟩
        refine ⟨t, ?_, t2⟩
        have : t ≠ i := fun h => e (by rw [← h, t2])
        omega
theorem app_net {n : Nat} {es : List Pt} (hm : netB n es = true) (hl : es.length ≤ 60) {u v : Nat} (hu : u < n) (hv : v < n) : netB n (es ++ [⟨(u : Int), (v : Int)⟩]) = true := by
  obtain ⟨n0, n1, n2, hE⟩ := netB_is hm
  refine net_yes n0 ?_ fun j hj => ?_
  · rw [app_len]
    simp only [fitsB, Bool.and_eq_true, decide_eq_true_eq]
    omega
  · rw [app_len] at hj
    simp only [edB, belowB, Bool.and_eq_true, decide_eq_true_eq]
    by_cases h : j < es.length
    · rw [at_app h]
      have := hE j h
      omega
    · rw [show j = es.length by omega, at_new]
      simp only
      omega
/-- What the law asks, in the marks. -/
theorem joins_law {n : Nat} {es : List Pt} {u v : Nat} {st : St} (hm : netB n es = true) (hm' : netB n (es ++ [⟨(u : Int), (v : Int)⟩]) = true) (R : Reach es n u st) (hv : v < n) (huv : u ≠ v) (h0 : 0 ≤ iat st.Fa v) : (∀ e, e < es.length → mkO (ofB n es) (hwN es st.By v) (iat st.Fa v).toNat (ofB n es e).toNat = decide (ofB n (es ++ [⟨(u : Int), (v : Int)⟩]) e = ofB n (es ++ [⟨(u : Int), (v : Int)⟩]) es.length)) ∧ ∀ e f, e < es.length → f < es.length → mkO (ofB n es) (hwN es st.By v) (iat st.Fa v).toNat (ofB n es e).toNat = false → decide (ofB n es e = ofB n es f) = decide (ofB n (es ++ [⟨(u : Int), (v : Int)⟩]) e = ofB n (es ++ [⟨(u : Int), (v : Int)⟩]) f) := by
  obtain ⟨V, rt, b⟩ := bg_is hm
  obtain ⟨V', rt', b'⟩ := bg_is hm'
  have k := bk_is R hv huv h0
  have hon : ∀ e, e < es.length → (mkO (ofB n es) (hwN es st.By v) (iat st.Fa v).toNat (ofB n es e).toNat = true ↔ ∃ i, i < (iat st.Fa v).toNat ∧ ofB n es (hwN es st.By v i / 2) = ofB n es e) := fun e he => mkO_is (m := es.length) (fun e he => (b.oin e he).1) (b.oin e he).1 _ (Nat.le_refl _) fun t ht => by
    have := (k.edge t ht).1
    omega
  refine ⟨fun e he => ?_, fun e f he hf h => ?_⟩
  · rw [Bool.eq_iff_iff, hon e he, decide_eq_true_eq]
    exact joins_on b b' k he
  · have hno : ¬ ∃ i, i < (iat st.Fa v).toNat ∧ ofB n es (hwN es st.By v i / 2) = ofB n es e := fun hc => by
      rw [(hon e he).2 hc] at h
      cases h
    rw [Bool.eq_iff_iff, decide_eq_true_eq, decide_eq_true_eq]
    exact joins_off b b' k he hf hno
end Go.Proofs.Ytobkejnlkjieoaa
