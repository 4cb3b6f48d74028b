/- Pure: ways over some nodes alone, when two edges lie together, and the trail with its open edges, part by part. -/
import Derived.Test.YtobkejnlkjieoaaZC19
import Derived.Test.YtobkejnlkjieoaaZWB8
namespace Go.Proofs.Ytobkejnlkjieoaa
open Go.RowKit Go.Sort
open Go
/-- Joined by a way whose nodes are all of one kind. -/
inductive JP (es : List Pt) (P : Nat → Prop) : Nat → Nat → Prop
  | refl (a : Nat) (h : P a) : JP es P a a
  | step {a : Nat} (h : Nat) (k : JP es P a (fN es h)) (hl : h < 2 * es.length) (hp : P (gN es h)) : JP es P a (gN es h)
theorem JP.mono {es : List Pt} {P Q : Nat → Prop} {a b : Nat} (h : JP es P a b) (hq : ∀ z, P z → Q z) : JP es Q a b := by
  induction h with
  | refl h => exact .refl _ (hq _ h)
  | step h k hl hp ih => exact .step h ih hl (hq _ hp)
theorem JP.right {es : List Pt} {P : Nat → Prop} {a b : Nat} (h : JP es P a b) : P b := by
  cases h with
  | refl h => exact h
  | step h k hl hp => exact hp
theorem JP.left {es : List Pt} {P : Nat → Prop} {a b : Nat} (h : JP es P a b) : P a := by
  induction h with
  | refl h => exact h
  | step h k hl hp ih => exact ih
theorem JP.trans {es : List Pt} {P : Nat → Prop} {a b c : Nat} (h : JP es P a b) (k : JP es P b c) : JP es P a c := by
  induction k with
  | refl _ => exact h
  | step x _ hl hp ih => exact .step x ih hl hp
theorem tw_f {es : List Pt} {h : Nat} (hl : h < 2 * es.length) : fN es (twinH h) = gN es h := by
  unfold fN gN
  rw [(twin_is hl).2.1]
theorem tw_g {es : List Pt} {h : Nat} (hl : h < 2 * es.length) : gN es (twinH h) = fN es h := by
  unfold fN gN
  rw [(twin_is hl).2.2.2]
theorem tw_h {h g : Nat} (e : g / 2 = h / 2) : g = h ∨ g = twinH h := by
  unfold twinH
  split <;> omega
theorem JP.one {es : List Pt} {P : Nat → Prop} {h : Nat} (hl : h < 2 * es.length) (h1 : P (fN es h)) (h2 : P (gN es h)) : JP es P (fN es h) (gN es h) := .step h (.refl _ h1) hl h2
theorem JP.symm {es : List Pt} {P : Nat → Prop} {a b : Nat} (h : JP es P a b) : JP es P b a := by
  induction h with
  | refl h => exact .refl _ h
  | step h k hl hp ih =>
    have h1 : JP es P (fN es (twinH h)) (gN es (twinH h)) := .one (twin_is hl).1 (by rw [tw_f hl]; exact hp) (by rw [tw_g hl]; exact k.right)
    rw [tw_f hl, tw_g hl] at h1
    exact h1.trans ih
/-- Two edges at one node, whose other ends are joined without it. -/
def RB (es : List Pt) (e e' : Nat) : Prop := ∃ h h', h < 2 * es.length ∧ h' < 2 * es.length ∧ h / 2 = e ∧ h' / 2 = e' ∧ fN es h = fN es h' ∧ JP es (fun z => z ≠ fN es h) (gN es h) (gN es h')
/-- What that comes to, edge by edge. -/
inductive RC (es : List Pt) : Nat → Nat → Prop
  | refl (e : Nat) : RC es e e
  | one {e e' : Nat} : RB es e e' → RC es e e'
  | symm {e e' : Nat} : RC es e e' → RC es e' e
  | trans {e e' f : Nat} : RC es e e' → RC es e' f → RC es e f
/-- An edge with both ends at one node. -/
def Lp (es : List Pt) (e : Nat) : Prop := fN es (2 * e) = gN es (2 * e)
theorem lp_iff {es : List Pt} {h : Nat} (hl : h < 2 * es.length) : Lp es (h / 2) ↔ fN es h = gN es h := by
  unfold Lp
  rcases tw_h (h := h) (g := 2 * (h / 2)) (by omega) with e | e
  · rw [e]
  · rw [e, tw_f hl, tw_g hl]
    exact ⟨fun h => h.symm, fun h => h.symm⟩
/-- An edge that has an end among some nodes. -/
def Tch (es : List Pt) (X : Nat → Prop) (e : Nat) : Prop := ∃ g, g < 2 * es.length ∧ g / 2 = e ∧ X (fN es g)
/-- The trail, the open edges, and where the walk is: behind each half-edge of the trail the open edges that came then. -/
inductive SG (es : List Pt) (pl : Nat → Int) (r : Nat) : List Nat → List Nat → Nat → Prop
  | nil : SG es pl r [] [] r
  | snoc {t A : List Nat} (h : Nat) (B : List Nat) (k : SG es pl r t A (fN es h)) (hl : h < 2 * es.length) (hp : pl (fN es h) < pl (gN es h)) (ha : ∀ g, g < 2 * es.length → g / 2 ∈ A → pl (fN es g) < pl (gN es h)) (hb : ∀ e ∈ B, Tch es (fun z => pl (gN es h) ≤ pl z) e) (hr : ∀ e ∈ B, RC es e (h / 2)) : SG es pl r (t ++ [h]) (A ++ h / 2 :: B) (gN es h)
theorem SG.last {es : List Pt} {pl : Nat → Int} {r h v : Nat} {t op : List Nat} (hs : SG es pl r (t ++ [h]) op v) : ∃ A B, op = A ++ h / 2 :: B ∧ v = gN es h ∧ SG es pl r t A (fN es h) ∧ h < 2 * es.length ∧ pl (fN es h) < pl (gN es h) ∧ (∀ g, g < 2 * es.length → g / 2 ∈ A → pl (fN es g) < pl (gN es h)) ∧ (∀ e ∈ B, Tch es (fun z => pl (gN es h) ≤ pl z) e) ∧ ∀ e ∈ B, RC es e (h / 2) := by
  generalize e : t ++ [h] = l at hs
  cases hs with
  | nil => simp at e
  | snoc h' B k hl hp ha hb hr =>
    obtain ⟨e1, e2⟩ := List.append_inj' e rfl
    simp at e2
    subst e1; subst e2
    exact ⟨_, B, rfl, rfl, k, hl, hp, ha, hb, hr⟩
theorem SG.none {es : List Pt} {pl : Nat → Int} {r v : Nat} {op : List Nat} (hs : SG es pl r [] op v) : op = [] ∧ v = r := by
  generalize e : ([] : List Nat) = l at hs
  cases hs with
  | nil => exact ⟨rfl, rfl⟩
  | snoc h' B k hl hp ha hb hr => simp at e
/-- The nodes of the way down. -/
abbrev pth (es : List Pt) (r : Nat) (t : List Nat) : List Nat := r :: t.map (gN es)
theorem pth_more {es : List Pt} {r h u : Nat} {t : List Nat} : u ∈ pth es r (t ++ [h]) ↔ u ∈ pth es r t ∨ u = gN es h := by
  unfold pth
  simp only [List.map_append, List.map_cons, List.map_nil, List.mem_cons, List.mem_append, List.not_mem_nil, or_false]
  constructor
  · rintro (h | h | h)
    · exact Or.inl (Or.inl h)
    · exact Or.inl (Or.inr h)
    · exact Or.inr h
  · rintro ((h | h) | h)
    · exact Or.inl h
    · exact Or.inr (Or.inl h)
    · exact Or.inr (Or.inr h)
theorem SG.mem {es : List Pt} {pl : Nat → Int} {r v : Nat} {t op : List Nat} (hs : SG es pl r t op v) : v ∈ pth es r t := by
  cases hs with
  | nil => exact List.mem_cons_self
  | snoc h B k hl hp ha hb hr => exact pth_more.2 (Or.inr rfl)
/-- Places rise along the way down. -/
theorem SG.rise {es : List Pt} {pl : Nat → Int} {r v : Nat} {t op : List Nat} (hs : SG es pl r t op v) : ∀ u, u ∈ pth es r t → u = v ∨ pl u < pl v := by
  induction hs with
  | nil =>
    intro u hu
    exact Or.inl (by simpa [pth] using hu)
  | snoc h B k hl hp ha hb hr ih =>
    intro u hu
    rcases pth_more.1 hu with hu | hu
    · rcases ih u hu with e | e
      · rw [e]; exact Or.inr hp
      · exact Or.inr (by omega)
    · exact Or.inl hu
theorem SG.le {es : List Pt} {pl : Nat → Int} {r v : Nat} {t op : List Nat} (hs : SG es pl r t op v) {u : Nat} (hu : u ∈ pth es r t) : pl u ≤ pl v := by
  rcases hs.rise u hu with e | e
  · rw [e]; exact Int.le_refl _
  · omega
/-- The way from one of them on down. -/
theorem SG.way {es : List Pt} {pl : Nat → Int} {r v : Nat} {t op : List Nat} (hs : SG es pl r t op v) : ∀ u, u ∈ pth es r t → JP es (fun z => z ∈ pth es r t ∧ pl u ≤ pl z) u v := by
  induction hs with
  | nil =>
    intro u hu
    have : u = r := by simpa [pth] using hu
    rw [this]
    exact .refl _ ⟨List.mem_cons_self, Int.le_refl _⟩
  | snoc h B k hl hp ha hb hr ih =>
    intro u hu
    rcases pth_more.1 hu with hu | hu
    · have h1 := (ih u hu).mono (Q := fun z => z ∈ pth es r (_ ++ [h]) ∧ pl u ≤ pl z) fun z hz => ⟨pth_more.2 (Or.inl hz.1), hz.2⟩
      have h2 := h1.right.2
      exact .step h h1 hl ⟨pth_more.2 (Or.inr rfl), by omega⟩
    · rw [hu]
      exact .refl _ ⟨pth_more.2 (Or.inr rfl), Int.le_refl _⟩
/-- Who is found stays where it is. -/
theorem SG.keep {es : List Pt} {pl pl' : Nat → Int} {r v : Nat} {t op : List Nat} (hs : SG es pl r t op v) (hp : ∀ z, 0 ≤ pl z → pl' z = pl z) (hu : ∀ u, u ∈ pth es r t → 0 ≤ pl u) (ho : ∀ g, g < 2 * es.length → g / 2 ∈ op → 0 ≤ pl (fN es g)) : SG es pl' r t op v := by
  induction hs with
  | nil => exact .nil
  | snoc h B k hl h1 ha hb hr ih =>
    have hf := hp _ (hu _ (pth_more.2 (Or.inl k.mem)))
    have hg := hp _ (hu _ (pth_more.2 (Or.inr rfl)))
    refine .snoc h B (ih (fun u hx => hu u (pth_more.2 (Or.inl hx))) fun g hg he => ho g hg (List.mem_append_left _ he)) hl (by rw [hf, hg]; exact h1) (fun g hgl he => ?_) (fun e he => ?_) hr
    · rw [hg, hp _ (ho g hgl (List.mem_append_left _ he))]
      exact ha g hgl he
    · obtain ⟨g, g1, g2, g3⟩ := hb e he
      refine ⟨g, g1, g2, ?_⟩
      have g3' : pl (gN es h) ≤ pl (fN es g) := g3
      show pl' (gN es h) ≤ pl' (fN es g)
      rw [hg, hp _ (ho g g1 (by rw [g2]; simp [he]))]
      exact g3'
/-- One open edge more, that lies with the last of the trail. -/
theorem SG.more {es : List Pt} {pl : Nat → Int} {r v e : Nat} {t op : List Nat} (hs : SG es pl r t op v) {h : Nat} (ht : t.getLast? = some h) (h1 : Tch es (fun z => pl (gN es h) ≤ pl z) e) (h2 : RC es e (h / 2)) : SG es pl r t (op ++ [e]) v := by
  cases hs with
  | nil => simp at ht
  | snoc h' B k hl hp ha hb hr =>
    have : h' = h := by simpa using ht
    subst this
    rw [List.append_assoc]
    refine .snoc h' (B ++ [e]) k hl hp ha (fun x hx => ?_) (fun x hx => ?_)
    · rcases List.mem_append.1 hx with hx | hx
      · exact hb x hx
      · rw [List.mem_singleton.1 hx]; exact h1
    · rcases List.mem_append.1 hx with hx | hx
      · exact hr x hx
      · rw [List.mem_singleton.1 hx]; exact h2
end Go.Proofs.Ytobkejnlkjieoaa

/- Pure: what the walk through a net knows of the blocks that are whole: each is all that hangs on one node, less what was whole before. -/
namespace Go.Proofs.Ytobkejnlkjieoaa
open Go.RowKit Go.Sort
open Go
/-- Gone over, and its block is whole. -/
def Clo (s : BS) (e : Nat) : Prop := s.ov e = true ∧ e ∉ s.op
/-- Of each whole block the node on which it hangs (U), the nodes that hang there with it (X), and the roots. -/
structure KS (es : List Pt) (s : BS) (U : Nat → Nat) (X : Nat → Nat → Prop) (rt : Nat → Prop) : Prop where
  nn : ∀ z, s.pl z < s.fd
  fo : ∀ g, g < 2 * es.length → s.ov (g / 2) = true → 0 ≤ s.pl (fN es g)
  cx : ∀ j, j < s.ct → ∀ g, g < 2 * es.length → X j (fN es g) → X j (gN es g) ∨ gN es g = U j
  cu : ∀ j, j < s.ct → ¬ X j (U j) ∧ 0 ≤ s.pl (U j) ∧ ∀ z, X j z → s.pl (U j) < s.pl z
  cb : ∀ e, e < es.length → ¬ Lp es e → Clo s e → ∃ j : Nat, s.bk e = j ∧ j < s.ct ∧ Tch es (X j) e ∧ ∀ i, i < j → ¬ Tch es (X i) e
  co : ∀ e, e < es.length → ¬ Clo s e → ∀ i, i < s.ct → ¬ Tch es (X i) e
  lp : ∀ e e', Clo s e → Clo s e' → Lp es e → s.bk e = s.bk e' → e = e'
  rc : ∀ e e', Clo s e → Clo s e' → s.bk e = s.bk e' → RC es e e'
  up : ∀ j : Nat, j < s.ct → ∃ g, g < 2 * es.length ∧ Clo s (g / 2) ∧ s.bk (g / 2) = j ∧ fN es g = U j
  ro : ∀ z, rt z → 0 ≤ s.pl z ∧ ∀ j, j < s.ct → ¬ X j z
  te : ∀ z, 0 ≤ s.pl z → rt z ∨ ∃ g, g < 2 * es.length ∧ gN es g = z ∧ 0 ≤ s.pl (fN es g) ∧ s.pl (fN es g) < s.pl z
theorem shut_op {s : BS} {f : Nat} {A B : List Nat} (ho : s.op = A ++ f :: B) (hf : f ∉ A) : (shutB f s).op = A ∧ ∀ e, (shutB f s).bk e = if e ∈ f :: B then (s.ct : Int) else s.bk e := by
  have h1 : ∀ a ∈ A, decide (a ≠ f) = true := fun a ha => by
    simp only [decide_eq_true_eq]
    exact fun e => hf (e ▸ ha)
  constructor
  · show s.op.takeWhile _ = A
    rw [ho, List.takeWhile_append_of_pos h1]
    simp
  · intro e
    show (if e ∈ s.op.dropWhile _ then _ else _) = _
    rw [ho, List.dropWhile_append_of_pos h1]
    simp
/-- A block becomes whole. -/
theorem KS.shut {es : List Pt} {s : BS} {U : Nat → Nat} {X : Nat → Nat → Prop} {rt : Nat → Prop} (k : KS es s U X rt) (cl : ∀ e, s.ov e = true → e ∈ s.op ∨ (0 ≤ s.bk e ∧ s.bk e < s.ct)) (ov : ∀ e ∈ s.op, s.ov e = true) {f u : Nat} {A B : List Nat} (ho : s.op = A ++ f :: B) (hn : s.op.Nodup) {Y : Nat → Prop}
    (y1 : ∀ g, g < 2 * es.length → Y (fN es g) → Y (gN es g) ∨ gN es g = u) (y2 : ¬ Y u ∧ 0 ≤ s.pl u ∧ ∀ z, Y z → s.pl u < s.pl z) (y3 : ∀ e ∈ f :: B, ¬ Lp es e → Tch es Y e) (y4 : ∀ e, e < es.length → (s.ov e = false ∨ e ∈ A) → ¬ Tch es Y e) (y5 : ∀ e ∈ f :: B, RC es e f) (y6 : ∀ e ∈ f :: B, Lp es e → ∀ e' ∈ f :: B, e = e') (y7 : ∃ g, g < 2 * es.length ∧ g / 2 = f ∧ fN es g = u) (y8 : ∀ z, rt z → ¬ Y z) : KS es (shutB f s) (upd U s.ct u) (upd X s.ct Y) rt := by
  have hf : f ∉ A := by
    rw [ho] at hn
    exact fun h => (List.nodup_append.1 hn).2.2 f h f List.mem_cons_self rfl
  have hAB : ∀ e, e ∈ A → e ∉ f :: B := by
    rw [ho] at hn
    exact fun e h1 h2 => (List.nodup_append.1 hn).2.2 e h1 e h2 rfl
  obtain ⟨o1, o2⟩ := shut_op ho hf
  have hc : ∀ e, Clo (shutB f s) e ↔ Clo s e ∨ e ∈ f :: B := fun e => by
    unfold Clo
    rw [o1]
    show s.ov e = true ∧ e ∉ A ↔ (s.ov e = true ∧ e ∉ s.op) ∨ e ∈ f :: B
    rw [ho]
    constructor
    · rintro ⟨h1, h2⟩
      by_cases h3 : e ∈ f :: B
      · exact Or.inr h3
      · exact Or.inl ⟨h1, fun h => (List.mem_append.1 h).elim h2 h3⟩
    · rintro (⟨h1, h2⟩ | h)
      · exact ⟨h1, fun h => h2 (List.mem_append_left _ h)⟩
      · exact ⟨ov e (by rw [ho]; exact List.mem_append_right _ h), fun h1 => hAB e h1 h⟩
  have hb1 : ∀ e, Clo s e → (shutB f s).bk e = s.bk e ∧ 0 ≤ s.bk e ∧ s.bk e < s.ct := fun e h => by
    have h1 : e ∉ f :: B := fun h2 => h.2 (by rw [ho]; exact List.mem_append_right _ h2)
    rw [o2, if_neg h1]
    rcases cl e h.1 with h2 | h2
    · exact absurd h2 h.2
    · exact ⟨rfl, h2⟩
  have hb2 : ∀ e, e ∈ f :: B → (shutB f s).bk e = s.ct := fun e h => by rw [o2, if_pos h]
  have hct : (shutB f s).ct = s.ct + 1 := rfl
  have hX : ∀ j, j < s.ct → upd X s.ct Y j = X j := fun j hj => upd_other _ _ (by omega)
  have hU : ∀ j, j < s.ct → upd U s.ct u j = U j := fun j hj => upd_other _ _ (by omega)
  refine ⟨k.nn, k.fo, fun j hj => ?_, fun j hj => ?_, fun e he hl hcl => ?_, fun e he hcl i hi => ?_, fun e e' h1 h2 h3 h4 => ?_, fun e e' h1 h2 h4 => ?_, fun j hj => ?_, fun z hz => ⟨(k.ro z hz).1, fun j hj => ?_⟩, k.te⟩
  · rw [hct] at hj
    by_cases e : j = s.ct
    · rw [e, upd_same, upd_same]; exact y1
    · rw [hX j (by omega), hU j (by omega)]; exact k.cx j (by omega)
  · rw [hct] at hj
    by_cases e : j = s.ct
    · rw [e, upd_same, upd_same]; exact y2
    · rw [hX j (by omega), hU j (by omega)]; exact k.cu j (by omega)
  · rcases (hc e).1 hcl with h | h
    · obtain ⟨j, b1, b2, b3, b4⟩ := k.cb e he hl h
      refine ⟨j, by rw [(hb1 e h).1, b1], by rw [hct]; omega, by rw [hX j b2]; exact b3, fun i hi => ?_⟩
      rw [hX i (by omega)]
      exact b4 i hi
    · refine ⟨s.ct, hb2 e h, by rw [hct]; omega, by rw [upd_same]; exact y3 e h hl, fun i hi => ?_⟩
      rw [hX i hi]
      exact k.co e he (fun h1 => h1.2 (by rw [ho]; exact List.mem_append_right _ h)) i hi
  · rw [hct] at hi
    have h1 : ¬ Clo s e := fun h => hcl ((hc e).2 (Or.inl h))
    by_cases ei : i = s.ct
    · rw [ei, upd_same]
      refine y4 e he ?_
      cases ho' : s.ov e
      · exact Or.inl rfl
      · right
        refine Classical.byContradiction fun hA => hcl ⟨ho', ?_⟩
        rw [o1]; exact hA
    · rw [hX i (by omega)]
      exact k.co e he h1 i (by omega)
  · rcases (hc e).1 h1 with g1 | g1 <;> rcases (hc e').1 h2 with g2 | g2
    · rw [(hb1 e g1).1, (hb1 e' g2).1] at h4
      exact k.lp e e' g1 g2 h3 h4
    · rw [(hb1 e g1).1, hb2 e' g2] at h4
      have := (hb1 e g1).2.2
      omega
    · rw [(hb1 e' g2).1, hb2 e g1] at h4
      have := (hb1 e' g2).2.2
      omega
    · exact y6 e g1 h3 e' g2
  · rcases (hc e).1 h1 with g1 | g1 <;> rcases (hc e').1 h2 with g2 | g2
    · rw [(hb1 e g1).1, (hb1 e' g2).1] at h4
      exact k.rc e e' g1 g2 h4
    · rw [(hb1 e g1).1, hb2 e' g2] at h4
      have := (hb1 e g1).2.2
      omega
    · rw [(hb1 e' g2).1, hb2 e g1] at h4
      have := (hb1 e' g2).2.2
      omega
    · exact (y5 e g1).trans (y5 e' g2).symm
  · rw [hct] at hj
    by_cases e : j = s.ct
    · rw [e, upd_same]
      obtain ⟨g, g1, g2, g3⟩ := y7
      exact ⟨g, g1, by rw [g2]; exact (hc f).2 (Or.inr List.mem_cons_self), by rw [g2]; exact hb2 f List.mem_cons_self, g3⟩
    · rw [hU j (by omega)]
      obtain ⟨g, g1, g2, g3, g4⟩ := k.up j (by omega)
      exact ⟨g, g1, (hc _).2 (Or.inl g2), by rw [(hb1 _ g2).1]; exact g3, g4⟩
  · rw [hct] at hj
    by_cases e : j = s.ct
    · rw [e, upd_same]; exact y8 z hz
    · rw [hX j (by omega)]; exact (k.ro z hz).2 j (by omega)
/-- An edge is gone over. -/
theorem KS.over {es : List Pt} {s s' : BS} {U : Nat → Nat} {X : Nat → Nat → Prop} {rt : Nat → Prop} (k : KS es s U X rt) {h : Nat} (hov : s'.ov = upd s.ov (h / 2) true) (hop : s'.op = s.op ++ [h / 2]) (hnew : s.ov (h / 2) = false) (hbk : s'.bk = s.bk) (hct : s'.ct = s.ct) (hpl : ∀ z, 0 ≤ s.pl z → s'.pl z = s.pl z) (hnn : ∀ z, s'.pl z < s'.fd) (hends : ∀ g, g / 2 = h / 2 → 0 ≤ s'.pl (fN es g)) (hte : ∀ z, 0 ≤ s'.pl z → 0 ≤ s.pl z ∨ ∃ g, g < 2 * es.length ∧ gN es g = z ∧ 0 ≤ s'.pl (fN es g) ∧ s'.pl (fN es g) < s'.pl z) : KS es s' U X rt := by
  have hc : ∀ e, Clo s' e ↔ Clo s e := fun e => by
    unfold Clo
    rw [hov, hop]
    by_cases e1 : e = h / 2
    · rw [e1]
      exact ⟨fun h => absurd (List.mem_append_right _ (List.mem_singleton.2 rfl)) h.2, fun h => by rw [hnew] at h; cases h.1⟩
    · rw [upd_other _ _ e1]
      exact ⟨fun h => ⟨h.1, fun h2 => h.2 (List.mem_append_left _ h2)⟩, fun h => ⟨h.1, fun h2 => (List.mem_append.1 h2).elim h.2 fun h3 => e1 (List.mem_singleton.1 h3)⟩⟩
  refine ⟨hnn, fun g hg ho => ?_, by rw [hct]; exact k.cx, fun j hj => ?_, fun e he hl hcl => ?_, fun e he hcl => ?_, fun e e' h1 h2 h3 h4 => ?_, fun e e' h1 h2 h4 => ?_, fun j hj => ?_, fun z hz => ?_, fun z hz => ?_⟩
  · by_cases e1 : g / 2 = h / 2
    · exact hends g e1
    · rw [hov, upd_other _ _ e1] at ho
      have := k.fo g hg ho
      rw [hpl _ this]; exact this
  · rw [hct] at hj
    obtain ⟨a1, a2, a3⟩ := k.cu j hj
    refine ⟨a1, by rw [hpl _ a2]; exact a2, fun z hz => ?_⟩
    have := a3 z hz
    rw [hpl _ a2, hpl z (by omega)]
    exact this
  · rw [hbk, hct]; exact k.cb e he hl ((hc e).1 hcl)
  · rw [hct]; exact k.co e he fun h => hcl ((hc e).2 h)
  · rw [hbk] at h4; exact k.lp e e' ((hc e).1 h1) ((hc e').1 h2) h3 h4
  · rw [hbk] at h4; exact k.rc e e' ((hc e).1 h1) ((hc e').1 h2) h4
  · rw [hct] at hj
    obtain ⟨g, g1, g2, g3, g4⟩ := k.up j hj
    exact ⟨g, g1, (hc _).2 g2, by rw [hbk]; exact g3, g4⟩
  · obtain ⟨a1, a2⟩ := k.ro z hz
    exact ⟨by rw [hpl _ a1]; exact a1, by rw [hct]; exact a2⟩
  · rcases hte z hz with h1 | h1
    · rcases k.te z h1 with h2 | ⟨g, g1, g2, g3, g4⟩
      · exact Or.inl h2
      · exact Or.inr ⟨g, g1, g2, by rw [hpl _ g3]; exact g3, by rw [hpl _ g3, hpl _ h1]; exact g4⟩
    · exact Or.inr h1
end Go.Proofs.Ytobkejnlkjieoaa

/- Pure: the walk's way, low places, and how one step keeps what is known of the blocks. -/
namespace Go.Proofs.Ytobkejnlkjieoaa
open Go.RowKit Go.Sort
open Go
/-- A way back up from a node of the way, or from below it. -/
def LW (es : List Pt) (r : Nat) (s : BS) (t : List Nat) (u : Nat) : Prop := ∃ x, x ∈ pth es r t ∧ s.lw u = s.pl x ∧ s.pl x ≤ s.pl u ∧ (x = u ∨ ∃ g, g < 2 * es.length ∧ JP es (fun z => s.pl u ≤ s.pl z) u (fN es g) ∧ gN es g = x)
/-- An edge gone over, from a node found behind u, leads to such a node, or is the one by which u was found, or leads up and is told. -/
def LB (es : List Pt) (r : Nat) (s : BS) (t : List Nat) (u g : Nat) : Prop := s.pl u ≤ s.pl (gN es g) ∨ (∃ h ∈ t, h / 2 = g / 2 ∧ gN es h = u) ∨ (gN es g ∈ pth es r t ∧ ∃ u' ∈ pth es r t, s.pl u ≤ s.pl u' ∧ s.lw u' ≤ s.pl (gN es g))
structure KP (n : Nat) (es : List Pt) (r : Nat) (s : BS) (v : Nat) (U : Nat → Nat) (X : Nat → Nat → Prop) (rt : Nat → Prop) : Prop where
  di : DI n es r s v
  ks : KS es s U X rt
  sg : SG es s.pl r s.tr s.op v
  lw : ∀ u, u ∈ pth es r s.tr → LW es r s s.tr u
  lb : ∀ u, u ∈ pth es r s.tr → ∀ g, g < 2 * es.length → s.ov (g / 2) = true → s.pl u ≤ s.pl (fN es g) → LB es r s s.tr u g
  ol : ∀ e ∈ s.op, ¬ Lp es e
  fr : ∀ z, 0 ≤ s.pl z → rt z ∨ (∃ j, j < s.ct ∧ X j z) ∨ ∃ h ∈ s.tr, s.pl (gN es h) ≤ s.pl z
  rp : rt r ∧ ∀ z, rt z → s.pl z ≤ s.pl r
variable {n : Nat} {es : List Pt} {r : Nat} {s : BS} {v : Nat} {U : Nat → Nat} {X : Nat → Nat → Prop} {rt : Nat → Prop}
theorem KP.found (k : KP n es r s v U X rt) : ∀ u, u ∈ pth es r s.tr → 0 ≤ s.pl u := fun u hu => by
  have h1 := (k.di.lo u hu).1
  have h2 := k.di.pr.1
  omega
theorem KP.look (k : KP n es r s v U X rt) (hl : s.rs v < (ob es v).length) (hn : s.ov (nextH es v s / 2) = true) : KP n es r (lookB v s) v U X rt :=
  ⟨k.di.look hl hn, ⟨k.ks.nn, k.ks.fo, k.ks.cx, k.ks.cu, k.ks.cb, k.ks.co, k.ks.lp, k.ks.rc, k.ks.up, k.ks.ro, k.ks.te⟩, k.sg, k.lw, k.lb, k.ol, k.fr, k.rp⟩
theorem KP.loop (hm : netB n es = true) (k : KP n es r s v U X rt) (hl : s.rs v < (ob es v).length) (hn : s.ov (nextH es v s / 2) = false) (h1 : fN es (nextH es v s) = gN es (nextH es v s)) : ∃ U' X', KP n es r (goOverB es (nextH es v s) (lookB v s)).1 (goOverB es (nextH es v s) (lookB v s)).2 U' X' rt := by
  have hd := k.di.over hm hl hn
  obtain ⟨n1, n2, n3⟩ := next_is hl
  obtain ⟨h, hh⟩ : ∃ h, nextH es v s = h := ⟨_, rfl⟩
  rw [hh] at hd n1 n2 h1 hn ⊢
  have hnew : h / 2 ∉ s.op := fun e => by have := (k.di.bi.opn _ e).2; rw [hn] at this; cases this
  have hv0 : 0 ≤ s.pl v := k.di.bi.vn.2
  have he : ∀ g, g / 2 = h / 2 → fN es g = v ∧ gN es g = v := fun g hg => by
    rcases tw_h hg with e | e
    · rw [e, ← h1, n2]; exact ⟨rfl, rfl⟩
    · rw [e, tw_f n1, tw_g n1, ← h1, n2]; exact ⟨rfl, rfl⟩
  have k1 : KS es (overB h (lookB v s)) U X rt := k.ks.over (h := h) rfl rfl hn rfl rfl (fun _ _ => rfl) k.ks.nn (fun g hg => by rw [(he g hg).1]; exact hv0) fun z hz => Or.inl hz
  have hop : (overB h (lookB v s)).op = s.op ++ h / 2 :: [] := rfl
  have hnod : (overB h (lookB v s)).op.Nodup := by
    rw [hop, List.nodup_append]
    refine ⟨k.di.bi.nod, by simp, fun a ha b hb e => ?_⟩
    rw [List.mem_singleton.1 hb] at e
    exact hnew (e ▸ ha)
  have hlp : Lp es (h / 2) := (lp_iff n1).2 h1
  have k2 := k1.shut (fun e he1 => by
      have he2 : upd s.ov (h / 2) true e = true := he1
      show e ∈ s.op ++ [h / 2] ∨ _
      by_cases e1 : e = h / 2
      · exact Or.inl (by simp [e1])
      · rw [upd_other _ _ e1] at he2
        rcases k.di.cl e he2 with h | h
        · exact Or.inl (List.mem_append_left _ h)
        · exact Or.inr h) (fun e he1 => by
      show upd s.ov (h / 2) true e = true
      by_cases e1 : e = h / 2
      · rw [e1, upd_same]
      · rw [upd_other _ _ e1]
        rcases List.mem_append.1 he1 with h | h
        · exact (k.di.bi.opn e h).2
        · exact absurd (List.mem_singleton.1 h) e1) (f := h / 2) (u := v) hop hnod (Y := fun _ => False) (fun g _ h => h.elim) ⟨id, hv0, fun z h => h.elim⟩ (fun e he1 h2 => by rw [List.mem_singleton.1 he1] at h2; exact absurd hlp h2) (fun e _ _ ⟨g, _, _, h⟩ => h) (fun e he1 => by rw [List.mem_singleton.1 he1]; exact .refl _) (fun e he1 _ e' he2 => by rw [List.mem_singleton.1 he1, List.mem_singleton.1 he2]) ⟨h, n1, rfl, n2⟩ (fun _ _ => id)
  obtain ⟨o1, _⟩ := shut_op hop hnew
  have hg : goOverB es h (lookB v s) = (shutB (h / 2) (overB h (lookB v s)), fN es h) := by
    unfold goOverB
    rw [if_pos h1]
  rw [hg] at hd ⊢
  refine ⟨_, _, hd, k2, ?_, k.lw, fun u hu g hgl ho hp => ?_, fun e he1 => ?_, fun z hz => ?_, k.rp⟩
  · show SG es s.pl r s.tr (shutB (h / 2) (overB h (lookB v s))).op (fN es h)
    rw [o1, n2]; exact k.sg
  · by_cases e1 : g / 2 = h / 2
    · left
      show s.pl u ≤ s.pl (gN es g)
      rw [(he g e1).2]
      exact k.sg.le hu
    · refine k.lb u hu g hgl ?_ hp
      have h2 : upd s.ov (h / 2) true (g / 2) = true := ho
      rw [upd_other _ _ e1] at h2
      exact h2
  · rw [o1] at he1
    exact k.ol e he1
  · rcases k.fr z hz with h | ⟨j, j1, j2⟩ | h
    · exact Or.inl h
    · refine Or.inr (Or.inl ⟨j, Nat.lt_succ_of_lt j1, ?_⟩)
      have j1' : j ≠ s.ct := by omega
      show upd X s.ct _ j z
      rw [upd_other _ _ j1']
      exact j2
    · exact Or.inr (Or.inr h)
/-- The edge leads back up. -/
theorem KP.upward (hm : netB n es = true) (k : KP n es r s v U X rt) (hl : s.rs v < (ob es v).length) (hn : s.ov (nextH es v s / 2) = false) (h1 : fN es (nextH es v s) ≠ gN es (nextH es v s)) (h2 : 0 ≤ s.pl (gN es (nextH es v s))) : KP n es r (goOverB es (nextH es v s) (lookB v s)).1 (goOverB es (nextH es v s) (lookB v s)).2 U X rt := by
  have hd := k.di.over hm hl hn
  obtain ⟨n1, n2, n3⟩ := next_is hl
  have hup := k.di.up hm n1 hn h2
  obtain ⟨h, hh⟩ : ∃ h, nextH es v s = h := ⟨_, rfl⟩
  rw [hh] at hd n1 n2 h1 h2 hn hup ⊢
  have hv0 : 0 ≤ s.pl v := k.di.bi.vn.2
  have hle := k.sg.le hup
  have hg : goOverB es h (lookB v s) = ({ overB h (lookB v s) with lw := upd s.lw v (min (s.lw v) (s.pl (gN es h))) }, v) := by
    unfold goOverB
    rw [if_neg h1, if_pos (show 0 ≤ (lookB v s).pl (gN es h) from h2), n2]
    rfl
  rw [hg] at hd ⊢
  have k1 : KS es { overB h (lookB v s) with lw := upd s.lw v (min (s.lw v) (s.pl (gN es h))) } U X rt := k.ks.over (h := h) rfl rfl hn rfl rfl (fun _ _ => rfl) k.ks.nn (fun g hg => by
    rcases tw_h hg with e | e
    · rw [e, n2]; exact hv0
    · rw [e, tw_f n1]; exact h2) fun z hz => Or.inl hz
  have hlw : ∀ u, upd s.lw v (min (s.lw v) (s.pl (gN es h))) u ≤ s.lw u := fun u => by
    unfold upd
    split
    · rename_i e; rw [e]; omega
    · exact Int.le_refl _
  refine ⟨hd, k1, ?_, fun u hu => ?_, fun u hu g hgl ho hp => ?_, fun e he => ?_, k.fr, k.rp⟩
  · show SG es s.pl r s.tr (s.op ++ [h / 2]) v
    rcases List.eq_nil_or_concat s.tr with e | ⟨t, h0, e⟩
    · have h3 := k.sg
      rw [e] at h3
      rw [e] at hup
      have h4 := h3.none.2
      exact absurd (by rw [n2, h4]; exact ((by simpa [pth] using hup : gN es h = r)).symm) h1
    · rw [List.concat_eq_append] at e
      have h3 := k.sg
      rw [e] at h3
      obtain ⟨A, B, b1, b2, b3, b4, b5, b6, b7, b8⟩ := h3.last
      refine k.sg.more (h := h0) (by rw [e]; simp) ⟨h, n1, rfl, ?_⟩ (.one ⟨h, twinH h0, n1, (twin_is b4).1, rfl, (twin_is b4).2.2.1, ?_, ?_⟩)
      · show s.pl (gN es h0) ≤ s.pl (fN es h)
        rw [n2, b2]; exact Int.le_refl _
      · rw [n2, tw_f b4, b2]
      · rw [tw_g b4, n2]
        rw [e] at hup
        rcases pth_more.1 hup with h5 | h5
        · refine (b3.way _ h5).mono fun z hz e1 => ?_
          have := b3.le hz.1
          rw [e1, b2] at this
          omega
        · exact absurd (by rw [n2, b2, h5]) h1
  · show LW es r _ s.tr u
    obtain ⟨x, x1, x2, x3, x4⟩ := k.lw u hu
    by_cases e : u = v
    · subst e
      by_cases hc : s.lw u ≤ s.pl (gN es h)
      · refine ⟨x, x1, ?_, x3, x4⟩
        show upd s.lw u (min (s.lw u) (s.pl (gN es h))) u = s.pl x
        rw [upd_same]; omega
      · refine ⟨gN es h, hup, ?_, hle, Or.inr ⟨h, n1, ?_, rfl⟩⟩
        · show upd s.lw u (min (s.lw u) (s.pl (gN es h))) u = s.pl (gN es h)
          rw [upd_same]; omega
        · rw [n2]
          exact .refl _ (Int.le_refl _)
    · refine ⟨x, x1, ?_, x3, x4⟩
      show upd s.lw v _ u = s.pl x
      rw [upd_other _ _ e]; exact x2
  · by_cases e1 : g / 2 = h / 2
    · rcases tw_h e1 with e | e
      · subst e
        refine Or.inr (Or.inr ⟨hup, v, k.sg.mem, ?_, ?_⟩)
        · exact k.sg.le hu
        · show upd s.lw v (min (s.lw v) (s.pl (gN es g))) v ≤ s.pl (gN es g)
          rw [upd_same]; omega
      · left
        show s.pl u ≤ s.pl (gN es g)
        rw [e, tw_g n1, n2]
        exact k.sg.le hu
    · have h3 : upd s.ov (h / 2) true (g / 2) = true := ho
      rw [upd_other _ _ e1] at h3
      rcases k.lb u hu g hgl h3 hp with h4 | h4 | ⟨h4, u', h5, h6, h7⟩
      · exact Or.inl h4
      · exact Or.inr (Or.inl h4)
      · exact Or.inr (Or.inr ⟨h4, u', h5, h6, Int.le_trans (hlw u') h7⟩)
  · rcases List.mem_append.1 he with h3 | h3
    · exact k.ol e h3
    · rw [List.mem_singleton.1 h3]
      exact fun h4 => h1 ((lp_iff n1).1 h4)
/-- The edge leads to a new node. -/
theorem KP.down (hm : netB n es = true) (k : KP n es r s v U X rt) (hl : s.rs v < (ob es v).length) (hn : s.ov (nextH es v s / 2) = false) (h1 : fN es (nextH es v s) ≠ gN es (nextH es v s)) (h2 : ¬ 0 ≤ s.pl (gN es (nextH es v s))) : KP n es r (goOverB es (nextH es v s) (lookB v s)).1 (goOverB es (nextH es v s) (lookB v s)).2 U X rt := by
  have hd := k.di.over hm hl hn
  obtain ⟨n1, n2, n3⟩ := next_is hl
  obtain ⟨h, hh⟩ : ∃ h, nextH es v s = h := ⟨_, rfl⟩
  rw [hh] at hd n1 n2 h1 h2 hn ⊢
  have hv0 : 0 ≤ s.pl v := k.di.bi.vn.2
  have hg : goOverB es h (lookB v s) = ({ findB (gN es h) (overB h (lookB v s)) with tr := s.tr ++ [h] }, gN es h) := by
    unfold goOverB
    rw [if_neg h1, if_neg (show ¬ 0 ≤ (lookB v s).pl (gN es h) from h2)]
    rfl
  rw [hg] at hd ⊢
  obtain ⟨wt, hto⟩ : ∃ t, gN es h = t := ⟨_, rfl⟩
  rw [hto] at hd h1 h2 ⊢
  have hvt : v ≠ wt := fun e => h2 (by rw [← e]; exact hv0)
  have hpl : ∀ z, 0 ≤ s.pl z → upd s.pl wt (s.fd : Int) z = s.pl z := fun z hz => upd_other _ _ fun e => h2 (by rw [← e]; exact hz)
  have hpt : upd s.pl wt (s.fd : Int) wt = s.fd := upd_same _ _ _
  have hfd := k.ks.nn v
  have k1 : KS es { findB wt (overB h (lookB v s)) with tr := s.tr ++ [h] } U X rt := k.ks.over (h := h) rfl rfl hn rfl rfl hpl (fun z => by
    show upd s.pl wt (s.fd : Int) z < ((s.fd + 1 : Nat) : Int)
    by_cases e : z = wt
    · rw [e, hpt]; omega
    · rw [upd_other _ _ e]
      have := k.ks.nn z
      omega) (fun g hg => by
    show 0 ≤ upd s.pl wt (s.fd : Int) (fN es g)
    rcases tw_h hg with e | e
    · rw [e, n2, hpl _ hv0]; exact hv0
    · rw [e, tw_f n1, hto, hpt]; omega) fun z hz => by
    by_cases e : z = wt
    · refine Or.inr ⟨h, n1, by rw [hto, e], ?_⟩
      show 0 ≤ upd s.pl wt (s.fd : Int) (fN es h) ∧ upd s.pl wt (s.fd : Int) (fN es h) < upd s.pl wt (s.fd : Int) z
      rw [n2, hpl _ hv0, e, hpt]
      exact ⟨hv0, hfd⟩
    · have h3 : 0 ≤ upd s.pl wt (s.fd : Int) z := hz
      rw [upd_other _ _ e] at h3
      exact Or.inl h3
  have hfo := k.found
  have hop : ∀ g, g < 2 * es.length → g / 2 ∈ s.op → 0 ≤ s.pl (fN es g) := fun g hg he => k.ks.fo g hg (k.di.bi.opn _ he).2
  have hm1 : ∀ {u}, u ∈ pth es r (s.tr ++ [h]) ↔ u ∈ pth es r s.tr ∨ u = wt := by
    intro u
    rw [pth_more, hto]
  have hmono : ∀ {u z : Nat}, 0 ≤ s.pl u → s.pl u ≤ s.pl z → upd s.pl wt (s.fd : Int) u ≤ upd s.pl wt (s.fd : Int) z := fun {u z} a b => by
    rw [hpl u a, hpl z (by omega)]; exact b
  refine ⟨hd, k1, ?_, fun u hu => ?_, fun u hu g hgl ho hp => ?_, fun e he => ?_, fun z hz => ?_, k.rp.1, fun z hz => ?_⟩
  · show SG es (upd s.pl wt (s.fd : Int)) r (s.tr ++ [h]) (s.op ++ h / 2 :: []) wt
    rw [← hto]
    refine .snoc h [] (by rw [n2, hto]; exact k.sg.keep hpl hfo hop) n1 ?_ (fun g hg he => ?_) (fun e he => by cases he) (fun e he => by cases he)
    · rw [hto, hpt, n2, hpl _ hv0]; exact hfd
    · rw [hto, hpt, hpl _ (hop g hg he)]; exact k.ks.nn _
  · show LW es r _ (s.tr ++ [h]) u
    rcases hm1.1 hu with h3 | h3
    · obtain ⟨x, x1, x2, x3, x4⟩ := k.lw u h3
      have hu0 := hfo u h3
      have hx0 := hfo x x1
      have hut : u ≠ wt := fun e => h2 (by rw [← e]; exact hu0)
      refine ⟨x, hm1.2 (Or.inl x1), ?_, hmono hx0 x3, x4.imp id fun ⟨g, g1, g2, g3⟩ => ⟨g, g1, g2.mono fun z hz => hmono hu0 hz, g3⟩⟩
      show upd s.lw wt (s.fd : Int) u = upd s.pl wt (s.fd : Int) x
      rw [upd_other _ _ hut, hpl _ hx0]; exact x2
    · refine ⟨wt, hm1.2 (Or.inr rfl), ?_, ?_, Or.inl h3.symm⟩
      · show upd s.lw wt (s.fd : Int) u = upd s.pl wt (s.fd : Int) wt
        rw [h3, upd_same, upd_same]
      · show upd s.pl wt (s.fd : Int) wt ≤ upd s.pl wt (s.fd : Int) u
        rw [h3]; exact Int.le_refl _
  · show LB es r _ (s.tr ++ [h]) u g
    have ho' : upd s.ov (h / 2) true (g / 2) = true := ho
    have hp' : upd s.pl wt (s.fd : Int) u ≤ upd s.pl wt (s.fd : Int) (fN es g) := hp
    by_cases e1 : g / 2 = h / 2
    · rcases hm1.1 hu with h3 | h3
      · left
        show upd s.pl wt (s.fd : Int) u ≤ upd s.pl wt (s.fd : Int) (gN es g)
        rcases tw_h e1 with e | e
        · rw [e, hto, hpt, hpl _ (hfo u h3)]
          have := k.ks.nn u
          omega
        · rw [e, tw_g n1, n2]
          exact hmono (hfo u h3) (k.sg.le h3)
      · exact Or.inr (Or.inl ⟨h, by simp, e1.symm, by rw [hto, h3]⟩)
    · rw [upd_other _ _ e1] at ho'
      have hf := k.ks.fo g hgl ho'
      have hf2 := k.ks.fo (twinH g) (twin_is hgl).1 (by rw [(twin_is hgl).2.2.1]; exact ho')
      rw [tw_f hgl] at hf2
      rcases hm1.1 hu with h3 | h3
      · have hu0 := hfo u h3
        rw [hpl _ hu0, hpl _ hf] at hp'
        rcases k.lb u h3 g hgl ho' hp' with h4 | ⟨h', h4, h5⟩ | ⟨h4, u', h5, h6, h7⟩
        · exact Or.inl (hmono hu0 h4)
        · exact Or.inr (Or.inl ⟨h', List.mem_append_left _ h4, h5⟩)
        · refine Or.inr (Or.inr ⟨hm1.2 (Or.inl h4), u', hm1.2 (Or.inl h5), hmono hu0 h6, ?_⟩)
          show upd s.lw wt (s.fd : Int) u' ≤ upd s.pl wt (s.fd : Int) (gN es g)
          rw [upd_other _ _ (fun e => h2 (by rw [← e]; exact hfo u' h5)), hpl _ hf2]
          exact h7
      · rw [h3, hpt, hpl _ hf] at hp'
        have := k.ks.nn (fN es g)
        omega
  · rcases List.mem_append.1 he with h3 | h3
    · exact k.ol e h3
    · rw [List.mem_singleton.1 h3]
      exact fun h4 => h1 (by rw [(lp_iff n1).1 h4, hto])
  · show rt z ∨ (∃ j, j < s.ct ∧ X j z) ∨ ∃ h' ∈ s.tr ++ [h], upd s.pl wt (s.fd : Int) (gN es h') ≤ upd s.pl wt (s.fd : Int) z
    by_cases e : z = wt
    · exact Or.inr (Or.inr ⟨h, by simp, by rw [hto, e]; exact Int.le_refl _⟩)
    · have h3 : 0 ≤ upd s.pl wt (s.fd : Int) z := hz
      rw [upd_other _ _ e] at h3
      rcases k.fr z h3 with h4 | h4 | ⟨h', h4, h5⟩
      · exact Or.inl h4
      · exact Or.inr (Or.inl h4)
      · refine Or.inr (Or.inr ⟨h', List.mem_append_left _ h4, hmono (hfo _ ?_) h5⟩)
        exact List.mem_cons_of_mem _ (List.mem_map_of_mem h4)
  · show upd s.pl wt (s.fd : Int) z ≤ upd s.pl wt (s.fd : Int) r
    exact hmono (k.ks.ro z hz).1 (k.rp.2 z hz)
end Go.Proofs.Ytobkejnlkjieoaa

/- Pure: the walk goes back up; and what is known of all blocks in the end. -/
namespace Go.Proofs.Ytobkejnlkjieoaa
open Go.RowKit Go.Sort
open Go
variable {n : Nat} {es : List Pt} {r : Nat} {s : BS} {v : Nat} {U : Nat → Nat} {X : Nat → Nat → Prop} {rt : Nat → Prop}
theorem KP.back (hm : netB n es = true) (k : KP n es r s v U X rt) {h : Nat} (ht : s.tr.getLast? = some h) (hr : s.rs v = (ob es v).length) : ∃ U' X', KP n es r (goBackB es h s).1 (goBackB es h s).2 U' X' rt := by
  have hd := k.di.back hm ht hr
  obtain ⟨t, e⟩ := List.getLast?_eq_some_iff.1 ht
  have htd : s.tr.dropLast = t := by rw [e]; simp
  have hsg := k.sg
  rw [e] at hsg
  obtain ⟨A, B, b1, b2, b3, b4, b5, b6, b7, b8⟩ := hsg.last
  have hfo := k.found
  rw [e] at hfo
  have hup0 : 0 ≤ s.pl (fN es h) := hfo _ (pth_more.2 (Or.inl b3.mem))
  have hne : gN es h ≠ fN es h := fun e1 => by rw [e1] at b5; omega
  have hlwd : (lowB es h s).lw (gN es h) = s.lw (gN es h) := by
    show upd s.lw (fN es h) _ (gN es h) = _
    rw [upd_other _ _ hne]
  have hlwu : (lowB es h s).lw (fN es h) = min (s.lw (fN es h)) (s.lw (gN es h)) := by
    show upd s.lw (fN es h) _ (fN es h) = _
    rw [upd_same]
  have hlwo : ∀ u, u ≠ fN es h → (lowB es h s).lw u = s.lw u := fun u hu => by
    show upd s.lw (fN es h) _ u = _
    rw [upd_other _ _ hu]
  have hlwle : ∀ u, (lowB es h s).lw u ≤ s.lw u := fun u => by
    by_cases e1 : u = fN es h
    · rw [e1, hlwu]; omega
    · rw [hlwo u e1]; exact Int.le_refl _
  have hlw0 := k.lw
  rw [e] at hlw0
  have hlb0 := k.lb
  rw [e] at hlb0
  -- the ways and bounds behind the step
  have hltd : ∀ u, u ∈ pth es r t → s.pl u < s.pl (gN es h) := fun u hu => by
    have := b3.le hu
    omega
  have lw1 : ∀ u, u ∈ pth es r t → LW es r (lowB es h s) t u := fun u hu => by
    obtain ⟨x, x1, x2, x3, x4⟩ := hlw0 u (pth_more.2 (Or.inl hu))
    have hxt : x ∈ pth es r t := by
      rcases pth_more.1 x1 with h1 | h1
      · exact h1
      · have := hltd u hu
        rw [h1] at x3
        omega
    by_cases eu : u = fN es h
    · by_cases hc : s.lw u ≤ s.lw (gN es h)
      · exact ⟨x, hxt, by rw [eu, hlwu, ← eu]; show _ = s.pl x; omega, x3, x4⟩
      · obtain ⟨y, y1, y2, y3, y4⟩ := hlw0 (gN es h) (pth_more.2 (Or.inr rfl))
        have hy : s.pl y < s.pl u := by omega
        have hyt : y ∈ pth es r t := by
          rcases pth_more.1 y1 with h1 | h1
          · exact h1
          · rw [h1, eu] at hy; omega
        refine ⟨y, hyt, by rw [eu, hlwu, ← eu]; show _ = s.pl y; omega, by show s.pl y ≤ s.pl u; omega, Or.inr ?_⟩
        rcases y4 with y4 | ⟨g, g1, g2, g3⟩
        · rw [y4, eu] at hy; omega
        · refine ⟨g, g1, ?_, g3⟩
          show JP es (fun z => s.pl u ≤ s.pl z) u (fN es g)
          rw [eu]
          exact (JP.one b4 (Int.le_refl _) (by omega)).trans (g2.mono fun z hz => by omega)
    · exact ⟨x, hxt, by rw [hlwo u eu]; exact x2, x3, x4⟩
  have lb1 : ∀ u, u ∈ pth es r t → ∀ g, g < 2 * es.length → s.ov (g / 2) = true → s.pl u ≤ s.pl (fN es g) → LB es r (lowB es h s) t u g := fun u hu g hg ho hp => by
    rcases hlb0 u (pth_more.2 (Or.inl hu)) g hg ho hp with h1 | ⟨h', h1, h2, h3⟩ | ⟨h1, u', h2, h3, h4⟩
    · exact Or.inl h1
    · rcases List.mem_append.1 h1 with h5 | h5
      · exact Or.inr (Or.inl ⟨h', h5, h2, h3⟩)
      · have h6 := hltd u hu
        rw [List.mem_singleton.1 h5] at h3
        rw [h3] at h6
        omega
    · rcases pth_more.1 h1 with h5 | h5
      · rcases pth_more.1 h2 with h6 | h6
        · exact Or.inr (Or.inr ⟨h5, u', h6, h3, Int.le_trans (hlwle u') h4⟩)
        · refine Or.inr (Or.inr ⟨h5, fN es h, b3.mem, b3.le hu, ?_⟩)
          rw [hlwu, ← h6]
          show _ ≤ s.pl (gN es g)
          omega
      · left
        have h6 := hltd u hu
        show s.pl u ≤ s.pl (gN es g)
        rw [h5]
        omega
  have fr1 : ∀ z, 0 ≤ s.pl z → rt z ∨ (∃ j, j < s.ct ∧ X j z) ∨ (∃ h' ∈ t, s.pl (gN es h') ≤ s.pl z) ∨ s.pl (gN es h) ≤ s.pl z := fun z hz => by
    rcases k.fr z hz with h1 | h1 | ⟨h', h1, h2⟩
    · exact Or.inl h1
    · exact Or.inr (Or.inl h1)
    · rw [e] at h1
      rcases List.mem_append.1 h1 with h3 | h3
      · exact Or.inr (Or.inr (Or.inl ⟨h', h3, h2⟩))
      · rw [List.mem_singleton.1 h3] at h2
        exact Or.inr (Or.inr (Or.inr h2))
  have k1 : KS es (lowB es h s) U X rt := ⟨k.ks.nn, k.ks.fo, k.ks.cx, k.ks.cu, k.ks.cb, k.ks.co, k.ks.lp, k.ks.rc, k.ks.up, k.ks.ro, k.ks.te⟩
  by_cases hs : s.pl (fN es h) ≤ (lowB es h s).lw (gN es h)
  · -- the block is whole
    have hg : goBackB es h s = (shutB (h / 2) (lowB es h s), fN es h) := by
      unfold goBackB
      rw [if_pos hs]
    rw [hlwd] at hs
    rw [hg] at hd ⊢
    have full : ∀ g, g < 2 * es.length → s.pl (gN es h) ≤ s.pl (fN es g) → s.ov (g / 2) = true := fun g hgl hp => by
      obtain ⟨f1, _⟩ := fg_in hm hgl
      have hf := fromL_in hm g hgl
      have h0 : 0 ≤ s.pl (fN es g) := by omega
      have hrs : s.rs (fN es g) = (ob es (fN es g)).length := by
        by_cases e1 : fN es g = gN es h
        · rw [e1, ← b2]; exact hr
        · refine k.di.dn _ f1 h0 fun h2 => ?_
          rw [e] at h2
          rcases pth_more.1 h2 with h3 | h3
          · have := hltd _ h3
            omega
          · exact e1 h3
      obtain ⟨j, hj, e2⟩ := outL_mem (es := es) (v := fN es g) hgl (by unfold fN; omega)
      have := k.di.lk (fN es g) j (by rw [hrs]; exact hj)
      rw [show iat (ob es (fN es g)) j = iat (outL es (2 * es.length) (fN es g)) j from rfl, e2, Int.toNat_natCast] at this
      exact this
    have hop : (lowB es h s).op = A ++ h / 2 :: B := b1
    have k2 := k1.shut k.di.cl (fun x hx => (k.di.bi.opn x hx).2) (f := h / 2) (u := fN es h) hop k.di.bi.nod (Y := fun z => s.pl (gN es h) ≤ s.pl z) (fun g hgl hp => by
        have hp' : s.pl (gN es h) ≤ s.pl (fN es g) := hp
        rcases hlb0 (gN es h) (pth_more.2 (Or.inr rfl)) g hgl (full g hgl hp') hp' with h1 | ⟨h', h1, h2, h3⟩ | ⟨h1, u', h2, h3, h4⟩
        · exact Or.inl h1
        · right
          have h5 : h' = h := by
            rcases List.mem_append.1 h1 with h5 | h5
            · have := hltd (gN es h') (List.mem_cons_of_mem _ (List.mem_map_of_mem h5))
              rw [h3] at this
              omega
            · exact List.mem_singleton.1 h5
          rw [h5] at h2
          rcases tw_h h2.symm with h6 | h6
          · rw [h6] at hp'
            omega
          · rw [h6, tw_g b4]
        · have h5 : u' = gN es h := by
            rcases pth_more.1 h2 with h5 | h5
            · have := hltd u' h5
              omega
            · exact h5
          rw [h5] at h4
          rcases pth_more.1 h1 with h6 | h6
          · right
            rcases b3.rise _ h6 with h7 | h7
            · exact h7
            · omega
          · left
            show s.pl (gN es h) ≤ s.pl (gN es g)
            rw [h6]
            exact Int.le_refl _) ⟨fun h1 => by
        have h1' : s.pl (gN es h) ≤ s.pl (fN es h) := h1
        omega, hup0, fun z hz => by
        have hz' : s.pl (gN es h) ≤ s.pl z := hz
        show s.pl (fN es h) < s.pl z
        omega⟩ (fun x hx _ => by
        rcases List.mem_cons.1 hx with h1 | h1
        · refine ⟨twinH h, (twin_is b4).1, by rw [h1]; exact (twin_is b4).2.2.1, ?_⟩
          show s.pl (gN es h) ≤ s.pl (fN es (twinH h))
          rw [tw_f b4]
          exact Int.le_refl _
        · exact b7 x h1) (fun x hxl hx ⟨g, g1, g2, g3⟩ => by
        have g3' : s.pl (gN es h) ≤ s.pl (fN es g) := g3
        rcases hx with h1 | h1
        · have h2 := full g g1 g3'
          have h1' : s.ov x = false := h1
          rw [g2, h1'] at h2
          cases h2
        · have := b6 g g1 (by rw [g2]; exact h1)
          omega) (fun x hx => by
        rcases List.mem_cons.1 hx with h1 | h1
        · rw [h1]; exact .refl _
        · exact b8 x h1) (fun x hx hl => absurd hl (k.ol x (by rw [b1]; exact List.mem_append_right _ hx))) ⟨h, b4, rfl, rfl⟩ (fun z hz h1 => by
        have h1' : s.pl (gN es h) ≤ s.pl z := h1
        have h2 := k.rp.2 z hz
        have h3 := b3.le (u := r) List.mem_cons_self
        omega)
    have hf : h / 2 ∉ A := by
      have hn := k.di.bi.nod
      rw [b1] at hn
      exact fun h1 => (List.nodup_append.1 hn).2.2 _ h1 _ List.mem_cons_self rfl
    obtain ⟨o1, _⟩ := shut_op hop hf
    refine ⟨_, _, hd, k2, ?_, ?_, ?_, fun x hx => ?_, fun z hz => ?_, k.rp⟩
    · show SG es s.pl r s.tr.dropLast (shutB (h / 2) (lowB es h s)).op (fN es h)
      rw [o1, htd]; exact b3
    · show ∀ u, u ∈ pth es r s.tr.dropLast → LW es r (lowB es h s) s.tr.dropLast u
      rw [htd]; exact lw1
    · show ∀ u, u ∈ pth es r s.tr.dropLast → ∀ g, g < 2 * es.length → s.ov (g / 2) = true → s.pl u ≤ s.pl (fN es g) → LB es r (lowB es h s) s.tr.dropLast u g
      rw [htd]; exact lb1
    · rw [o1] at hx
      exact k.ol x (by rw [b1]; exact List.mem_append_left _ hx)
    · show rt z ∨ (∃ j, j < s.ct + 1 ∧ upd X s.ct _ j z) ∨ ∃ h' ∈ s.tr.dropLast, s.pl (gN es h') ≤ s.pl z
      rw [htd]
      rcases fr1 z hz with h1 | ⟨j, h1, h2⟩ | h1 | h1
      · exact Or.inl h1
      · have hjc : j ≠ s.ct := by omega
        exact Or.inr (Or.inl ⟨j, by omega, by rw [upd_other _ _ hjc]; exact h2⟩)
      · exact Or.inr (Or.inr h1)
      · exact Or.inr (Or.inl ⟨s.ct, by omega, by rw [upd_same]; exact h1⟩)
  · -- it goes on from above
    have hg : goBackB es h s = (lowB es h s, fN es h) := by
      unfold goBackB
      rw [if_neg hs]
    rw [hlwd] at hs
    rw [hg] at hd ⊢
    obtain ⟨t0, h1, et⟩ : ∃ t0 h1, t = t0 ++ [h1] := by
      rcases List.eq_nil_or_concat t with et | ⟨t0, h1, et⟩
      · exfalso
        rw [et] at b3
        have h2 := b3.none.2
        have h3 := (k.di.lo (gN es h) (by rw [e]; exact pth_more.2 (Or.inr rfl))).2
        rw [h2] at hs
        omega
      · exact ⟨t0, h1, by rw [et, List.concat_eq_append]⟩
    rw [et] at b3
    obtain ⟨A', B', c1, c2, c3, c4, c5, c6, c7, c8⟩ := b3.last
    have hR : RC es (h / 2) (h1 / 2) := by
      refine .one ⟨h, twinH h1, b4, (twin_is c4).1, rfl, (twin_is c4).2.2.1, by rw [tw_f c4, c2], ?_⟩
      rw [tw_g c4]
      obtain ⟨y, y1, y2, y3, y4⟩ := hlw0 (gN es h) (pth_more.2 (Or.inr rfl))
      have hy : s.pl y < s.pl (fN es h) := by omega
      have hyt : y ∈ pth es r t0 := by
        rcases pth_more.1 y1 with h2 | h2
        · rw [et] at h2
          rcases pth_more.1 h2 with h3 | h3
          · exact h3
          · rw [h3, ← c2] at hy; omega
        · rw [h2] at hy; omega
      have hway : JP es (fun z => z ≠ fN es h) y (fN es h1) := (c3.way y hyt).mono fun z hz e1 => by
        have := c3.le hz.1
        rw [e1, c2] at this
        omega
      rcases y4 with y4 | ⟨g, g1, g2, g3⟩
      · rw [y4] at hy; omega
      · have h2 : JP es (fun z => z ≠ fN es h) (gN es h) (fN es g) := g2.mono fun z hz e1 => by
          rw [e1] at hz
          omega
        refine JP.trans ?_ hway
        rw [← g3]
        exact .step g h2 g1 fun e1 => by
          rw [g3] at e1
          rw [e1] at hy
          omega
    refine ⟨U, X, hd, k1, ?_, ?_, ?_, k.ol, fun z hz => ?_, k.rp⟩
    · show SG es s.pl r s.tr.dropLast s.op (fN es h)
      rw [htd, et, b1, c1, c2, show (A' ++ h1 / 2 :: B') ++ h / 2 :: B = A' ++ h1 / 2 :: (B' ++ h / 2 :: B) by simp]
      refine .snoc h1 _ c3 c4 c5 c6 (fun x hx => ?_) (fun x hx => ?_)
      · rcases List.mem_append.1 hx with h2 | h2
        · exact c7 x h2
        · rcases List.mem_cons.1 h2 with h3 | h3
          · refine ⟨h, b4, h3.symm, ?_⟩
            show s.pl (gN es h1) ≤ s.pl (fN es h)
            rw [c2]; exact Int.le_refl _
          · obtain ⟨g, g1, g2, g3⟩ := b7 x h3
            have g3' : s.pl (gN es h) ≤ s.pl (fN es g) := g3
            refine ⟨g, g1, g2, ?_⟩
            show s.pl (gN es h1) ≤ s.pl (fN es g)
            rw [← c2]; omega
      · rcases List.mem_append.1 hx with h2 | h2
        · exact c8 x h2
        · rcases List.mem_cons.1 h2 with h3 | h3
          · rw [h3]; exact hR
          · exact (b8 x h3).trans hR
    · show ∀ u, u ∈ pth es r s.tr.dropLast → LW es r (lowB es h s) s.tr.dropLast u
      rw [htd]; exact lw1
    · show ∀ u, u ∈ pth es r s.tr.dropLast → ∀ g, g < 2 * es.length → s.ov (g / 2) = true → s.pl u ≤ s.pl (fN es g) → LB es r (lowB es h s) s.tr.dropLast u g
      rw [htd]; exact lb1
    · show rt z ∨ (∃ j, j < s.ct ∧ X j z) ∨ ∃ h' ∈ s.tr.dropLast, s.pl (gN es h') ≤ s.pl z
      rw [htd]
      rcases fr1 z hz with h2 | h2 | h2 | h2
      · exact Or.inl h2
      · exact Or.inr (Or.inl h2)
      · exact Or.inr (Or.inr h2)
      · refine Or.inr (Or.inr ⟨h1, by rw [et]; simp, ?_⟩)
        rw [← c2]; omega
end Go.Proofs.Ytobkejnlkjieoaa

/- Pure: what the blocks are, in the end. -/
namespace Go.Proofs.Ytobkejnlkjieoaa
open Go.RowKit Go.Sort
open Go
variable {n : Nat} {es : List Pt}
/-- Between two components: all found nodes hang somewhere, or are roots; and each component has one root. -/
structure QI (n : Nat) (es : List Pt) (s : BS) (U : Nat → Nat) (X : Nat → Nat → Prop) (rt : Nat → Prop) : Prop where
  oi : OI n es s
  ks : KS es s U X rt
  fr : ∀ z, 0 ≤ s.pl z → rt z ∨ ∃ j, j < s.ct ∧ X j z
  ru : ∀ a b, rt a → rt b → Conn es a b → a = b
theorem conn_f {a h : Nat} (k : Conn es a (fN es h)) (hm : netB n es = true) (hl : h < 2 * es.length) : Conn es a (gN es h) := by
  have h1 := fromL_in hm h hl
  have h2 := toL_in hm h hl
  exact .step k hl (by unfold fN; omega) (by unfold gN; omega)
/-- Who is joined with a found node is found. -/
theorem conn_found {s : BS} (hm : netB n es = true) (oi : OI n es s) (fo : ∀ g, g < 2 * es.length → s.ov (g / 2) = true → 0 ≤ s.pl (fN es g)) {a b : Nat} (hc : Conn es a b) (ha : 0 ≤ s.pl a) : 0 ≤ s.pl b := by
  induction hc with
  | refl => exact ha
  | @step b c h k hl h1 h2 ih =>
    have h3 := ih
    have hf := fromL_in hm h hl
    have hg := toL_in hm h hl
    have hbn : b < n := by omega
    obtain ⟨j, hj, e2⟩ := outL_mem (es := es) (v := b) hl h1
    have := oi.lk b j (by rw [oi.dn b hbn h3]; exact hj)
    rw [show iat (ob es b) j = iat (outL es (2 * es.length) b) j from rfl, e2, Int.toNat_natCast] at this
    have h4 := fo (twinH h) (twin_is hl).1 (by rw [(twin_is hl).2.2.1]; exact this)
    rw [tw_f hl] at h4
    rw [show c = gN es h by unfold gN; omega]
    exact h4
theorem thr_all (hm : netB n es = true) {r : Nat} {rt : Nat → Prop} (ru : ∀ a b, rt a → rt b → Conn es a b → a = b) : ∀ (k : Nat) (s : BS) (v : Nat) (U : Nat → Nat) (X : Nat → Nat → Prop), KP n es r s v U X rt → phB n es s ≤ k → ∃ U' X', QI n es (thrB es k s v) U' X' rt := by
  have hout : ∀ (s : BS) (v : Nat) (U : Nat → Nat) (X : Nat → Nat → Prop), KP n es r s v U X rt → s.tr.getLast? = none → ¬ s.rs v < (ob es v).length → ∃ U' X', QI n es s U' X' rt := fun s v U X hi h1 h2 => by
    refine ⟨U, X, hi.di.out h1 h2, hi.ks, fun z hz => ?_, ru⟩
    rcases hi.fr z hz with h3 | h3 | ⟨h, h3, _⟩
    · exact Or.inl h3
    · exact Or.inr h3
    · rw [show s.tr = [] by simpa using h1] at h3
      cases h3
  intro k
  induction k with
  | zero =>
    intro s v U X hi hk
    have h0 : s.tr = [] := by
      unfold phB at hk
      exact List.length_eq_zero_iff.1 (by omega)
    refine hout s v U X hi (by rw [h0]; rfl) fun hl => ?_
    have := lf_zero (es := es) (f := s.rs) hi.di.bi.vn.1 hl
    unfold phB at hk
    omega
  | succ k ih =>
    intro s v U X hi hk
    unfold thrB
    by_cases hl : s.rs v < (ob es v).length
    · rw [if_pos hl]
      have hp := ph_look (n := n) hi.di.bi.vn.1 hl
      cases ho : s.ov (nextH es v s / 2)
      · rw [if_neg (by simp)]
        have hph := ph_over n es (nextH es v s) (lookB v s)
        by_cases h1 : fN es (nextH es v s) = gN es (nextH es v s)
        · obtain ⟨U', X', h2⟩ := hi.loop hm hl ho h1
          exact ih _ _ U' X' h2 (by omega)
        · by_cases h2 : 0 ≤ s.pl (gN es (nextH es v s))
          · exact ih _ _ U X (hi.upward hm hl ho h1 h2) (by omega)
          · exact ih _ _ U X (hi.down hm hl ho h1 h2) (by omega)
      · rw [if_pos rfl]
        exact ih _ _ U X (hi.look hl ho) (by omega)
    · rw [if_neg hl]
      cases ht : s.tr.getLast? with
      | none => exact hout s v U X hi ht hl
      | some h =>
        have hr : s.rs v = (ob es v).length := by have := hi.di.bi.rst v; omega
        have := ph_back n es h s (fun e => by rw [e] at ht; cases ht)
        obtain ⟨U', X', h2⟩ := hi.back hm ht hr
        exact ih _ _ U' X' h2 (by omega)
/-- A root more. -/
theorem QI.find {s : BS} {U : Nat → Nat} {X : Nat → Nat → Prop} {rt : Nat → Prop} (hm : netB n es = true) (q : QI n es s U X rt) {v : Nat} (hv : v < n) (hp : s.pl v < 0) : KP n es v (findB v s) v U X (fun z => rt z ∨ z = v) ∧ ∀ a b, (rt a ∨ a = v) → (rt b ∨ b = v) → Conn es a b → a = b := by
  have hpl : ∀ z, 0 ≤ s.pl z → upd s.pl v (s.fd : Int) z = s.pl z := fun z hz => upd_other _ _ fun e => by rw [e] at hz; omega
  have hpt : upd s.pl v (s.fd : Int) v = s.fd := upd_same _ _ _
  have hX : ∀ j, j < s.ct → ¬ X j v := fun j hj h => by
    have h1 := (q.ks.cu j hj).2.2 v h
    have h2 := (q.ks.cu j hj).2.1
    omega
  have ks : KS es (findB v s) U X (fun z => rt z ∨ z = v) := by
    refine ⟨fun z => ?_, fun g hg ho => ?_, q.ks.cx, fun j hj => ?_, q.ks.cb, q.ks.co, q.ks.lp, q.ks.rc, q.ks.up, fun z hz => ?_, fun z hz => ?_⟩
    · show upd s.pl v (s.fd : Int) z < ((s.fd + 1 : Nat) : Int)
      by_cases e : z = v
      · rw [e, hpt]; omega
      · rw [upd_other _ _ e]
        have := q.ks.nn z
        omega
    · show 0 ≤ upd s.pl v (s.fd : Int) (fN es g)
      have := q.ks.fo g hg ho
      rw [hpl _ this]; exact this
    · obtain ⟨a1, a2, a3⟩ := q.ks.cu j hj
      refine ⟨a1, ?_, fun z hz => ?_⟩
      · show 0 ≤ upd s.pl v (s.fd : Int) (U j)
        rw [hpl _ a2]; exact a2
      · show upd s.pl v (s.fd : Int) (U j) < upd s.pl v (s.fd : Int) z
        have := a3 z hz
        rw [hpl _ a2, hpl z (by omega)]
        exact this
    · show 0 ≤ upd s.pl v (s.fd : Int) z ∧ _
      rcases hz with h | h
      · obtain ⟨a1, a2⟩ := q.ks.ro z h
        exact ⟨by rw [hpl _ a1]; exact a1, a2⟩
      · subst h
        exact ⟨by rw [hpt]; omega, hX⟩
    · by_cases e : z = v
      · exact Or.inl (Or.inr e)
      · have h1 : 0 ≤ upd s.pl v (s.fd : Int) z := hz
        rw [upd_other _ _ e] at h1
        rcases q.ks.te z h1 with h2 | ⟨g, g1, g2, g3, g4⟩
        · exact Or.inl (Or.inl h2)
        · refine Or.inr ⟨g, g1, g2, ?_, ?_⟩
          · show 0 ≤ upd s.pl v (s.fd : Int) (fN es g)
            rw [hpl _ g3]; exact g3
          · show upd s.pl v (s.fd : Int) (fN es g) < upd s.pl v (s.fd : Int) z
            rw [hpl _ g3, hpl _ h1]; exact g4
  have ht : (findB v s).tr = [] := q.oi.tr0
  have ho : (findB v s).op = [] := q.oi.op0
  have hpth : ∀ u, u ∈ pth es v (findB v s).tr → u = v := fun u hu => by
    rw [ht] at hu
    simpa [pth] using hu
  refine ⟨⟨q.oi.find hv hp, ks, ?_, fun u hu => ?_, fun u hu g hg hov hpp => ?_, fun e he => ?_, fun z hz => ?_, Or.inr rfl, fun z hz => ?_⟩, fun a b ha hb hc => ?_⟩
  · rw [ht, ho]; exact .nil
  · rw [hpth u hu]
    refine ⟨v, List.mem_cons_self, ?_, Int.le_refl _, Or.inl rfl⟩
    show upd s.lw v (s.fd : Int) v = upd s.pl v (s.fd : Int) v
    rw [upd_same, upd_same]
  · rw [hpth u hu] at hpp
    have h1 : upd s.pl v (s.fd : Int) v ≤ upd s.pl v (s.fd : Int) (fN es g) := hpp
    have h2 := q.ks.fo g hg hov
    have h3 := q.ks.nn (fN es g)
    rw [hpt, hpl _ h2] at h1
    omega
  · rw [ho] at he; cases he
  · by_cases e : z = v
    · exact Or.inl (Or.inr e)
    · have h1 : 0 ≤ upd s.pl v (s.fd : Int) z := hz
      rw [upd_other _ _ e] at h1
      rcases q.fr z h1 with h2 | h2
      · exact Or.inl (Or.inl h2)
      · exact Or.inr (Or.inl h2)
  · show upd s.pl v (s.fd : Int) z ≤ upd s.pl v (s.fd : Int) v
    rcases hz with h | h
    · have h1 := (q.ks.ro z h).1
      have := q.ks.nn z
      rw [hpt, hpl _ h1]; omega
    · rw [h]; exact Int.le_refl _
  · rcases ha with ha | ha <;> rcases hb with hb | hb
    · exact q.ru a b ha hb hc
    · exfalso
      have := conn_found hm q.oi q.ks.fo hc (q.ks.ro a ha).1
      rw [hb] at this
      omega
    · exfalso
      have h1 := (q.ks.ro b hb).1
      have : 0 ≤ s.pl a := by
        refine conn_found hm q.oi q.ks.fo (a := b) (b := a) ?_ h1
        exact hc.symm
      rw [ha] at this
      omega
    · rw [ha, hb]
theorem ptd_all (hm : netB n es = true) : ∀ v, v ≤ n → ∃ U X rt, QI n es (ptdB n es v) U X rt := by
  intro v
  induction v with
  | zero =>
    intro _
    have h0 := (par_out hm 0 (Nat.zero_le _)).1
    refine ⟨fun _ => 0, fun _ _ => False, fun _ => False, h0, ⟨fun z => ?_, fun g hg ho => ?_, fun j hj => ?_, fun j hj => ?_, fun e he hl hc => ?_, fun e he hc i hi => ?_, fun e e' h1 => ?_, fun e e' h1 => ?_, fun j hj => ?_, fun z hz => hz.elim, fun z hz => ?_⟩, fun z hz => ?_, fun a b h => h.elim⟩
    · show (-1 : Int) < ((0 : Nat) : Int); omega
    · cases ho
    · exact absurd hj (Nat.not_lt_zero _)
    · exact absurd hj (Nat.not_lt_zero _)
    · cases hc.1
    · exact absurd hi (Nat.not_lt_zero _)
    · cases h1.1
    · cases h1.1
    · exact absurd hj (Nat.not_lt_zero _)
    · have h1 : (0 : Int) ≤ -1 := hz
      omega
    · have h1 : (0 : Int) ≤ -1 := hz
      omega
  | succ v ih =>
    intro hv
    obtain ⟨U, X, rt, q⟩ := ih (by omega)
    unfold ptdB
    split
    · rename_i hp
      obtain ⟨kp, ru⟩ := q.find hm (by omega : v < n) hp
      obtain ⟨U', X', h⟩ := thr_all hm ru (phB n es (findB v (ptdB n es v))) _ v U X kp (Nat.le_refl _)
      exact ⟨U', X', _, h⟩
    · exact ⟨U, X, rt, q⟩
/-- The blocks of a net, with the node on which each hangs, what hangs there, and a root in each component. -/
structure BF (n : Nat) (es : List Pt) (bk : Nat → Int) (ct : Nat) (pl : Nat → Int) (U : Nat → Nat) (X : Nat → Nat → Prop) (rt : Nat → Prop) : Prop where
  bin : ∀ e, e < es.length → 0 ≤ bk e ∧ bk e < ct
  cx : ∀ j, j < ct → ∀ g, g < 2 * es.length → X j (fN es g) → X j (gN es g) ∨ gN es g = U j
  cu : ∀ j, j < ct → ¬ X j (U j) ∧ ∀ z, X j z → pl (U j) < pl z
  cb : ∀ e, e < es.length → ¬ Lp es e → ∃ j : Nat, bk e = j ∧ j < ct ∧ Tch es (X j) e ∧ ∀ i, i < j → ¬ Tch es (X i) e
  lp : ∀ e e', e < es.length → e' < es.length → Lp es e → bk e = bk e' → e = e'
  rc : ∀ e e', e < es.length → e' < es.length → bk e = bk e' → RC es e e'
  up : ∀ j : Nat, j < ct → ∃ g, g < 2 * es.length ∧ bk (g / 2) = j ∧ fN es g = U j
  ro : ∀ z, rt z → ∀ j, j < ct → ¬ X j z
  te : ∀ z, z < n → rt z ∨ ∃ g, g < 2 * es.length ∧ gN es g = z ∧ pl (fN es g) < pl z
  fr : ∀ z, z < n → rt z ∨ ∃ j, j < ct ∧ X j z
  ru : ∀ a b, rt a → rt b → Conn es a b → a = b
  pn : ∀ z, z < n → 0 ≤ pl z
theorem bf_is (hm : netB n es = true) : ∃ U X rt, BF n es (ptdB n es n).bk (ptdB n es n).ct (ptdB n es n).pl U X rt := by
  obtain ⟨U, X, rt, q⟩ := ptd_all hm n (Nat.le_refl _)
  obtain ⟨h1, h2⟩ := par_out hm n (Nat.le_refl _)
  have hov : ∀ e, e < es.length → Clo (ptdB n es n) e := fun e he => by
    refine ⟨?_, by rw [q.oi.op0]; exact List.not_mem_nil⟩
    have hl : 2 * e < 2 * es.length := by omega
    obtain ⟨f1, _⟩ := fg_in hm hl
    have hf := fromL_in hm (2 * e) hl
    obtain ⟨j, hj, e2⟩ := outL_mem (es := es) (v := fN es (2 * e)) hl (by unfold fN; omega)
    have := h1.lk (fN es (2 * e)) j (by rw [h1.dn _ f1 (h2 _ f1)]; exact hj)
    rw [show iat (ob es (fN es (2 * e))) j = iat (outL es (2 * es.length) (fN es (2 * e))) j from rfl, e2, Int.toNat_natCast, show 2 * e / 2 = e by omega] at this
    exact this
  exact ⟨U, X, rt, fun e he => par_in hm he, q.ks.cx, fun j hj => ⟨(q.ks.cu j hj).1, (q.ks.cu j hj).2.2⟩, fun e he hl => q.ks.cb e he hl (hov e he), fun e e' he he' h => q.ks.lp e e' (hov e he) (hov e' he') h, fun e e' he he' h => q.ks.rc e e' (hov e he) (hov e' he') h, fun j hj => (q.ks.up j hj).imp fun g h => ⟨h.1, h.2.2⟩, fun z hz => (q.ks.ro z hz).2, fun z hz => (q.ks.te z (h2 z hz)).imp id fun ⟨g, g1, g2, _, g4⟩ => ⟨g, g1, g2, g4⟩, fun z hz => q.fr z (h2 z hz), q.ru, fun z hz => h2 z hz⟩
end Go.Proofs.Ytobkejnlkjieoaa
