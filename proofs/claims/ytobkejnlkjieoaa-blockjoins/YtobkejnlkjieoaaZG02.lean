/- Pure: how many edges the tree of the blocks has. -/
import Derived.Test.YtobkejnlkjieoaaZG01
import Derived.Test.YtobkejnlkjieoaaZF5
namespace Go.Proofs.Ytobkejnlkjieoaa
open Go.RowKit Go.Sort
open Go
theorem sum_nodup {α β : Type} {l : List α} {l' : List β} (h : l.Nodup) (h' : l'.Nodup) : (l.map Sum.inl ++ l'.map Sum.inr : List (α ⊕ β)).Nodup := by
  rw [List.nodup_append]
  refine ⟨?_, ?_, fun a ha b hb e => ?_⟩
  · unfold List.Nodup
    rw [List.pairwise_map]
    exact h.imp fun h1 h2 => h1 (Sum.inl.inj h2)
  · unfold List.Nodup
    rw [List.pairwise_map]
    exact h'.imp fun h1 h2 => h1 (Sum.inr.inj h2)
  · obtain ⟨x, _, rfl⟩ := List.mem_map.1 ha
    obtain ⟨y, _, rfl⟩ := List.mem_map.1 hb
    cases e
theorem mem_inl {α β : Type} {l : List α} {l' : List β} {x : α} : (Sum.inl x : α ⊕ β) ∈ (l.map Sum.inl ++ l'.map Sum.inr : List (α ⊕ β)) ↔ x ∈ l := by
  simp
theorem mem_inr {α β : Type} {l : List α} {l' : List β} {x : β} : (Sum.inr x : α ⊕ β) ∈ (l.map Sum.inl ++ l'.map Sum.inr : List (α ⊕ β)) ↔ x ∈ l' := by
  simp
variable {n : Nat} {es : List Pt} {of : Nat → Int} {c : Nat} {V : Nat → Nat} {rt : Nat → Prop}
theorem cu_mem (b : BG n es of c V rt) {v : Nat} : (v : Int) ∈ cutB n es of ↔ v < n ∧ Sev es of v := by
  rw [cut_mem fun e he => (b.oin e he).1]
  constructor
  · rintro ⟨u, h1, h2, h3⟩
    have : u = v := by omega
    rw [← this]; exact ⟨h1, h3⟩
  · rintro ⟨h1, h2⟩
    exact ⟨v, h1, rfl, h2⟩
/-- The place of a cut node among them. -/
abbrev ix (n : Nat) (es : List Pt) (of : Nat → Int) (v : Nat) : Nat := lsN (cutB n es of) (v : Int)
theorem ix_inj (b : BG n es of c V rt) {u v : Nat} (h1 : u < n ∧ Sev es of u) (h2 : v < n ∧ Sev es of v) (h : ix n es of u = ix n es of v) : u = v := by
  have e1 := (ls_mem (cut_up n es of) ((cu_mem b).2 h1)).2
  have e2 := (ls_mem (cut_up n es of) ((cu_mem b).2 h2)).2
  unfold ix at h
  rw [h, e2] at e1
  omega
theorem sev_lt (b : BG n es of c V rt) {v : Nat} (h : Sev es of v) : v < n := by
  obtain ⟨g, _, g1, _, g2, _⟩ := h
  rw [← g2]; exact (fg_in b.hm g1).1
theorem E_mem (b : BG n es of c V rt) {p : Pt} : p ∈ joB es of (cutB n es of) c ↔ ∃ g, g < 2 * es.length ∧ Sev es of (fN es g) ∧ p = ⟨of (g / 2), (c : Int) + ix n es of (fN es g)⟩ := by
  rw [mem_joB']
  constructor
  · rintro ⟨g, g1, g2, g3⟩
    have h1 := fromL_in b.hm g g1
    have e : fromL es g = (fN es g : Nat) := by unfold fN; omega
    rw [e] at g2 g3
    exact ⟨g, g1, ((cu_mem b).1 g2).2, g3⟩
  · rintro ⟨g, g1, g2, g3⟩
    have h1 := fromL_in b.hm g g1
    have e : fromL es g = (fN es g : Nat) := by unfold fN; omega
    refine ⟨g, g1, ?_, ?_⟩
    · rw [e]; exact (cu_mem b).2 ⟨(fg_in b.hm g1).1, g2⟩
    · rw [e]; exact g3
/-- The roots that have edges. -/
noncomputable def Rts (n : Nat) (es : List Pt) (rt : Nat → Prop) : List Nat := by
  classical
  exact (List.range n).filter fun z => decide (rt z ∧ ∃ g, g < 2 * es.length ∧ fN es g = z)
theorem rts_mem (b : BG n es of c V rt) {z : Nat} : z ∈ Rts n es rt ↔ rt z ∧ ∃ g, g < 2 * es.length ∧ fN es g = z := by
  unfold Rts
  simp only [List.mem_filter, List.mem_range, decide_eq_true_eq]
  exact ⟨fun h => h.2, fun h => ⟨b.rn z h.1, h⟩⟩
theorem rts_nodup (n : Nat) (es : List Pt) (rt : Nat → Prop) : (Rts n es rt).Nodup := by
  unfold Rts
  exact List.nodup_range.filter _
/-- Blocks and cut nodes against edges of the tree and roots: each block goes with its edge to the node on which it hangs, each cut node with its edge to the block that it hangs in. -/
def Pr (n : Nat) (es : List Pt) (of : Nat → Int) (c : Nat) (V : Nat → Nat) (rt : Nat → Prop) : Nat ⊕ Nat → Pt ⊕ Nat → Prop
  | .inl i, .inl p => p.x = i ∧ p.y = (c : Int) + ix n es of (V i) ∧ Sev es of (V i)
  | .inl i, .inr ρ => ρ = V i ∧ ¬ Sev es of (V i)
  | .inr v, .inl p => p.y = (c : Int) + ix n es of v ∧ (∀ j : Nat, p.x = j → V j ≠ v) ∧ Sev es of v
  | .inr v, .inr ρ => ρ = v ∧ rt v ∧ Sev es of v
theorem tree_count (b : BG n es of c V rt) : (joB es of (cutB n es of) c).length + (Rts n es rt).length = c + (cutB n es of).length := by
  have hCN : ∃ CN : List Nat, CN.Nodup ∧ CN.length = (cutB n es of).length ∧ ∀ v, v ∈ CN ↔ Sev es of v := by
    have hnn : ∀ x, x ∈ cutB n es of → ∃ v : Nat, v < n ∧ x = v ∧ Sev es of v := fun x hx => (cut_mem fun e he => (b.oin e he).1).1 hx
    refine ⟨(cutB n es of).map Int.toNat, ?_, by rw [List.length_map], fun v => ?_⟩
    · unfold List.Nodup
      rw [List.pairwise_map]
      refine (cut_up n es of).imp_of_mem fun {x y} hx hy h e => ?_
      obtain ⟨u, _, hu, _⟩ := hnn x hx
      obtain ⟨w, _, hw, _⟩ := hnn y hy
      omega
    · rw [List.mem_map]
      constructor
      · rintro ⟨x, hx, e⟩
        obtain ⟨u, _, hu, h1⟩ := hnn x hx
        have : u = v := by omega
        rw [← this]; exact h1
      · intro h
        exact ⟨v, (cu_mem b).2 ⟨sev_lt b h, h⟩, by simp⟩
  obtain ⟨CN, cn1, cn2, cn3⟩ := hCN
  have hV : ∀ i, i < c → V i < n := fun i hi => by
    obtain ⟨g, g1, _, g3⟩ := b.up i hi
    rw [← g3]; exact (fg_in b.hm g1).1
  have hA := sum_nodup (List.nodup_range (n := c)) cn1
  have hB := sum_nodup (joB_nodup es of (cutB n es of) c) (rts_nodup n es rt)
  have h1 := rel_len (l := ((List.range c).map Sum.inl ++ CN.map Sum.inr : List (Nat ⊕ Nat))) (l' := ((joB es of (cutB n es of) c).map Sum.inl ++ (Rts n es rt).map Sum.inr : List (Pt ⊕ Nat))) (Pr n es of c V rt) hA (fun x hx => by
      rcases x with i | v
      · have hi : i < c := List.mem_range.1 (mem_inl.1 hx)
        obtain ⟨g, g1, g2, g3⟩ := b.up i hi
        by_cases hs : Sev es of (V i)
        · refine ⟨.inl ⟨i, (c : Int) + ix n es of (V i)⟩, mem_inl.2 ((E_mem b).2 ⟨g, g1, by rw [g3]; exact hs, by rw [g2, g3]⟩), rfl, rfl, hs⟩
        · refine ⟨.inr (V i), mem_inr.2 ((rts_mem b).2 ⟨Classical.byContradiction fun hr => ?_, g, g1, g3⟩), rfl, hs⟩
          obtain ⟨x, x1, x2, j, j1, j2, j3⟩ := b.child (V i) (hV i hi) hr
          refine hs ⟨g, x, g1, x1, g3, x2, fun e => j3 ?_⟩
          have : i = j := by omega
          rw [this]
      · have hv : Sev es of v := (cn3 v).1 (mem_inr.1 hx)
        by_cases hr : rt v
        · obtain ⟨g, _, g1, _, g2, _⟩ := id hv
          exact ⟨.inr v, mem_inr.2 ((rts_mem b).2 ⟨hr, g, g1, g2⟩), rfl, hr, hv⟩
        · obtain ⟨x, x1, x2, j, j1, j2, j3⟩ := b.child v (sev_lt b hv) hr
          exact ⟨.inl ⟨of (x / 2), (c : Int) + ix n es of v⟩, mem_inl.2 ((E_mem b).2 ⟨x, x1, by rw [x2]; exact hv, by rw [x2]⟩), rfl, fun k hk => by
            have : k = j := by
              have hk' : of (x / 2) = k := hk
              omega
            rw [this]; exact j3, hv⟩) (fun x x' y hx hx' hy r1 r2 => by
      rcases y with p | ρ
      · rcases x with i | v <;> rcases x' with i' | v'
        · have a1 : p.x = i := r1.1
          have a2 : p.x = i' := r2.1
          have : i = i' := by omega
          rw [this]
        · have hi : i < c := List.mem_range.1 (mem_inl.1 hx)
          have e := ix_inj b ⟨hV i hi, r1.2.2⟩ ⟨sev_lt b r2.2.2, r2.2.2⟩ (by have a1 := r1.2.1; have a2 := r2.1; omega)
          exact absurd e (r2.2.1 i r1.1)
        · have hi : i' < c := List.mem_range.1 (mem_inl.1 hx')
          have e := ix_inj b ⟨hV i' hi, r2.2.2⟩ ⟨sev_lt b r1.2.2, r1.2.2⟩ (by have a1 := r2.2.1; have a2 := r1.1; omega)
          exact absurd e (r1.2.1 i' r2.1)
        · rw [ix_inj b ⟨sev_lt b r1.2.2, r1.2.2⟩ ⟨sev_lt b r2.2.2, r2.2.2⟩ (by have a1 := r1.1; have a2 := r2.1; omega)]
      · rcases x with i | v <;> rcases x' with i' | v'
        · have hi : i < c := List.mem_range.1 (mem_inl.1 hx)
          have hi' : i' < c := List.mem_range.1 (mem_inl.1 hx')
          obtain ⟨g, g1, g2, g3⟩ := b.up i hi
          obtain ⟨g', l1, l2, l3⟩ := b.up i' hi'
          have e : V i = V i' := by rw [← r1.1, ← r2.1]
          have : of (g / 2) = of (g' / 2) := Classical.byContradiction fun h => r1.2 ⟨g, g', g1, l1, g3, by rw [l3, e], h⟩
          have : i = i' := by omega
          rw [this]
        · have e1 : ρ = V i := r1.1
          have e2 : ρ = v' := r2.1
          exact absurd (by rw [← e1, e2]; exact r2.2.2) r1.2
        · have e1 : ρ = V i' := r2.1
          have e2 : ρ = v := r1.1
          exact absurd (by rw [← e1, e2]; exact r1.2.2) r2.2
        · have e1 : ρ = v := r1.1
          have e2 : ρ = v' := r2.1
          rw [← e1, ← e2])
  have h2 := rel_len (l := ((joB es of (cutB n es of) c).map Sum.inl ++ (Rts n es rt).map Sum.inr : List (Pt ⊕ Nat))) (l' := ((List.range c).map Sum.inl ++ CN.map Sum.inr : List (Nat ⊕ Nat))) (fun y x => Pr n es of c V rt x y) hB (fun y hy => by
      rcases y with p | ρ
      · obtain ⟨g, g1, g2, g3⟩ := (E_mem b).1 (mem_inl.1 hy)
        have ho := b.oin (g / 2) (by omega)
        obtain ⟨i, hi⟩ : ∃ i : Nat, of (g / 2) = i := ⟨(of (g / 2)).toNat, by omega⟩
        by_cases hv : V i = fN es g
        · refine ⟨.inl i, mem_inl.2 (List.mem_range.2 (by omega)), ?_⟩
          rw [g3]
          exact ⟨hi, by rw [hv], by rw [hv]; exact g2⟩
        · refine ⟨.inr (fN es g), mem_inr.2 ((cn3 _).2 g2), ?_⟩
          rw [g3]
          refine ⟨rfl, fun j hj => ?_, g2⟩
          have hj' : of (g / 2) = j := hj
          have : i = j := by omega
          rw [← this]; exact hv
      · obtain ⟨h3, g, g1, g2⟩ := (rts_mem b).1 (mem_inr.1 hy)
        by_cases hs : Sev es of ρ
        · exact ⟨.inr ρ, mem_inr.2 ((cn3 _).2 hs), rfl, h3, hs⟩
        · have ho := b.oin (g / 2) (by omega)
          obtain ⟨i, hi⟩ : ∃ i : Nat, of (g / 2) = i := ⟨(of (g / 2)).toNat, by omega⟩
          have hv := b.root g g1 i hi (by rw [g2]; exact h3)
          exact ⟨.inl i, mem_inl.2 (List.mem_range.2 (by omega)), by rw [hv, g2], by rw [hv, g2]; exact hs⟩) (fun y y' x hy hy' hx r1 r2 => by
      rcases x with i | v
      · rcases y with p | ρ <;> rcases y' with p' | ρ'
        · have a1 : p.x = i := r1.1
          have a2 : p'.x = i := r2.1
          have a3 := r1.2.1
          have a4 := r2.2.1
          obtain ⟨px, py⟩ := p
          obtain ⟨qx, qy⟩ := p'
          simp only at a1 a2 a3 a4
          rw [a1, a2, a3, a4]
        · exact absurd r1.2.2 r2.2
        · exact absurd r2.2.2 r1.2
        · have e1 : ρ = V i := r1.1
          have e2 : ρ' = V i := r2.1
          rw [e1, e2]
      · rcases y with p | ρ <;> rcases y' with p' | ρ'
        · obtain ⟨g, g1, g2, g3⟩ := (E_mem b).1 (mem_inl.1 hy)
          obtain ⟨g', l1, l2, l3⟩ := (E_mem b).1 (mem_inl.1 hy')
          subst g3; subst l3
          have hn := sev_lt b r1.2.2
          have e1 := ix_inj b ⟨(fg_in b.hm g1).1, g2⟩ ⟨hn, r1.2.2⟩ (by have := r1.1; simp only at this; omega)
          have e2 := ix_inj b ⟨(fg_in b.hm l1).1, l2⟩ ⟨hn, r1.2.2⟩ (by have := r2.1; simp only at this; omega)
          have o1 := b.oin (g / 2) (by omega)
          have o2 := b.oin (g' / 2) (by omega)
          obtain ⟨i, hi⟩ : ∃ i : Nat, of (g / 2) = i := ⟨(of (g / 2)).toNat, by omega⟩
          obtain ⟨i', hi'⟩ : ∃ i : Nat, of (g' / 2) = i := ⟨(of (g' / 2)).toNat, by omega⟩
          have := b.one g g' g1 l1 (by rw [e1, e2]) i i' hi hi' (by rw [e1]; exact r1.2.1 i hi) (by rw [e1]; exact r2.2.1 i' hi')
          rw [hi, hi', this, e1, e2]
        · obtain ⟨g, g1, g2, g3⟩ := (E_mem b).1 (mem_inl.1 hy)
          subst g3
          have hn := sev_lt b r1.2.2
          have e1 := ix_inj b ⟨(fg_in b.hm g1).1, g2⟩ ⟨hn, r1.2.2⟩ (by have := r1.1; simp only at this; omega)
          have o1 := b.oin (g / 2) (by omega)
          obtain ⟨i, hi⟩ : ∃ i : Nat, of (g / 2) = i := ⟨(of (g / 2)).toNat, by omega⟩
          have := b.root g g1 i hi (by rw [e1]; exact r2.2.1)
          exact absurd (by rw [this, e1]) (r1.2.1 i hi)
        · obtain ⟨g, g1, g2, g3⟩ := (E_mem b).1 (mem_inl.1 hy')
          subst g3
          have hn := sev_lt b r2.2.2
          have e1 := ix_inj b ⟨(fg_in b.hm g1).1, g2⟩ ⟨hn, r2.2.2⟩ (by have := r2.1; simp only at this; omega)
          have o1 := b.oin (g / 2) (by omega)
          obtain ⟨i, hi⟩ : ∃ i : Nat, of (g / 2) = i := ⟨(of (g / 2)).toNat, by omega⟩
          have := b.root g g1 i hi (by rw [e1]; exact r1.2.1)
          exact absurd (by rw [this, e1]) (r2.2.1 i hi)
        · have e1 : ρ = v := r1.1
          have e2 : ρ' = v := r2.1
          rw [e1, e2])
  simp only [List.length_append, List.length_map, List.length_range] at h1 h2
  omega
end Go.Proofs.Ytobkejnlkjieoaa

/- Pure: the tree of the blocks has as many components as the net has with edges. -/
namespace Go.Proofs.Ytobkejnlkjieoaa
open Go.RowKit Go.Sort
open Go
variable {n : Nat} {es : List Pt} {of : Nat → Int} {c : Nat} {V : Nat → Nat} {rt : Nat → Prop}
abbrev JT (es : List Pt) (a b : Nat) : Prop := JP es (fun _ => True) a b
theorem jt_edge {g : Nat} (hg : g < 2 * es.length) : JT es (fN es g) (gN es g) := .one hg trivial trivial
/-- The ends of edges that lie together are joined. -/
theorem rc_jt {e e' : Nat} (h : RC es e e') : ∀ g g', g < 2 * es.length → g' < 2 * es.length → g / 2 = e → g' / 2 = e' → JT es (fN es g) (fN es g') := by
  have self : ∀ {e g g' : Nat}, g < 2 * es.length → g' < 2 * es.length → g / 2 = e → g' / 2 = e → JT es (fN es g) (fN es g') := fun {e g g'} h1 h2 h3 h4 => by
    rcases tw_h (h := g) (g := g') (by omega) with e1 | e1
    · rw [e1]; exact .refl _ trivial
    · rw [e1, tw_f h1]; exact jt_edge h1
  -- each step goes over a half-edge of the middle one
  have key : ∀ {e e' : Nat}, RC es e e' → (e < es.length ↔ e' < es.length) ∧ ∀ g g', g < 2 * es.length → g' < 2 * es.length → g / 2 = e → g' / 2 = e' → JT es (fN es g) (fN es g') := fun {e e'} h => by
    induction h with
    | refl e => exact ⟨Iff.rfl, fun g g' h1 h2 h3 h4 => self h1 h2 h3 h4⟩
    | one h =>
      obtain ⟨x, y, x1, y1, x2, y2, x3, _⟩ := h
      refine ⟨⟨fun _ => by omega, fun _ => by omega⟩, fun g g' h1 h2 h3 h4 => ?_⟩
      have a1 := self h1 x1 h3 x2
      have a2 := self y1 h2 y2 h4
      rw [x3] at a1
      exact a1.trans a2
    | symm _ ih => exact ⟨ih.1.symm, fun g g' h1 h2 h3 h4 => (ih.2 g' g h2 h1 h4 h3).symm⟩
    | @trans e f e' _ _ ih1 ih2 =>
      refine ⟨ih1.1.trans ih2.1, fun g g' h1 h2 h3 h4 => ?_⟩
      have hf : f < es.length := ih1.1.1 (by omega)
      exact (ih1.2 g (2 * f) h1 (by omega) h3 (by omega)).trans (ih2.2 (2 * f) g' (by omega) h2 (by omega) h4)
  exact (key h).2
/-- The nodes of the net on a node of the tree. -/
def Bz (n : Nat) (es : List Pt) (of : Nat → Int) (c z u : Nat) : Prop := (z < c ∧ ∃ g, g < 2 * es.length ∧ of (g / 2) = z ∧ fN es g = u) ∨ (z = c + ix n es of u ∧ Sev es of u)
theorem bz_joined (b : BG n es of c V rt) {z u w : Nat} (hu : Bz n es of c z u) (hw : Bz n es of c z w) : JT es u w := by
  rcases hu with ⟨h0, g, g1, g2, g3⟩ | ⟨h1, h2⟩
  · rcases hw with ⟨_, g', l1, l2, l3⟩ | ⟨h1, h2⟩
    · rw [← g3, ← l3]
      exact rc_jt (b.rc (g / 2) (g' / 2) (by omega) (by omega) (by rw [g2, l2])) g g' g1 l1 rfl rfl
    · omega
  · rcases hw with ⟨h0, _⟩ | ⟨h3, h4⟩
    · omega
    · rw [ix_inj b ⟨sev_lt b h2, h2⟩ ⟨sev_lt b h4, h4⟩ (by omega)]
      exact .refl _ trivial
theorem at_mem' {L : List Pt} {i : Nat} (h : i < L.length) : at' L i ∈ L := at_mem h
/-- Ends of an edge of the tree. -/
theorem t_ends (b : BG n es of c V rt) {h : Nat} (hh : h < 2 * (joB es of (cutB n es of) c).length) : ∃ g, g < 2 * es.length ∧ Sev es of (fN es g) ∧ ∃ i : Nat, of (g / 2) = i ∧ i < c ∧ ((fN (joB es of (cutB n es of) c) h = i ∧ gN (joB es of (cutB n es of) c) h = c + ix n es of (fN es g)) ∨ (gN (joB es of (cutB n es of) c) h = i ∧ fN (joB es of (cutB n es of) c) h = c + ix n es of (fN es g))) := by
  obtain ⟨g, g1, g2, g3⟩ := (E_mem b).1 (at_mem' (show h / 2 < _ by omega))
  have ho := b.oin (g / 2) (by omega)
  obtain ⟨i, hi⟩ : ∃ i : Nat, of (g / 2) = i := ⟨(of (g / 2)).toNat, by omega⟩
  refine ⟨g, g1, g2, i, hi, by omega, ?_⟩
  obtain ⟨Q, hQ⟩ : ∃ Q, ix n es of (fN es g) = Q := ⟨_, rfl⟩
  rw [hQ] at g3 ⊢
  unfold fN gN fromL toL
  rw [g3, hi]
  by_cases h2 : h % 2 = 0
  · rw [if_pos h2, if_pos h2]
    exact Or.inl ⟨Int.toNat_natCast i, by simp only; omega⟩
  · rw [if_neg h2, if_neg h2]
    exact Or.inr ⟨Int.toNat_natCast i, by simp only; omega⟩
theorem t_bz (b : BG n es of c V rt) {h : Nat} (hh : h < 2 * (joB es of (cutB n es of) c).length) : ∃ u, Bz n es of c (fN (joB es of (cutB n es of) c) h) u ∧ Bz n es of c (gN (joB es of (cutB n es of) c) h) u := by
  obtain ⟨g, g1, g2, i, i1, i2, h1 | h1⟩ := t_ends b hh
  · exact ⟨fN es g, Or.inl ⟨by rw [h1.1]; exact i2, g, g1, by rw [h1.1]; exact i1, rfl⟩, Or.inr ⟨h1.2, g2⟩⟩
  · exact ⟨fN es g, Or.inr ⟨h1.2, g2⟩, Or.inl ⟨by rw [h1.1]; exact i2, g, g1, by rw [h1.1]; exact i1, rfl⟩⟩
/-- What the tree joins, the net joins. -/
theorem t_down (b : BG n es of c V rt) {x y : Nat} (h : JT (joB es of (cutB n es of) c) x y) {u w : Nat} (hu : Bz n es of c x u) (hw : Bz n es of c y w) : JT es u w := by
  induction h generalizing w with
  | refl _ => exact bz_joined b hu hw
  | step h k hl _ ih =>
    obtain ⟨v, h1, h2⟩ := t_bz b hl
    exact (ih h1).trans (bz_joined b h2 hw)
/-- A cut node is joined with each block that it is in. -/
theorem t_cut (b : BG n es of c V rt) {g i : Nat} (hg : g < 2 * es.length) (hs : Sev es of (fN es g)) (hi : of (g / 2) = i) : JT (joB es of (cutB n es of) c) i (c + ix n es of (fN es g)) := by
  have hm := (E_mem b).2 ⟨g, hg, hs, rfl⟩
  obtain ⟨k, hk, e⟩ := List.getElem_of_mem hm
  have e' : at' (joB es of (cutB n es of) c) k = ⟨of (g / 2), (c : Int) + ix n es of (fN es g)⟩ := by
    rw [← e]
    unfold at'
    rw [List.getD_eq_getElem?_getD, List.getElem?_eq_getElem hk]
    rfl
  have h1 := jt_edge (es := joB es of (cutB n es of) c) (g := 2 * k) (by omega)
  have e1 : fN (joB es of (cutB n es of) c) (2 * k) = i := by
    unfold fN fromL
    rw [if_pos (by omega), show 2 * k / 2 = k by omega, e', hi]
    exact Int.toNat_natCast i
  have e2 : gN (joB es of (cutB n es of) c) (2 * k) = c + ix n es of (fN es g) := by
    unfold gN toL
    rw [if_pos (by omega), show 2 * k / 2 = k by omega, e']
    obtain ⟨Q, hQ⟩ : ∃ Q, ix n es of (fN es g) = Q := ⟨_, rfl⟩
    rw [hQ]
    simp only
    omega
  rw [e1, e2] at h1
  exact h1
theorem t_same (b : BG n es of c V rt) {g g' i i' : Nat} (h1 : g < 2 * es.length) (h2 : g' < 2 * es.length) (hf : fN es g = fN es g') (hi : of (g / 2) = i) (hi' : of (g' / 2) = i') : JT (joB es of (cutB n es of) c) i i' := by
  by_cases e : i = i'
  · rw [e]; exact .refl _ trivial
  · have hs : Sev es of (fN es g) := ⟨g, g', h1, h2, rfl, hf.symm, by rw [hi, hi']; omega⟩
    have a1 := t_cut b h1 hs hi
    have a2 := t_cut b h2 (by rw [← hf]; exact hs) hi'
    rw [← hf] at a2
    exact a1.trans a2.symm
/-- What the net joins, the tree joins. -/
theorem t_up (b : BG n es of c V rt) {x y : Nat} (h : JT es x y) {g i : Nat} (hg : g < 2 * es.length) (hx : fN es g = x) (hi : of (g / 2) = i) : ∀ g' i' : Nat, g' < 2 * es.length → fN es g' = y → of (g' / 2) = i' → JT (joB es of (cutB n es of) c) i i' := by
  induction h with
  | refl _ => exact fun g' i' h1 h2 h3 => t_same b hg h1 (by rw [hx, h2]) hi h3
  | step k _ hl _ ih =>
    intro g' i' h1 h2 h3
    have ho := b.oin (k / 2) (by omega)
    obtain ⟨j, hj⟩ : ∃ i : Nat, of (k / 2) = i := ⟨(of (k / 2)).toNat, by omega⟩
    have a1 := ih k j hl rfl hj
    refine a1.trans (t_same b (twin_is hl).1 h1 (by rw [tw_f hl, h2]) ?_ h3)
    rw [(twin_is hl).2.2.1]; exact hj
/-- The tree's components are the net's that have edges. -/
theorem tree_parts (b : BG n es of c V rt) (hmt : netB ((c + (cutB n es of).length : Nat) : Int) (joB es of (cutB n es of) c) = true) {k : Nat} {C : List Int} {r : Nat → Nat} (L : LabX (joB es of (cutB n es of) c) (fun _ => false) (fun _ => false) (c + (cutB n es of).length) k (c + (cutB n es of).length) C r NoDue) : k = (Rts n es rt).length := by
  have tT : ∀ {E : List Pt} {x y : Nat}, JT E x y ↔ JP E (fun z => (fun _ : Nat => false) z = false) x y := by
    intro E x y
    exact ⟨fun h => h.mono fun _ _ => rfl, fun h => h.mono fun _ _ => trivial⟩
  have hroot : ∀ {g : Nat}, g < 2 * es.length → ∃ ρ, ρ ∈ Rts n es rt ∧ JT es ρ (fN es g) := fun {g} hg => by
    obtain ⟨ρ, h1, h2⟩ := b.rtc _ (fg_in b.hm hg).1
    refine ⟨ρ, (rts_mem b).2 ⟨h1, ?_⟩, h2⟩
    have h3 := h2.symm
    generalize hx : fN es g = x at h3
    cases h3 with
    | refl _ => exact ⟨g, hg, hx⟩
    | step y k hl hp => exact ⟨twinH y, (twin_is hl).1, tw_f hl⟩
  have hlab : ∀ {z : Nat}, z < c + (cutB n es of).length → ∃ j : Nat, j < k ∧ iat C z = j := fun hz => L.is hz rfl
  -- each node of the tree is joined with a block
  have hz : ∀ z, z < c + (cutB n es of).length → ∃ g i, g < 2 * es.length ∧ of (g / 2) = (i : Nat) ∧ i < c ∧ JT (joB es of (cutB n es of) c) i z := fun z hz => by
    by_cases h1 : z < c
    · obtain ⟨g, g1, g2, _⟩ := b.up z h1
      exact ⟨g, z, g1, g2, h1, .refl _ trivial⟩
    · have hx : iat (cutB n es of) (z - c) ∈ cutB n es of := iat_mem (by omega)
      obtain ⟨v, v1, v2, v3⟩ := (cut_mem fun e he => (b.oin e he).1).1 hx
      obtain ⟨g, _, g1, _, g2, _⟩ := id v3
      have ho := b.oin (g / 2) (by omega)
      refine ⟨g, (of (g / 2)).toNat, g1, by omega, by omega, ?_⟩
      have h2 := t_cut b (i := (of (g / 2)).toNat) g1 (by rw [g2]; exact v3) (by omega)
      have h3 : ix n es of v = z - c := by
        unfold ix
        rw [← v2]
        exact ls_at (cut_up n es of) (by omega)
      rw [g2, h3, show c + (z - c) = z by omega] at h2
      exact h2
  have h1 := rel_len (l := List.range k) (l' := Rts n es rt) (fun i ρ => ∃ g j, g < 2 * es.length ∧ of (g / 2) = (j : Nat) ∧ iat C j = (i : Int) ∧ JT es ρ (fN es g)) List.nodup_range (fun i hi => by
      obtain ⟨a1, a2⟩ := L.root i (List.mem_range.1 hi)
      obtain ⟨g, j, g1, g2, g3, g4⟩ := hz _ a1
      obtain ⟨ρ, h1, h2⟩ := hroot g1
      refine ⟨ρ, h1, g, j, g1, g2, ?_, h2⟩
      rw [L.join hmt (tT.1 g4), a2]) (fun i i' ρ hi hi' hρ ⟨g, j, g1, g2, g3, g4⟩ ⟨g', j', l1, l2, l3, l4⟩ => by
      have h2 := t_up b (g4.symm.trans l4) g1 rfl g2 g' j' l1 rfl l2
      have := L.join hmt (tT.1 h2)
      omega)
  have h2 := rel_len (l := Rts n es rt) (l' := List.range k) (fun ρ i => ∃ g j, g < 2 * es.length ∧ of (g / 2) = (j : Nat) ∧ iat C j = (i : Int) ∧ JT es ρ (fN es g)) (rts_nodup n es rt) (fun ρ hρ => by
      obtain ⟨h3, g, g1, g2⟩ := (rts_mem b).1 hρ
      have ho := b.oin (g / 2) (by omega)
      obtain ⟨i, i1, i2⟩ := hlab (z := (of (g / 2)).toNat) (by omega)
      exact ⟨i, List.mem_range.2 i1, g, (of (g / 2)).toNat, g1, by omega, i2, by rw [g2]; exact .refl _ trivial⟩) (fun ρ ρ' i hρ hρ' hi ⟨g, j, g1, g2, g3, g4⟩ ⟨g', j', l1, l2, l3, l4⟩ => by
      have o1 := b.oin (g / 2) (by omega)
      have o2 := b.oin (g' / 2) (by omega)
      have h3 := tT.2 (L.joined (a := j) (b := j') (by omega) (by omega) rfl (by rw [g3, l3]))
      have h4 := t_down b h3 (u := fN es g) (w := fN es g') (Or.inl ⟨by omega, g, g1, g2, rfl⟩) (Or.inl ⟨by omega, g', l1, l2, rfl⟩)
      exact b.ru ρ ρ' ((rts_mem b).1 hρ).1 ((rts_mem b).1 hρ').1 ((g4.trans h4).trans l4.symm))
  simp only [List.length_range] at h1 h2
  omega
/-- How many components the net has: one with edges for each root that has some, and one for each node without. -/
theorem net_parts (b : BG n es of c V rt) {k : Nat} {C : List Int} {r : Nat → Nat} (L : LabX es (fun _ => false) (fun _ => false) n k n C r NoDue) {p : Nat → Bool} (hp : ∀ v, v < n → (p v = true ↔ ¬ ∃ g, g < 2 * es.length ∧ fN es g = v)) : k = (Rts n es rt).length + ((List.range n).filter p).length := by
  have tT : ∀ {x y : Nat}, JT es x y ↔ JP es (fun z => (fun _ : Nat => false) z = false) x y := by
    intro x y
    exact ⟨fun h => h.mono fun _ _ => rfl, fun h => h.mono fun _ _ => trivial⟩
  have hr : ∀ v, v ∈ (List.range n).filter p → v < n ∧ rt v ∧ ¬ ∃ g, g < 2 * es.length ∧ fN es g = v := fun v hv => by
    obtain ⟨h1, h2⟩ := List.mem_filter.1 hv
    have h1 := List.mem_range.1 h1
    have h3 := (hp v h1).1 h2
    refine ⟨h1, Classical.byContradiction fun h4 => ?_, h3⟩
    obtain ⟨g, g1, g2, _⟩ := b.child v h1 h4
    exact h3 ⟨g, g1, g2⟩
  have hn : (Rts n es rt ++ (List.range n).filter p).Nodup := by
    rw [List.nodup_append]
    refine ⟨rts_nodup n es rt, List.nodup_range.filter _, fun x hx y hy e => ?_⟩
    rw [e] at hx
    exact (hr y hy).2.2 ((rts_mem b).1 hx).2
  have hmem : ∀ z, z ∈ Rts n es rt ++ (List.range n).filter p ↔ rt z := fun z => by
    rw [List.mem_append]
    constructor
    · rintro (h | h)
      · exact ((rts_mem b).1 h).1
      · exact (hr z h).2.1
    · intro h
      by_cases he : ∃ g, g < 2 * es.length ∧ fN es g = z
      · exact Or.inl ((rts_mem b).2 ⟨h, he⟩)
      · exact Or.inr (List.mem_filter.2 ⟨List.mem_range.2 (b.rn z h), (hp z (b.rn z h)).2 he⟩)
  have h1 := rel_len (l := List.range k) (l' := Rts n es rt ++ (List.range n).filter p) (fun i ρ => iat C ρ = (i : Int)) List.nodup_range (fun i hi => by
      obtain ⟨a1, a2⟩ := L.root i (List.mem_range.1 hi)
      obtain ⟨ρ, h1, h2⟩ := b.rtc _ a1
      exact ⟨ρ, (hmem ρ).2 h1, by rw [L.join b.hm (tT.1 h2), a2]⟩) (fun i i' ρ _ _ _ h1 h2 => by omega)
  have h2 := rel_len (l := Rts n es rt ++ (List.range n).filter p) (l' := List.range k) (fun ρ i => iat C ρ = (i : Int)) hn (fun ρ hρ => by
      obtain ⟨i, i1, i2⟩ := L.is (b.rn ρ ((hmem ρ).1 hρ)) rfl
      exact ⟨i, List.mem_range.2 i1, i2⟩) (fun ρ ρ' i hρ hρ' _ h1 h2 => by
      have r1 := (hmem ρ).1 hρ
      have r2 := (hmem ρ').1 hρ'
      exact b.ru ρ ρ' r1 r2 (tT.2 (L.joined (b.rn ρ r1) (b.rn ρ' r2) rfl (by rw [h1, h2]))))
  simp only [List.length_range, List.length_append] at h1 h2
  omega
end Go.Proofs.Ytobkejnlkjieoaa

/- Pure: what BlockCuts asks. -/
namespace Go.Proofs.Ytobkejnlkjieoaa
open Go.RowKit Go.Sort
open Go
theorem dg_pos {es : List Pt} {n : Nat} (hm : netB n es = true) {v : Nat} (hv : v < n) : ∀ h, h ≤ 2 * es.length → (0 < iat (dgH es n h) v ↔ ∃ g, g < h ∧ fN es g = v)
  | 0, _ => by
    have h0 : iat (dgH es n 0) v ≤ 0 := (dgH_in es n 0 v hv).2
    exact ⟨fun h => by omega, fun ⟨g, h, _⟩ => absurd h (Nat.not_lt_zero _)⟩
  | h + 1, hh => by
    have ih := dg_pos hm hv h (by omega)
    have hb := dgH_in es n h v hv
    have e : iat (dgH es n (h + 1)) v = iat (dgH es n h) v + if fN es h = v then 1 else 0 := by
      show iat (bump (dgH es n h) (fromL es h).toNat) v = _
      rw [bump_at _ _ _ (by rw [dgH_length]; exact hv)]
      rfl
    rw [e]
    constructor
    · intro h1
      by_cases hc : fN es h = v
      · exact ⟨h, by omega, hc⟩
      · rw [if_neg hc] at h1
        obtain ⟨g, g1, g2⟩ := ih.1 (by omega)
        exact ⟨g, by omega, g2⟩
    · rintro ⟨g, g1, g2⟩
      by_cases hc : fN es h = v
      · rw [if_pos hc]; omega
      · have hg : g ≠ h := fun e => hc (by rw [← e]; exact g2)
        have := ih.2 ⟨g, by omega, g2⟩
        rw [if_neg hc]; omega
theorem deg_pos {es : List Pt} {n : Nat} (hm : netB n es = true) {v : Nat} (hv : v < n) : 0 < iat (degN es n es.length) v ↔ ∃ g, g < 2 * es.length ∧ fN es g = v := by
  rw [← dgH_even es n es.length]
  exact dg_pos hm hv _ (Nat.le_refl _)
theorem deg_in {es : List Pt} {n : Nat} {v : Nat} (hv : v < n) : 0 ≤ iat (degN es n es.length) v ∧ iat (degN es n es.length) v ≤ 2 * es.length := degN_in es n es.length v hv
/-- The nodes that have a loop, of the first edges. -/
def lpB (es : List Pt) : Nat → Nat → Bool
  | 0 => fun _ => false
  | i + 1 => if (at' es i).x = (at' es i).y then upd (lpB es i) (at' es i).x.toNat true else lpB es i
theorem lpB_is {es : List Pt} {v : Nat} : ∀ i, lpB es i v = true ↔ ∃ e, e < i ∧ (at' es e).x = (at' es e).y ∧ (at' es e).x.toNat = v
  | 0 => ⟨(fun h => by cases h), (fun ⟨e, h, _⟩ => absurd h (Nat.not_lt_zero _))⟩
  | i + 1 => by
    have ih := lpB_is (es := es) (v := v) i
    unfold lpB
    split
    · rename_i hc
      by_cases ev : v = (at' es i).x.toNat
      · rw [ev, upd_same]
        exact ⟨fun _ => ⟨i, by omega, hc, rfl⟩, fun _ => rfl⟩
      · rw [upd_other _ _ ev, ih]
        constructor
        · rintro ⟨e, e1, e2⟩; exact ⟨e, by omega, e2⟩
        · rintro ⟨e, e1, e2, e3⟩
          refine ⟨e, ?_, e2, e3⟩
          have : e ≠ i := fun h => ev (by rw [← e3, h])
          omega
    · rename_i hc
      rw [ih]
      constructor
      · rintro ⟨e, e1, e2⟩; exact ⟨e, by omega, e2⟩
      · rintro ⟨e, e1, e2, e3⟩
        refine ⟨e, ?_, e2, e3⟩
        have : e ≠ i := fun h => hc (by rw [← h]; exact e2)
        omega
theorem lpB_no {n : Nat} {es : List Pt} (hm : netB n es = true) {v : Nat} (h : lpB es es.length v = false) {g : Nat} (hg : g < 2 * es.length) (hf : fN es g = v) : gN es g ≠ v := fun hc => by
  obtain ⟨_, _, _, hE⟩ := netB_is hm
  have hE := hE (g / 2) (by omega)
  have h1 : lpB es es.length v = true := by
    have e1 : (at' es (g / 2)).x.toNat = v ∧ (at' es (g / 2)).y.toNat = v := by
      unfold fN fromL at hf
      unfold gN toL at hc
      by_cases h2 : g % 2 = 0
      · rw [if_pos h2] at hf hc; exact ⟨hf, hc⟩
      · rw [if_neg h2] at hf hc; exact ⟨hc, hf⟩
    exact (lpB_is _).2 ⟨g / 2, by omega, by omega, e1.1⟩
  rw [h] at h1; cases h1
/-- Two edges of one block at a node go on to what is joined without it. -/
theorem BG.d2 {n : Nat} {es : List Pt} {of : Nat → Int} {c : Nat} {V : Nat → Nat} {rt : Nat → Prop} (b : BG n es of c V rt) {g g' : Nat} (h1 : g < 2 * es.length) (h2 : g' < 2 * es.length) (hb : of (g / 2) = of (g' / 2)) {v : Nat} (n1 : gN es g ≠ v) (n2 : gN es g' ≠ v) : JP es (fun z => z ≠ v) (gN es g) (gN es g') := by
  have hj : Jv es v (g / 2) (g' / 2) := by
    rcases rc_jv (b.rc (g / 2) (g' / 2) (by omega) (by omega) hb) v with e | ⟨_, h⟩
    · rw [← e]; exact jv_self
    · exact h
  have := hj (twinH g) (twinH g') (twin_is h1).1 (twin_is h2).1 (twin_is h1).2.2.1 (twin_is h2).2.2.1 (by rw [tw_f h1]; exact n1) (by rw [tw_f h2]; exact n2)
  rw [tw_f h1, tw_f h2] at this
  exact this
/-- A node without loops is a cut node just if it has edges and there are more components without it. -/
theorem cuts_law {n : Nat} {es : List Pt} (hm : netB n es = true) {v : Nat} (hv : v < n) {k k' : Nat} {C C' : List Int} {r r' : Nat → Nat} (L : LabX es (fun _ => false) (fun _ => false) n k n C r NoDue) (L' : LabX es (fun z => decide (z = v)) (fun _ => false) n k' n C' r' NoDue) (hl : lpB es es.length v = false) : mkF (cutsB n es) (cutsB n es).length v = (decide (0 < iat (degN es n es.length) v) && decide ((k : Int) < k')) := by
  obtain ⟨V, rt, b⟩ := bg_is hm
  have hcm : mkF (cutsB n es) (cutsB n es).length v = true ↔ Sev es (ofB n es) v := by
    rw [mkF_is _ (fun t ht => by
      obtain ⟨u, _, hu, _⟩ := (cut_mem fun e he => (b.oin e he).1).1 (iat_mem ht)
      show 0 ≤ iat (cutB n es (ofB n es)) t
      omega) v _ (Nat.le_refl _)]
    constructor
    · rintro ⟨t, ht, e⟩
      have := iat_mem ht
      rw [e] at this
      exact ((cu_mem b).1 this).2
    · intro h
      exact mem_iat ((cu_mem b).2 ⟨hv, h⟩)
  rw [Bool.eq_iff_iff, hcm, Bool.and_eq_true, decide_eq_true_eq, decide_eq_true_eq, deg_pos hm hv]
  have hnl : ∀ g, g < 2 * es.length → fN es g = v → gN es g ≠ v := fun g hg hf => lpB_no hm hl hg hf
  by_cases hd : ∃ g, g < 2 * es.length ∧ fN es g = v
  · have hc := cut_count hm hv L L' hnl hd
    constructor
    · rintro ⟨g, g', g1, g2, g3, g4, g5⟩
      refine ⟨hd, ?_⟩
      have := hc.2 ⟨g, g', g1, g2, g3, g4, fun hj => g5 (b.d1 _ _ ⟨g, g', g1, g2, rfl, rfl, by rw [g3, g4], by rw [g3]; exact hj⟩)⟩
      omega
    · rintro ⟨_, hk⟩
      obtain ⟨g, g', g1, g2, g3, g4, g5⟩ := hc.1 (by omega)
      exact ⟨g, g', g1, g2, g3, g4, fun e => g5 (b.d2 g1 g2 e (hnl g g1 g3) (hnl g' g2 g4))⟩
  · constructor
    · rintro ⟨g, _, g1, _, g3, _⟩
      exact absurd ⟨g, g1, g3⟩ hd
    · rintro ⟨h, _⟩
      exact absurd h hd
theorem tree_net {n : Nat} {es : List Pt} (hm : netB n es = true) (hn : n ≤ 40) (hc : es.length ≤ 60) : netB (trN n es) (trE n es) = true := by
  obtain ⟨V, rt, b⟩ := bg_is hm
  have h1 := cts_le (n := n) hm
  have h2 : (cutsB n es).length ≤ n := cut_len n es (ofB n es)
  have h3 : (trE n es).length ≤ 2 * es.length := Nat.le_trans (joB_len _ _ _ _) (joH_len _ _ _ _ _)
  unfold trN
  refine net_yes (by omega) ?_ fun j hj => ?_
  · simp only [fitsB, Bool.and_eq_true, decide_eq_true_eq]
    omega
  · obtain ⟨g, g1, g2, g3⟩ := (E_mem b).1 (at_mem hj)
    have ho := b.oin (g / 2) (by omega)
    have hx : ix n es (ofB n es) (fN es g) < (cutsB n es).length := (ls_mem (cut_up n es (ofB n es)) ((cu_mem b).2 ⟨(fg_in hm g1).1, g2⟩)).1
    have g4 : at' (trE n es) j = ⟨ofB n es (g / 2), (ctsB n es : Int) + ix n es (ofB n es) (fN es g)⟩ := g3
    rw [g4]
    simp only [edB, belowB, Bool.and_eq_true, decide_eq_true_eq]
    omega
/-- How many of the first nodes have no edge. -/
def alB (es : List Pt) (n : Nat) (v : Nat) : Nat := ((List.range v).filter fun u => decide (iat (degN es n es.length) u = 0)).length
theorem alB_more (es : List Pt) (n v : Nat) : alB es n (v + 1) = alB es n v + if iat (degN es n es.length) v = 0 then 1 else 0 := by
  unfold alB
  rw [List.range_succ, List.filter_append, List.length_append]
  by_cases h : iat (degN es n es.length) v = 0
  · rw [if_pos h, List.filter_cons_of_pos (by simpa using h)]
    rfl
  · rw [if_neg h, List.filter_cons_of_neg (by simpa using h)]
    rfl
theorem alB_le (es : List Pt) (n v : Nat) : alB es n v ≤ v := by
  unfold alB
  exact Nat.le_trans (List.length_filter_le _ _) (by rw [List.length_range]; exact Nat.le_refl _)
theorem tree_law {n : Nat} {es : List Pt} (hm : netB n es = true) (hmt : netB (trN n es) (trE n es) = true) {k kt : Nat} {C Ct : List Int} {r rt' : Nat → Nat} (L : LabX es (fun _ => false) (fun _ => false) n k n C r NoDue) (Lt : LabX (trE n es) (fun _ => false) (fun _ => false) (trN n es).toNat kt (trN n es).toNat Ct rt' NoDue) : (kt : Int) = k - alB es n n ∧ ((trE n es).length : Int) = trN n es - kt := by
  obtain ⟨V, rt, b⟩ := bg_is hm
  have hN : (trN n es).toNat = ctsB n es + (cutsB n es).length := by unfold trN; omega
  rw [hN] at Lt
  have h1 := tree_parts b (by
    have : ((ctsB n es + (cutB n es (ofB n es)).length : Nat) : Int) = trN n es := by
      unfold trN
      show _ = (ctsB n es : Int) + ((cutB n es (ofB n es)).length : Int)
      omega
    rw [this]; exact hmt) Lt
  have h2 := tree_count b
  have h3 := net_parts b L (p := fun u => decide (iat (degN es n es.length) u = 0)) fun v hv => by
    rw [decide_eq_true_eq, ← deg_pos hm hv]
    have := deg_in (es := es) hv
    omega
  have h4 : (trE n es).length = (joB es (ofB n es) (cutB n es (ofB n es)) (ctsB n es)).length := rfl
  have h5 : (cutsB n es).length = (cutB n es (ofB n es)).length := rfl
  have h6 : alB es n n = ((List.range n).filter fun u => decide (iat (degN es n es.length) u = 0)).length := rfl
  unfold trN
  omega
end Go.Proofs.Ytobkejnlkjieoaa
