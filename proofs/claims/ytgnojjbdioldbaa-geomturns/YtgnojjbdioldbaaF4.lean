/- GeomTurns answers true to every five points, in every world. -/
import Derived.Test.YtgnojjbdioldbaaO13
import Derived.Test.YtgnojjbdioldbaaM6
import Derived.Deep.RegionHeld3
namespace Go.Proofs.Ytgnojjbdioldbaa
open Go.RowKit Go.Sort
open Go Go.BigFrame

abbrev row5 (a b c d t : Pt) : Obj := .cells #[.int .i64 a.x, .int .i64 a.y, .int .i64 b.x, .int .i64 b.y, .int .i64 c.x, .int .i64 c.y, .int .i64 d.x, .int .i64 d.y, .int .i64 t.x, .int .i64 t.y] 23
/-- Five points in boxes of their own. -/
def Pent (W : World) (g : Nat) (a b c d t : Pt) : Prop :=
  Quad W g a b c d ∧ W.cell? ⟨g + 1 + 1 + 1 + 1, 0, none⟩ = some (.int .i64 t.x) ∧ W.cell? ⟨g + 1 + 1 + 1 + 1, 1, none⟩ = some (.int .i64 t.y)
theorem Pent.later {W W' : World} {g : Nat} {a b c d t : Pt} (h : Pent W g a b c d t) (hb : Below W.heap.size W W') : Pent W' g a b c d t :=
  ⟨h.1.later hb, Ytgnojjbdioldbaa.later hb h.2.1, Ytgnojjbdioldbaa.later hb h.2.2⟩
theorem pent (w : World) (a b c d t : Pt) : ∃ W, W = ((((w.alloc (bx a)).alloc (bx b)).alloc (bx c)).alloc (bx d)).alloc (bx t) ∧ W.heap.size = w.heap.size + 1 + 1 + 1 + 1 + 1 ∧ Below w.heap.size w W ∧ Pent W w.heap.size a b c d t :=
  ⟨_, rfl, by simp, by go_grown, ⟨by go_cell, by go_cell, by go_cell, by go_cell, by go_cell, by go_cell, by go_cell, by go_cell⟩, by go_cell, by go_cell⟩
theorem lies5 (W : World) (a b c d t : Pt) : Lies (W.alloc (row5 a b c d t)) W.heap.size 0 [a, b, c, d, t] := by
  intro j hj
  simp at hj
  rcases (by omega : j = 0 ∨ j = 1 ∨ j = 2 ∨ j = 3 ∨ j = 4) with rfl | rfl | rfl | rfl | rfl <;> (simp only [at', List.getD_cons_zero, List.getD_cons_succ]; exact ⟨by go_cell, by go_cell⟩)
def near18 (p : Pt) : Prop := -262144 ≤ p.x ∧ p.x ≤ 262144 ∧ -262144 ≤ p.y ∧ p.y ≤ 262144

theorem near_pt {p : Pt} (h : near18 p) : ptB p = true := by unfold near18 at h; simp [ptB, insideB]; omega
theorem near_mv {p t : Pt} (h : near18 p) (k : near18 t) : ptB (mv t p) = true := by unfold near18 at h k; unfold ptB insideB mv; simp only [Bool.and_eq_true, decide_eq_true_eq]; omega
theorem near_rot {p : Pt} (h : near18 p) : ptB (rot p) = true := by unfold near18 at h; unfold ptB insideB rot; simp only [Bool.and_eq_true, decide_eq_true_eq]; omega
theorem may4' {a b c d : Pt} (ha : ptB a = true) (hb : ptB b = true) (hc : ptB c = true) (hd : ptB d = true) : mayB [a, b, c, d] = true := by simp [mayB, ha, hb, hc, hd]
theorem orient_mv {a b c t : Pt} (na : near18 a) (nb : near18 b) (nc : near18 c) (nt : near18 t) (w : World) : Calls Try.prog 13 #[pv (mv t a).x (mv t a).y, pv (mv t b).x (mv t b).y, pv (mv t c).x (mv t c).y] w fun e w' => e = .returned (.tuple #[.int .i64 (turnI a b c), .int .i64 0]) ∧ Below w.heap.size w w' := by
  have h := orient13' (near_mv na nt) (near_mv nb nt) (near_mv nc nt) w
  rw [turn_mv] at h; exact h
theorem orient_rot {a b c : Pt} (na : near18 a) (nb : near18 b) (nc : near18 c) (w : World) : Calls Try.prog 13 #[pv (rot a).x (rot a).y, pv (rot b).x (rot b).y, pv (rot c).x (rot c).y] w fun e w' => e = .returned (.tuple #[.int .i64 (turnI a b c), .int .i64 0]) ∧ Below w.heap.size w w' := by
  have h := orient13' (near_rot na) (near_rot nb) (near_rot nc) w
  rw [turn_rot] at h; exact h
theorem meet_mv' {a b c d t : Pt} (na : near18 a) (nb : near18 b) (nc : near18 c) (nd : near18 d) (nt : near18 t) (w : World) : Calls Try.prog 11 #[pv (mv t a).x (mv t a).y, pv (mv t b).x (mv t b).y, pv (mv t c).x (mv t c).y, pv (mv t d).x (mv t d).y] w fun e w' => e = .returned (.tuple #[.int .i64 (meetI a b c d), .int .i64 0]) ∧ Below w.heap.size w w' := by
  have h := meet11' (may4' (near_mv na nt) (near_mv nb nt) (near_mv nc nt) (near_mv nd nt)) w
  rw [meet_mv] at h; exact h
theorem meet_rot' {a b c d : Pt} (na : near18 a) (nb : near18 b) (nc : near18 c) (nd : near18 d) (w : World) : Calls Try.prog 11 #[pv (rot a).x (rot a).y, pv (rot b).x (rot b).y, pv (rot c).x (rot c).y, pv (rot d).x (rot d).y] w fun e w' => e = .returned (.tuple #[.int .i64 (meetI a b c d), .int .i64 0]) ∧ Below w.heap.size w w' := by
  have h := meet11' (may4' (near_rot na) (near_rot nb) (near_rot nc) (near_rot nd)) w
  rw [meet_rot] at h; exact h
theorem meet_back' {a b c d : Pt} (ha : ptB a = true) (hb : ptB b = true) (hc : ptB c = true) (hd : ptB d = true) (w : World) : Calls Try.prog 11 #[pv d.x d.y, pv c.x c.y, pv b.x b.y, pv a.x a.y] w fun e w' => e = .returned (.tuple #[.int .i64 (meetI a b c d), .int .i64 0]) ∧ Below w.heap.size w w' := by
  have h := meet11' (may4' hd hc hb ha) w
  rw [meet_back] at h; exact h

abbrev zero8 : Obj := .cells #[.int .i64 0, .int .i64 0, .int .i64 0, .int .i64 0, .int .i64 0, .int .i64 0, .int .i64 0, .int .i64 0] 23
theorem made8 (w : World) : (Instr.makeSlice 27 (.int .i64 4) (.int .i64 4)).run Try.prog w = .ok (.slice (some ⟨w.heap.size, 0, none⟩) 4 4) (w.alloc zero8) := by kernel_rfl

/-- The first i of four points hold f of those of l; the others are zero; none is frozen. -/
def Row4 (W : World) (g i : Nat) (f : Pt → Pt) (l : List Pt) : Prop :=
  ∀ j, j < 4 → W.cell? ⟨g, j * 2, none⟩ = some (.int .i64 (if j < i then f (at' l j) else ⟨0, 0⟩).x) ∧ W.cell? ⟨g, j * 2 + 1, none⟩ = some (.int .i64 (if j < i then f (at' l j) else ⟨0, 0⟩).y) ∧ W.frozen? ⟨g, j * 2, none⟩ = false ∧ W.frozen? ⟨g, j * 2 + 1, none⟩ = false
theorem Row4.later {W W' : World} {g i : Nat} {f : Pt → Pt} {l : List Pt} (h : Row4 W g i f l) (hb : Below W.heap.size W W') : Row4 W' g i f l := by
  intro j hj
  obtain ⟨h0, h1, h2, h3⟩ := h j hj
  exact ⟨Ytgnojjbdioldbaa.later hb h0, Ytgnojjbdioldbaa.later hb h1, by rw [hb.frozen (block_lt_of_cell h0)]; exact h2, by rw [hb.frozen (block_lt_of_cell h1)]; exact h3⟩
theorem row4_a (w' : World) (f : Pt → Pt) (l : List Pt) : Row4 ((w'.alloc zero8).alloc zero8).drew w'.heap.size 0 f l := by
  intro j hj
  rw [if_neg (by omega)]
  rcases (by omega : j = 0 ∨ j = 1 ∨ j = 2 ∨ j = 3) with rfl | rfl | rfl | rfl <;> exact ⟨by go_cell, by go_cell, by simp [go_sem], by simp [go_sem]⟩
theorem row4_b (w' : World) (f : Pt → Pt) (l : List Pt) : Row4 ((w'.alloc zero8).alloc zero8).drew (w'.heap.size + 1) 0 f l := by
  intro j hj
  rw [if_neg (by omega)]
  rcases (by omega : j = 0 ∨ j = 1 ∨ j = 2 ∨ j = 3) with rfl | rfl | rfl | rfl <;> exact ⟨by go_cell, by go_cell, by simp [go_sem], by simp [go_sem]⟩

def Four (W : World) (L G i : Nat) (x t : Pt) : Prop := W.cell? ⟨L, i * 2, none⟩ = some (.int .i64 x.x) ∧ W.cell? ⟨L, i * 2 + 1, none⟩ = some (.int .i64 x.y) ∧ W.cell? ⟨G, 0, none⟩ = some (.int .i64 t.x) ∧ W.cell? ⟨G, 1, none⟩ = some (.int .i64 t.y)
theorem Four.later {W W' : World} {L G i : Nat} {x t : Pt} (h : Four W L G i x t) (hb : Below W.heap.size W W') : Four W' L G i x t :=
  ⟨Ytgnojjbdioldbaa.later hb h.1, Ytgnojjbdioldbaa.later hb h.2.1, Ytgnojjbdioldbaa.later hb h.2.2.1, Ytgnojjbdioldbaa.later hb h.2.2.2⟩
theorem Four.set {W : World} {L G i g : Nat} {x t : Pt} (h : Four W L G i x t) (k1 : g ≠ L) (k2 : g ≠ G) (u v : Value) : Four ((W.setCell ⟨g, i * 2, none⟩ u).setCell ⟨g, i * 2 + 1, none⟩ v) L G i x t := by
  have hs : ∀ (a : Addr), g ≠ a.block → ((W.setCell ⟨g, i * 2, none⟩ u).setCell ⟨g, i * 2 + 1, none⟩ v).cell? a = W.cell? a := fun a ha => by
    rw [World.cell?_setCell_other _ _ _ _ (by intro e; rw [← e] at ha; exact ha rfl), World.cell?_setCell_other _ _ _ _ (by intro e; rw [← e] at ha; exact ha rfl)]
  exact ⟨by rw [hs _ k1]; exact h.1, by rw [hs _ k1]; exact h.2.1, by rw [hs _ k2]; exact h.2.2.1, by rw [hs _ k2]; exact h.2.2.2⟩

section
variable {wr w2 Z : World} {g i : Nat} {u v : Int}
theorem set2_other (hZ : Z = (w2.setCell ⟨g, i * 2, none⟩ (.int .i64 u)).setCell ⟨g, i * 2 + 1, none⟩ (.int .i64 v)) (a : Addr) (ha : a.block ≠ g ∨ (a.off ≠ i * 2 ∧ a.off ≠ i * 2 + 1)) : Z.cell? a = w2.cell? a := by
  rw [hZ, World.cell?_setCell_other _ _ _ _ (by intro e; rw [← e] at ha; simp at ha), World.cell?_setCell_other _ _ _ _ (by intro e; rw [← e] at ha; simp at ha)]
theorem set2_frozen (hZ : Z = (w2.setCell ⟨g, i * 2, none⟩ (.int .i64 u)).setCell ⟨g, i * 2 + 1, none⟩ (.int .i64 v)) (a : Addr) : Z.frozen? a = w2.frozen? a := by
  rw [hZ, World.frozen?_setCell, World.frozen?_setCell]
theorem step_row (f : Pt → Pt) {l : List Pt} (hb : Below wr.drew.heap.size wr.drew w2) (h : Row4 wr g i f l) (hi : i < 4) (eu : u = (f (at' l i)).x) (ev : v = (f (at' l i)).y) (hZ : Z = (w2.setCell ⟨g, i * 2, none⟩ (.int .i64 u)).setCell ⟨g, i * 2 + 1, none⟩ (.int .i64 v)) : Row4 Z g (i + 1) f l := by
  have h2 : Row4 w2 g i f l := Row4.later (W := wr.drew) h hb
  intro j hj
  obtain ⟨h0, h1, f0, f1⟩ := h2 j hj
  rw [set2_frozen hZ, set2_frozen hZ]
  refine ⟨?_, ?_, f0, f1⟩
  · by_cases e : j = i
    · subst e
      rw [if_pos (by omega), hZ, World.cell?_setCell_other _ _ _ _ (by intro k; injection k with k1 k2; omega), World.cell?_setCell_same _ _ _ h0, eu]
    · rw [set2_other hZ _ (Or.inr ⟨by show j * 2 ≠ _; omega, by show j * 2 ≠ _; omega⟩), h0]
      by_cases k : j < i
      · rw [if_pos k, if_pos (by omega)]
      · rw [if_neg k, if_neg (by omega)]
  · by_cases e : j = i
    · subst e
      have h1' : (w2.setCell ⟨g, j * 2, none⟩ (.int .i64 u)).cell? ⟨g, j * 2 + 1, none⟩ = w2.cell? ⟨g, j * 2 + 1, none⟩ := World.cell?_setCell_other _ _ _ _ (by intro k; injection k with k1 k2; omega)
      rw [if_pos (by omega), hZ, World.cell?_setCell_same _ _ _ (h1'.trans h1), ev]
    · rw [set2_other hZ _ (Or.inr ⟨by show j * 2 + 1 ≠ _; omega, by show j * 2 + 1 ≠ _; omega⟩), h1]
      by_cases k : j < i
      · rw [if_pos k, if_pos (by omega)]
      · rw [if_neg k, if_neg (by omega)]
theorem step_other {f : Pt → Pt} {l : List Pt} {q k : Nat} (hb : Below wr.drew.heap.size wr.drew w2) (h : Row4 wr q k f l) (hq : g ≠ q) (hZ : Z = (w2.setCell ⟨g, i * 2, none⟩ (.int .i64 u)).setCell ⟨g, i * 2 + 1, none⟩ (.int .i64 v)) : Row4 Z q k f l := by
  have h2 : Row4 w2 q k f l := Row4.later (W := wr.drew) h hb
  intro j hj
  obtain ⟨h0, h1, f0, f1⟩ := h2 j hj
  rw [set2_frozen hZ, set2_frozen hZ, set2_other hZ _ (Or.inl (Ne.symm hq)), set2_other hZ _ (Or.inl (Ne.symm hq))]
  exact ⟨h0, h1, f0, f1⟩
theorem step_lies {l : List Pt} {L : Nat} (hb : Below wr.drew.heap.size wr.drew w2) (h : Lies wr L 0 l) (hq : g ≠ L) (hZ : Z = (w2.setCell ⟨g, i * 2, none⟩ (.int .i64 u)).setCell ⟨g, i * 2 + 1, none⟩ (.int .i64 v)) : Lies Z L 0 l := by
  have h2 : Lies w2 L 0 l := Lies.later (w := wr.drew) h hb
  intro j hj
  rw [set2_other hZ _ (Or.inl (Ne.symm hq)), set2_other hZ _ (Or.inl (Ne.symm hq))]
  exact h2 j hj
theorem step_pent {a b c d t : Pt} {G : Nat} (hb : Below wr.drew.heap.size wr.drew w2) (h : Pent wr G a b c d t) (hq : G + 1 + 1 + 1 + 1 < g) (hZ : Z = (w2.setCell ⟨g, i * 2, none⟩ (.int .i64 u)).setCell ⟨g, i * 2 + 1, none⟩ (.int .i64 v)) : Pent Z G a b c d t := by
  obtain ⟨⟨q0, q1, q2, q3, q4, q5, q6, q7⟩, q8, q9⟩ : Pent w2 G a b c d t := Pent.later (W := wr.drew) h hb
  have n0 : G ≠ g := by omega
  have n1 : G + 1 ≠ g := by omega
  have n2 : G + 1 + 1 ≠ g := by omega
  have n3 : G + 1 + 1 + 1 ≠ g := by omega
  have n4 : G + 1 + 1 + 1 + 1 ≠ g := by omega
  exact ⟨⟨by rw [set2_other hZ _ (Or.inl n0)]; exact q0, by rw [set2_other hZ _ (Or.inl n0)]; exact q1, by rw [set2_other hZ _ (Or.inl n1)]; exact q2, by rw [set2_other hZ _ (Or.inl n1)]; exact q3, by rw [set2_other hZ _ (Or.inl n2)]; exact q4, by rw [set2_other hZ _ (Or.inl n2)]; exact q5, by rw [set2_other hZ _ (Or.inl n3)]; exact q6, by rw [set2_other hZ _ (Or.inl n3)]; exact q7⟩, by rw [set2_other hZ _ (Or.inl n4)]; exact q8, by rw [set2_other hZ _ (Or.inl n4)]; exact q9⟩
theorem step_below {w : World} (hb : Below wr.drew.heap.size wr.drew w2) (h : Below w.heap.size w wr) (hg : w.heap.size ≤ g) (hZ : Z = (w2.setCell ⟨g, i * 2, none⟩ (.int .i64 u)).setCell ⟨g, i * 2 + 1, none⟩ (.int .i64 v)) : Below w.heap.size w Z := by
  have h2 : Below w.heap.size w w2 := Below.trans h (RowKit.Below.mono (show RowKit.Below wr.heap.size wr w2 from ⟨hb.os, hb.tape, hb.output, hb.size, hb.block⟩) h.size)
  rw [hZ]
  exact (h2.setCell (by exact hg) _).setCell (by exact hg) _
end

theorem Row4.full {W : World} {g : Nat} {f : Pt → Pt} {a b c d t : Pt} (h : Row4 W g 4 f [a, b, c, d, t]) :
    W.cell? ⟨g, 0, none⟩ = some (.int .i64 (f a).x) ∧ W.cell? ⟨g, 1, none⟩ = some (.int .i64 (f a).y) ∧ W.cell? ⟨g, 2, none⟩ = some (.int .i64 (f b).x) ∧ W.cell? ⟨g, 3, none⟩ = some (.int .i64 (f b).y)
    ∧ W.cell? ⟨g, 4, none⟩ = some (.int .i64 (f c).x) ∧ W.cell? ⟨g, 5, none⟩ = some (.int .i64 (f c).y) ∧ W.cell? ⟨g, 6, none⟩ = some (.int .i64 (f d).x) ∧ W.cell? ⟨g, 7, none⟩ = some (.int .i64 (f d).y) := by
  have h0 := h 0 (by omega)
  have h1 := h 1 (by omega)
  have h2 := h 2 (by omega)
  have h3 := h 3 (by omega)
  rw [if_pos (by omega)] at h0 h1 h2 h3
  exact ⟨h0.1, h0.2.1, h1.1, h1.2.1, h2.1, h2.2.1, h3.1, h3.2.1⟩

set_option maxRecDepth 100000 in
set_option maxHeartbeats 8000000 in
theorem turns_walk (a b c d t : Pt) (w : World) : Calls Try.prog 4 #[pv a.x a.y, pv b.x b.y, pv c.x c.y, pv d.x d.y, pv t.x t.y] w fun e w' => e = .returned (.bool true) ∧ Below w.heap.size w w' := by
  obtain ⟨W, hW, hs, hb, q⟩ := pent w a b c d t
  have HB := hide hb
  have HQ := hide q
  clear hb q
  go_enter Try.func4, Try.ntmps4
  go_wp2_with fail
  rw [← hW]
  clear hW hs
  refine (begun9 _).mono ?_
  rintro e w1 ⟨rfl, hb⟩
  replace HB := below_step HB hb
  replace HQ := hide (HQ.out.later hb)
  clear hb
  obtain ⟨⟨q0, q1, q2, q3, q4, q5, q6, q7⟩, q8, q9⟩ := HQ.out
  go_wp2_with fail
  obtain ⟨V, hV⟩ : ∃ V, V = w1.alloc (row5 a b c d t) := ⟨_, rfl⟩
  have HL : Hid (Lies V w1.heap.size 0 [a, b, c, d, t]) := by rw [hV]; exact lies5 w1 a b c d t
  have HBV : Hid (Below w.heap.size w V) := by rw [hV]; exact below_step HB (by go_grown)
  have HQV : Hid (Pent V w.heap.size a b c d t) := by rw [hV]; exact HQ.out.later (by go_grown)
  have HG : Hid (w.heap.size + 1 + 1 + 1 + 1 < w1.heap.size) := block_lt_of_cell q8
  have HS : Hid (w1.heap.size < V.heap.size) := by rw [hV]; show _ < _; simp
  rw [← hV]
  clear hV HB HQ q0 q1 q2 q3 q4 q5 q6 q7 q8 q9
  go_loopw [12] (fun v wr => ∃ i : Nat, i ≤ 5 ∧ v = .int .i64 i ∧ Hid (∀ j, j < i → near18 (at' [a, b, c, d, t] j)) ∧ wr = V) (fun v _ => 5 - (intOf v).toNat)
  case atStart => exact ⟨0, by omega, rfl, fun j hj => by omega, rfl⟩
  case round =>
    obtain ⟨i, hi, rfl, HN, rfl⟩ := hrel
    by_cases h5 : i < 5
    · obtain ⟨c0, c1⟩ := HL.out i h5
      rw [Nat.zero_add] at c0 c1
      have hnx : Hid (near18 (at' [a, b, c, d, t] i) → ∀ j, j < i + 1 → near18 (at' [a, b, c, d, t] j)) := fun k j hj => by
        rcases Nat.lt_succ_iff_lt_or_eq.1 hj with h1 | h1
        · exact HN.out j h1
        · rw [h1]; exact k
      obtain ⟨p, hp⟩ : ∃ p, at' [a, b, c, d, t] i = p := ⟨_, rfl⟩
      rw [hp] at c0 c1 hnx
      clear hp
      by_cases hn : near18 p
      · obtain ⟨n1, n2, n3, n4⟩ := hn
        go_wp2
        go_roundw
        case rel => exact ⟨i + 1, by omega, by go_num, hnx.out ⟨n1, n2, n3, n4⟩, by trivial⟩
        case measure => simp [intOf]; omega
      · unfold near18 at hn
        go_wp2
        all_goals first
          | (go_ret; exact ⟨rfl, HBV.out⟩)
          | (exfalso; omega)
    · have hi5 : i = 5 := by omega
      subst hi5
      have na : near18 a := HN.out 0 (by omega)
      have nb : near18 b := HN.out 1 (by omega)
      have nc : near18 c := HN.out 2 (by omega)
      have nd : near18 d := HN.out 3 (by omega)
      have nt : near18 t := HN.out 4 (by omega)
      have pa : ptB a = true := near_pt na
      have pb : ptB b = true := near_pt nb
      have pc : ptB c = true := near_pt nc
      have pd : ptB d = true := near_pt nd
      have O1 := hide (fun w => orient13' pa pb pc w)
      have O2 := hide (fun w => orient13' pb pa pc w)
      have O3 := hide (fun w => orient13' pb pc pa w)
      have X1 := hide (orient_mv na nb nc nt)
      have X2 := hide (orient_rot na nb nc)
      have Y1 := hide (fun w => meet11' (may4' pa pb pc pd) w)
      have Y2 := hide (meet_mv' na nb nc nd nt)
      have Y3 := hide (meet_rot' na nb nc nd)
      have Y4 := hide (meet_back' pa pb pc pd)
      have t1 : wrap64 (-turnI a b c) = - turnI a b c := by rcases turn_cases a b c with h | h | h <;> rw [h] <;> exact w64 (by decide) (by decide)
      have t2 : turnI b a c = - turnI a b c := turn_swap a b c
      have t3 : turnI b c a = turnI a b c := turn_cycle a b c
      rw [t2] at O2
      rw [t3] at O3
      clear t2 t3 pa pb pc pd
      obtain ⟨n, hn⟩ : ∃ n, turnI a b c = n := ⟨_, rfl⟩
      obtain ⟨m, hm⟩ : ∃ m, meetI a b c d = m := ⟨_, rfl⟩
      rw [hn] at O1 O2 O3 X1 X2 t1
      rw [hm] at Y1 Y2 Y3 Y4
      clear hn hm
      obtain ⟨⟨q0, q1, q2, q3, q4, q5, q6, q7⟩, q8, q9⟩ := HQV.out
      go_wp2_with fail
      refine (O1.out _).mono ?_
      rintro e w' ⟨rfl, hb⟩
      replace HBV := below_step HBV hb
      replace HQV := hide (HQV.out.later hb)
      replace HL := hide (HL.out.later hb)
      replace HS := hide (Nat.lt_of_lt_of_le HS.out hb.size)
      clear hb q0 q1 q2 q3 q4 q5 q6 q7 q8 q9
      obtain ⟨⟨q0, q1, q2, q3, q4, q5, q6, q7⟩, q8, q9⟩ := HQV.out
      go_wp2_with fail
      refine (O2.out _).mono ?_
      rintro e w' ⟨rfl, hb⟩
      replace HBV := below_step HBV hb
      replace HQV := hide (HQV.out.later hb)
      replace HL := hide (HL.out.later hb)
      replace HS := hide (Nat.lt_of_lt_of_le HS.out hb.size)
      clear hb q0 q1 q2 q3 q4 q5 q6 q7 q8 q9
      obtain ⟨⟨q0, q1, q2, q3, q4, q5, q6, q7⟩, q8, q9⟩ := HQV.out
      go_wp2_with fail
      refine (O3.out _).mono ?_
      rintro e w' ⟨rfl, hb⟩
      replace HBV := below_step HBV hb
      replace HQV := hide (HQV.out.later hb)
      replace HL := hide (HL.out.later hb)
      replace HS := hide (Nat.lt_of_lt_of_le HS.out hb.size)
      clear hb q0 q1 q2 q3 q4 q5 q6 q7 q8 q9
      obtain ⟨⟨q0, q1, q2, q3, q4, q5, q6, q7⟩, q8, q9⟩ := HQV.out
      go_wp2_with fail
      have hmk := made8
      clear q0 q1 q2 q3 q4 q5 q6 q7 q8 q9
      go_region
      all_goals
        obtain ⟨U, hU⟩ : ∃ U, U = ((w'.alloc zero8).alloc zero8).drew := ⟨_, rfl⟩
        have HBU : Hid (Below w.heap.size w U) := by rw [hU]; exact below_step HBV (by go_grown)
        have HQU : Hid (Pent U w.heap.size a b c d t) := by rw [hU]; exact HQV.out.later (by go_grown)
        have HLU : Hid (Lies U w1.heap.size 0 [a, b, c, d, t]) := by rw [hU]; exact HL.out.later (by go_grown)
        clear HBV HQV HL hmk O1 O2 O3 t1
      focus
        obtain ⟨gp, hgp⟩ : ∃ g, g = w'.heap.size := ⟨_, rfl⟩
        obtain ⟨gq, hgq⟩ : ∃ g, g = w'.heap.size + 1 := ⟨_, rfl⟩
        have R1 : Hid (Row4 U gp 0 (mv t) [a, b, c, d, t]) := by rw [hgp, hU]; exact row4_a _ _ _
        have R2 : Hid (Row4 U gq 0 rot [a, b, c, d, t]) := by rw [hgq, hU]; exact row4_b _ _ _
        have z1 : w1.heap.size < gp := by have := HS.out; omega
        have z2 : w1.heap.size < gq := by have := HS.out; omega
        have z3 : gp ≠ gq := by omega
        have z4 : gp < U.heap.size := by rw [hU]; simp; omega
        have z5 : gq < U.heap.size := by rw [hU]; simp; omega
        rw [← hU]
        rw [← hgq, ← hgp]
        clear hgp hgq hU
      rotate_left
      focus
        obtain ⟨gp, hgp⟩ : ∃ g, g = w'.heap.size + 1 := ⟨_, rfl⟩
        obtain ⟨gq, hgq⟩ : ∃ g, g = w'.heap.size := ⟨_, rfl⟩
        have R1 : Hid (Row4 U gp 0 (mv t) [a, b, c, d, t]) := by rw [hgp, hU]; exact row4_b _ _ _
        have R2 : Hid (Row4 U gq 0 rot [a, b, c, d, t]) := by rw [hgq, hU]; exact row4_a _ _ _
        have z1 : w1.heap.size < gp := by have := HS.out; omega
        have z2 : w1.heap.size < gq := by have := HS.out; omega
        have z3 : gp ≠ gq := by omega
        have z4 : gp < U.heap.size := by rw [hU]; simp; omega
        have z5 : gq < U.heap.size := by rw [hU]; simp; omega
        rw [← hU]
        rw [← hgp, ← hgq]
        clear hgp hgq hU
      rotate_left
      all_goals
        clear HS
        go_wp2_with fail
        go_loopw [21] (fun v wr => ∃ i : Nat, i ≤ 4 ∧ v = .int .i64 i ∧ Hid (Below w.heap.size w wr) ∧ Hid (Pent wr w.heap.size a b c d t) ∧ Hid (Lies wr w1.heap.size 0 [a, b, c, d, t]) ∧ Hid (Row4 wr gp i (mv t) [a, b, c, d, t]) ∧ Hid (Row4 wr gq i rot [a, b, c, d, t])) (fun v _ => 4 - (intOf v).toNat)
        case atStart => exact ⟨0, by omega, rfl, HBU.out, HQU.out, HLU.out, R1.out, R2.out⟩
        case round =>
          obtain ⟨i, hi, rfl, HBr, HQr, HLr, HP, HO⟩ := hrel
          by_cases h4 : i < 4
          · obtain ⟨c0, c1⟩ := HLr.out i (by simp; omega)
            rw [Nat.zero_add] at c0 c1
            obtain ⟨p0, p1, p2, p3⟩ := HP.out i h4
            rw [if_neg (by omega)] at p0 p1
            have q8 := HQr.out.2.1
            have q9 := HQr.out.2.2
            have hnp : near18 (at' [a, b, c, d, t] i) := HN.out i (by omega)
            have hnt : near18 t := nt
            obtain ⟨x, hx⟩ : ∃ x, at' [a, b, c, d, t] i = x := ⟨_, rfl⟩
            rw [hx] at c0 c1 hnp
            obtain ⟨n1, n2, n3, n4⟩ := hnp
            obtain ⟨n5, n6, n7, n8⟩ := hnt
            have e1 : (i : Int) < 4 := by omega
            have e2 : (0 : Int) ≤ i := by omega
            have e3 : (i : Int) < 5 := by omega
            have e4 : IntKind.i64.wrap (x.x + t.x) = x.x + t.x := IntWalk.i64_in _ (by omega)
            have e5 : IntKind.i64.wrap (x.y + t.y) = x.y + t.y := IntWalk.i64_in _ (by omega)
            have P18 := hide (fun w => pt18 (x.x + t.x) (x.y + t.y) w)
            go_wp2_with fail
            have S0 : Hid (Four wr w1.heap.size (w.heap.size + 1 + 1 + 1 + 1) i x t) := ⟨c0, c1, q8, q9⟩
            have k1 : gp ≠ w1.heap.size := by omega
            have k2 : gp ≠ w.heap.size + 1 + 1 + 1 + 1 := by have := HG.out; omega
            have K := hide (fun (W : World) (u v : Value) (h : Four W w1.heap.size (w.heap.size + 1 + 1 + 1 + 1) i x t) => h.set (i := i) (g := gp) k1 k2 u v)
            clear c0 c1 q8 q9
            go_region_held3 (fun W => W.cell? ⟨w1.heap.size, i * 2, none⟩ = some (.int .i64 x.x) ∧ W.cell? ⟨w1.heap.size, i * 2 + 1, none⟩ = some (.int .i64 x.y) ∧ W.cell? ⟨w.heap.size + 1 + 1 + 1 + 1, 0, none⟩ = some (.int .i64 t.x) ∧ W.cell? ⟨w.heap.size + 1 + 1 + 1 + 1, 1, none⟩ = some (.int .i64 t.y))
              (first | exact S0.out | exact Four.later (W := wr.drew) S0.out hb | exact K.out _ _ _ (Four.later (W := wr.drew) S0.out hb))
              (first
                | (go_at_call 18; refine (P18.out _).mono ?_; rintro e w2 ⟨rfl, hb⟩; have d0 := later (w := wr.drew) hb p0; have d1 := later (w := wr.drew) hb p1; have d2 := (hb.frozen (block_lt_of_cell p0)).trans p2; have d3 := (hb.frozen (block_lt_of_cell p1)).trans p3))
            rename_i hHeld
            clear hHeld
            obtain ⟨Z, hZ⟩ : ∃ Z, Z = (w2.setCell ⟨gp, i * 2, none⟩ (.int .i64 (x.x + t.x))).setCell ⟨gp, i * 2 + 1, none⟩ (.int .i64 (x.y + t.y)) := ⟨_, rfl⟩
            have hbw := HBr
            have F1 := hide (step_row (mv t) hb HP.out h4 (by rw [hx]; rfl) (by rw [hx]; rfl) hZ)
            have F2 := hide (step_other hb HO.out z3 hZ)
            have F3 := hide (step_pent hb HQr.out (by have := HG.out; omega) hZ)
            have F4 := hide (step_lies hb HLr.out k1 hZ)
            have F5 := hide (step_below hb HBr.out (by have := HG.out; omega) hZ)
            rw [← hZ]
            clear hZ hb d0 d1 d2 d3 p0 p1 p2 p3 S0 K P18 e4 e5 hbw HP HO HQr HLr HBr
            obtain ⟨c0, c1⟩ := F4.out i (by simp; omega)
            rw [Nat.zero_add, hx] at c0 c1
            have q8 := F3.out.2.1
            have q9 := F3.out.2.2
            obtain ⟨p0, p1, p2, p3⟩ := F2.out i h4
            rw [if_neg (by omega)] at p0 p1
            have S0 : Hid (Four Z w1.heap.size (w.heap.size + 1 + 1 + 1 + 1) i x t) := ⟨c0, c1, q8, q9⟩
            have k3 : gq ≠ w1.heap.size := by omega
            have k4 : gq ≠ w.heap.size + 1 + 1 + 1 + 1 := by have := HG.out; omega
            have K := hide (fun (W : World) (u v : Value) (h : Four W w1.heap.size (w.heap.size + 1 + 1 + 1 + 1) i x t) => h.set (i := i) (g := gq) k3 k4 u v)
            have e4 : IntKind.i64.wrap (-x.y) = -x.y := IntWalk.i64_in _ (by omega)
            have P18 := hide (fun w => pt18 (-x.y) x.x w)
            clear c0 c1 q8 q9
            go_wp2_with fail
            go_region_held3 (fun W => W.cell? ⟨w1.heap.size, i * 2, none⟩ = some (.int .i64 x.x) ∧ W.cell? ⟨w1.heap.size, i * 2 + 1, none⟩ = some (.int .i64 x.y) ∧ W.cell? ⟨w.heap.size + 1 + 1 + 1 + 1, 0, none⟩ = some (.int .i64 t.x) ∧ W.cell? ⟨w.heap.size + 1 + 1 + 1 + 1, 1, none⟩ = some (.int .i64 t.y))
              (first | exact S0.out | exact Four.later (W := Z.drew) S0.out hb | exact K.out _ _ _ (Four.later (W := Z.drew) S0.out hb))
              (first
                | (go_at_call 18; refine (P18.out _).mono ?_; rintro e w3 ⟨rfl, hb⟩; have d0 := later (w := Z.drew) hb p0; have d1 := later (w := Z.drew) hb p1; have d2 := (hb.frozen (block_lt_of_cell p0)).trans p2; have d3 := (hb.frozen (block_lt_of_cell p1)).trans p3))
            rename_i hHeld
            clear hHeld
            obtain ⟨Y, hY⟩ : ∃ Y, Y = (w3.setCell ⟨gq, i * 2, none⟩ (.int .i64 (-x.y))).setCell ⟨gq, i * 2 + 1, none⟩ (.int .i64 x.x) := ⟨_, rfl⟩
            have D1 := hide (step_row rot hb F2.out h4 (by rw [hx]; rfl) (by rw [hx]; rfl) hY)
            have D2 := hide (step_other hb F1.out (Ne.symm z3) hY)
            have D3 := hide (step_pent hb F3.out (by have := HG.out; omega) hY)
            have D4 := hide (step_lies hb F4.out k3 hY)
            have D5 := hide (step_below hb F5.out (by have := HG.out; omega) hY)
            rw [← hY]
            clear hY hb d0 d1 d2 d3 p0 p1 p2 p3 S0 K P18 e4 F1 F2 F3 F4 F5
            go_wp2
            go_roundw
            case rel => exact ⟨i + 1, by omega, by go_num, D5.out, D3.out, D4.out, D2.out, D1.out⟩
            case measure => simp [intOf]; omega
          · have hi4 : i = 4 := by omega
            subst hi4
            have HB := HBr
            have HQ := HQr
            clear HBr HQr HLr HLU HQU HBU R1 R2
            obtain ⟨r0, r1, r2, r3, r4, r5, r6, r7⟩ := HP.out.full
            have k0 := cell_regrown r0
            have k1 := cell_regrown r1
            have k2 := cell_regrown r2
            have k3 := cell_regrown r3
            have k4 := cell_regrown r4
            have k5 := cell_regrown r5
            have CC : ∀ dd os, Calls Try.prog 13 #[pv (mv t a).x (mv t a).y, pv (mv t b).x (mv t b).y, pv (mv t c).x (mv t c).y] (grow (redrawn wr dd) os) fun e w'' => e = .returned (.tuple #[.int .i64 n, .int .i64 0]) ∧ ∃ p : Regrown, w'' = grow (redrawn wr p.d) p.os := fun dd os => Calls.regrown_of (X1.out _)
            go_wp2_with fail
            refine wp_region_quiet_below (by kernel_rfl) (by kernel_rfl) ?_
            repeat (go_big_quiet_step (with_reducible exact CC _ _))
            refine wpQuiet_nil ?_
            intro x1 hw'
            have hbx1 : Below wr.heap.size wr x1 := by
              obtain ⟨⟨dq, osq⟩, hw''⟩ := hw'
              rw [hw'']
              exact below_regrown wr dq osq
            clear hw' CC k0 k1 k2 k3 k4 k5
            replace HB := below_step HB hbx1
            replace HQ := hide (HQ.out.later hbx1)
            replace HP := hide (HP.out.later hbx1)
            replace HO := hide (HO.out.later hbx1)
            clear hbx1
            clear r0 r1 r2 r3 r4 r5 r6 r7
            obtain ⟨r0, r1, r2, r3, r4, r5, r6, r7⟩ := HO.out.full
            have k0 := cell_regrown r0
            have k1 := cell_regrown r1
            have k2 := cell_regrown r2
            have k3 := cell_regrown r3
            have k4 := cell_regrown r4
            have k5 := cell_regrown r5
            have CC : ∀ dd os, Calls Try.prog 13 #[pv (rot a).x (rot a).y, pv (rot b).x (rot b).y, pv (rot c).x (rot c).y] (grow (redrawn x1 dd) os) fun e w'' => e = .returned (.tuple #[.int .i64 n, .int .i64 0]) ∧ ∃ p : Regrown, w'' = grow (redrawn x1 p.d) p.os := fun dd os => Calls.regrown_of (X2.out _)
            go_wp2_with fail
            refine wp_region_quiet_below (by kernel_rfl) (by kernel_rfl) ?_
            repeat (go_big_quiet_step (with_reducible exact CC _ _))
            refine wpQuiet_nil ?_
            intro x2 hw'
            have hbx2 : Below x1.heap.size x1 x2 := by
              obtain ⟨⟨dq, osq⟩, hw''⟩ := hw'
              rw [hw'']
              exact below_regrown x1 dq osq
            clear hw' CC k0 k1 k2 k3 k4 k5
            replace HB := below_step HB hbx2
            replace HQ := hide (HQ.out.later hbx2)
            replace HP := hide (HP.out.later hbx2)
            replace HO := hide (HO.out.later hbx2)
            clear hbx2
            clear r0 r1 r2 r3 r4 r5 r6 r7
            obtain ⟨⟨q0, q1, q2, q3, q4, q5, q6, q7⟩, q8, q9⟩ := HQ.out
            go_wp2_with fail
            refine (Y1.out _).mono ?_
            rintro e x3 ⟨rfl, hb⟩
            replace HB := below_step HB hb
            replace HQ := hide (HQ.out.later hb)
            replace HP := hide (HP.out.later hb)
            replace HO := hide (HO.out.later hb)
            clear hb q0 q1 q2 q3 q4 q5 q6 q7 q8 q9
            obtain ⟨r0, r1, r2, r3, r4, r5, r6, r7⟩ := HP.out.full
            have k0 := cell_regrown r0
            have k1 := cell_regrown r1
            have k2 := cell_regrown r2
            have k3 := cell_regrown r3
            have k4 := cell_regrown r4
            have k5 := cell_regrown r5
            have k6 := cell_regrown r6
            have k7 := cell_regrown r7
            have CC : ∀ dd os, Calls Try.prog 11 #[pv (mv t a).x (mv t a).y, pv (mv t b).x (mv t b).y, pv (mv t c).x (mv t c).y, pv (mv t d).x (mv t d).y] (grow (redrawn x3 dd) os) fun e w'' => e = .returned (.tuple #[.int .i64 m, .int .i64 0]) ∧ ∃ p : Regrown, w'' = grow (redrawn x3 p.d) p.os := fun dd os => Calls.regrown_of (Y2.out _)
            go_wp2_with fail
            refine wp_region_quiet_below (by kernel_rfl) (by kernel_rfl) ?_
            repeat (go_big_quiet_step (with_reducible exact CC _ _))
            refine wpQuiet_nil ?_
            intro x4 hw'
            have hbx4 : Below x3.heap.size x3 x4 := by
              obtain ⟨⟨dq, osq⟩, hw''⟩ := hw'
              rw [hw'']
              exact below_regrown x3 dq osq
            clear hw' CC k0 k1 k2 k3 k4 k5 k6 k7
            replace HB := below_step HB hbx4
            replace HQ := hide (HQ.out.later hbx4)
            replace HP := hide (HP.out.later hbx4)
            replace HO := hide (HO.out.later hbx4)
            clear hbx4
            clear r0 r1 r2 r3 r4 r5 r6 r7
            obtain ⟨r0, r1, r2, r3, r4, r5, r6, r7⟩ := HO.out.full
            have k0 := cell_regrown r0
            have k1 := cell_regrown r1
            have k2 := cell_regrown r2
            have k3 := cell_regrown r3
            have k4 := cell_regrown r4
            have k5 := cell_regrown r5
            have k6 := cell_regrown r6
            have k7 := cell_regrown r7
            have CC : ∀ dd os, Calls Try.prog 11 #[pv (rot a).x (rot a).y, pv (rot b).x (rot b).y, pv (rot c).x (rot c).y, pv (rot d).x (rot d).y] (grow (redrawn x4 dd) os) fun e w'' => e = .returned (.tuple #[.int .i64 m, .int .i64 0]) ∧ ∃ p : Regrown, w'' = grow (redrawn x4 p.d) p.os := fun dd os => Calls.regrown_of (Y3.out _)
            go_wp2_with fail
            refine wp_region_quiet_below (by kernel_rfl) (by kernel_rfl) ?_
            repeat (go_big_quiet_step (with_reducible exact CC _ _))
            refine wpQuiet_nil ?_
            intro x5 hw'
            have hbx5 : Below x4.heap.size x4 x5 := by
              obtain ⟨⟨dq, osq⟩, hw''⟩ := hw'
              rw [hw'']
              exact below_regrown x4 dq osq
            clear hw' CC k0 k1 k2 k3 k4 k5 k6 k7
            replace HB := below_step HB hbx5
            replace HQ := hide (HQ.out.later hbx5)
            replace HP := hide (HP.out.later hbx5)
            replace HO := hide (HO.out.later hbx5)
            clear hbx5
            clear r0 r1 r2 r3 r4 r5 r6 r7
            obtain ⟨⟨q0, q1, q2, q3, q4, q5, q6, q7⟩, q8, q9⟩ := HQ.out
            go_wp2_with fail
            refine (Y4.out _).mono ?_
            rintro e x6 ⟨rfl, hb⟩
            replace HB := below_step HB hb
            replace HQ := hide (HQ.out.later hb)
            replace HP := hide (HP.out.later hb)
            replace HO := hide (HO.out.later hb)
            clear hb q0 q1 q2 q3 q4 q5 q6 q7 q8 q9
            go_wp2
            go_ret
            exact ⟨by simp, HB.out⟩
end Go.Proofs.Ytgnojjbdioldbaa
