/- Box, in every world. -/
import Derived.Test.YtgnojjbdioldbaaG11
import Derived.Test.YtgnojjbdioldbaaG15
import Derived.Deep.RegionHeld3
namespace Go.Proofs.Ytgnojjbdioldbaa
open Go.RowKit Go.Sort
open Go

def mnN (f : Nat → Int) : Nat → Int
  | 0 => f 0
  | k + 1 => min (mnN f k) (f (k + 1))
def mxN (f : Nat → Int) : Nat → Int
  | 0 => f 0
  | k + 1 => max (mxN f k) (f (k + 1))
theorem mnN_le (f : Nat → Int) : ∀ k j, j ≤ k → mnN f k ≤ f j
  | 0, j, h => by have : j = 0 := by omega
                  subst this; exact Int.le_refl _
  | k + 1, j, h => by
    simp only [mnN]
    rcases Nat.lt_or_ge j (k + 1) with h1 | h1
    · have := mnN_le f k j (by omega); omega
    · have : j = k + 1 := by omega
      subst this; omega
theorem le_mxN (f : Nat → Int) : ∀ k j, j ≤ k → f j ≤ mxN f k
  | 0, j, h => by have : j = 0 := by omega
                  subst this; exact Int.le_refl _
  | k + 1, j, h => by
    simp only [mxN]
    rcases Nat.lt_or_ge j (k + 1) with h1 | h1
    · have := le_mxN f k j (by omega); omega
    · have : j = k + 1 := by omega
      subst this; omega
theorem mnN_at (f : Nat → Int) : ∀ k, ∃ j, j ≤ k ∧ f j = mnN f k
  | 0 => ⟨0, Nat.le_refl _, rfl⟩
  | k + 1 => by
    obtain ⟨j, hj, e⟩ := mnN_at f k
    simp only [mnN]
    by_cases h : mnN f k ≤ f (k + 1)
    · exact ⟨j, by omega, by rw [e]; omega⟩
    · exact ⟨k + 1, Nat.le_refl _, by omega⟩
theorem mxN_at (f : Nat → Int) : ∀ k, ∃ j, j ≤ k ∧ f j = mxN f k
  | 0 => ⟨0, Nat.le_refl _, rfl⟩
  | k + 1 => by
    obtain ⟨j, hj, e⟩ := mxN_at f k
    simp only [mxN]
    by_cases h : f (k + 1) ≤ mxN f k
    · exact ⟨j, by omega, by rw [e]; omega⟩
    · exact ⟨k + 1, Nat.le_refl _, by omega⟩
def loN (ps : List Pt) (k : Nat) : Pt := ⟨mnN (fun j => (at' ps j).x) k, mnN (fun j => (at' ps j).y) k⟩
def hiN (ps : List Pt) (k : Nat) : Pt := ⟨mxN (fun j => (at' ps j).x) k, mxN (fun j => (at' ps j).y) k⟩

/-- Two boxes of one's own that lie apart. -/
def Own2 (W : World) (g h : Nat) (p q : Pt) : Prop := Own W g p ∧ Own W h q
theorem Own2.later {W W' : World} {g h : Nat} {p q : Pt} (k : Own2 W g h p q) (hb : Below W.heap.size W W') : Own2 W' g h p q := ⟨k.1.later hb, k.2.later hb⟩
theorem own_other {W : World} {g h : Nat} {p : Pt} (k : Own W g p) (hne : h ≠ g) (i : Nat) (v : Value) : Own (W.setCell ⟨h, i, none⟩ v) g p := by
  obtain ⟨q0, q1, q2, q3⟩ := k
  have ne : ∀ j, (⟨h, i, none⟩ : Addr) ≠ ⟨g, j, none⟩ := fun j e => by injection e with e1 e2; exact hne e1
  exact ⟨by rw [World.cell?_setCell_other _ _ _ _ (ne 0)]; exact q0, by rw [World.cell?_setCell_other _ _ _ _ (ne 1)]; exact q1, by rw [World.frozen?_setCell]; exact q2, by rw [World.frozen?_setCell]; exact q3⟩

theorem set4 {W : World} {g h : Nat} {p q : Pt} (k : Own2 W g h p q) (hne : g ≠ h) (a b : Pt) : ∃ V, V = (((W.setCell ⟨g, 0, none⟩ (.int .i64 a.x)).setCell ⟨g, 1, none⟩ (.int .i64 a.y)).setCell ⟨h, 0, none⟩ (.int .i64 b.x)).setCell ⟨h, 1, none⟩ (.int .i64 b.y) ∧ Own2 V g h a b ∧ ∀ B w, B ≤ g → B ≤ h → Below B w W → Below B w V := by
  refine ⟨_, rfl, ⟨own_other (own_other (k.1.set a) (Ne.symm hne) 0 _) (Ne.symm hne) 1 _, ?_⟩, fun B w hg hh hb => ?_⟩
  · have k2 : Own ((W.setCell ⟨g, 0, none⟩ (.int .i64 a.x)).setCell ⟨g, 1, none⟩ (.int .i64 a.y)) h q := own_other (own_other k.2 hne 0 _) hne 1 _
    exact k2.set b
  · exact (((hb.setCell (by exact hg) _).setCell (by exact hg) _).setCell (by exact hh) _).setCell (by exact hh) _
def boxE (ps : List Pt) : Int := if mayB ps then (if ps.length = 0 then 9 else 0) else 1
def boxLo (ps : List Pt) : Pt := if mayB ps then (if ps.length = 0 then ⟨0, 0⟩ else loN ps (ps.length - 1)) else ⟨0, 0⟩
def boxHi (ps : List Pt) : Pt := if mayB ps then (if ps.length = 0 then ⟨0, 0⟩ else hiN ps (ps.length - 1)) else ⟨0, 0⟩
theorem zeros (w : World) : ∃ W, W = (w.alloc (.cells #[.int .i64 0, .int .i64 0] 23)).alloc (.cells #[.int .i64 0, .int .i64 0] 23) ∧ Below w.heap.size w W ∧ Own2 W w.heap.size (w.heap.size + 1) ⟨0, 0⟩ ⟨0, 0⟩ :=
  ⟨_, rfl, by go_grown, ⟨by go_cell, by go_cell, by simp [go_sem], by simp [go_sem]⟩, by go_cell, by go_cell, by simp [go_sem], by simp [go_sem]⟩

theorem keep2 {W W' : World} {a c : Addr} {u v : Value} (h : W.cell? a = some u ∧ W.cell? c = some v) (hb : Below W.heap.size W W') : W'.cell? a = some u ∧ W'.cell? c = some v := ⟨Ytgnojjbdioldbaa.later hb h.1, Ytgnojjbdioldbaa.later hb h.2⟩
end Go.Proofs.Ytgnojjbdioldbaa
