/- A net without loops and without two edges alike is told simple. -/
import Derived.Test.YtncnghbkdbhpbaaV3
import Derived.Test.YtncnghbkdbhpbaaV4
namespace Go.Proofs.Ytncnghbkdbhpbaa
open Go.RowKit Go.Sort
open Go

theorem lpN_zero {es : List Pt} (h : ∀ p, p ∈ es → p.x ≠ p.y) : ∀ i, i ≤ es.length → lpN es i = 0
  | 0, _ => rfl
  | i + 1, hi => by
    simp only [lpN]
    rw [lpN_zero h i (by omega), if_neg (h _ (at_mem (by omega)))]
    rfl
theorem pcN_zero {es : List Pt} (h : (es.map prP).Nodup) : ∀ i, i ≤ es.length → pcN es i = 0
  | 0, _ => rfl
  | i + 1, hi => by
    simp only [pcN]
    rw [pcN_zero h i (by omega), par_none h i (by omega)]
    simp
/-- Stacked triangulations are told simple. -/
theorem stk_simple (seed : Int) (j : Nat) : lpN (stk seed j).es (stk seed j).es.length = 0 ∧ pcN (stk seed j).es (stk seed j).es.length = 0 :=
  ⟨lpN_zero (stk_good seed j).2.1 _ (Nat.le_refl _), pcN_zero (stk_good seed j).2.2 _ (Nat.le_refl _)⟩
end Go.Proofs.Ytncnghbkdbhpbaa
