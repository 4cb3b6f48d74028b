/- The document's small functions of a net: From, pair, in every world. -/
import Derived.Test.YtghffodjffkijabT4
namespace Go.Proofs.Ytghffodjffkijab
open Go.RowKit Go.Sort
open Go

/-- The end of an edge that a half-edge leaves. -/
def fromL (es : List Pt) (h : Nat) : Int := if h % 2 = 0 then (at' es (h / 2)).x else (at' es (h / 2)).y
theorem load48 {V : World} {g : Nat} {x y : Int} (q0 : V.cell? ⟨g, 0, none⟩ = some (.int .i64 x)) (q1 : V.cell? ⟨g, 1, none⟩ = some (.int .i64 y)) : (loadVar 47 ⟨g, 0, none⟩).run Try.prog V = .ok (pv x y) V := by
  have l0 : (load ⟨g, 0, none⟩).run Try.prog V = .ok (.int .i64 x) V := by simp [go_sem, q0]
  have l1 : (load ⟨g, 1, none⟩).run Try.prog V = .ok (.int .i64 y) V := by simp [go_sem, q1]
  simp only [loadVar, Sem.run_bind, Try.isAgg47, Result.andThen_ok, if_true, Try.sizeOf47]
  simp only [loadCells, go_sem]
  simp only [Sem.run_bind, Nat.zero_add, l0, l1, Result.andThen_ok, Sem.run_pure]
  rfl
theorem ret_pair {fn : Func} {c : Tmp} (hr : fn.results = #[.cell c 47]) {tmps : Array Value} {V : World} {g : Nat} {x y : Int} (h2 : tmps.getD c undef = .pointer (some ⟨g, 0, none⟩)) (q0 : V.cell? ⟨g, 0, none⟩ = some (.int .i64 x)) (q1 : V.cell? ⟨g, 1, none⟩ = some (.int .i64 y)) :
    (results fn tmps).run Try.prog V = .ok (pv x y) V := by
  rw [results_c hr, h2, asA, Result.andThen_ok, load48 q0 q1]
def prP (p : Pt) : Pt := if p.y < p.x then ⟨p.y, p.x⟩ else p
def parB (es : List Pt) (e : Nat) : Bool := (List.range e).any fun i => decide (prP (at' es i) = prP (at' es e))
theorem parB_no {es : List Pt} {e : Nat} (h : ∀ i, i < e → prP (at' es i) ≠ prP (at' es e)) : parB es e = false := by
  simp only [parB, List.any_eq_false, List.mem_range, decide_eq_true_eq]
  exact h
theorem parB_yes {es : List Pt} {e i : Nat} (hi : i < e) (h : prP (at' es i) = prP (at' es e)) : parB es e = true := by
  simp only [parB, List.any_eq_true, List.mem_range, decide_eq_true_eq]
  exact ⟨i, hi, h⟩
end Go.Proofs.Ytghffodjffkijab
