/- The statements' own small functions; the document's Same and Chosen, in every world. -/
import Derived.Test.YtghffodjffkijabN5
import Derived.Test.YtghffodjffkijabR1
import Derived.Test.YtghffodjffkijabN7
namespace Go.Proofs.Ytghffodjffkijab
open Go.RowKit Go.Sort
open Go

def lightB (n : Int) (es : List Pt) : Bool := decide (es.length ≤ 300) && (decide (n ≤ 300) || !netB n es)
theorem two_args (w : World) (n m : Int) (p q : Option Addr) (k l cp cq : Nat) : ∃ W, W = (w.alloc (nbx n p k cp)).alloc (nbx m q l cq) ∧ Below w.heap.size w W ∧ NOwn W w.heap.size n p k cp ∧ NOwn W (w.heap.size + 1) m q l cq :=
  ⟨_, rfl, by go_grown, ⟨by go_cell, by go_cell, by simp [go_sem], by simp [go_sem]⟩, by go_cell, by go_cell, by simp [go_sem], by simp [go_sem]⟩
end Go.Proofs.Ytghffodjffkijab
