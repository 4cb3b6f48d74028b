/- Lists of calls in memory. -/
import Derived.Test.YtgfiofogcnnkhaaN2
namespace Go.Proofs.Ytgfiofogcnnkhaa
open Go.RowKit Go.Sort
open Go

/-- A call. -/
structure Opr where
  k : Int
  a : Int
  b : Int
  c : Int
  deriving Inhabited
def oat (l : List Opr) (j : Nat) : Opr := l.getD j ⟨0, 0, 0, 0⟩
def OHas (w : World) (p : Option Addr) (l : List Opr) : Prop := l = [] ∨ ∃ b off, p = some ⟨b, off, none⟩ ∧ ∀ j, j < l.length → w.cell? ⟨b, off + j * 4, none⟩ = some (.int .i64 (oat l j).k) ∧ w.cell? ⟨b, off + j * 4 + 1, none⟩ = some (.int .i64 (oat l j).a) ∧ w.cell? ⟨b, off + j * 4 + 2, none⟩ = some (.int .i64 (oat l j).b) ∧ w.cell? ⟨b, off + j * 4 + 3, none⟩ = some (.int .i64 (oat l j).c)
theorem OHas.later {w w' : World} {p : Option Addr} {l : List Opr} (h : OHas w p l) (hb : Below w.heap.size w w') : OHas w' p l := by
  rcases h with h | ⟨b, off, h1, h2⟩
  · exact Or.inl h
  · exact Or.inr ⟨b, off, h1, fun j hj => ⟨Ytgfiofogcnnkhaa.later hb (h2 j hj).1, Ytgfiofogcnnkhaa.later hb (h2 j hj).2.1, Ytgfiofogcnnkhaa.later hb (h2 j hj).2.2.1, Ytgfiofogcnnkhaa.later hb (h2 j hj).2.2.2⟩⟩
end Go.Proofs.Ytgfiofogcnnkhaa
