/- Numbers put behind numbers. -/
import Derived.Test.YtmmbbfmkhbengaaK0
namespace Go.Proofs.Ytmmbbfmkhbengaa
open Go.RowKit Go.Sort
open Go

/-- A number behind numbers that are owned: what comes of an append, and that nothing below changes. -/
theorem push_int {w : World} {B : Nat} {v : Value} {l : List Int} (o : IOwns w B v l) (x : Int) (hB : B ≤ w.heap.size) (hl : l.length ≤ 90000) : ∃ v' w', (Builtin.append_ #[25, 25] 25 #[v, .slice (some ⟨w.heap.size, 0, none⟩) 1 1]).run Try.prog (w.alloc (.cells #[.int .i64 x] 3)) = .ok v' w' ∧ IOwns w' B v' (l ++ [x]) ∧ Below B w w' := by
  have o' : IOwns (w.alloc (.cells #[.int .i64 x] 3)) B v l := o.later (by go_grown)
  obtain ⟨v', w', e1, o1, gr, _⟩ := append_int o' (one_int w x) (by simp; omega) hl
  exact ⟨v', w', e1, o1, below_grown (w := w.alloc (.cells #[.int .i64 x] 3)) (by go_grown) o' (Nat.le_refl _) (by simp; omega) gr⟩
end Go.Proofs.Ytmmbbfmkhbengaa
