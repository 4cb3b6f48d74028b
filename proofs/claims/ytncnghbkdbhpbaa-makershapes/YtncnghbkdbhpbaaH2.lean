/- begun: what the statements of the fifth layer ask first. -/
import Derived.Test.YtncnghbkdbhpbaaE3
import Derived.Test.YtncnghbkdbhpbaaE4
import Derived.Test.YtncnghbkdbhpbaaE6
namespace Go.Proofs.Ytncnghbkdbhpbaa
open Go.RowKit Go.Sort
open Go

set_option maxRecDepth 100000 in
set_option maxHeartbeats 4000000 in
theorem begun6 (w : World) : Calls Try.prog 6 #[] w fun e w' => e = .returned (.bool true) ∧ Below w.heap.size w w' := by
  have c3 : (cycleL 3).length = 3 := cycleL_length 3 (by omega)
  have g4 : (gridL 2 2 4).length = 4 := by decide
  have C := hide (cycle12ok 3 w (by omega) (by omega))
  have G := fun V => grid17ok 2 2 4 4 V (by omega) (by omega) (by omega) (by omega) (by decide) (by omega) (by decide) (by omega)
  have F := fun V => full15big 79 3081 V (by omega) (by omega) (by decide) (by omega) (by omega)
  have HG := hide G
  have HF := hide F
  have H3 := hide c3
  have H4 := hide g4
  clear c3 g4 G F
  go_enter Try.func6, Try.ntmps6
  go_wp2_with fail
  refine C.out.mono ?_
  rintro e w1 ⟨hb1, p, c, rfl, ho⟩
  rw [H3.out]
  have hb1' : Below w.heap.size w (w1.alloc (.cells #[.int .i64 3, .slice p 3 c] 28)) := hb1.alloc hb1.size _
  obtain ⟨U, hU⟩ : ∃ U, U = w1.alloc (.cells #[.int .i64 3, .slice p 3 c] 28) := ⟨_, rfl⟩
  rw [← hU] at hb1'
  have k1 : U.cell? ⟨w1.heap.size, 1, none⟩ = some (.slice p 3 c) := by rw [hU]; go_cell
  have HB1 := hide hb1'
  have HK1 := hide k1
  clear hb1 ho hb1' k1
  go_wp2_with fail
  rw [← hU]
  clear hU
  refine (HG.out U).mono ?_
  rintro e w2 ⟨hb2, p2, c2, rfl, ho2⟩
  rw [H4.out]
  obtain ⟨U2, hU2⟩ : ∃ U2, U2 = w2.alloc (.cells #[.int .i64 4, .slice p2 4 c2] 28) := ⟨_, rfl⟩
  have hbU : Below U.heap.size U U2 := by rw [hU2]; exact hb2.alloc hb2.size _
  have k2 : U2.cell? ⟨w2.heap.size, 1, none⟩ = some (.slice p2 4 c2) := by rw [hU2]; go_cell
  have HB2 := hide (below_step HB1.out hbU)
  have HK2 := hide k2
  have HK1' := hide (later hbU HK1.out)
  clear hb2 ho2 hbU k2
  go_wp2_with fail
  rw [← hU2]
  clear hU2
  refine (HF.out U2).mono ?_
  rintro e w3 ⟨hb3, p3, c3, rfl, ho3⟩
  have k1 := later hb3 HK1'.out
  have k2 := later hb3 HK2.out
  have l1 : w1.heap.size < w3.heap.size := block_lt_of_cell k1
  have l2 : w2.heap.size < w3.heap.size := block_lt_of_cell k2
  have n1 : w1.heap.size ≠ w3.heap.size := by omega
  have n2 : w2.heap.size ≠ w3.heap.size := by omega
  have HB3 := hide (below_step HB2.out hb3)
  clear hb3 ho3
  go_wp2
  go_ret
  exact ⟨rfl, HB3.out.alloc HB3.out.size _⟩
end Go.Proofs.Ytncnghbkdbhpbaa
