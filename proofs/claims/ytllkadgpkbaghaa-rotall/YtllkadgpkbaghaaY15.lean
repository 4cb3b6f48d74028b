/- The law's own first calls. -/
import Derived.Test.YtllkadgpkbaghaaY14
import Derived.Test.YtllkadgpkbaghaaY10
namespace Go.Proofs.Ytllkadgpkbaghaa
open Go.RowKit Go.Sort
open Go

def threeE : List Pt := [⟨0, 1⟩, ⟨0, 1⟩, ⟨0, 1⟩]
def rotA : List (List Int) := [[0, 2, 4], [1, 5, 3]]
def rotB : List (List Int) := [[0, 2, 4], [1, 3, 5]]
set_option maxRecDepth 100000 in
set_option maxHeartbeats 4000000 in
theorem three34 (w : World) : Calls Try.prog 34 #[] w fun e w' => ∃ g, e = .returned (nv 2 (some ⟨g, 0, none⟩) 3 3) ∧ Lies w' g 0 threeE ∧ Below w.heap.size w w' := by
  go_enter Try.func34, Try.ntmps34
  go_wp2
  obtain ⟨V, hV⟩ : ∃ V, V = (w.alloc (.cells #[.int .i64 2, .slice (some ⟨w.heap.size + 1, 0, none⟩) 3 3] 24)).alloc (.cells #[.int .i64 0, .int .i64 1, .int .i64 0, .int .i64 1, .int .i64 0, .int .i64 1] 64) := ⟨_, rfl⟩
  have hN : NOwn V w.heap.size 2 (some ⟨w.heap.size + 1, 0, none⟩) 3 3 := by rw [hV]; exact ⟨by go_cell, by go_cell, by go_cell, by go_cell⟩
  have hb : Below w.heap.size w V := by rw [hV]; go_grown
  rw [← hV]
  refine bodyPost_ret (ret_net1 Try.results34 rfl hN) rfl ⟨_, rfl, ?_, hb⟩
  intro j hj
  rw [hV]
  simp only [threeE, List.length_cons, List.length_nil] at hj
  rcases (by omega : j = 0 ∨ j = 1 ∨ j = 2) with rfl | rfl | rfl
  all_goals exact ⟨by simp only [at', threeE, List.getD_cons_zero, List.getD_cons_succ]; go_cell, by simp only [at', threeE, List.getD_cons_zero, List.getD_cons_succ]; go_cell⟩
set_option maxRecDepth 100000 in
/-- Two lists of three numbers. -/
theorem two_lists (w : World) (a b c d e f : Int) : ∃ W, W = ((w.alloc (.cells #[.int .i64 a, .int .i64 b, .int .i64 c] 3)).alloc (.cells #[.int .i64 d, .int .i64 e, .int .i64 f] 3)).alloc (.cells #[.slice (some ⟨w.heap.size, 0, none⟩) 3 3, .slice (some ⟨w.heap.size + 1, 0, none⟩) 3 3] 27) ∧ Below w.heap.size w W ∧ RHas W (some ⟨w.heap.size + 1 + 1, 0, none⟩) [[a, b, c], [d, e, f]] := by
  refine ⟨_, rfl, by go_grown, Or.inr ⟨w.heap.size + 1 + 1, 0, rfl, fun v hv => ?_⟩⟩
  simp only [List.length_cons, List.length_nil] at hv
  rcases (by omega : v = 0 ∨ v = 1) with rfl | rfl
  · refine ⟨some ⟨w.heap.size, 0, none⟩, 3, by simp only [lat, List.getD_cons_zero, List.length_cons, List.length_nil]; go_cell, Or.inr ⟨w.heap.size, 0, rfl, fun j hj => ?_⟩, by simp [lat]; unfold maxLen; omega, by simp [lat], fun h => by cases h⟩
    simp only [lat, List.getD_cons_zero, List.length_cons, List.length_nil] at hj
    rcases (by omega : j = 0 ∨ j = 1 ∨ j = 2) with rfl | rfl | rfl
    all_goals (simp only [lat, iat, List.getD_cons_zero, List.getD_cons_succ]; go_cell)
  · refine ⟨some ⟨w.heap.size + 1, 0, none⟩, 3, by simp only [lat, List.getD_cons_zero, List.getD_cons_succ, List.length_cons, List.length_nil]; go_cell, Or.inr ⟨w.heap.size + 1, 0, rfl, fun j hj => ?_⟩, by simp [lat]; unfold maxLen; omega, by simp [lat], fun h => by cases h⟩
    simp only [lat, List.getD_cons_zero, List.getD_cons_succ, List.length_cons, List.length_nil] at hj
    rcases (by omega : j = 0 ∨ j = 1 ∨ j = 2) with rfl | rfl | rfl
    all_goals (simp only [lat, iat, List.getD_cons_zero, List.getD_cons_succ]; go_cell)
theorem rotA_is : rotI 2 threeE rotA = 0 := by decide
theorem rotB_is : rotI 2 threeE rotB = 0 := by decide
theorem facesA : (facesL threeE rotA).length = 3 := by decide
theorem compA : compN 2 threeE = 1 := by decide
theorem genusB : genusI 2 threeE rotB = 1 := by decide
theorem mirrorA : lat (mirrorL rotA) 0 = [0, 4, 2] := by decide
theorem three_has {w : World} {g : Nat} (h : Lies w g 0 threeE) : Has w (some ⟨g, 0, none⟩) threeE := Or.inr ⟨g, 0, rfl, h⟩
set_option maxRecDepth 100000 in
set_option maxHeartbeats 16000000 in
theorem begun8 (w : World) : Calls Try.prog 8 #[] w fun e w' => e = .returned (.bool true) ∧ Below w.heap.size w w' := by
  obtain ⟨W, hW, hb0, hrA⟩ := two_lists w 0 2 4 1 5 3
  have HB0 := hide hb0
  have HRA := hide hrA
  have T1 := hide (three34 W)
  clear hb0 hrA
  go_enter Try.func8, Try.ntmps8
  go_wp2_with fail
  rw [← hW]
  clear hW
  obtain ⟨kr, hkr⟩ : ∃ k, w.heap.size + 1 + 1 = k := ⟨_, rfl⟩
  rw [hkr] at HRA
  try rw [hkr]
  clear hkr
  refine T1.out.mono ?_
  rintro e w1 ⟨g1, rfl, l1, b1⟩
  have HB1 := hide b1
  have FA := hide (faces21 2 (some ⟨g1, 0, none⟩) threeE 3 (some ⟨kr, 0, none⟩) rotA 2 w1 (three_has l1) (HRA.out.later b1) rotA_is)
  rw [facesA] at FA
  clear l1 b1 T1
  go_wp2_with fail
  refine FA.out.mono ?_
  rintro e w2 ⟨p2, c2, rv2, rfl, _, b2⟩
  have HB2 := hide (below_step HB1.out b2)
  have T2 := hide (three34 w2)
  clear b2 FA
  go_wp2_with fail
  refine T2.out.mono ?_
  rintro e w3 ⟨g3, rfl, l3, b3⟩
  obtain ⟨X, hX, bX, hrB⟩ := two_lists w3 0 2 4 1 3 5
  have HB3 := hide (below_step (below_step HB2.out b3) bX)
  have GB := hide (genus22 2 (some ⟨g3, 0, none⟩) threeE 3 (some ⟨w3.heap.size + 1 + 1, 0, none⟩) rotB 2 X (three_has (l3.later bX)) hrB rotB_is (by rw [compA]; omega))
  rw [genusB] at GB
  clear l3 b3 bX hrB T2
  go_wp2_with fail
  rw [← hX]
  clear hX
  refine GB.out.mono ?_
  rintro e w4 ⟨rfl, b4⟩
  have HB4 := hide (below_step HB3.out b4)
  have T3 := hide (three34 w4)
  clear b4 GB
  go_wp2_with fail
  refine T3.out.mono ?_
  rintro e w5 ⟨g5, rfl, l5, b5⟩
  have HB5 := hide (below_step HB4.out b5)
  have MI := hide (mirror27 2 (some ⟨g5, 0, none⟩) threeE 3 (some ⟨kr, 0, none⟩) rotA 2 w5 (three_has l5) (HRA.out.later HB5.out) rotA_is)
  clear l5 b5 T3
  go_wp2_with fail
  refine MI.out.mono ?_
  rintro e w6 ⟨g6, rv6, rfl, hr6, b6⟩
  have HB6 := hide (below_step HB5.out b6)
  have HR6 := hide hr6
  have T4 := hide (three34 w6)
  clear hr6 b6 MI
  go_wp2_with fail
  refine T4.out.mono ?_
  rintro e w7 ⟨g7, rfl, l7, b7⟩
  have HB7 := hide (below_step HB6.out b7)
  have HR7 := hide (HR6.out.later b7)
  have MY := hide (mayR13 2 (some ⟨g7, 0, none⟩) threeE 3 (some ⟨kr, 0, none⟩) rotA 2 w7 (three_has l7) (HRA.out.later HB7.out))
  rw [rotA_is] at MY
  clear l7 b7 T4
  go_wp2_with fail
  refine MY.out.mono ?_
  rintro e w8 ⟨rfl, b8⟩
  have HB8 := hide (below_step (below_step HB0.out HB7.out) b8)
  have hr8 := HR7.out.later b8
  have o0 := hr8.2.2 0 (by decide)
  dsimp only at o0
  rw [mirrorA] at o0
  obtain ⟨gz, cz, hz, _⟩ := iowns_block o0 (by decide)
  have x0 := (hr8.cell (v := 0) (by decide)).1
  rw [hz] at x0 o0
  have x1 : w8.cell? ⟨gz, 1, none⟩ = some (.int .i64 4) := o0.at_ (j := 1) (by decide)
  simp only [List.length_cons, List.length_nil] at x0
  clear hr8 o0 hz b8 MY
  go_wp2
  go_ret
  exact ⟨rfl, HB8.out⟩
end Go.Proofs.Ytllkadgpkbaghaa
