/- The net that begun asks about; Each. -/
import Derived.Test.YtghffodjffkijaaC4
import Derived.Deep.RegionHeld3
namespace Go.Proofs.Ytghffodjffkijaa
open Go.RowKit Go.Sort
open Go

def ringE : List Pt := [⟨0, 1⟩, ⟨1, 2⟩, ⟨2, 0⟩, ⟨1, 0⟩]
set_option maxRecDepth 100000 in
set_option maxHeartbeats 4000000 in
theorem ring34 (w : World) : Calls Try.prog 34 #[] w fun e w' => ∃ g, e = .returned (nv 4 (some ⟨g, 0, none⟩) 4 4) ∧ Lies w' g 0 ringE ∧ Below w.heap.size w w' := by
  go_enter Try.func34, Try.ntmps34
  go_wp2
  obtain ⟨V, hV⟩ : ∃ V, V = (w.alloc (.cells #[.int .i64 4, .slice (some ⟨w.heap.size + 1, 0, none⟩) 4 4] 24)).alloc (.cells #[.int .i64 0, .int .i64 1, .int .i64 1, .int .i64 2, .int .i64 2, .int .i64 0, .int .i64 1, .int .i64 0] 49) := ⟨_, rfl⟩
  have hN : NOwn V w.heap.size 4 (some ⟨w.heap.size + 1, 0, none⟩) 4 4 := by rw [hV]; exact ⟨by go_cell, by go_cell, by go_cell, by go_cell⟩
  have hb : Below w.heap.size w V := by rw [hV]; go_grown
  rw [← hV]
  refine bodyPost_ret (ret_net1 Try.results34 rfl hN) rfl ⟨_, rfl, ?_, hb⟩
  intro j hj
  rw [hV]
  simp only [ringE, List.length_cons, List.length_nil] at hj
  rcases (by omega : j = 0 ∨ j = 1 ∨ j = 2 ∨ j = 3) with rfl | rfl | rfl | rfl
  all_goals exact ⟨by simp only [at', ringE, List.getD_cons_zero, List.getD_cons_succ]; go_cell, by simp only [at', ringE, List.getD_cons_zero, List.getD_cons_succ]; go_cell⟩
set_option maxRecDepth 100000 in
set_option maxHeartbeats 4000000 in
theorem each35 (m : Nat) (p : Option Addr) (es : List Pt) (cp s : Nat) (w : World) (h : Has w p es) (hm : netB m es = true) (hs : s < m) : Calls Try.prog 35 #[nv m p es.length cp, .int .i64 s] w fun e w' => (∃ v, e = .returned v ∧ v ≠ .nilFunc) ∧ Below w.heap.size w w' := by
  obtain ⟨W, hW, hb, a0⟩ := one_net w m p es.length cp
  have BR := hide (breadth13 m p es cp s W (h.later hb) hm hs)
  have HB := hide hb
  clear h hb hm
  go_enter Try.func35, Try.ntmps35
  go_wp2_with fail
  rw [← hW]
  clear hW
  refine BR.out.mono ?_
  rintro e w1 ⟨v, rfl, ⟨vo, gb, gf, rfl, ho, _⟩, hb1⟩
  obtain ⟨po, co, hvo, _⟩ := ho.form
  subst hvo
  have HB1 := hide (below_step HB.out hb1)
  clear hb1 BR ho
  have hbX : ∀ V, Below w1.heap.size w1 V → Below w.heap.size w V := fun V hV => below_step HB1.out hV
  go_wp2_with fail
  obtain ⟨X, hX⟩ : ∃ X, X = w1.alloc (.cells #[.slice po (bfs es m 0 (begin_ (st0 m) s)).O.length co, .slice (some ⟨gb, 0, none⟩) m m, .slice (some ⟨gf, 0, none⟩) m m, nilS] 35) := ⟨_, rfl⟩
  have HBX : Hid (Below w.heap.size w X) := by show Below _ _ _; rw [hX]; exact hbX _ (by go_grown)
  have c0 : X.cell? ⟨w1.heap.size, 0, none⟩ = some (.slice po (bfs es m 0 (begin_ (st0 m) s)).O.length co) := by rw [hX]; go_cell
  have c2 : X.cell? ⟨w1.heap.size, 2, none⟩ = some (.slice (some ⟨gf, 0, none⟩) m m) := by rw [hX]; go_cell
  have z1 : w1.heap.size < X.heap.size := block_lt_of_cell c0
  have z2 : w1.heap.size ≠ X.heap.size := by omega
  have z3 : w1.heap.size < X.heap.size + 1 := by omega
  have z4 : w1.heap.size ≠ X.heap.size + 1 := by omega
  rw [← hX]
  clear hX hbX
  go_region_held3 (fun V => V.cell? ⟨w1.heap.size, 0, none⟩ = some (.slice po (bfs es m 0 (begin_ (st0 m) s)).O.length co) ∧ V.cell? ⟨w1.heap.size, 2, none⟩ = some (.slice (some ⟨gf, 0, none⟩) m m)) (go_keep) (fail)
  all_goals
    rename_i hHeld
    clear hHeld
    go_wp2
    go_ret
    refine ⟨?_, ?_⟩
    · first
      | exact ⟨_, rfl, by simp⟩
      | (intro h; cases h)
      | trivial
    · exact below_step HBX.out (by go_grown)
end Go.Proofs.Ytghffodjffkijaa
