/- The document's Kind, where it refuses. -/
import Derived.Test.YtncnghbkdbhpbaaF4
import Derived.Test.YtncnghbkdbhpbaaF3
namespace Go.Proofs.Ytncnghbkdbhpbaa
open Go.RowKit Go.Sort
open Go

theorem tooT (a : Int) (h : 4096 < a) : ∀ k V, V.cell? ⟨k, 0, none⟩ = some (.int .i64 a) → Calls Try.prog 21 #[.slice (some ⟨k, 0, none⟩) 1 1] V fun e w' => e = .returned (.bool true) ∧ w' = V := by
  intro k V hV
  have := too21 k a V hV
  rw [decide_eq_true h] at this
  exact this
theorem tooF (a : Int) (h : a ≤ 4096) : ∀ k V, V.cell? ⟨k, 0, none⟩ = some (.int .i64 a) → Calls Try.prog 21 #[.slice (some ⟨k, 0, none⟩) 1 1] V fun e w' => e = .returned (.bool false) ∧ w' = V := by
  intro k V hV
  have := too21 k a V hV
  rw [decide_eq_false (show ¬ 4096 < a by omega)] at this
  exact this
set_option maxRecDepth 100000 in
set_option maxHeartbeats 4000000 in
theorem kpath_a (a b seed : Int) (w : World) (h : a < 1) : Calls Try.prog 8 #[.string ⟨#[112, 97, 116, 104]⟩, .int .i64 a, .int .i64 b, .int .u64 seed] w fun e w' => Made w 0 [] 1 e w' := by
  go_enter Try.func8, Try.ntmps8
  go_wp2
  refine bodyPost_ret (ret_net Try.results8 rfl rfl ?kk1) rfl ⟨?bb1, none, 0, rfl, Owns.nil _ _⟩
  · exact ⟨by go_cell, by go_cell, by go_cell, by go_cell⟩
  · go_grown
set_option maxRecDepth 100000 in
set_option maxHeartbeats 4000000 in
theorem kpath_c (a b seed : Int) (w : World) (h : 4096 < a) : Calls Try.prog 8 #[.string ⟨#[112, 97, 116, 104]⟩, .int .i64 a, .int .i64 b, .int .u64 seed] w fun e w' => Made w 0 [] 3 e w' := by
  have T := tooT a h
  go_enter Try.func8, Try.ntmps8
  go_wp2_with (go_at_call 21; (with_reducible refine (T _ _ (by go_cell)).mono ?_); rintro e w' ⟨rfl, hw⟩; have hw := hw.symm; subst hw)
  refine bodyPost_ret (ret_net Try.results8 rfl rfl ?kk1) rfl ⟨?bb1, none, 0, rfl, Owns.nil _ _⟩
  · exact ⟨by go_cell, by go_cell, by go_cell, by go_cell⟩
  · go_grown
set_option maxRecDepth 100000 in
set_option maxHeartbeats 4000000 in
theorem kcycle_a (a b seed : Int) (w : World) (h : a < 1) : Calls Try.prog 8 #[.string ⟨#[99, 121, 99, 108, 101]⟩, .int .i64 a, .int .i64 b, .int .u64 seed] w fun e w' => Made w 0 [] 1 e w' := by
  go_enter Try.func8, Try.ntmps8
  go_wp2
  refine bodyPost_ret (ret_net Try.results8 rfl rfl ?kk1) rfl ⟨?bb1, none, 0, rfl, Owns.nil _ _⟩
  · exact ⟨by go_cell, by go_cell, by go_cell, by go_cell⟩
  · go_grown
set_option maxRecDepth 100000 in
set_option maxHeartbeats 4000000 in
theorem kcycle_c (a b seed : Int) (w : World) (h : 4096 < a) : Calls Try.prog 8 #[.string ⟨#[99, 121, 99, 108, 101]⟩, .int .i64 a, .int .i64 b, .int .u64 seed] w fun e w' => Made w 0 [] 3 e w' := by
  have T := tooT a h
  go_enter Try.func8, Try.ntmps8
  go_wp2_with (go_at_call 21; (with_reducible refine (T _ _ (by go_cell)).mono ?_); rintro e w' ⟨rfl, hw⟩; have hw := hw.symm; subst hw)
  refine bodyPost_ret (ret_net Try.results8 rfl rfl ?kk1) rfl ⟨?bb1, none, 0, rfl, Owns.nil _ _⟩
  · exact ⟨by go_cell, by go_cell, by go_cell, by go_cell⟩
  · go_grown
set_option maxRecDepth 100000 in
set_option maxHeartbeats 4000000 in
theorem kcomplete_a (a b seed : Int) (w : World) (h : a < 1) : Calls Try.prog 8 #[.string ⟨#[99, 111, 109, 112, 108, 101, 116, 101]⟩, .int .i64 a, .int .i64 b, .int .u64 seed] w fun e w' => Made w 0 [] 1 e w' := by
  go_enter Try.func8, Try.ntmps8
  go_wp2
  refine bodyPost_ret (ret_net Try.results8 rfl rfl ?kk1) rfl ⟨?bb1, none, 0, rfl, Owns.nil _ _⟩
  · exact ⟨by go_cell, by go_cell, by go_cell, by go_cell⟩
  · go_grown
set_option maxRecDepth 100000 in
set_option maxHeartbeats 4000000 in
theorem kcomplete_c (a b seed : Int) (w : World) (h : 4096 < a) : Calls Try.prog 8 #[.string ⟨#[99, 111, 109, 112, 108, 101, 116, 101]⟩, .int .i64 a, .int .i64 b, .int .u64 seed] w fun e w' => Made w 0 [] 3 e w' := by
  have T := tooT a h
  go_enter Try.func8, Try.ntmps8
  go_wp2_with (go_at_call 21; (with_reducible refine (T _ _ (by go_cell)).mono ?_); rintro e w' ⟨rfl, hw⟩; have hw := hw.symm; subst hw)
  refine bodyPost_ret (ret_net Try.results8 rfl rfl ?kk1) rfl ⟨?bb1, none, 0, rfl, Owns.nil _ _⟩
  · exact ⟨by go_cell, by go_cell, by go_cell, by go_cell⟩
  · go_grown
set_option maxRecDepth 100000 in
set_option maxHeartbeats 4000000 in
theorem ktwo_a (a b seed : Int) (w : World) (h : a < 1) : Calls Try.prog 8 #[.string ⟨#[116, 119, 111]⟩, .int .i64 a, .int .i64 b, .int .u64 seed] w fun e w' => Made w 0 [] 1 e w' := by
  go_enter Try.func8, Try.ntmps8
  go_wp2
  refine bodyPost_ret (ret_net Try.results8 rfl rfl ?kk1) rfl ⟨?bb1, none, 0, rfl, Owns.nil _ _⟩
  · exact ⟨by go_cell, by go_cell, by go_cell, by go_cell⟩
  · go_grown
set_option maxRecDepth 100000 in
set_option maxHeartbeats 4000000 in
theorem ktwo_b (a b seed : Int) (w : World) (h0 : 1 ≤ a) (h : b < 1) : Calls Try.prog 8 #[.string ⟨#[116, 119, 111]⟩, .int .i64 a, .int .i64 b, .int .u64 seed] w fun e w' => Made w 0 [] 1 e w' := by
  go_enter Try.func8, Try.ntmps8
  go_wp2
  refine bodyPost_ret (ret_net Try.results8 rfl rfl ?kk1) rfl ⟨?bb1, none, 0, rfl, Owns.nil _ _⟩
  · exact ⟨by go_cell, by go_cell, by go_cell, by go_cell⟩
  · go_grown
set_option maxRecDepth 100000 in
set_option maxHeartbeats 4000000 in
theorem ktwo_c (a b seed : Int) (w : World) (h0 : 1 ≤ b) (h : 4096 < a) : Calls Try.prog 8 #[.string ⟨#[116, 119, 111]⟩, .int .i64 a, .int .i64 b, .int .u64 seed] w fun e w' => Made w 0 [] 3 e w' := by
  have T := tooT a h
  go_enter Try.func8, Try.ntmps8
  go_wp2_with (go_at_call 21; (with_reducible refine (T _ _ (by go_cell)).mono ?_); rintro e w' ⟨rfl, hw⟩; have hw := hw.symm; subst hw)
  refine bodyPost_ret (ret_net Try.results8 rfl rfl ?kk1) rfl ⟨?bb1, none, 0, rfl, Owns.nil _ _⟩
  · exact ⟨by go_cell, by go_cell, by go_cell, by go_cell⟩
  · go_grown
set_option maxRecDepth 100000 in
set_option maxHeartbeats 4000000 in
theorem ktwo_d (a b seed : Int) (w : World) (h0 : 1 ≤ a) (h1 : a ≤ 4096) (h : 4096 < b) : Calls Try.prog 8 #[.string ⟨#[116, 119, 111]⟩, .int .i64 a, .int .i64 b, .int .u64 seed] w fun e w' => Made w 0 [] 3 e w' := by
  have T := tooF a h1
  have T2 := tooT b h
  go_enter Try.func8, Try.ntmps8
  go_wp2_with (first | (go_at_call 21; (with_reducible refine (T _ _ (by go_cell)).mono ?_); rintro e w' ⟨rfl, hw⟩; have hw := hw.symm; subst hw) | (go_at_call 21; (with_reducible refine (T2 _ _ (by go_cell)).mono ?_); rintro e w' ⟨rfl, hw⟩; have hw := hw.symm; subst hw))
  refine bodyPost_ret (ret_net Try.results8 rfl rfl ?kk1) rfl ⟨?bb1, none, 0, rfl, Owns.nil _ _⟩
  · exact ⟨by go_cell, by go_cell, by go_cell, by go_cell⟩
  · go_grown
set_option maxRecDepth 100000 in
set_option maxHeartbeats 4000000 in
theorem kgrid_a (a b seed : Int) (w : World) (h : a < 1) : Calls Try.prog 8 #[.string ⟨#[103, 114, 105, 100]⟩, .int .i64 a, .int .i64 b, .int .u64 seed] w fun e w' => Made w 0 [] 1 e w' := by
  go_enter Try.func8, Try.ntmps8
  go_wp2
  refine bodyPost_ret (ret_net Try.results8 rfl rfl ?kk1) rfl ⟨?bb1, none, 0, rfl, Owns.nil _ _⟩
  · exact ⟨by go_cell, by go_cell, by go_cell, by go_cell⟩
  · go_grown
set_option maxRecDepth 100000 in
set_option maxHeartbeats 4000000 in
theorem kgrid_b (a b seed : Int) (w : World) (h0 : 1 ≤ a) (h : b < 1) : Calls Try.prog 8 #[.string ⟨#[103, 114, 105, 100]⟩, .int .i64 a, .int .i64 b, .int .u64 seed] w fun e w' => Made w 0 [] 1 e w' := by
  go_enter Try.func8, Try.ntmps8
  go_wp2
  refine bodyPost_ret (ret_net Try.results8 rfl rfl ?kk1) rfl ⟨?bb1, none, 0, rfl, Owns.nil _ _⟩
  · exact ⟨by go_cell, by go_cell, by go_cell, by go_cell⟩
  · go_grown
set_option maxRecDepth 100000 in
set_option maxHeartbeats 4000000 in
theorem kgrid_c (a b seed : Int) (w : World) (h0 : 1 ≤ b) (h : 4096 < a) : Calls Try.prog 8 #[.string ⟨#[103, 114, 105, 100]⟩, .int .i64 a, .int .i64 b, .int .u64 seed] w fun e w' => Made w 0 [] 3 e w' := by
  have T := tooT a h
  go_enter Try.func8, Try.ntmps8
  go_wp2_with (go_at_call 21; (with_reducible refine (T _ _ (by go_cell)).mono ?_); rintro e w' ⟨rfl, hw⟩; have hw := hw.symm; subst hw)
  refine bodyPost_ret (ret_net Try.results8 rfl rfl ?kk1) rfl ⟨?bb1, none, 0, rfl, Owns.nil _ _⟩
  · exact ⟨by go_cell, by go_cell, by go_cell, by go_cell⟩
  · go_grown
set_option maxRecDepth 100000 in
set_option maxHeartbeats 4000000 in
theorem kgrid_d (a b seed : Int) (w : World) (h0 : 1 ≤ a) (h1 : a ≤ 4096) (h : 4096 < b) : Calls Try.prog 8 #[.string ⟨#[103, 114, 105, 100]⟩, .int .i64 a, .int .i64 b, .int .u64 seed] w fun e w' => Made w 0 [] 3 e w' := by
  have T := tooF a h1
  have T2 := tooT b h
  go_enter Try.func8, Try.ntmps8
  go_wp2_with (first | (go_at_call 21; (with_reducible refine (T _ _ (by go_cell)).mono ?_); rintro e w' ⟨rfl, hw⟩; have hw := hw.symm; subst hw) | (go_at_call 21; (with_reducible refine (T2 _ _ (by go_cell)).mono ?_); rintro e w' ⟨rfl, hw⟩; have hw := hw.symm; subst hw))
  refine bodyPost_ret (ret_net Try.results8 rfl rfl ?kk1) rfl ⟨?bb1, none, 0, rfl, Owns.nil _ _⟩
  · exact ⟨by go_cell, by go_cell, by go_cell, by go_cell⟩
  · go_grown
set_option maxRecDepth 100000 in
set_option maxHeartbeats 4000000 in
theorem kwheel_a (a b seed : Int) (w : World) (h : a < 3) : Calls Try.prog 8 #[.string ⟨#[119, 104, 101, 101, 108]⟩, .int .i64 a, .int .i64 b, .int .u64 seed] w fun e w' => Made w 0 [] 1 e w' := by
  go_enter Try.func8, Try.ntmps8
  go_wp2
  refine bodyPost_ret (ret_net Try.results8 rfl rfl ?kk1) rfl ⟨?bb1, none, 0, rfl, Owns.nil _ _⟩
  · exact ⟨by go_cell, by go_cell, by go_cell, by go_cell⟩
  · go_grown
set_option maxRecDepth 100000 in
set_option maxHeartbeats 4000000 in
theorem kwheel_c (a b seed : Int) (w : World) (h : 4096 < a) : Calls Try.prog 8 #[.string ⟨#[119, 104, 101, 101, 108]⟩, .int .i64 a, .int .i64 b, .int .u64 seed] w fun e w' => Made w 0 [] 3 e w' := by
  have T := tooT a h
  go_enter Try.func8, Try.ntmps8
  go_wp2_with (go_at_call 21; (with_reducible refine (T _ _ (by go_cell)).mono ?_); rintro e w' ⟨rfl, hw⟩; have hw := hw.symm; subst hw)
  refine bodyPost_ret (ret_net Try.results8 rfl rfl ?kk1) rfl ⟨?bb1, none, 0, rfl, Owns.nil _ _⟩
  · exact ⟨by go_cell, by go_cell, by go_cell, by go_cell⟩
  · go_grown
set_option maxRecDepth 100000 in
set_option maxHeartbeats 4000000 in
theorem kprism_a (a b seed : Int) (w : World) (h : a < 3) : Calls Try.prog 8 #[.string ⟨#[112, 114, 105, 115, 109]⟩, .int .i64 a, .int .i64 b, .int .u64 seed] w fun e w' => Made w 0 [] 1 e w' := by
  go_enter Try.func8, Try.ntmps8
  go_wp2
  refine bodyPost_ret (ret_net Try.results8 rfl rfl ?kk1) rfl ⟨?bb1, none, 0, rfl, Owns.nil _ _⟩
  · exact ⟨by go_cell, by go_cell, by go_cell, by go_cell⟩
  · go_grown
set_option maxRecDepth 100000 in
set_option maxHeartbeats 4000000 in
theorem kprism_c (a b seed : Int) (w : World) (h : 4096 < a) : Calls Try.prog 8 #[.string ⟨#[112, 114, 105, 115, 109]⟩, .int .i64 a, .int .i64 b, .int .u64 seed] w fun e w' => Made w 0 [] 3 e w' := by
  have T := tooT a h
  go_enter Try.func8, Try.ntmps8
  go_wp2_with (go_at_call 21; (with_reducible refine (T _ _ (by go_cell)).mono ?_); rintro e w' ⟨rfl, hw⟩; have hw := hw.symm; subst hw)
  refine bodyPost_ret (ret_net Try.results8 rfl rfl ?kk1) rfl ⟨?bb1, none, 0, rfl, Owns.nil _ _⟩
  · exact ⟨by go_cell, by go_cell, by go_cell, by go_cell⟩
  · go_grown
set_option maxRecDepth 100000 in
set_option maxHeartbeats 4000000 in
theorem kbond_a (a b seed : Int) (w : World) (h : a < 1) : Calls Try.prog 8 #[.string ⟨#[98, 111, 110, 100]⟩, .int .i64 a, .int .i64 b, .int .u64 seed] w fun e w' => Made w 0 [] 1 e w' := by
  go_enter Try.func8, Try.ntmps8
  go_wp2
  refine bodyPost_ret (ret_net Try.results8 rfl rfl ?kk1) rfl ⟨?bb1, none, 0, rfl, Owns.nil _ _⟩
  · exact ⟨by go_cell, by go_cell, by go_cell, by go_cell⟩
  · go_grown
set_option maxRecDepth 100000 in
set_option maxHeartbeats 4000000 in
theorem kbond_c (a b seed : Int) (w : World) (h : 4096 < a) : Calls Try.prog 8 #[.string ⟨#[98, 111, 110, 100]⟩, .int .i64 a, .int .i64 b, .int .u64 seed] w fun e w' => Made w 0 [] 3 e w' := by
  have T := tooT a h
  go_enter Try.func8, Try.ntmps8
  go_wp2_with (go_at_call 21; (with_reducible refine (T _ _ (by go_cell)).mono ?_); rintro e w' ⟨rfl, hw⟩; have hw := hw.symm; subst hw)
  refine bodyPost_ret (ret_net Try.results8 rfl rfl ?kk1) rfl ⟨?bb1, none, 0, rfl, Owns.nil _ _⟩
  · exact ⟨by go_cell, by go_cell, by go_cell, by go_cell⟩
  · go_grown
set_option maxRecDepth 100000 in
set_option maxHeartbeats 4000000 in
theorem krandom_a (a b seed : Int) (w : World) (h : a < 1) : Calls Try.prog 8 #[.string ⟨#[114, 97, 110, 100, 111, 109]⟩, .int .i64 a, .int .i64 b, .int .u64 seed] w fun e w' => Made w 0 [] 1 e w' := by
  go_enter Try.func8, Try.ntmps8
  go_wp2
  refine bodyPost_ret (ret_net Try.results8 rfl rfl ?kk1) rfl ⟨?bb1, none, 0, rfl, Owns.nil _ _⟩
  · exact ⟨by go_cell, by go_cell, by go_cell, by go_cell⟩
  · go_grown
set_option maxRecDepth 100000 in
set_option maxHeartbeats 4000000 in
theorem krandom_b (a b seed : Int) (w : World) (h0 : 1 ≤ a) (h : b < 0) : Calls Try.prog 8 #[.string ⟨#[114, 97, 110, 100, 111, 109]⟩, .int .i64 a, .int .i64 b, .int .u64 seed] w fun e w' => Made w 0 [] 1 e w' := by
  go_enter Try.func8, Try.ntmps8
  go_wp2
  refine bodyPost_ret (ret_net Try.results8 rfl rfl ?kk1) rfl ⟨?bb1, none, 0, rfl, Owns.nil _ _⟩
  · exact ⟨by go_cell, by go_cell, by go_cell, by go_cell⟩
  · go_grown
set_option maxRecDepth 100000 in
set_option maxHeartbeats 4000000 in
theorem krandom_c (a b seed : Int) (w : World) (h0 : 0 ≤ b) (h : 4096 < a) : Calls Try.prog 8 #[.string ⟨#[114, 97, 110, 100, 111, 109]⟩, .int .i64 a, .int .i64 b, .int .u64 seed] w fun e w' => Made w 0 [] 3 e w' := by
  have T := tooT a h
  go_enter Try.func8, Try.ntmps8
  go_wp2_with (go_at_call 21; (with_reducible refine (T _ _ (by go_cell)).mono ?_); rintro e w' ⟨rfl, hw⟩; have hw := hw.symm; subst hw)
  refine bodyPost_ret (ret_net Try.results8 rfl rfl ?kk1) rfl ⟨?bb1, none, 0, rfl, Owns.nil _ _⟩
  · exact ⟨by go_cell, by go_cell, by go_cell, by go_cell⟩
  · go_grown
set_option maxRecDepth 100000 in
set_option maxHeartbeats 4000000 in
theorem krandom_d (a b seed : Int) (w : World) (h0 : 1 ≤ a) (h1 : a ≤ 4096) (h : 4096 < b) : Calls Try.prog 8 #[.string ⟨#[114, 97, 110, 100, 111, 109]⟩, .int .i64 a, .int .i64 b, .int .u64 seed] w fun e w' => Made w 0 [] 3 e w' := by
  have T := tooF a h1
  have T2 := tooT b h
  go_enter Try.func8, Try.ntmps8
  go_wp2_with (first | (go_at_call 21; (with_reducible refine (T _ _ (by go_cell)).mono ?_); rintro e w' ⟨rfl, hw⟩; have hw := hw.symm; subst hw) | (go_at_call 21; (with_reducible refine (T2 _ _ (by go_cell)).mono ?_); rintro e w' ⟨rfl, hw⟩; have hw := hw.symm; subst hw))
  refine bodyPost_ret (ret_net Try.results8 rfl rfl ?kk1) rfl ⟨?bb1, none, 0, rfl, Owns.nil _ _⟩
  · exact ⟨by go_cell, by go_cell, by go_cell, by go_cell⟩
  · go_grown
set_option maxRecDepth 100000 in
set_option maxHeartbeats 4000000 in
theorem kstack_a (a b seed : Int) (w : World) (h : a < 3) : Calls Try.prog 8 #[.string ⟨#[115, 116, 97, 99, 107]⟩, .int .i64 a, .int .i64 b, .int .u64 seed] w fun e w' => Made w 0 [] 1 e w' := by
  go_enter Try.func8, Try.ntmps8
  go_wp2
  refine bodyPost_ret (ret_net Try.results8 rfl rfl ?kk1) rfl ⟨?bb1, none, 0, rfl, Owns.nil _ _⟩
  · exact ⟨by go_cell, by go_cell, by go_cell, by go_cell⟩
  · go_grown
set_option maxRecDepth 100000 in
set_option maxHeartbeats 4000000 in
theorem kstack_c (a b seed : Int) (w : World) (h : 4096 < a) : Calls Try.prog 8 #[.string ⟨#[115, 116, 97, 99, 107]⟩, .int .i64 a, .int .i64 b, .int .u64 seed] w fun e w' => Made w 0 [] 3 e w' := by
  have T := tooT a h
  go_enter Try.func8, Try.ntmps8
  go_wp2_with (go_at_call 21; (with_reducible refine (T _ _ (by go_cell)).mono ?_); rintro e w' ⟨rfl, hw⟩; have hw := hw.symm; subst hw)
  refine bodyPost_ret (ret_net Try.results8 rfl rfl ?kk1) rfl ⟨?bb1, none, 0, rfl, Owns.nil _ _⟩
  · exact ⟨by go_cell, by go_cell, by go_cell, by go_cell⟩
  · go_grown
end Go.Proofs.Ytncnghbkdbhpbaa
