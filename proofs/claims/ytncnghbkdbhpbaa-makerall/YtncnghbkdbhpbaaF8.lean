/- The document's Kind: path, cycle, wheel, prism, bond. -/
import Derived.Test.YtncnghbkdbhpbaaF5
namespace Go.Proofs.Ytncnghbkdbhpbaa
open Go.RowKit Go.Sort
open Go

set_option maxRecDepth 100000 in
set_option maxHeartbeats 4000000 in
theorem kpath_ok (n : Nat) (b seed : Int) (w : World) (h1 : 1 ≤ n) (h2 : n ≤ 4096) : Calls Try.prog 8 #[.string ⟨#[112, 97, 116, 104]⟩, .int .i64 n, .int .i64 b, .int .u64 seed] w fun e w' => (pathO n).made w e w' := by
  have T := tooF n (by omega)
  obtain ⟨W, hW⟩ : ∃ W, W = (w.alloc (nbx 0 none 0 0)).alloc (.cells #[.int .i64 n] 3) := ⟨_, rfl⟩
  have HB : Hid (Below w.heap.size w W) := by show Below _ _ _; rw [hW]; go_grown
  have HN : Hid (NOwn W w.heap.size 0 none 0 0) := by show NOwn _ _ _ _ _ _; rw [hW]; exact ⟨by unfold nbx; go_cell, by unfold nbx; go_cell, by unfold nbx; go_cell, by unfold nbx; go_cell⟩
  have hlt0 : w.heap.size < W.heap.size := block_lt_of_cell HN.out.1
  rw [← path_made n h1]
  go_enter Try.func8, Try.ntmps8
  go_wp2_with (go_at_call 21; (with_reducible refine (T _ _ (by go_cell)).mono ?_); rintro e w' ⟨rfl, hw⟩; have hw := hw.symm; subst hw)
  rw [← hW]
  clear hW
  go_loopw [12, 13] (fun s t wr => ∃ i : Nat, i ≤ n - 1 ∧ t = .int .i64 i ∧ Hid (Below W.heap.size W wr) ∧ Hid (Owns wr W.heap.size s (pathL i))) (fun _ t _ => n - 1 - (intOf t).toNat)
  case atStart => exact ⟨0, by omega, rfl, Below.refl _ _, Owns.nil _ _⟩
  case round =>
    obtain ⟨i, hi, rfl, HBr, HOr⟩ := hrel
    by_cases hlt : i < n - 1
    · obtain ⟨v1, D1, e1, o1, b1⟩ := app1 HOr.out (i) (i + 1) (by have := HBr.out.size; omega) (by rw [pathL_length]; omega)
      have HO1 := hide o1
      have HB1 := hide (Below.trans HBr.out b1)
      clear o1 b1
      go_wp2_with (at_builtin; refine wpList_run_append rfl (.tmp 88) (.tmp 93) 26 rfl 26 rfl _ _ v1 D1 rfl rfl e1 ?_)
      go_roundw
      case rel => exact ⟨i + 1, by omega, by go_num, HB1.out, by show Owns _ _ _ _; rw [pathL_more]; exact HO1.out⟩
      case measure => simp [intOf]; omega
    · have hin : i = n - 1 := by omega
      subst hin
      obtain ⟨p, c, rfl, hHas, _, _, _⟩ := HOr.out.form
      have M := hide (made22 (n) p (pathL (n - 1)) c wr hHas)
      clear hHas
      go_wp2_with fail
      refine M.out.mono ?_
      rintro e w1 ⟨hm, hb1⟩
      obtain ⟨N, q, len, k, err, rfl, hN1, kV, mV⟩ := end_made hlt0 (HN.out.later HBr.out) HOr.out (below_step HB.out HBr.out) hm hb1
      have KV := hide kV
      have MV := hide mV
      clear hm hb1 kV mV M
      obtain ⟨r0, r1, r2, r3⟩ := hN1
      go_wp2
      exact bodyPost_ret (ret_net Try.results8 rfl rfl KV.out) rfl MV.out
set_option maxRecDepth 100000 in
set_option maxHeartbeats 4000000 in
theorem kcycle_ok (n : Nat) (b seed : Int) (w : World) (h1 : 1 ≤ n) (h2 : n ≤ 4096) : Calls Try.prog 8 #[.string ⟨#[99, 121, 99, 108, 101]⟩, .int .i64 n, .int .i64 b, .int .u64 seed] w fun e w' => (cycleO n).made w e w' := by
  have T := tooF n (by omega)
  obtain ⟨W, hW⟩ : ∃ W, W = (w.alloc (nbx 0 none 0 0)).alloc (.cells #[.int .i64 n] 3) := ⟨_, rfl⟩
  have HB : Hid (Below w.heap.size w W) := by show Below _ _ _; rw [hW]; go_grown
  have HN : Hid (NOwn W w.heap.size 0 none 0 0) := by show NOwn _ _ _ _ _ _; rw [hW]; exact ⟨by unfold nbx; go_cell, by unfold nbx; go_cell, by unfold nbx; go_cell, by unfold nbx; go_cell⟩
  have hlt0 : w.heap.size < W.heap.size := block_lt_of_cell HN.out.1
  rw [← cycle_made n h1]
  have R := hide (ring23 (.slice none 0 0) [] 0 n W.heap.size W (Owns.nil _ _) (Nat.le_refl _) (by simp) (by omega) (by omega) (by omega))
  go_enter Try.func8, Try.ntmps8
  go_wp2_with (go_at_call 21; (with_reducible refine (T _ _ (by go_cell)).mono ?_); rintro e w' ⟨rfl, hw⟩; have hw := hw.symm; subst hw)
  rw [← hW]
  clear hW
  refine R.out.mono ?_
  rintro e wr ⟨v0, rfl, ho, hb1⟩
  rw [List.nil_append, ring_cycle] at ho
  have HOr := hide ho
  have HBr := hide hb1
  clear ho hb1 R
  obtain ⟨p, c, rfl, hHas, _, _, _⟩ := HOr.out.form
  have M := hide (made22 (n) p (cycleL n) c wr hHas)
  clear hHas
  go_wp2_with fail
  refine M.out.mono ?_
  rintro e w1 ⟨hm, hb1⟩
  obtain ⟨N, q, len, k, err, rfl, hN1, kV, mV⟩ := end_made hlt0 (HN.out.later HBr.out) HOr.out (below_step HB.out HBr.out) hm hb1
  have KV := hide kV
  have MV := hide mV
  clear hm hb1 kV mV M
  obtain ⟨r0, r1, r2, r3⟩ := hN1
  go_wp2
  exact bodyPost_ret (ret_net Try.results8 rfl rfl KV.out) rfl MV.out
set_option maxRecDepth 100000 in
set_option maxHeartbeats 4000000 in
theorem kwheel_ok (n : Nat) (b seed : Int) (w : World) (h1 : 3 ≤ n) (h2 : n ≤ 4096) : Calls Try.prog 8 #[.string ⟨#[119, 104, 101, 101, 108]⟩, .int .i64 n, .int .i64 b, .int .u64 seed] w fun e w' => (wheelO n).made w e w' := by
  have T := tooF n (by omega)
  obtain ⟨W, hW⟩ : ∃ W, W = (w.alloc (nbx 0 none 0 0)).alloc (.cells #[.int .i64 n] 3) := ⟨_, rfl⟩
  have HB : Hid (Below w.heap.size w W) := by show Below _ _ _; rw [hW]; go_grown
  have HN : Hid (NOwn W w.heap.size 0 none 0 0) := by show NOwn _ _ _ _ _ _; rw [hW]; exact ⟨by unfold nbx; go_cell, by unfold nbx; go_cell, by unfold nbx; go_cell, by unfold nbx; go_cell⟩
  have hlt0 : w.heap.size < W.heap.size := block_lt_of_cell HN.out.1
  rw [← wheel_made n h1]
  have R := hide (ring23 (.slice none 0 0) [] 0 n W.heap.size W (Owns.nil _ _) (Nat.le_refl _) (by simp) (by omega) (by omega) (by omega))
  go_enter Try.func8, Try.ntmps8
  go_wp2_with (go_at_call 21; (with_reducible refine (T _ _ (by go_cell)).mono ?_); rintro e w' ⟨rfl, hw⟩; have hw := hw.symm; subst hw)
  rw [← hW]
  clear hW
  refine R.out.mono ?_
  rintro e w0 ⟨v0, rfl, ho, hb1⟩
  rw [List.nil_append, ring_cycle] at ho
  have HO0 : Hid (Owns w0 W.heap.size v0 (wheelL n 0)) := by show Owns _ _ _ _; rw [show wheelL n 0 = cycleL n by simp [wheelL, wheelS]]; exact ho
  have HB0 := hide hb1
  clear ho hb1 R
  go_wp2_with fail
  go_loopw [14, 15] (fun s t wr => ∃ i : Nat, i ≤ n ∧ t = .int .i64 i ∧ Hid (Below W.heap.size W wr) ∧ Hid (Owns wr W.heap.size s (wheelL n i))) (fun _ t _ => n - (intOf t).toNat)
  case atStart => exact ⟨0, by omega, rfl, HB0.out, HO0.out⟩
  case round =>
    obtain ⟨i, hi, rfl, HBr, HOr⟩ := hrel
    by_cases hlt : i < n
    · obtain ⟨v1, D1, e1, o1, b1⟩ := app1 HOr.out (n) (i) (by have := HBr.out.size; omega) (by have := wheelL_length n i (by omega); omega)
      have HO1 := hide o1
      have HB1 := hide (Below.trans HBr.out b1)
      clear o1 b1
      go_wp2_with (at_builtin; refine wpList_run_append rfl (.tmp 137) (.tmp 141) 26 rfl 26 rfl _ _ v1 D1 rfl rfl e1 ?_)
      go_roundw
      case rel => exact ⟨i + 1, by omega, by go_num, HB1.out, by show Owns _ _ _ _; rw [wheelL_more]; exact HO1.out⟩
      case measure => simp [intOf]; omega
    · have hin : i = n := by omega
      subst hin
      obtain ⟨p, c, rfl, hHas, _, _, _⟩ := HOr.out.form
      have M := hide (made22 ((i : Int) + 1) p (wheelL i i) c wr hHas)
      clear hHas
      go_wp2_with fail
      refine M.out.mono ?_
      rintro e w1 ⟨hm, hb1⟩
      obtain ⟨N, q, len, k, err, rfl, hN1, kV, mV⟩ := end_made hlt0 (HN.out.later HBr.out) HOr.out (below_step HB.out HBr.out) hm hb1
      have KV := hide kV
      have MV := hide mV
      clear hm hb1 kV mV M
      obtain ⟨r0, r1, r2, r3⟩ := hN1
      go_wp2
      exact bodyPost_ret (ret_net Try.results8 rfl rfl KV.out) rfl MV.out
set_option maxRecDepth 100000 in
set_option maxHeartbeats 4000000 in
theorem kprism_ok (n : Nat) (b seed : Int) (w : World) (h1 : 3 ≤ n) (h2 : n ≤ 4096) : Calls Try.prog 8 #[.string ⟨#[112, 114, 105, 115, 109]⟩, .int .i64 n, .int .i64 b, .int .u64 seed] w fun e w' => (prismO n).made w e w' := by
  have T := tooF n (by omega)
  obtain ⟨W, hW⟩ : ∃ W, W = (w.alloc (nbx 0 none 0 0)).alloc (.cells #[.int .i64 n] 3) := ⟨_, rfl⟩
  have HB : Hid (Below w.heap.size w W) := by show Below _ _ _; rw [hW]; go_grown
  have HN : Hid (NOwn W w.heap.size 0 none 0 0) := by show NOwn _ _ _ _ _ _; rw [hW]; exact ⟨by unfold nbx; go_cell, by unfold nbx; go_cell, by unfold nbx; go_cell, by unfold nbx; go_cell⟩
  have hlt0 : w.heap.size < W.heap.size := block_lt_of_cell HN.out.1
  rw [← prism_made n h1, show (n : Int) + n = 2 * n by omega]
  have R := hide (ring23 (.slice none 0 0) [] 0 n W.heap.size W (Owns.nil _ _) (Nat.le_refl _) (by simp) (by omega) (by omega) (by omega))
  go_enter Try.func8, Try.ntmps8
  go_wp2_with (go_at_call 21; (with_reducible refine (T _ _ (by go_cell)).mono ?_); rintro e w' ⟨rfl, hw⟩; have hw := hw.symm; subst hw)
  rw [← hW]
  clear hW
  refine R.out.mono ?_
  rintro e w0 ⟨v0, rfl, ho, hb1⟩
  rw [List.nil_append, ring_cycle] at ho
  have HO0 := hide ho
  have HB0 := hide hb1
  have R2 := hide (ring23 v0 (cycleL n) n n W.heap.size w0 ho hb1.size (by rw [cycleL_length n (by omega)]; omega) (by omega) (by omega) (by omega))
  clear ho hb1 R
  go_wp2_with fail
  refine R2.out.mono ?_
  rintro e w2 ⟨v2, rfl, ho, hb1⟩
  rw [ring_join] at ho
  have HO2 : Hid (Owns w2 W.heap.size v2 (prismL n 0)) := by show Owns _ _ _ _; rw [show prismL n 0 = joinL n (cycleL n) (cycleL n) by simp [prismL, prismS]]; exact ho
  have HB2 := hide (Below.trans HB0.out hb1)
  clear ho hb1 R2
  go_wp2_with fail
  go_loopw [16, 17] (fun s t wr => ∃ i : Nat, i ≤ n ∧ t = .int .i64 i ∧ Hid (Below W.heap.size W wr) ∧ Hid (Owns wr W.heap.size s (prismL n i))) (fun _ t _ => n - (intOf t).toNat)
  case atStart => exact ⟨0, by omega, rfl, HB2.out, HO2.out⟩
  case round =>
    obtain ⟨i, hi, rfl, HBr, HOr⟩ := hrel
    by_cases hlt : i < n
    · obtain ⟨v1, D1, e1, o1, b1⟩ := app1 HOr.out (i) (n + i) (by have := HBr.out.size; omega) (by have := prismL_length n i (by omega); omega)
      have HO1 := hide o1
      have HB1 := hide (Below.trans HBr.out b1)
      clear o1 b1
      go_wp2_with (at_builtin; refine wpList_run_append rfl (.tmp 161) (.tmp 167) 26 rfl 26 rfl _ _ v1 D1 rfl rfl e1 ?_)
      go_roundw
      case rel => exact ⟨i + 1, by omega, by go_num, HB1.out, by show Owns _ _ _ _; rw [prismL_more]; exact HO1.out⟩
      case measure => simp [intOf]; omega
    · have hin : i = n := by omega
      subst hin
      obtain ⟨p, c, rfl, hHas, _, _, _⟩ := HOr.out.form
      have M := hide (made22 (2 * (i : Int)) p (prismL i i) c wr hHas)
      clear hHas
      go_wp2_with fail
      refine M.out.mono ?_
      rintro e w1 ⟨hm, hb1⟩
      obtain ⟨N, q, len, k, err, rfl, hN1, kV, mV⟩ := end_made hlt0 (HN.out.later HBr.out) HOr.out (below_step HB.out HBr.out) hm hb1
      have KV := hide kV
      have MV := hide mV
      clear hm hb1 kV mV M
      obtain ⟨r0, r1, r2, r3⟩ := hN1
      go_wp2
      exact bodyPost_ret (ret_net Try.results8 rfl rfl KV.out) rfl MV.out
set_option maxRecDepth 100000 in
set_option maxHeartbeats 4000000 in
theorem kbond_ok (n : Nat) (b seed : Int) (w : World) (h1 : 1 ≤ n) (h2 : n ≤ 4096) : Calls Try.prog 8 #[.string ⟨#[98, 111, 110, 100]⟩, .int .i64 n, .int .i64 b, .int .u64 seed] w fun e w' => (bondO n).made w e w' := by
  have T := tooF n (by omega)
  obtain ⟨W, hW⟩ : ∃ W, W = (w.alloc (nbx 0 none 0 0)).alloc (.cells #[.int .i64 n] 3) := ⟨_, rfl⟩
  have HB : Hid (Below w.heap.size w W) := by show Below _ _ _; rw [hW]; go_grown
  have HN : Hid (NOwn W w.heap.size 0 none 0 0) := by show NOwn _ _ _ _ _ _; rw [hW]; exact ⟨by unfold nbx; go_cell, by unfold nbx; go_cell, by unfold nbx; go_cell, by unfold nbx; go_cell⟩
  have hlt0 : w.heap.size < W.heap.size := block_lt_of_cell HN.out.1
  rw [← bond_made n h1]
  go_enter Try.func8, Try.ntmps8
  go_wp2_with (go_at_call 21; (with_reducible refine (T _ _ (by go_cell)).mono ?_); rintro e w' ⟨rfl, hw⟩; have hw := hw.symm; subst hw)
  rw [← hW]
  clear hW
  go_loopw [18, 19] (fun s t wr => ∃ i : Nat, i ≤ n ∧ t = .int .i64 i ∧ Hid (Below W.heap.size W wr) ∧ Hid (Owns wr W.heap.size s (bondL i))) (fun _ t _ => n - (intOf t).toNat)
  case atStart => exact ⟨0, by omega, rfl, Below.refl _ _, Owns.nil _ _⟩
  case round =>
    obtain ⟨i, hi, rfl, HBr, HOr⟩ := hrel
    by_cases hlt : i < n
    · obtain ⟨v1, D1, e1, o1, b1⟩ := app1 HOr.out (0) (1) (by have := HBr.out.size; omega) (by rw [bondL_length]; omega)
      have HO1 := hide o1
      have HB1 := hide (Below.trans HBr.out b1)
      clear o1 b1
      go_wp2_with (at_builtin; refine wpList_run_append rfl (.tmp 182) (.tmp 184) 26 rfl 26 rfl _ _ v1 D1 rfl rfl e1 ?_)
      go_roundw
      case rel => exact ⟨i + 1, by omega, by go_num, HB1.out, by show Owns _ _ _ _; rw [bondL_more]; exact HO1.out⟩
      case measure => simp [intOf]; omega
    · have hin : i = n := by omega
      subst hin
      obtain ⟨p, c, rfl, hHas, _, _, _⟩ := HOr.out.form
      have M := hide (made22 (2) p (bondL i) c wr hHas)
      clear hHas
      go_wp2_with fail
      refine M.out.mono ?_
      rintro e w1 ⟨hm, hb1⟩
      obtain ⟨N, q, len, k, err, rfl, hN1, kV, mV⟩ := end_made hlt0 (HN.out.later HBr.out) HOr.out (below_step HB.out HBr.out) hm hb1
      have KV := hide kV
      have MV := hide mV
      clear hm hb1 kV mV M
      obtain ⟨r0, r1, r2, r3⟩ := hN1
      go_wp2
      exact bodyPost_ret (ret_net Try.results8 rfl rfl KV.out) rfl MV.out
end Go.Proofs.Ytncnghbkdbhpbaa
