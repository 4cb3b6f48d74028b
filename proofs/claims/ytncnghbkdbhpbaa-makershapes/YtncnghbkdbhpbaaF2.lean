/- The document's complete, sides, grid, random, in every world. -/
import Derived.Test.YtncnghbkdbhpbaaF1
import Derived.Test.YtncnghbkdbhpbaaE4
import Derived.Test.YtncnghbkdbhpbaaE5
import Derived.Test.YtncnghbkdbhpbaaE6
namespace Go.Proofs.Ytncnghbkdbhpbaa
open Go.RowKit Go.Sort
open Go

set_option maxRecDepth 100000 in
set_option maxHeartbeats 4000000 in
theorem complete24big (n : Int) (w : World) (h : 79 < n) : Calls Try.prog 24 #[.int .i64 n] w fun e w' => Made w 0 [] 3 e w' := by
  go_enter Try.func24, Try.ntmps24
  go_wp2
  refine bodyPost_ret (ret_net Try.results24 rfl rfl ?kk1) rfl ⟨?bb1, none, 0, rfl, Owns.nil _ _⟩
  · exact ⟨by go_cell, by go_cell, by go_cell, by go_cell⟩
  · go_grown
set_option maxRecDepth 100000 in
set_option maxHeartbeats 4000000 in
theorem complete24ok (n : Nat) (w : World) (h1 : 1 ≤ n) (h2 : n ≤ 79) : Calls Try.prog 24 #[.int .i64 n] w fun e w' => (madeO n (fullL n n)).made w e w' := by
  obtain ⟨W, hW, hb, hN, hsz⟩ := one_box w
  have HB := hide hb
  have HN := hide hN
  have hlt0 : w.heap.size < W.heap.size := by rw [hsz]; omega
  clear hb hN hsz
  go_enter Try.func24, Try.ntmps24
  go_wp2_with fail
  rw [← hW]
  clear hW
  go_loopw [4, 5] (fun s t wr => ∃ u : Nat, u ≤ n ∧ t = .int .i64 u ∧ Hid (Below W.heap.size W wr) ∧ Hid (Owns wr W.heap.size s (fullL n u))) (fun _ t _ => n - (intOf t).toNat)
  case atStart => exact ⟨0, by omega, rfl, Below.refl _ _, Owns.nil _ _⟩
  case round =>
    obtain ⟨u, hi, rfl, HBr, HOr⟩ := hrel
    by_cases hlt : u < n
    · go_wp2_with fail
      go_loopw [4, 6] (fun s t wr => ∃ v : Nat, v ≤ n - u - 1 ∧ t = .int .i64 (u + 1 + v) ∧ Hid (Below W.heap.size W wr) ∧ Hid (Owns wr W.heap.size s (fullL n u ++ fullRow u v))) (fun _ t _ => n - (intOf t).toNat)
      case atStart => exact ⟨0, by omega, by go_num, HBr.out, by show Owns _ _ _ _; rw [show fullRow u 0 = [] from rfl, List.append_nil]; exact HOr.out⟩
      case round =>
        obtain ⟨v, hv, rfl, HBv, HOv⟩ := hrel
        by_cases hv2 : v < n - u - 1
        · obtain ⟨v1, D1, e1, o1, b1⟩ := app1 HOv.out (u) (u + 1 + v) (by have := HBv.out.size; omega) (by rw [List.length_append, fullRow_length]; have := fullL_length n u (by omega); omega)
          have HO1 := hide o1
          have HB1 := hide (Below.trans HBv.out b1)
          clear o1 b1
          go_wp2_with (at_builtin; refine wpList_run_append rfl (.tmp 22) (.tmp 26) 26 rfl 26 rfl _ _ v1 D1 rfl rfl e1 ?_)
          go_roundw
          case rel => exact ⟨v + 1, by omega, by go_num, HB1.out, by show Owns _ _ _ _; rw [fullRow_more, ← List.append_assoc]; exact HO1.out⟩
          case measure => simp [intOf]; omega
        · have hin : v = n - u - 1 := by omega
          subst hin
          go_wp2
          go_roundw
          case rel => exact ⟨u + 1, by omega, by go_num, HBv.out, by show Owns _ _ _ _; rw [fullL_more]; exact HOv.out⟩
          case measure => simp [intOf]; omega
    · have hin : u = n := by omega
      subst hin
      obtain ⟨p, c, rfl, hHas, _, _, _⟩ := HOr.out.form
      have M := hide (made22 (u) p (fullL u u) c wr hHas)
      clear hHas
      go_wp2_with fail
      refine M.out.mono ?_
      rintro e w1 ⟨hm, hb1⟩
      obtain ⟨N, q, len, k, err, rfl, hN1, kV, mV⟩ := end_made hlt0 (HN.out.later HBr.out) HOr.out (below_step HB.out HBr.out) hm hb1
      have KV := hide kV
      have MV := hide mV
      clear hm hb1 kV mV M
      obtain ⟨r0, r1, r2, r3⟩ := hN1
      go_wp2
      exact bodyPost_ret (ret_net Try.results24 rfl rfl KV.out) rfl MV.out
set_option maxRecDepth 100000 in
set_option maxHeartbeats 4000000 in
theorem sides25big (a b : Int) (m : Nat) (w : World) (hm : a * b = m) (h : 3072 < m) (h2 : m ≤ 100000000) : Calls Try.prog 25 #[.int .i64 a, .int .i64 b] w fun e w' => Made w 0 [] 3 e w' := by
  go_enter Try.func25, Try.ntmps25
  go_wp2
  refine bodyPost_ret (ret_net Try.results25 rfl rfl ?kk1) rfl ⟨?bb1, none, 0, rfl, Owns.nil _ _⟩
  · exact ⟨by go_cell, by go_cell, by go_cell, by go_cell⟩
  · go_grown
set_option maxRecDepth 100000 in
set_option maxHeartbeats 4000000 in
theorem sides25ok (a b m : Nat) (w : World) (h0 : a ≤ 4096) (h1 : b ≤ 4096) (hm : (a : Int) * b = m) (hm0 : a * b = m) (hm1 : m ≤ 3072) : Calls Try.prog 25 #[.int .i64 a, .int .i64 b] w fun e w' => (madeO ((a : Int) + b) (twoL a b a)).made w e w' := by
  have HM := hide hm0
  clear hm0
  obtain ⟨W, hW, hb, hN, hsz⟩ := one_box w
  have HB := hide hb
  have HN := hide hN
  have hlt0 : w.heap.size < W.heap.size := by rw [hsz]; omega
  clear hb hN hsz
  go_enter Try.func25, Try.ntmps25
  go_wp2_with fail
  rw [← hW]
  clear hW hm
  go_loopw [6, 7] (fun s t wr => ∃ u : Nat, u ≤ a ∧ t = .int .i64 u ∧ Hid (Below W.heap.size W wr) ∧ Hid (Owns wr W.heap.size s (twoL a b u))) (fun _ t _ => a - (intOf t).toNat)
  case atStart => exact ⟨0, by omega, rfl, Below.refl _ _, Owns.nil _ _⟩
  case round =>
    obtain ⟨u, hi, rfl, HBr, HOr⟩ := hrel
    by_cases hlt : u < a
    · go_wp2_with fail
      go_loopw [6, 8] (fun s t wr => ∃ v : Nat, v ≤ b ∧ t = .int .i64 v ∧ Hid (Below W.heap.size W wr) ∧ Hid (Owns wr W.heap.size s (twoL a b u ++ twoRow a u v))) (fun _ t _ => b - (intOf t).toNat)
      case atStart => exact ⟨0, by omega, by go_num, HBr.out, by show Owns _ _ _ _; rw [show twoRow a u 0 = [] from rfl, List.append_nil]; exact HOr.out⟩
      case round =>
        obtain ⟨v, hv, rfl, HBv, HOv⟩ := hrel
        by_cases hv2 : v < b
        · obtain ⟨v1, D1, e1, o1, b1⟩ := app1 HOv.out (u) (a + v) (by have := HBv.out.size; omega) (by rw [List.length_append, twoRow_length, twoL_length]; have e1 : u * b ≤ a * b := Nat.mul_le_mul_right b (by omega); have e2 := HM.out; omega)
          have HO1 := hide o1
          have HB1 := hide (Below.trans HBv.out b1)
          clear o1 b1
          go_wp2_with (at_builtin; refine wpList_run_append rfl (.tmp 24) (.tmp 30) 26 rfl 26 rfl _ _ v1 D1 rfl rfl e1 ?_)
          go_roundw
          case rel => exact ⟨v + 1, by omega, by go_num, HB1.out, by show Owns _ _ _ _; rw [twoRow_more, ← List.append_assoc]; exact HO1.out⟩
          case measure => simp [intOf]; omega
        · have hin : v = b := by omega
          subst hin
          go_wp2
          go_roundw
          case rel => exact ⟨u + 1, by omega, by go_num, HBv.out, by show Owns _ _ _ _; rw [twoL_more]; exact HOv.out⟩
          case measure => simp [intOf]; omega
    · have hin : u = a := by omega
      subst hin
      obtain ⟨p, c, rfl, hHas, _, _, _⟩ := HOr.out.form
      have M := hide (made22 ((u : Int) + b) p (twoL u b u) c wr hHas)
      clear hHas
      go_wp2_with fail
      refine M.out.mono ?_
      rintro e w1 ⟨hm, hb1⟩
      obtain ⟨N, q, len, k, err, rfl, hN1, kV, mV⟩ := end_made hlt0 (HN.out.later HBr.out) HOr.out (below_step HB.out HBr.out) hm hb1
      have KV := hide kV
      have MV := hide mV
      clear hm hb1 kV mV M
      obtain ⟨r0, r1, r2, r3⟩ := hN1
      go_wp2
      exact bodyPost_ret (ret_net Try.results25 rfl rfl KV.out) rfl MV.out
set_option maxRecDepth 100000 in
set_option maxHeartbeats 4000000 in
theorem grid26big (a b : Int) (m : Nat) (w : World) (hm : a * b = m) (h : 1024 < m) (h2 : m ≤ 100000000) : Calls Try.prog 26 #[.int .i64 a, .int .i64 b] w fun e w' => Made w 0 [] 3 e w' := by
  go_enter Try.func26, Try.ntmps26
  go_wp2
  refine bodyPost_ret (ret_net Try.results26 rfl rfl ?kk1) rfl ⟨?bb1, none, 0, rfl, Owns.nil _ _⟩
  · exact ⟨by go_cell, by go_cell, by go_cell, by go_cell⟩
  · go_grown
set_option maxRecDepth 100000 in
set_option maxHeartbeats 4000000 in
theorem grid26ok (a b m : Nat) (w : World) (h0 : 1 ≤ a) (h1 : a ≤ 4096) (h2 : b ≤ 4096) (hm : (a : Int) * b = m) (hm1 : m ≤ 1024) : Calls Try.prog 26 #[.int .i64 a, .int .i64 b] w fun e w' => (madeO m (gridL a b m)).made w e w' := by
  obtain ⟨W, hW, hb, hN, hsz⟩ := one_box w
  have HB := hide hb
  have HN := hide hN
  have hlt0 : w.heap.size < W.heap.size := by rw [hsz]; omega
  clear hb hN hsz
  go_enter Try.func26, Try.ntmps26
  go_wp2_with fail
  rw [← hW]
  clear hW
  go_loopw [6, 7] (fun s t wr => ∃ v : Nat, v ≤ m ∧ t = .int .i64 v ∧ Hid (Below W.heap.size W wr) ∧ Hid (Owns wr W.heap.size s (gridL a b v))) (fun _ t _ => m - (intOf t).toNat)
  case atStart => exact ⟨0, by omega, rfl, Below.refl _ _, Owns.nil _ _⟩
  case round =>
    obtain ⟨v, hi, rfl, HBr, HOr⟩ := hrel
    by_cases hlt : v < m
    · have hl := hide (gridL_length a b v)
      have HST : Hid (gridL a b (v + 1) = gridL a b v ++ ((if v % a + 1 < a then [⟨v, v + 1⟩] else []) ++ (if v / a + 1 < b then [⟨v, v + a⟩] else []))) := gridL_more a b v
      have hr : Int.tmod (v : Int) a = ((v % a : Nat) : Int) := by rw [Int.tmod_eq_emod_of_nonneg (by omega)]; exact (Int.natCast_emod v a).symm
      have hd : Int.tdiv (v : Int) a = ((v / a : Nat) : Int) := by rw [Int.tdiv_eq_ediv_of_nonneg (by omega)]; exact (Int.natCast_ediv v a).symm
      have hdl : v / a ≤ v := Nat.div_le_self v a
      have hrl : v % a < a := Nat.mod_lt v (by omega)
      obtain ⟨r, hre⟩ : ∃ r, v % a = r := ⟨_, rfl⟩
      obtain ⟨q, hqe⟩ : ∃ q, v / a = q := ⟨_, rfl⟩
      rw [hre] at HST hr hrl
      rw [hqe] at HST hd hdl
      have na : ¬ (a : Int) = 0 := by omega
      clear hre hqe
      by_cases c1 : r + 1 < a
      · rw [if_pos c1] at HST
        have c1' : (r : Int) + 1 < a := by omega
        obtain ⟨v1, D1, e1, o1, b1⟩ := app1 HOr.out (v) (v + 1) (by have := HBr.out.size; omega) (by have := hl.out; omega)
        have HO1 := hide o1
        have HB1 := hide (Below.trans HBr.out b1)
        clear o1 b1
        by_cases c2 : q + 1 < b
        · rw [if_pos c2] at HST
          have c2' : (q : Int) + 1 < b := by omega
          obtain ⟨v2, D2, e2, o2, b2⟩ := app1 HO1.out (v) (v + a) (by have := HB1.out.size; omega) (by have := hl.out; simp; omega)
          have HO2 := hide o2
          have HB2 := hide (Below.trans HB1.out b2)
          clear o2 b2
          go_wp2_with (at_builtin; first | refine wpList_run_append rfl (.tmp 26) (.tmp 31) 26 rfl 26 rfl _ _ v1 D1 rfl rfl e1 ?_ | refine wpList_run_append rfl (.tmp 39) (.tmp 45) 26 rfl 26 rfl _ _ v2 D2 rfl rfl e2 ?_)
          go_roundw
          case rel => exact ⟨v + 1, by omega, by go_num, HB2.out, by show Owns _ _ _ _; rw [HST.out, ← List.append_assoc]; exact HO2.out⟩
          case measure => simp [intOf]; omega
        · rw [if_neg c2, List.append_nil] at HST
          have c2' : ¬ (q : Int) + 1 < b := by omega
          go_wp2_with (at_builtin; refine wpList_run_append rfl (.tmp 26) (.tmp 31) 26 rfl 26 rfl _ _ v1 D1 rfl rfl e1 ?_)
          go_roundw
          case rel => exact ⟨v + 1, by omega, by go_num, HB1.out, by show Owns _ _ _ _; rw [HST.out]; exact HO1.out⟩
          case measure => simp [intOf]; omega
      · rw [if_neg c1, List.nil_append] at HST
        have c1' : ¬ (r : Int) + 1 < a := by omega
        by_cases c2 : q + 1 < b
        · rw [if_pos c2] at HST
          have c2' : (q : Int) + 1 < b := by omega
          obtain ⟨v1, D1, e1, o1, b1⟩ := app1 HOr.out (v) (v + a) (by have := HBr.out.size; omega) (by have := hl.out; omega)
          have HO1 := hide o1
          have HB1 := hide (Below.trans HBr.out b1)
          clear o1 b1
          go_wp2_with (at_builtin; refine wpList_run_append rfl (.tmp 39) (.tmp 45) 26 rfl 26 rfl _ _ v1 D1 rfl rfl e1 ?_)
          go_roundw
          case rel => exact ⟨v + 1, by omega, by go_num, HB1.out, by show Owns _ _ _ _; rw [HST.out]; exact HO1.out⟩
          case measure => simp [intOf]; omega
        · rw [if_neg c2, List.append_nil] at HST
          have c2' : ¬ (q : Int) + 1 < b := by omega
          go_wp2
          go_roundw
          case rel => exact ⟨v + 1, by omega, by go_num, HBr.out, by show Owns _ _ _ _; rw [HST.out]; exact HOr.out⟩
          case measure => simp [intOf]; omega
    · have hin : v = m := by omega
      subst hin
      obtain ⟨p, c, rfl, hHas, _, _, _⟩ := HOr.out.form
      have M := hide (made22 (v) p (gridL a b v) c wr hHas)
      clear hHas
      go_wp2_with fail
      refine M.out.mono ?_
      rintro e w1 ⟨hm, hb1⟩
      obtain ⟨N, q, len, k, err, rfl, hN1, kV, mV⟩ := end_made hlt0 (HN.out.later HBr.out) HOr.out (below_step HB.out HBr.out) hm hb1
      have KV := hide kV
      have MV := hide mV
      clear hm hb1 kV mV M
      obtain ⟨r0, r1, r2, r3⟩ := hN1
      go_wp2
      exact bodyPost_ret (ret_net Try.results26 rfl rfl KV.out) rfl MV.out
set_option maxRecDepth 100000 in
set_option maxHeartbeats 4000000 in
theorem random27ok (n m : Nat) (seed : Int) (w : World) (h0 : 1 ≤ n) (h1 : n ≤ 4096) (h2 : m ≤ 4096) : Calls Try.prog 27 #[.int .i64 n, .int .i64 m, .int .u64 seed] w fun e w' => (madeO n (rndL n seed m)).made w e w' := by
  obtain ⟨W, hW, hb, hN, hsz⟩ := one_box w
  have HB := hide hb
  have HN := hide hN
  have hlt0 : w.heap.size < W.heap.size := by rw [hsz]; omega
  clear hb hN hsz
  go_enter Try.func27, Try.ntmps27
  go_wp2_with fail
  rw [← hW]
  clear hW
  go_loopw [8, 9, 10] (fun s g t wr => ∃ i : Nat, i ≤ m ∧ t = .int .i64 i ∧ g = .int .u64 (rndSt seed i) ∧ Hid (Below W.heap.size W wr) ∧ Hid (Owns wr W.heap.size s (rndL n seed i))) (fun _ _ t _ => m - (intOf t).toNat)
  case atStart => exact ⟨0, by omega, rfl, rfl, Below.refl _ _, Owns.nil _ _⟩
  case round =>
    obtain ⟨i, hi, rfl, rfl, HBr, HOr⟩ := hrel
    by_cases hlt : i < m
    · obtain ⟨st, hst⟩ : ∃ st, rndSt seed i = st := ⟨_, rfl⟩
      have HE1 : Hid (rndSt seed (i + 1) = nextS (nextS st)) := by show _ = _; rw [← hst]; rfl
      have HE2 : Hid (rndL n seed (i + 1) = rndL n seed i ++ [⟨drawS (nextS st) n, drawS (nextS (nextS st)) n⟩]) := by show _ = _; rw [← hst]; rfl
      rw [hst]
      clear hst
      have D := hide (draw46 st n wr h0 h1)
      go_wp2_with fail
      refine D.out.mono ?_
      rintro e X1 ⟨rfl, hb1⟩
      have HBX := hide (below_step HBr.out hb1)
      have HOX := hide (HOr.out.later hb1)
      clear hb1 D
      have D := hide (draw46 (nextS st) n X1 h0 h1)
      go_wp2_with fail
      refine D.out.mono ?_
      rintro e X2 ⟨rfl, hb1⟩
      have HBY := hide (below_step HBX.out hb1)
      have HOY := hide (HOX.out.later hb1)
      clear hb1 D
      obtain ⟨v1, D1, e1, o1, b1⟩ := app1 HOY.out (drawS (nextS st) n) (drawS (nextS (nextS st)) n) (by have := HBY.out.size; omega) (by rw [rndL_length]; omega)
      have HO1 := hide o1
      have HB1 := hide (Below.trans HBY.out b1)
      clear o1 b1
      go_wp2_with (at_builtin; refine wpList_run_append rfl (.tmp 33) (.tmp 37) 26 rfl 26 rfl _ _ v1 D1 rfl rfl e1 ?_)
      go_roundw
      case rel => exact ⟨i + 1, by omega, by go_num, by rw [HE1.out], HB1.out, by show Owns _ _ _ _; rw [HE2.out]; exact HO1.out⟩
      case measure => simp [intOf]; omega
    · have hin : i = m := by omega
      subst hin
      obtain ⟨p, c, rfl, hHas, _, _, _⟩ := HOr.out.form
      have M := hide (made22 (n) p (rndL n seed i) c wr hHas)
      clear hHas
      go_wp2_with fail
      refine M.out.mono ?_
      rintro e w1 ⟨hm, hb1⟩
      obtain ⟨N, q, len, k, err, rfl, hN1, kV, mV⟩ := end_made hlt0 (HN.out.later HBr.out) HOr.out (below_step HB.out HBr.out) hm hb1
      have KV := hide kV
      have MV := hide mV
      clear hm hb1 kV mV M
      obtain ⟨r0, r1, r2, r3⟩ := hN1
      go_wp2
      exact bodyPost_ret (ret_net Try.results27 rfl rfl KV.out) rfl MV.out
end Go.Proofs.Ytncnghbkdbhpbaa
