/- Grid, in every world. -/
import Derived.Test.YtncnghbkdbhpbaaE2
namespace Go.Proofs.Ytncnghbkdbhpbaa
open Go.RowKit Go.Sort
open Go

def gridStep (x y v : Nat) : List Pt := (if v % x + 1 < x then [⟨v, v + 1⟩] else []) ++ (if v / x + 1 < y then [⟨v, v + x⟩] else [])
def gridL (x y m : Nat) : List Pt := (List.range m).flatMap (gridStep x y)
theorem gridL_more (x y m : Nat) : gridL x y (m + 1) = gridL x y m ++ gridStep x y m := by simp [gridL, List.range_succ]
theorem gridStep_length (x y v : Nat) : (gridStep x y v).length ≤ 2 := by
  unfold gridStep
  split <;> split <;> simp
theorem gridL_length (x y m : Nat) : (gridL x y m).length ≤ m * 2 := by
  induction m with
  | zero => simp [gridL]
  | succ k ih => rw [gridL_more, List.length_append]; have := gridStep_length x y k; omega
set_option maxRecDepth 100000 in
set_option maxHeartbeats 4000000 in
theorem grid17a (a b : Int) (w : World) (h : a < 1) : Calls Try.prog 17 #[.int .i64 a, .int .i64 b] w fun e w' => Made w 0 [] 1 e w' := by
  go_enter Try.func17, Try.ntmps17
  go_wp2
  refine bodyPost_ret (ret_net Try.results17 rfl rfl ?kk1) rfl ⟨?bb1, none, 0, rfl, Owns.nil _ _⟩
  · exact ⟨by go_cell, by go_cell, by go_cell, by go_cell⟩
  · go_grown
set_option maxRecDepth 100000 in
set_option maxHeartbeats 4000000 in
theorem grid17b (a b : Int) (w : World) (h0 : 1 ≤ a) (h : b < 1) : Calls Try.prog 17 #[.int .i64 a, .int .i64 b] w fun e w' => Made w 0 [] 1 e w' := by
  go_enter Try.func17, Try.ntmps17
  go_wp2
  refine bodyPost_ret (ret_net Try.results17 rfl rfl ?kk1) rfl ⟨?bb1, none, 0, rfl, Owns.nil _ _⟩
  · exact ⟨by go_cell, by go_cell, by go_cell, by go_cell⟩
  · go_grown
set_option maxRecDepth 100000 in
set_option maxHeartbeats 4000000 in
theorem grid17c (a b : Int) (w : World) (h0 : 1 ≤ a) (_h1 : 1 ≤ b) (h : 1024 < a) : Calls Try.prog 17 #[.int .i64 a, .int .i64 b] w fun e w' => Made w 0 [] 3 e w' := by
  have F := huge35 a
  rw [show hugeB a = true by simp [hugeB]; omega] at F
  go_enter Try.func17, Try.ntmps17
  go_wp2_with (go_at_call 35; with_reducible refine (F _).mono ?_; rintro e w' ⟨rfl, hw⟩; have hw := hw.symm; subst hw)
  refine bodyPost_ret (ret_net Try.results17 rfl rfl ?kk1) rfl ⟨?bb1, none, 0, rfl, Owns.nil _ _⟩
  · exact ⟨by go_cell, by go_cell, by go_cell, by go_cell⟩
  · go_grown
set_option maxRecDepth 100000 in
set_option maxHeartbeats 4000000 in
theorem grid17d (a b : Int) (w : World) (h0 : 1 ≤ a) (_h1 : 1 ≤ b) (h : a ≤ 1024) (h2 : 1024 < b) : Calls Try.prog 17 #[.int .i64 a, .int .i64 b] w fun e w' => Made w 0 [] 3 e w' := by
  have F := huge35 a
  rw [show hugeB a = false by simp [hugeB]; omega] at F
  have G := huge35 b
  rw [show hugeB b = true by simp [hugeB]; omega] at G
  go_enter Try.func17, Try.ntmps17
  go_wp2_with (first | (go_at_call 35; with_reducible refine (F _).mono ?_; rintro e w' ⟨rfl, hw⟩; have hw := hw.symm; subst hw) | (go_at_call 35; with_reducible refine (G _).mono ?_; rintro e w' ⟨rfl, hw⟩; have hw := hw.symm; subst hw))
  refine bodyPost_ret (ret_net Try.results17 rfl rfl ?kk1) rfl ⟨?bb1, none, 0, rfl, Owns.nil _ _⟩
  · exact ⟨by go_cell, by go_cell, by go_cell, by go_cell⟩
  · go_grown
set_option maxRecDepth 100000 in
set_option maxHeartbeats 4000000 in
theorem grid17e (a b : Nat) (m : Nat) (w : World) (h0 : 1 ≤ a) (h1 : 1 ≤ b) (h : a ≤ 1024) (h2 : b ≤ 1024) (hm : (a : Int) * b = m) (hm1 : m ≤ 1048576) (hf : 1024 < m) : Calls Try.prog 17 #[.int .i64 a, .int .i64 b] w fun e w' => Made w 0 [] 3 e w' := by
  have F := huge35 a
  rw [show hugeB a = false by simp [hugeB]; omega] at F
  have G := huge35 b
  rw [show hugeB b = false by simp [hugeB]; omega] at G
  have E := fun V => gridEdges38 a b V (by omega) (by omega) (by omega) (by omega) (by omega) (by omega)
  have J := mfits36 m (gridE a b)
  rw [show fitsB m (gridE a b) = false by simp [fitsB]; omega] at J
  go_enter Try.func17, Try.ntmps17
  go_wp2_with (first | (go_at_call 35; with_reducible refine (F _).mono ?_; rintro e w' ⟨rfl, hw⟩; have hw := hw.symm; subst hw) | (go_at_call 35; with_reducible refine (G _).mono ?_; rintro e w' ⟨rfl, hw⟩; have hw := hw.symm; subst hw) | (go_at_call 36; with_reducible refine (J _).mono ?_; rintro e w' ⟨rfl, hw⟩; have hw := hw.symm; subst hw) | (go_at_call 38; with_reducible refine (E _).mono ?_; rintro e w' ⟨rfl, hw⟩; have hw := hw.symm; subst hw))
  refine bodyPost_ret (ret_net Try.results17 rfl rfl ?kk1) rfl ⟨?bb1, none, 0, rfl, Owns.nil _ _⟩
  · exact ⟨by go_cell, by go_cell, by go_cell, by go_cell⟩
  · go_grown
set_option maxRecDepth 100000 in
set_option maxHeartbeats 4000000 in
theorem grid17ok (a b : Nat) (m g : Nat) (w : World) (h0 : 1 ≤ a) (h1 : 1 ≤ b) (h : a ≤ 1024) (h2 : b ≤ 1024) (hm : (a : Int) * b = m) (hm1 : m ≤ 1024) (hg : gridE a b = g) (hg2 : g ≤ 3072) : Calls Try.prog 17 #[.int .i64 a, .int .i64 b] w fun e w' => Made w m (gridL a b m) 0 e w' := by
  have F := huge35 a
  rw [show hugeB a = false by simp [hugeB]; omega] at F
  have G := huge35 b
  rw [show hugeB b = false by simp [hugeB]; omega] at G
  have E := fun V => gridEdges38 a b V (by omega) (by omega) (by omega) (by omega) (by omega) (by omega)
  rw [hg] at E
  have J := mfits36 m g
  rw [show fitsB m g = true by simp [fitsB]; omega] at J
  clear hg
  obtain ⟨W, hW, hb, hN, hsz⟩ := one_box w
  have R := hide (room37 m g W (by omega))
  have HB := hide hb
  have HN := hide hN
  have HSZ := hide hsz
  clear hb hN hsz
  go_enter Try.func17, Try.ntmps17
  go_wp2_with (first | (go_at_call 35; with_reducible refine (F _).mono ?_; rintro e w' ⟨rfl, hw⟩; have hw := hw.symm; subst hw) | (go_at_call 35; with_reducible refine (G _).mono ?_; rintro e w' ⟨rfl, hw⟩; have hw := hw.symm; subst hw) | (go_at_call 36; with_reducible refine (J _).mono ?_; rintro e w' ⟨rfl, hw⟩; have hw := hw.symm; subst hw) | (go_at_call 38; with_reducible refine (E _).mono ?_; rintro e w' ⟨rfl, hw⟩; have hw := hw.symm; subst hw))
  rw [← hW]
  clear hW
  refine R.out.mono ?_
  rintro e w1 ⟨kk, rfl, ho, hb1⟩
  obtain ⟨U, hU⟩ : ∃ U, U = w1.alloc (.cells #[.int .i64 (m), .slice (some ⟨kk, 0, none⟩) 0 g] 28) := ⟨_, rfl⟩
  have HG : Hid (GB U w1.heap.size W.heap.size (m) []) := by show GB _ _ _ _ _; rw [hU]; exact GB.made hb1.size ho
  have HBU : Hid (Below W.heap.size W U) := by show Below _ _ _; rw [hU]; exact hb1.alloc hb1.size _
  clear ho hb1
  go_wp2_with fail
  rw [← hU]
  obtain ⟨k, hk⟩ : ∃ k, w1.heap.size = k := ⟨_, rfl⟩
  rw [hk] at HG ⊢
  clear hU hk
  clear F G J E
  go_loopw [42] (fun t wr => ∃ v : Nat, v ≤ m ∧ t = .int .i64 v ∧ Hid (Below W.heap.size W wr) ∧ Hid (GB wr k W.heap.size m (gridL a b v))) (fun t _ => m - (intOf t).toNat)
  case atStart => exact ⟨0, by omega, rfl, HBU.out, HG.out⟩
  case round =>
    obtain ⟨v, hi, rfl, HBr, HGr⟩ := hrel
    by_cases hlt : v < m
    · have hl := hide (gridL_length a b v)
      have HST : Hid (gridL a b (v + 1) = gridL a b v ++ ((if v % a + 1 < a then [⟨v, v + 1⟩] else []) ++ (if v / a + 1 < b then [⟨v, v + a⟩] else []))) := gridL_more a b v
      have hr : Int.tmod (v : Int) a = ((v % a : Nat) : Int) := by rw [Int.tmod_eq_emod_of_nonneg (by omega)]; exact (Int.natCast_emod v a).symm
      have hd : Int.tdiv (v : Int) a = ((v / a : Nat) : Int) := by rw [Int.tdiv_eq_ediv_of_nonneg (by omega)]; exact (Int.natCast_ediv v a).symm
      have hdl : v / a ≤ v := Nat.div_le_self v a
      have hrl : v % a < a := Nat.mod_lt v (by omega)
      obtain ⟨r, hre⟩ : ∃ r, v % a = r := ⟨_, rfl⟩
      obtain ⟨q, hqe⟩ : ∃ q, v / a = q := ⟨_, rfl⟩
      rw [hre] at HST hr hrl
      rw [hqe] at HST hd hdl
      have na : ¬ (a : Int) = 0 := by omega
      clear hre hqe
      by_cases c1 : r + 1 < a
      · have C := hide (tie33 k W.heap.size m v (v + 1) (gridL a b v) wr HGr.out (by have := hl.out; omega))
        rw [if_pos c1] at HST
        have c1' : (r : Int) < a - 1 := by omega
        by_cases c2 : q + 1 < b
        · rw [if_pos c2] at HST
          have c2' : (q : Int) < b - 1 := by omega
          go_wp2_with (go_at_call 33; first | ((with_reducible refine C.out.mono ?_); rintro e w2 ⟨rfl, hg, hb2, hk⟩; have HG2 := hide hg; have HB2 := hide hb2; have D := hide (tie33 k W.heap.size m v (v + a) (gridL a b v ++ [⟨v, v + 1⟩]) w2 HG2.out (by have := hl.out; simp; omega)); clear hg hb2 hk) | ((with_reducible refine D.out.mono ?_); rintro e w3 ⟨rfl, hg, hb2, hk⟩; have HG3 := hide hg; have HB3 := hide hb2; clear hg hb2 hk))
          go_roundw
          case rel => exact ⟨v + 1, by omega, by go_num, Below.trans (Below.trans HBr.out HB2.out) HB3.out, by show GB _ _ _ _ _; rw [HST.out, ← List.append_assoc]; exact HG3.out⟩
          case measure => simp [intOf]; omega
        · rw [if_neg c2, List.append_nil] at HST
          have c2' : ¬ (q : Int) < b - 1 := by omega
          go_wp2_with (go_at_call 33; refine C.out.mono ?_; rintro e w2 ⟨rfl, hg, hb2, hk⟩; have HG2 := hide hg; have HB2 := hide hb2; clear hg hb2 hk)
          go_roundw
          case rel => exact ⟨v + 1, by omega, by go_num, Below.trans HBr.out HB2.out, by show GB _ _ _ _ _; rw [HST.out]; exact HG2.out⟩
          case measure => simp [intOf]; omega
      · rw [if_neg c1, List.nil_append] at HST
        have c1' : ¬ (r : Int) < a - 1 := by omega
        by_cases c2 : q + 1 < b
        · have C := hide (tie33 k W.heap.size m v (v + a) (gridL a b v) wr HGr.out (by have := hl.out; omega))
          rw [if_pos c2] at HST
          have c2' : (q : Int) < b - 1 := by omega
          go_wp2_with (go_at_call 33; refine C.out.mono ?_; rintro e w2 ⟨rfl, hg, hb2, hk⟩; have HG2 := hide hg; have HB2 := hide hb2; clear hg hb2 hk)
          go_roundw
          case rel => exact ⟨v + 1, by omega, by go_num, Below.trans HBr.out HB2.out, by show GB _ _ _ _ _; rw [HST.out]; exact HG2.out⟩
          case measure => simp [intOf]; omega
        · rw [if_neg c2, List.append_nil] at HST
          have c2' : ¬ (q : Int) < b - 1 := by omega
          go_wp2
          go_roundw
          case rel => exact ⟨v + 1, by omega, by go_num, HBr.out, by show GB _ _ _ _ _; rw [HST.out]; exact HGr.out⟩
          case measure => simp [intOf]; omega
    · have hin : v = m := by omega
      subst hin
      obtain ⟨_, p, c, hS, hO⟩ := HGr.out
      obtain ⟨q0, q1, _, _⟩ := hS.cell
      obtain ⟨r0, r1, r2, r3⟩ := HN.out.later HBr.out
      have hlt2 : w.heap.size < W.heap.size := by rw [HSZ.out]; omega
      obtain ⟨V, hV, kV, mV⟩ := finish (n := v) hlt2 (HN.out.later HBr.out) hO (below_step HB.out HBr.out)
      have HV := hide hV
      have KV := hide kV
      have MV := hide mV
      clear hV kV mV hS hO
      go_wp2
      rw [← HV.out]
      exact bodyPost_ret (ret_net Try.results17 rfl rfl KV.out) rfl (MV.out 0)
def gridO (a b : Int) : Out := if a < 1 ∨ b < 1 then ⟨0, [], 1⟩ else if 1024 < a * b then ⟨0, [], 3⟩ else ⟨a * b, gridL a.toNat b.toNat (a * b).toNat, 0⟩
theorem grid17 (a b : Int) (w : World) : Calls Try.prog 17 #[.int .i64 a, .int .i64 b] w fun e w' => (gridO a b).made w e w' := by
  unfold gridO Out.made
  by_cases h1 : a < 1
  · rw [if_pos (Or.inl h1)]; exact grid17a a b w h1
  by_cases h2 : b < 1
  · rw [if_pos (Or.inr h2)]; exact grid17b a b w (by omega) h2
  rw [if_neg (by omega)]
  have hge : a ≤ a * b := by
    have := Int.mul_le_mul_of_nonneg_left (show (1 : Int) ≤ b by omega) (show 0 ≤ a by omega)
    omega
  have hge2 : b ≤ a * b := by
    have := Int.mul_le_mul_of_nonneg_right (show (1 : Int) ≤ a by omega) (show 0 ≤ b by omega)
    omega
  by_cases h3 : 1024 < a
  · rw [if_pos (by omega)]; exact grid17c a b w (by omega) (by omega) h3
  by_cases h4 : 1024 < b
  · rw [if_pos (by omega)]; exact grid17d a b w (by omega) (by omega) (by omega) h4
  obtain ⟨x, rfl⟩ : ∃ x : Nat, a = x := ⟨a.toNat, by omega⟩
  obtain ⟨y, rfl⟩ : ∃ y : Nat, b = y := ⟨b.toNat, by omega⟩
  obtain ⟨m, hm⟩ : ∃ m, x * y = m := ⟨_, rfl⟩
  have hm' : (x : Int) * y = m := by rw [← hm, Int.natCast_mul]
  have l2 : x * y ≤ 1024 * 1024 := Nat.mul_le_mul (by omega) (by omega)
  rw [hm'] at hge hge2 ⊢
  by_cases h5 : 1024 < (m : Int)
  · rw [if_pos h5]
    exact grid17e x y m w (by omega) (by omega) (by omega) (by omega) hm' (by omega) (by omega)
  · rw [if_neg h5]
    exact grid17ok x y m (2 * m - x - y) w (by omega) (by omega) (by omega) (by omega) hm' (by omega) (by unfold gridE; omega) (by omega)
end Go.Proofs.Ytncnghbkdbhpbaa
