/- Complete, in every world. -/
import Derived.Test.YtncnghbkdbhpbaaE2
namespace Go.Proofs.Ytncnghbkdbhpbaa
open Go.RowKit Go.Sort
open Go

def fullRow (u m : Nat) : List Pt := (List.range m).map fun (k : Nat) => ⟨u, u + 1 + k⟩
def fullL (n u : Nat) : List Pt := (List.range u).flatMap fun i => fullRow i (n - i - 1)
theorem fullRow_length (u m : Nat) : (fullRow u m).length = m := by simp [fullRow]
theorem fullRow_more (u m : Nat) : fullRow u (m + 1) = fullRow u m ++ [⟨u, u + 1 + m⟩] := by simp [fullRow, List.range_succ]
theorem fullL_more (n u : Nat) : fullL n (u + 1) = fullL n u ++ fullRow u (n - u - 1) := by simp [fullL, List.range_succ]
theorem fullL_length (n u : Nat) (h : n ≤ 79) : (fullL n u).length ≤ u * 79 := by
  induction u with
  | zero => simp [fullL]
  | succ k ih => rw [fullL_more, List.length_append, fullRow_length]; omega
set_option maxRecDepth 100000 in
set_option maxHeartbeats 4000000 in
theorem full15small (n : Int) (w : World) (h : n < 1) : Calls Try.prog 15 #[.int .i64 n] w fun e w' => Made w 0 [] 1 e w' := by
  go_enter Try.func15, Try.ntmps15
  go_wp2
  refine bodyPost_ret (ret_net Try.results15 rfl rfl ?kk1) rfl ⟨?bb1, none, 0, rfl, Owns.nil _ _⟩
  · exact ⟨by go_cell, by go_cell, by go_cell, by go_cell⟩
  · go_grown
set_option maxRecDepth 100000 in
set_option maxHeartbeats 4000000 in
theorem full15huge (n : Int) (w : World) (h : 1024 < n) : Calls Try.prog 15 #[.int .i64 n] w fun e w' => Made w 0 [] 3 e w' := by
  have F := huge35 n
  rw [show hugeB n = true by simp [hugeB]; omega] at F
  go_enter Try.func15, Try.ntmps15
  go_wp2_with (go_at_call 35; refine (F _).mono ?_; rintro e w' ⟨rfl, hw⟩; have hw := hw.symm; subst hw)
  refine bodyPost_ret (ret_net Try.results15 rfl rfl ?kk1) rfl ⟨?bb1, none, 0, rfl, Owns.nil _ _⟩
  · exact ⟨by go_cell, by go_cell, by go_cell, by go_cell⟩
  · go_grown
set_option maxRecDepth 100000 in
set_option maxHeartbeats 4000000 in
theorem full15big (n : Nat) (m : Nat) (w : World) (h : 1 ≤ n) (h2 : n ≤ 1024) (hm : (n : Int) * (n - 1) = 2 * m) (hm2 : 3072 < m) (hm3 : m ≤ 600000) : Calls Try.prog 15 #[.int .i64 n] w fun e w' => Made w 0 [] 3 e w' := by
  have F := huge35 n
  rw [show hugeB n = false by simp [hugeB]; omega] at F
  have G := mfits36 n m
  rw [show fitsB n m = false by simp [fitsB]; omega] at G
  have hq : Int.tdiv ((n : Int) * (n - 1)) 2 = m := by rw [hm, Int.mul_comm]; exact Int.mul_tdiv_cancel _ (by omega)
  have b1 : (n : Int) * (n - 1) ≤ 1200000 := by omega
  have b2 : 0 ≤ (n : Int) * (n - 1) := by omega
  have HM := hide hm
  clear hm
  go_enter Try.func15, Try.ntmps15
  go_wp2_with (first | (go_at_call 35; refine (F _).mono ?_; rintro e w' ⟨rfl, hw⟩; have hw := hw.symm; subst hw) | (go_at_call 36; refine (G _).mono ?_; rintro e w' ⟨rfl, hw⟩; have hw := hw.symm; subst hw))
  refine bodyPost_ret (ret_net Try.results15 rfl rfl ?kk1) rfl ⟨?bb1, none, 0, rfl, Owns.nil _ _⟩
  · exact ⟨by go_cell, by go_cell, by go_cell, by go_cell⟩
  · go_grown
set_option maxRecDepth 100000 in
set_option maxHeartbeats 4000000 in
theorem full15ok (n : Nat) (m : Nat) (w : World) (h1 : 1 ≤ n) (h2 : n ≤ 78) (hm : (n : Int) * (n - 1) = 2 * m) (hm2 : m ≤ 3072) : Calls Try.prog 15 #[.int .i64 n] w fun e w' => Made w n (fullL n n) 0 e w' := by
  have F := huge35 n
  rw [show hugeB n = false by simp [hugeB]; omega] at F
  have G := mfits36 n m
  rw [show fitsB n m = true by simp [fitsB]; omega] at G
  have hq : Int.tdiv ((n : Int) * (n - 1)) 2 = m := by rw [hm, Int.mul_comm]; exact Int.mul_tdiv_cancel _ (by omega)
  have b1 : (n : Int) * (n - 1) ≤ 1200000 := by omega
  have b2 : 0 ≤ (n : Int) * (n - 1) := by omega
  have HM := hide hm
  clear hm
  obtain ⟨W, hW, hb, hN, hsz⟩ := one_box w
  have R := hide (room37 n m W (by omega))
  have HB := hide hb
  have HN := hide hN
  have HSZ := hide hsz
  clear hb hN hsz
  go_enter Try.func15, Try.ntmps15
  go_wp2_with (first | (go_at_call 35; refine (F _).mono ?_; rintro e w' ⟨rfl, hw⟩; have hw := hw.symm; subst hw) | (go_at_call 36; refine (G _).mono ?_; rintro e w' ⟨rfl, hw⟩; have hw := hw.symm; subst hw))
  rw [← hW]
  clear hW
  refine R.out.mono ?_
  rintro e w1 ⟨kk, rfl, ho, hb1⟩
  obtain ⟨U, hU⟩ : ∃ U, U = w1.alloc (.cells #[.int .i64 n, .slice (some ⟨kk, 0, none⟩) 0 m] 28) := ⟨_, rfl⟩
  have HG : Hid (GB U w1.heap.size W.heap.size n []) := by show GB _ _ _ _ _; rw [hU]; exact GB.made hb1.size ho
  have HBU : Hid (Below W.heap.size W U) := by show Below _ _ _; rw [hU]; exact hb1.alloc hb1.size _
  clear ho hb1
  go_wp2_with fail
  rw [← hU]
  obtain ⟨k, hk⟩ : ∃ k, w1.heap.size = k := ⟨_, rfl⟩
  rw [hk] at HG ⊢
  clear hU hk b1 b2 hq
  go_loopw [31] (fun t wr => ∃ u : Nat, u ≤ n ∧ t = .int .i64 u ∧ Hid (Below W.heap.size W wr) ∧ Hid (GB wr k W.heap.size n (fullL n u))) (fun t _ => n - (intOf t).toNat)
  case atStart => exact ⟨0, by omega, rfl, HBU.out, HG.out⟩
  case round =>
    obtain ⟨u, hi, rfl, HBr, HGr⟩ := hrel
    by_cases hlt : u < n
    · go_wp2_with fail
      go_loopw [6] (fun t wr => ∃ v : Nat, v ≤ n - u - 1 ∧ t = .int .i64 (u + 1 + v) ∧ Hid (Below W.heap.size W wr) ∧ Hid (GB wr k W.heap.size n (fullL n u ++ fullRow u v))) (fun t _ => n - (intOf t).toNat)
      case atStart => exact ⟨0, by omega, by go_num, HBr.out, by show GB _ _ _ _ _; rw [show fullRow u 0 = [] from rfl, List.append_nil]; exact HGr.out⟩
      case round =>
        obtain ⟨v, hv, rfl, HBv, HGv⟩ := hrel
        by_cases hv2 : v < n - u - 1
        · have C := hide (tie33 k W.heap.size n u (u + 1 + v) (fullL n u ++ fullRow u v) wr HGv.out (by rw [List.length_append, fullRow_length]; have := fullL_length n u (by omega); omega))
          go_wp2_with (go_at_call 33; refine C.out.mono ?_; rintro e w2 ⟨rfl, hg, hb2, hk⟩; have HG2 := hide hg; have HB2 := hide hb2; clear hg hb2 hk)
          go_roundw
          case rel => exact ⟨v + 1, by omega, by go_num, Below.trans HBv.out HB2.out, by show GB _ _ _ _ _; rw [fullRow_more, ← List.append_assoc]; exact HG2.out⟩
          case measure => simp [intOf]; omega
        · have hin : v = n - u - 1 := by omega
          subst hin
          go_wp2
          go_roundw
          case rel => exact ⟨u + 1, by omega, by go_num, HBv.out, by show GB _ _ _ _ _; rw [fullL_more]; exact HGv.out⟩
          case measure => simp [intOf]; omega
    · have hin : u = n := by omega
      subst hin
      obtain ⟨_, p, c, hS, hO⟩ := HGr.out
      obtain ⟨q0, q1, _, _⟩ := hS.cell
      obtain ⟨r0, r1, r2, r3⟩ := HN.out.later HBr.out
      have hlt2 : w.heap.size < W.heap.size := by rw [HSZ.out]; omega
      obtain ⟨V, hV, kV, mV⟩ := finish (n := u) hlt2 (HN.out.later HBr.out) hO (below_step HB.out HBr.out)
      have HV := hide hV
      have KV := hide kV
      have MV := hide mV
      clear hV kV mV hS hO
      go_wp2
      rw [← HV.out]
      exact bodyPost_ret (ret_net Try.results15 rfl rfl KV.out) rfl (MV.out 0)
def fullO (n : Int) : Out := if n < 1 then ⟨0, [], 1⟩ else if 78 < n then ⟨0, [], 3⟩ else ⟨n, fullL n.toNat n.toNat, 0⟩
theorem half (n : Nat) (h : 1 ≤ n) : ∃ m : Nat, (n : Int) * (n - 1) = 2 * m ∧ n * (n - 1) = 2 * m := by
  refine ⟨n * (n - 1) / 2, ?_, ?_⟩
  · have e : n * (n - 1) = 2 * (n * (n - 1) / 2) := by
      rcases Nat.mod_two_eq_zero_or_one n with h0 | h0
      · have := Nat.mul_mod n (n - 1) 2
        rw [h0, Nat.zero_mul] at this
        omega
      · have h3 : (n - 1) % 2 = 0 := by omega
        have := Nat.mul_mod n (n - 1) 2
        rw [h3, Nat.mul_zero] at this
        omega
    have e2 : ((n * (n - 1) : Nat) : Int) = (n : Int) * (n - 1) := by rw [Int.natCast_mul, Int.natCast_sub h]; rfl
    omega
  · rcases Nat.mod_two_eq_zero_or_one n with h0 | h0
    · have := Nat.mul_mod n (n - 1) 2
      rw [h0, Nat.zero_mul] at this
      omega
    · have h3 : (n - 1) % 2 = 0 := by omega
      have := Nat.mul_mod n (n - 1) 2
      rw [h3, Nat.mul_zero] at this
      omega
theorem full15 (n : Int) (w : World) : Calls Try.prog 15 #[.int .i64 n] w fun e w' => (fullO n).made w e w' := by
  unfold fullO Out.made
  by_cases h1 : n < 1
  · rw [if_pos h1]; exact full15small n w h1
  by_cases h2 : 78 < n
  · rw [if_neg h1, if_pos h2]
    by_cases h3 : 1024 < n
    · exact full15huge n w h3
    obtain ⟨k, rfl⟩ : ∃ k : Nat, n = k := ⟨n.toNat, by omega⟩
    obtain ⟨m, e1, e2⟩ := half k (by omega)
    have l1 : 79 * 78 ≤ k * (k - 1) := Nat.mul_le_mul (by omega) (by omega)
    have l2 : k * (k - 1) ≤ 1024 * 1023 := Nat.mul_le_mul (by omega) (by omega)
    exact full15big k m w (by omega) (by omega) e1 (by omega) (by omega)
  · rw [if_neg h1, if_neg h2]
    obtain ⟨k, rfl⟩ : ∃ k : Nat, n = k := ⟨n.toNat, by omega⟩
    obtain ⟨m, e1, e2⟩ := half k (by omega)
    have l2 : k * (k - 1) ≤ 78 * 77 := Nat.mul_le_mul (by omega) (by omega)
    exact full15ok k m w (by omega) (by omega) e1 (by omega)
end Go.Proofs.Ytncnghbkdbhpbaa
