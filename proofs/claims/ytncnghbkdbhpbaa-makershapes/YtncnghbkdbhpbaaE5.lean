/- Two, in every world. -/
import Derived.Test.YtncnghbkdbhpbaaE2
namespace Go.Proofs.Ytncnghbkdbhpbaa
open Go.RowKit Go.Sort
open Go

def twoRow (a u m : Nat) : List Pt := (List.range m).map fun (k : Nat) => ⟨u, a + k⟩
def twoL (a b u : Nat) : List Pt := (List.range u).flatMap fun i => twoRow a i b
theorem twoRow_length (a u m : Nat) : (twoRow a u m).length = m := by simp [twoRow]
theorem twoRow_more (a u m : Nat) : twoRow a u (m + 1) = twoRow a u m ++ [⟨u, a + m⟩] := by simp [twoRow, List.range_succ]
theorem twoL_more (a b u : Nat) : twoL a b (u + 1) = twoL a b u ++ twoRow a u b := by simp [twoL, List.range_succ]
theorem twoL_length (a b u : Nat) : (twoL a b u).length = u * b := by
  induction u with
  | zero => simp [twoL]
  | succ k ih => rw [twoL_more, List.length_append, twoRow_length, ih, Nat.succ_mul]
set_option maxRecDepth 100000 in
set_option maxHeartbeats 4000000 in
theorem two16a (a b : Int) (w : World) (h : a < 1) : Calls Try.prog 16 #[.int .i64 a, .int .i64 b] w fun e w' => Made w 0 [] 1 e w' := by
  go_enter Try.func16, Try.ntmps16
  go_wp2
  refine bodyPost_ret (ret_net Try.results16 rfl rfl ?kk1) rfl ⟨?bb1, none, 0, rfl, Owns.nil _ _⟩
  · exact ⟨by go_cell, by go_cell, by go_cell, by go_cell⟩
  · go_grown
set_option maxRecDepth 100000 in
set_option maxHeartbeats 4000000 in
theorem two16b (a b : Int) (w : World) (h0 : 1 ≤ a) (h : b < 1) : Calls Try.prog 16 #[.int .i64 a, .int .i64 b] w fun e w' => Made w 0 [] 1 e w' := by
  go_enter Try.func16, Try.ntmps16
  go_wp2
  refine bodyPost_ret (ret_net Try.results16 rfl rfl ?kk1) rfl ⟨?bb1, none, 0, rfl, Owns.nil _ _⟩
  · exact ⟨by go_cell, by go_cell, by go_cell, by go_cell⟩
  · go_grown
set_option maxRecDepth 100000 in
set_option maxHeartbeats 4000000 in
theorem two16c (a b : Int) (w : World) (h0 : 1 ≤ a) (_h1 : 1 ≤ b) (h : 1024 < a) : Calls Try.prog 16 #[.int .i64 a, .int .i64 b] w fun e w' => Made w 0 [] 3 e w' := by
  have F := huge35 a
  rw [show hugeB a = true by simp [hugeB]; omega] at F
  go_enter Try.func16, Try.ntmps16
  go_wp2_with (go_at_call 35; with_reducible refine (F _).mono ?_; rintro e w' ⟨rfl, hw⟩; have hw := hw.symm; subst hw)
  refine bodyPost_ret (ret_net Try.results16 rfl rfl ?kk1) rfl ⟨?bb1, none, 0, rfl, Owns.nil _ _⟩
  · exact ⟨by go_cell, by go_cell, by go_cell, by go_cell⟩
  · go_grown
set_option maxRecDepth 100000 in
set_option maxHeartbeats 4000000 in
theorem two16d (a b : Int) (w : World) (h0 : 1 ≤ a) (_h1 : 1 ≤ b) (h : a ≤ 1024) (h2 : 1024 < b) : Calls Try.prog 16 #[.int .i64 a, .int .i64 b] w fun e w' => Made w 0 [] 3 e w' := by
  have F := huge35 a
  rw [show hugeB a = false by simp [hugeB]; omega] at F
  have G := huge35 b
  rw [show hugeB b = true by simp [hugeB]; omega] at G
  go_enter Try.func16, Try.ntmps16
  go_wp2_with (first | (go_at_call 35; with_reducible refine (F _).mono ?_; rintro e w' ⟨rfl, hw⟩; have hw := hw.symm; subst hw) | (go_at_call 35; with_reducible refine (G _).mono ?_; rintro e w' ⟨rfl, hw⟩; have hw := hw.symm; subst hw))
  refine bodyPost_ret (ret_net Try.results16 rfl rfl ?kk1) rfl ⟨?bb1, none, 0, rfl, Owns.nil _ _⟩
  · exact ⟨by go_cell, by go_cell, by go_cell, by go_cell⟩
  · go_grown
set_option maxRecDepth 100000 in
set_option maxHeartbeats 4000000 in
theorem two16e (a b : Nat) (m : Nat) (w : World) (h0 : 1 ≤ a) (h1 : 1 ≤ b) (h : a ≤ 1024) (h2 : b ≤ 1024) (hm : (a : Int) * b = m) (hm1 : m ≤ 1048576) (hf : fitsB ((a : Int) + b) m = false) : Calls Try.prog 16 #[.int .i64 a, .int .i64 b] w fun e w' => Made w 0 [] 3 e w' := by
  have F := huge35 a
  rw [show hugeB a = false by simp [hugeB]; omega] at F
  have G := huge35 b
  rw [show hugeB b = false by simp [hugeB]; omega] at G
  have J := mfits36 ((a : Int) + b) m
  rw [hf] at J
  clear hf
  go_enter Try.func16, Try.ntmps16
  go_wp2_with (first | (go_at_call 35; with_reducible refine (F _).mono ?_; rintro e w' ⟨rfl, hw⟩; have hw := hw.symm; subst hw) | (go_at_call 35; with_reducible refine (G _).mono ?_; rintro e w' ⟨rfl, hw⟩; have hw := hw.symm; subst hw) | (go_at_call 36; with_reducible refine (J _).mono ?_; rintro e w' ⟨rfl, hw⟩; have hw := hw.symm; subst hw))
  refine bodyPost_ret (ret_net Try.results16 rfl rfl ?kk1) rfl ⟨?bb1, none, 0, rfl, Owns.nil _ _⟩
  · exact ⟨by go_cell, by go_cell, by go_cell, by go_cell⟩
  · go_grown
set_option maxRecDepth 100000 in
set_option maxHeartbeats 4000000 in
theorem two16ok (a b : Nat) (m : Nat) (w : World) (h0 : 1 ≤ a) (h1 : 1 ≤ b) (h2 : a + b ≤ 1024) (hm : (a : Int) * b = m) (hm0 : a * b = m) (hm1 : m ≤ 3072) : Calls Try.prog 16 #[.int .i64 a, .int .i64 b] w fun e w' => Made w ((a : Int) + b) (twoL a b a) 0 e w' := by
  have F := huge35 a
  rw [show hugeB a = false by simp [hugeB]; omega] at F
  have G := huge35 b
  rw [show hugeB b = false by simp [hugeB]; omega] at G
  have J := mfits36 ((a : Int) + b) m
  rw [show fitsB ((a : Int) + b) m = true by simp [fitsB]; omega] at J
  have HM := hide hm0
  clear hm0
  obtain ⟨W, hW, hb, hN, hsz⟩ := one_box w
  have R := hide (room37 ((a : Int) + b) m W (by omega))
  have HB := hide hb
  have HN := hide hN
  have HSZ := hide hsz
  clear hb hN hsz
  go_enter Try.func16, Try.ntmps16
  go_wp2_with (first | (go_at_call 35; with_reducible refine (F _).mono ?_; rintro e w' ⟨rfl, hw⟩; have hw := hw.symm; subst hw) | (go_at_call 35; with_reducible refine (G _).mono ?_; rintro e w' ⟨rfl, hw⟩; have hw := hw.symm; subst hw) | (go_at_call 36; with_reducible refine (J _).mono ?_; rintro e w' ⟨rfl, hw⟩; have hw := hw.symm; subst hw))
  rw [← hW]
  clear hW
  refine R.out.mono ?_
  rintro e w1 ⟨kk, rfl, ho, hb1⟩
  obtain ⟨U, hU⟩ : ∃ U, U = w1.alloc (.cells #[.int .i64 ((a : Int) + b), .slice (some ⟨kk, 0, none⟩) 0 m] 28) := ⟨_, rfl⟩
  have HG : Hid (GB U w1.heap.size W.heap.size ((a : Int) + b) []) := by show GB _ _ _ _ _; rw [hU]; exact GB.made hb1.size ho
  have HBU : Hid (Below W.heap.size W U) := by show Below _ _ _; rw [hU]; exact hb1.alloc hb1.size _
  clear ho hb1
  go_wp2_with fail
  rw [← hU]
  obtain ⟨k, hk⟩ : ∃ k, w1.heap.size = k := ⟨_, rfl⟩
  rw [hk] at HG ⊢
  clear hU hk
  clear F G J hm
  go_loopw [41] (fun t wr => ∃ u : Nat, u ≤ a ∧ t = .int .i64 u ∧ Hid (Below W.heap.size W wr) ∧ Hid (GB wr k W.heap.size ((a : Int) + b) (twoL a b u))) (fun t _ => a - (intOf t).toNat)
  case atStart => exact ⟨0, by omega, rfl, HBU.out, HG.out⟩
  case round =>
    obtain ⟨u, hi, rfl, HBr, HGr⟩ := hrel
    by_cases hlt : u < a
    · go_wp2_with fail
      go_loopw [45] (fun t wr => ∃ v : Nat, v ≤ b ∧ t = .int .i64 v ∧ Hid (Below W.heap.size W wr) ∧ Hid (GB wr k W.heap.size ((a : Int) + b) (twoL a b u ++ twoRow a u v))) (fun t _ => b - (intOf t).toNat)
      case atStart => exact ⟨0, by omega, by go_num, HBr.out, by show GB _ _ _ _ _; rw [show twoRow a u 0 = [] from rfl, List.append_nil]; exact HGr.out⟩
      case round =>
        obtain ⟨v, hv, rfl, HBv, HGv⟩ := hrel
        by_cases hv2 : v < b
        · have C := hide (tie33 k W.heap.size ((a : Int) + b) u (a + v) (twoL a b u ++ twoRow a u v) wr HGv.out (by rw [List.length_append, twoRow_length, twoL_length]; have e1 : u * b ≤ a * b := Nat.mul_le_mul_right b (by omega); have e2 := HM.out; omega))
          go_wp2_with (go_at_call 33; refine C.out.mono ?_; rintro e w2 ⟨rfl, hg, hb2, hk⟩; have HG2 := hide hg; have HB2 := hide hb2; clear hg hb2 hk)
          go_roundw
          case rel => exact ⟨v + 1, by omega, by go_num, Below.trans HBv.out HB2.out, by show GB _ _ _ _ _; rw [twoRow_more, ← List.append_assoc]; exact HG2.out⟩
          case measure => simp [intOf]; omega
        · have hin : v = b := by omega
          subst hin
          go_wp2
          go_roundw
          case rel => exact ⟨u + 1, by omega, by go_num, HBv.out, by show GB _ _ _ _ _; rw [twoL_more]; exact HGv.out⟩
          case measure => simp [intOf]; omega
    · have hin : u = a := by omega
      subst hin
      obtain ⟨_, p, c, hS, hO⟩ := HGr.out
      obtain ⟨q0, q1, _, _⟩ := hS.cell
      obtain ⟨r0, r1, r2, r3⟩ := HN.out.later HBr.out
      have hlt2 : w.heap.size < W.heap.size := by rw [HSZ.out]; omega
      obtain ⟨V, hV, kV, mV⟩ := finish (n := (u : Int) + b) hlt2 (HN.out.later HBr.out) hO (below_step HB.out HBr.out)
      have HV := hide hV
      have KV := hide kV
      have MV := hide mV
      clear hV kV mV hS hO
      go_wp2
      rw [← HV.out]
      exact bodyPost_ret (ret_net Try.results16 rfl rfl KV.out) rfl (MV.out 0)
def twoO (a b : Int) : Out := if a < 1 ∨ b < 1 then ⟨0, [], 1⟩ else if 1024 < a + b ∨ 3072 < a * b then ⟨0, [], 3⟩ else ⟨a + b, twoL a.toNat b.toNat a.toNat, 0⟩
theorem two16 (a b : Int) (w : World) : Calls Try.prog 16 #[.int .i64 a, .int .i64 b] w fun e w' => (twoO a b).made w e w' := by
  unfold twoO Out.made
  by_cases h1 : a < 1
  · rw [if_pos (Or.inl h1)]; exact two16a a b w h1
  by_cases h2 : b < 1
  · rw [if_pos (Or.inr h2)]; exact two16b a b w (by omega) h2
  rw [if_neg (by omega)]
  by_cases h3 : 1024 < a
  · rw [if_pos (Or.inl (by omega))]; exact two16c a b w (by omega) (by omega) h3
  by_cases h4 : 1024 < b
  · rw [if_pos (Or.inl (by omega))]; exact two16d a b w (by omega) (by omega) (by omega) h4
  obtain ⟨x, rfl⟩ : ∃ x : Nat, a = x := ⟨a.toNat, by omega⟩
  obtain ⟨y, rfl⟩ : ∃ y : Nat, b = y := ⟨b.toNat, by omega⟩
  obtain ⟨m, hm⟩ : ∃ m, x * y = m := ⟨_, rfl⟩
  have hm' : (x : Int) * y = m := by rw [← hm, Int.natCast_mul]
  have l2 : x * y ≤ 1024 * 1024 := Nat.mul_le_mul (by omega) (by omega)
  rw [hm'] 
  by_cases h5 : 1024 < (x : Int) + y ∨ 3072 < (m : Int)
  · rw [if_pos h5]
    exact two16e x y m w (by omega) (by omega) (by omega) (by omega) hm' (by omega) (by simp [fitsB]; omega)
  · rw [if_neg h5]
    exact two16ok x y m w (by omega) (by omega) (by omega) hm' hm (by omega)
end Go.Proofs.Ytncnghbkdbhpbaa
