/- Cycle, Bond, in every world. -/
import Derived.Test.YtncnghbkdbhpbaaE2
namespace Go.Proofs.Ytncnghbkdbhpbaa
open Go.RowKit Go.Sort
open Go

set_option maxRecDepth 100000 in
set_option maxHeartbeats 4000000 in
theorem cycle12bad (n err : Int) (w : World) (hP : ∀ W, Calls Try.prog 29 #[.int .i64 n] W fun e w' => Made W 0 [] err e w') (he : err ≠ 0) : Calls Try.prog 12 #[.int .i64 n] w fun e w' => Made w 0 [] err e w' := by
  obtain ⟨W, hW, hb, hN, hsz⟩ := one_box w
  have P := hide (hP W)
  have HB := hide hb
  have HN := hide hN
  clear hb hN hsz hP
  have hee : (err == 0) = false := by simpa using he
  go_enter Try.func12, Try.ntmps12
  go_wp2_with fail
  rw [← hW]
  clear hW
  refine P.out.mono ?_
  rintro e w1 ⟨hb1, p, c, rfl, ho⟩
  have hb2 : Below W.heap.size W (w1.alloc (.cells #[.int .i64 0, .slice p 0 c] 28)) := hb1.alloc hb1.size _
  have HN1 := hide (HN.out.later hb2)
  have HB1 := hide (below_step HB.out hb2)
  clear ho hb1 hb2
  obtain ⟨r0, r1, r2, r3⟩ := HN1.out
  go_wp2
  refine bodyPost_ret (ret_net Try.results12 rfl rfl ?k) rfl ⟨?b, none, 0, rfl, Owns.nil _ _⟩
  · exact HN1.out.set 0 none 0 0
  · exact (HB1.out.setCell (by simp) _).setCell (by simp) _
def cycleL (n : Nat) : List Pt := pathL (n - 1) ++ [⟨n - 1, 0⟩]
theorem cycleL_length (n : Nat) (h : 1 ≤ n) : (cycleL n).length = n := by simp [cycleL, pathL_length]; omega
set_option maxRecDepth 100000 in
set_option maxHeartbeats 4000000 in
theorem cycle12ok (n : Nat) (w : World) (h1 : 1 ≤ n) (h2 : n ≤ 1024) : Calls Try.prog 12 #[.int .i64 n] w fun e w' => Made w n (cycleL n) 0 e w' := by
  obtain ⟨W, hW, hb, hN, hsz⟩ := one_box w
  have P := hide (path29ok n W h1 h2)
  have HB := hide hb
  have HN := hide hN
  have HSZ := hide hsz
  clear hb hN hsz
  obtain ⟨L, hL⟩ : ∃ L, pathL (n - 1) = L := ⟨_, rfl⟩
  have hLl : Hid (L.length = n - 1) := by show _ = _; rw [← hL, pathL_length]
  have HC : Hid (cycleL n = L ++ [⟨n - 1, 0⟩]) := by show _ = _; rw [← hL]; rfl
  rw [hL] at P
  clear hL
  go_enter Try.func12, Try.ntmps12
  go_wp2_with fail
  rw [← hW]
  clear hW
  refine P.out.mono ?_
  rintro e w1 ⟨hb1, p, c, rfl, ho⟩
  obtain ⟨U, hU⟩ : ∃ U, U = w1.alloc (.cells #[.int .i64 n, .slice p L.length c] 28) := ⟨_, rfl⟩
  have HG : Hid (GB U w1.heap.size W.heap.size n L) := by show GB _ _ _ _ _; rw [hU]; exact GB.made hb1.size ho
  have HBU : Hid (Below W.heap.size W U) := by show Below _ _ _; rw [hU]; exact hb1.alloc hb1.size _
  have C := hide (tie33 w1.heap.size W.heap.size n (n - 1) 0 L U HG.out (by rw [hLl.out]; omega))
  clear ho hb1
  go_wp2_with fail
  rw [← hU]
  clear hU
  obtain ⟨k, hk⟩ : ∃ k, w1.heap.size = k := ⟨_, rfl⟩
  rw [hk] at HG C ⊢
  clear hk
  refine C.out.mono ?_
  rintro e wr ⟨rfl, hg, hb2, hkp⟩
  rw [← HC.out] at hg
  have HGr := hide hg
  have HBr := hide (Below.trans HBU.out hb2)
  clear hg hb2 hkp
  obtain ⟨_, p, c, hS, hO⟩ := HGr.out
  obtain ⟨q0, q1, _, _⟩ := hS.cell
  obtain ⟨r0, r1, r2, r3⟩ := HN.out.later HBr.out
  have hlt2 : w.heap.size < W.heap.size := by rw [HSZ.out]; omega
  obtain ⟨V, hV, kV, mV⟩ := finish (n := n) hlt2 (HN.out.later HBr.out) hO (below_step HB.out HBr.out)
  have HV := hide hV
  have KV := hide kV
  have MV := hide mV
  clear hV kV mV hS hO
  go_wp2
  rw [← HV.out]
  exact bodyPost_ret (ret_net Try.results12 rfl rfl KV.out) rfl (MV.out 0)
def cycleO (n : Int) : Out := if n < 1 then ⟨0, [], 1⟩ else if 1024 < n then ⟨0, [], 3⟩ else ⟨n, cycleL n.toNat, 0⟩
theorem cycle12 (n : Int) (w : World) : Calls Try.prog 12 #[.int .i64 n] w fun e w' => (cycleO n).made w e w' := by
  unfold cycleO Out.made
  by_cases h1 : n < 1
  · rw [if_pos h1]; exact cycle12bad n 1 w (fun W => path29small n W h1) (by omega)
  by_cases h2 : 1024 < n
  · rw [if_neg h1, if_pos h2]; exact cycle12bad n 3 w (fun W => path29big n W h2) (by omega)
  · rw [if_neg h1, if_neg h2]
    obtain ⟨k, rfl⟩ : ∃ k : Nat, n = k := ⟨n.toNat, by omega⟩
    exact cycle12ok k w (by omega) (by omega)

def bondL (n : Nat) : List Pt := (List.range n).map fun _ => ⟨0, 1⟩
theorem bondL_length (n : Nat) : (bondL n).length = n := by simp [bondL]
theorem bondL_more (n : Nat) : bondL (n + 1) = bondL n ++ [⟨0, 1⟩] := by simp [bondL, List.range_succ]
set_option maxRecDepth 100000 in
set_option maxHeartbeats 4000000 in
theorem bond30small (n : Int) (w : World) (h : n < 1) : Calls Try.prog 30 #[.int .i64 n] w fun e w' => Made w 0 [] 1 e w' := by
  go_enter Try.func30, Try.ntmps30
  go_wp2
  refine bodyPost_ret (ret_net Try.results30 rfl rfl ?k) rfl ⟨?b, none, 0, rfl, Owns.nil _ _⟩
  · exact ⟨by go_cell, by go_cell, by go_cell, by go_cell⟩
  · go_grown
set_option maxRecDepth 100000 in
set_option maxHeartbeats 4000000 in
theorem bond30big (n : Int) (w : World) (h : 3072 < n) : Calls Try.prog 30 #[.int .i64 n] w fun e w' => Made w 0 [] 3 e w' := by
  have F := mfits36 2 n
  rw [show fitsB 2 n = false by simp [fitsB]; omega] at F
  go_enter Try.func30, Try.ntmps30
  go_wp2_with (go_at_call 36; refine (F _).mono ?_; rintro e w' ⟨rfl, hw⟩; have hw := hw.symm; subst hw)
  refine bodyPost_ret (ret_net Try.results30 rfl rfl ?k) rfl ⟨?b, none, 0, rfl, Owns.nil _ _⟩
  · exact ⟨by go_cell, by go_cell, by go_cell, by go_cell⟩
  · go_grown
set_option maxRecDepth 100000 in
set_option maxHeartbeats 4000000 in
theorem bond30ok (n : Nat) (w : World) (h1 : 1 ≤ n) (h2 : n ≤ 3072) : Calls Try.prog 30 #[.int .i64 n] w fun e w' => Made w 2 (bondL n) 0 e w' := by
  have F := mfits36 2 n
  rw [show fitsB 2 n = true by simp [fitsB]; omega] at F
  obtain ⟨W, hW, hb, hN, hsz⟩ := one_box w
  have R := hide (room37 2 n W (by omega))
  have HB := hide hb
  have HN := hide hN
  have HSZ := hide hsz
  clear hb hN hsz
  go_enter Try.func30, Try.ntmps30
  go_wp2_with (go_at_call 36; refine (F _).mono ?_; rintro e w' ⟨rfl, hw⟩; have hw := hw.symm; subst hw)
  rw [← hW]
  clear hW
  refine R.out.mono ?_
  rintro e w1 ⟨kk, rfl, ho, hb1⟩
  obtain ⟨U, hU⟩ : ∃ U, U = w1.alloc (.cells #[.int .i64 2, .slice (some ⟨kk, 0, none⟩) 0 n] 28) := ⟨_, rfl⟩
  have HG : Hid (GB U w1.heap.size W.heap.size 2 []) := by show GB _ _ _ _ _; rw [hU]; exact GB.made hb1.size ho
  have HBU : Hid (Below W.heap.size W U) := by show Below _ _ _; rw [hU]; exact hb1.alloc hb1.size _
  clear ho hb1
  go_wp2_with fail
  rw [← hU]
  obtain ⟨k, hk⟩ : ∃ k, w1.heap.size = k := ⟨_, rfl⟩
  rw [hk] at HG ⊢
  clear hU hk
  go_loopw [15] (fun t wr => ∃ i : Nat, i ≤ n ∧ t = .int .i64 i ∧ Hid (Below W.heap.size W wr) ∧ Hid (GB wr k W.heap.size 2 (bondL i))) (fun t _ => n - (intOf t).toNat)
  case atStart => exact ⟨0, by omega, rfl, HBU.out, HG.out⟩
  case round =>
    obtain ⟨i, hi, rfl, HBr, HGr⟩ := hrel
    by_cases hlt : i < n
    · have C := hide (tie33 k W.heap.size 2 0 1 (bondL i) wr HGr.out (by rw [bondL_length]; omega))
      go_wp2_with (go_at_call 33; refine C.out.mono ?_; rintro e w2 ⟨rfl, hg, hb2, hk⟩; have HG2 := hide hg; have HB2 := hide hb2; clear hg hb2 hk)
      go_roundw
      case rel => exact ⟨i + 1, by omega, by go_num, Below.trans HBr.out HB2.out, by show GB _ _ _ _ _; rw [bondL_more]; exact HG2.out⟩
      case measure => simp [intOf]; omega
    · have hin : i = n := by omega
      subst hin
      obtain ⟨_, p, c, hS, hO⟩ := HGr.out
      obtain ⟨q0, q1, _, _⟩ := hS.cell
      obtain ⟨r0, r1, r2, r3⟩ := HN.out.later HBr.out
      have hlt2 : w.heap.size < W.heap.size := by rw [HSZ.out]; omega
      obtain ⟨V, hV, kV, mV⟩ := finish (n := 2) hlt2 (HN.out.later HBr.out) hO (below_step HB.out HBr.out)
      have HV := hide hV
      have KV := hide kV
      have MV := hide mV
      clear hV kV mV hS hO
      go_wp2
      rw [← HV.out]
      exact bodyPost_ret (ret_net Try.results30 rfl rfl KV.out) rfl (MV.out 0)
def bondO (n : Int) : Out := if n < 1 then ⟨0, [], 1⟩ else if 3072 < n then ⟨0, [], 3⟩ else ⟨2, bondL n.toNat, 0⟩
theorem bond30 (n : Int) (w : World) : Calls Try.prog 30 #[.int .i64 n] w fun e w' => (bondO n).made w e w' := by
  unfold bondO Out.made
  by_cases h1 : n < 1
  · rw [if_pos h1]; exact bond30small n w h1
  by_cases h2 : 3072 < n
  · rw [if_neg h1, if_pos h2]; exact bond30big n w h2
  · rw [if_neg h1, if_neg h2]
    obtain ⟨k, rfl⟩ : ∃ k : Nat, n = k := ⟨n.toNat, by omega⟩
    exact bond30ok k w (by omega) (by omega)
end Go.Proofs.Ytncnghbkdbhpbaa
