/- Prism, in every world. -/
import Derived.Test.YtncnghbkdbhpbaaE7
namespace Go.Proofs.Ytncnghbkdbhpbaa
open Go.RowKit Go.Sort
open Go

set_option maxRecDepth 100000 in
set_option maxHeartbeats 4000000 in
theorem prism14small (n : Int) (w : World) (h : n < 3) : Calls Try.prog 14 #[.int .i64 n] w fun e w' => Made w 0 [] 1 e w' := by
  go_enter Try.func14, Try.ntmps14
  go_wp2
  refine bodyPost_ret (ret_net Try.results14 rfl rfl ?kk1) rfl ⟨?bb1, none, 0, rfl, Owns.nil _ _⟩
  · exact ⟨by go_cell, by go_cell, by go_cell, by go_cell⟩
  · go_grown
set_option maxRecDepth 100000 in
set_option maxHeartbeats 4000000 in
theorem prism14huge (n : Int) (w : World) (h : 1024 < n) : Calls Try.prog 14 #[.int .i64 n] w fun e w' => Made w 0 [] 3 e w' := by
  obtain ⟨W, hW, hb, hN, hsz⟩ := one_box w
  have P := hide (cycle12bad n 3 W (fun W => path29big n W h) (by omega))
  have HB := hide hb
  have HN := hide hN
  clear hb hN hsz
  go_enter Try.func14, Try.ntmps14
  go_wp2_with fail
  rw [← hW]
  clear hW
  refine P.out.mono ?_
  rintro e w1 ⟨hb1, p, c, rfl, ho⟩
  have hb2 : Below W.heap.size W (w1.alloc (.cells #[.int .i64 0, .slice p 0 c] 28)) := hb1.alloc hb1.size _
  have HN1 := hide (HN.out.later hb2)
  have HB1 := hide (below_step HB.out hb2)
  clear ho hb1 hb2
  obtain ⟨r0, r1, r2, r3⟩ := HN1.out
  go_wp2
  refine bodyPost_ret (ret_net Try.results14 rfl rfl ?kk1) rfl ⟨?bb1, none, 0, rfl, Owns.nil _ _⟩
  · exact HN1.out.set 0 none 0 0
  · exact (HB1.out.setCell (by simp) _).setCell (by simp) _
set_option maxRecDepth 100000 in
set_option maxHeartbeats 4000000 in
theorem prism14lim (n : Nat) (w : World) (_h0 : 3 ≤ n) (h1 : 512 < n) (h2 : n ≤ 1024) : Calls Try.prog 14 #[.int .i64 n] w fun e w' => Made w 0 [] 3 e w' := by
  obtain ⟨W, hW, hb, hN, hsz⟩ := one_box w
  have P := hide (cycle12ok n W (by omega) (by omega))
  have HB := hide hb
  have HN := hide hN
  have HSZ := hide hsz
  clear hb hN hsz
  have HNB := hide (cycle_net n (by omega) (by omega))
  have HLL := hide (cycleL_length n (by omega))
  obtain ⟨L, hL⟩ : ∃ L, cycleL n = L := ⟨_, rfl⟩
  rw [hL] at P HNB HLL
  have HJE : Hid (joinE n n L L = 3) := by show _ = _; unfold joinE; rw [HNB.out]; simp [fitsB]; omega
  clear hL
  go_enter Try.func14, Try.ntmps14
  go_wp2_with fail
  rw [← hW]
  clear hW
  refine P.out.mono ?_
  rintro e w1 ⟨hb1, p, c, rfl, ho⟩
  obtain ⟨U, hU⟩ : ∃ U, U = w1.alloc (.cells #[.int .i64 n, .slice p L.length c] 28) := ⟨_, rfl⟩
  have hb2 : Below w1.heap.size w1 U := by rw [hU]; go_grown
  have HBU : Hid (Below W.heap.size W U) := below_step hb1 hb2
  obtain ⟨p', c', hv, hHas, _, hnil, _⟩ := (ho.later hb2).form
  simp only [Value.slice.injEq, true_and] at hv
  obtain ⟨rfl, rfl⟩ := hv
  have J := hide (join19 n n p p L L c c U hnil hHas hHas)
  have HNU := hide (HN.out.later HBU.out)
  clear ho hb1 hb2 hHas hnil
  go_wp2_with fail
  rw [← hU]
  clear hU
  refine J.out.mono ?_
  rintro e w2 ⟨hJ, hb3⟩
  rcases hJ with ⟨hj0, _⟩ | ⟨_, hj⟩
  · exact absurd hj0 (by rw [HJE.out]; omega)
  subst hj
  rw [HJE.out]
  have hb4 : Below U.heap.size U (w2.alloc (.cells #[.int .i64 0, .slice none 0 0] 28)) := hb3.alloc hb3.size _
  have HN2 := hide (HNU.out.later hb4)
  have HB2 := hide (below_step (below_step HB.out HBU.out) hb4)
  clear hb3 hb4
  obtain ⟨r0, r1, r2, r3⟩ := HN2.out
  go_wp2
  refine bodyPost_ret (ret_net Try.results14 rfl rfl ?kk1) rfl ⟨?bb1, none, 0, rfl, Owns.nil _ _⟩
  · exact HN2.out.set 0 none 0 0
  · exact (HB2.out.setCell (by simp) _).setCell (by simp) _
def prismS (n i : Nat) : List Pt := (List.range i).map fun (j : Nat) => ⟨j, n + j⟩
def prismL (n i : Nat) : List Pt := joinL n (cycleL n) (cycleL n) ++ prismS n i
theorem prismS_length (n i : Nat) : (prismS n i).length = i := by simp [prismS]
theorem prismL_more (n i : Nat) : prismL n (i + 1) = prismL n i ++ [⟨i, n + i⟩] := by simp [prismL, prismS, List.range_succ]
theorem prismL_length (n i : Nat) (h : 1 ≤ n) : (prismL n i).length ≤ 2 * n + i := by
  have := cycleL_length n h
  simp [prismL, prismS_length, joinL_length]; omega
set_option maxRecDepth 100000 in
set_option maxHeartbeats 4000000 in
theorem prism14ok (n : Nat) (w : World) (h0 : 3 ≤ n) (h1 : n ≤ 512) : Calls Try.prog 14 #[.int .i64 n] w fun e w' => Made w ((n : Int) + n) (prismL n n) 0 e w' := by
  obtain ⟨W, hW, hb, hN, hsz⟩ := one_box w
  have P := hide (cycle12ok n W (by omega) (by omega))
  have HB := hide hb
  have HN := hide hN
  have HSZ := hide hsz
  clear hb hN hsz
  have HNB := hide (cycle_net n (by omega) (by omega))
  have HLL := hide (cycleL_length n (by omega))
  obtain ⟨L, hL⟩ : ∃ L, cycleL n = L := ⟨_, rfl⟩
  rw [hL] at P HNB HLL
  have HJE : Hid (joinE n n L L = 0) := by show _ = _; unfold joinE; rw [HNB.out]; simp [fitsB]; have := HLL.out; omega
  have HBASE : Hid (joinL n L L = prismL n 0) := by show _ = _; rw [← hL]; simp [prismL, prismS, joinL]
  clear hL
  go_enter Try.func14, Try.ntmps14
  go_wp2_with fail
  rw [← hW]
  clear hW
  refine P.out.mono ?_
  rintro e w1 ⟨hb1, p, c, rfl, ho⟩
  obtain ⟨U, hU⟩ : ∃ U, U = w1.alloc (.cells #[.int .i64 n, .slice p L.length c] 28) := ⟨_, rfl⟩
  have hb2 : Below w1.heap.size w1 U := by rw [hU]; go_grown
  have HBU : Hid (Below W.heap.size W U) := below_step hb1 hb2
  obtain ⟨p', c', hv, hHas, _, hnil, _⟩ := (ho.later hb2).form
  simp only [Value.slice.injEq, true_and] at hv
  obtain ⟨rfl, rfl⟩ := hv
  have J := hide (join19 n n p p L L c c U hnil hHas hHas)
  have HNU := hide (HN.out.later HBU.out)
  clear ho hb1 hb2 hHas hnil
  go_wp2_with fail
  rw [← hU]
  clear hU
  refine J.out.mono ?_
  rintro e w2 ⟨hJ, hb3⟩
  rcases hJ with ⟨_, p2, c2, hj, ho2⟩ | ⟨hj0, _⟩
  rotate_left
  · exact absurd HJE.out hj0
  subst hj
  rw [HBASE.out] at ho2 ⊢
  obtain ⟨X, hX⟩ : ∃ X, X = w2.alloc (.cells #[.int .i64 ((n : Int) + n), .slice p2 (prismL n 0).length c2] 28) := ⟨_, rfl⟩
  have hbX : Below U.heap.size U X := by rw [hX]; exact hb3.alloc hb3.size _
  have HG : Hid (GB X w2.heap.size W.heap.size ((n : Int) + n) (prismL n 0)) := by show GB _ _ _ _ _; rw [hX]; exact GB.made (Nat.le_trans HBU.out.size hb3.size) (ho2.base HBU.out.size)
  have HBX : Hid (Below W.heap.size W X) := below_step HBU.out hbX
  clear ho2 hb3 hbX
  obtain ⟨l0, hl0⟩ : ∃ l0, (prismL n 0).length = l0 := ⟨_, rfl⟩
  rw [hl0] at hX ⊢
  go_wp2_with fail
  rw [← hX]
  obtain ⟨k, hk⟩ : ∃ k, w2.heap.size = k := ⟨_, rfl⟩
  rw [hk] at HG ⊢
  clear hX hk hl0
  go_loopw [31] (fun t wr => ∃ i : Nat, i ≤ n ∧ t = .int .i64 i ∧ Hid (Below W.heap.size W wr) ∧ Hid (GB wr k W.heap.size ((n : Int) + n) (prismL n i))) (fun t _ => n - (intOf t).toNat)
  case atStart => exact ⟨0, by omega, rfl, HBX.out, HG.out⟩
  case round =>
    obtain ⟨i, hi, rfl, HBr, HGr⟩ := hrel
    by_cases hlt : i < n
    · have C := hide (tie33 k W.heap.size ((n : Int) + n) (i) (n + i) (prismL n i) wr HGr.out (by have := prismL_length n i (by omega); omega))
      go_wp2_with (go_at_call 33; refine C.out.mono ?_; rintro e w2 ⟨rfl, hg, hb2, hk⟩; have HG2 := hide hg; have HB2 := hide hb2; clear hg hb2 hk)
      go_roundw
      case rel => exact ⟨i + 1, by omega, by go_num, Below.trans HBr.out HB2.out, by show GB _ _ _ _ _; rw [prismL_more]; exact HG2.out⟩
      case measure => simp [intOf]; omega
    · have hin : i = n := by omega
      subst hin
      obtain ⟨_, p, c, hS, hO⟩ := HGr.out
      obtain ⟨q0, q1, _, _⟩ := hS.cell
      obtain ⟨r0, r1, r2, r3⟩ := HN.out.later HBr.out
      have hlt2 : w.heap.size < W.heap.size := by rw [HSZ.out]; omega
      obtain ⟨V, hV, kV, mV⟩ := finish (n := (i : Int) + i) hlt2 (HN.out.later HBr.out) hO (below_step HB.out HBr.out)
      have HV := hide hV
      have KV := hide kV
      have MV := hide mV
      clear hV kV mV hS hO
      go_wp2
      rw [← HV.out]
      exact bodyPost_ret (ret_net Try.results14 rfl rfl KV.out) rfl (MV.out 0)
def prismO (n : Int) : Out := if n < 3 then ⟨0, [], 1⟩ else if 512 < n then ⟨0, [], 3⟩ else ⟨n + n, prismL n.toNat n.toNat, 0⟩
theorem prism14 (n : Int) (w : World) : Calls Try.prog 14 #[.int .i64 n] w fun e w' => (prismO n).made w e w' := by
  unfold prismO Out.made
  by_cases h1 : n < 3
  · rw [if_pos h1]; exact prism14small n w h1
  by_cases h2 : 512 < n
  · rw [if_neg h1, if_pos h2]
    by_cases h3 : 1024 < n
    · exact prism14huge n w h3
    obtain ⟨k, rfl⟩ : ∃ k : Nat, n = k := ⟨n.toNat, by omega⟩
    exact prism14lim k w (by omega) (by omega) (by omega)
  · rw [if_neg h1, if_neg h2]
    obtain ⟨k, rfl⟩ : ∃ k : Nat, n = k := ⟨n.toNat, by omega⟩
    exact prism14ok k w (by omega) (by omega)
end Go.Proofs.Ytncnghbkdbhpbaa
