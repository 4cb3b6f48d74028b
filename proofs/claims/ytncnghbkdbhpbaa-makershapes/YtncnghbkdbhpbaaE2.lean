/- Path, Cycle, Bond, in every world. -/
import Derived.Test.YtncnghbkdbhpbaaE1
namespace Go.Proofs.Ytncnghbkdbhpbaa
open Go.RowKit Go.Sort
open Go

def pathL (n : Nat) : List Pt := (List.range n).map fun (i : Nat) => ⟨i, i + 1⟩
theorem pathL_length (n : Nat) : (pathL n).length = n := by simp [pathL]
theorem pathL_more (n : Nat) : pathL (n + 1) = pathL n ++ [⟨n, n + 1⟩] := by simp [pathL, List.range_succ]
/-- A box of a net, empty, as a call's result. -/
theorem one_box (w : World) : ∃ W, W = w.alloc (nbx 0 none 0 0) ∧ Below w.heap.size w W ∧ NOwn W w.heap.size 0 none 0 0 ∧ W.heap.size = w.heap.size + 1 :=
  ⟨_, rfl, by go_grown, ⟨by unfold nbx; go_cell, by unfold nbx; go_cell, by unfold nbx; go_cell, by unfold nbx; go_cell⟩, by simp⟩
theorem finish {w wr : World} {B : Nat} {n : Int} {es : List Pt} {p : Option Addr} {c : Nat} (hB : w.heap.size < B) (HN : NOwn wr w.heap.size 0 none 0 0) (HO : Owns wr B (.slice p es.length c) es) (HB : Below w.heap.size w wr) :
    ∃ V, V = (wr.setCell ⟨w.heap.size, 0, none⟩ (.int .i64 n)).setCell ⟨w.heap.size, 1, none⟩ (.slice p es.length c) ∧ NOwn V w.heap.size n p es.length c ∧ ∀ err, Made w n es err (.returned (.tuple #[nv n p es.length c, .int .i64 err])) V :=
  ⟨_, rfl, HN.set _ _ _ _, fun _ => ⟨(HB.setCell (by simp) _).setCell (by simp) _, p, c, rfl, (owns_other (owns_other HO hB _) hB _).base (by omega)⟩⟩
set_option maxRecDepth 100000 in
set_option maxHeartbeats 4000000 in
theorem path29small (n : Int) (w : World) (h : n < 1) : Calls Try.prog 29 #[.int .i64 n] w fun e w' => Made w 0 [] 1 e w' := by
  go_enter Try.func29, Try.ntmps29
  go_wp2
  refine bodyPost_ret (ret_net Try.results29 rfl rfl ?k) rfl ⟨?b, none, 0, rfl, Owns.nil _ _⟩
  · exact ⟨by go_cell, by go_cell, by go_cell, by go_cell⟩
  · go_grown
set_option maxRecDepth 100000 in
set_option maxHeartbeats 4000000 in
theorem path29big (n : Int) (w : World) (h : 1024 < n) : Calls Try.prog 29 #[.int .i64 n] w fun e w' => Made w 0 [] 3 e w' := by
  have F := mfits36 n 0
  rw [show fitsB n 0 = false by simp [fitsB]; omega] at F
  go_enter Try.func29, Try.ntmps29
  go_wp2_with (go_at_call 36; refine (F _).mono ?_; rintro e w' ⟨rfl, hw⟩; have hw := hw.symm; subst hw)
  refine bodyPost_ret (ret_net Try.results29 rfl rfl ?k) rfl ⟨?b, none, 0, rfl, Owns.nil _ _⟩
  · exact ⟨by go_cell, by go_cell, by go_cell, by go_cell⟩
  · go_grown
set_option maxRecDepth 100000 in
set_option maxHeartbeats 4000000 in
theorem path29ok (n : Nat) (w : World) (h1 : 1 ≤ n) (h2 : n ≤ 1024) : Calls Try.prog 29 #[.int .i64 n] w fun e w' => Made w n (pathL (n - 1)) 0 e w' := by
  have F := mfits36 n 0
  rw [show fitsB n 0 = true by simp [fitsB]; omega] at F
  obtain ⟨W, hW, hb, hN, hsz⟩ := one_box w
  have R := hide (room37 n n W (by omega))
  have HB := hide hb
  have HN := hide hN
  have HSZ := hide hsz
  clear hb hN hsz
  go_enter Try.func29, Try.ntmps29
  go_wp2_with (go_at_call 36; refine (F _).mono ?_; rintro e w' ⟨rfl, hw⟩; have hw := hw.symm; subst hw)
  rw [← hW]
  clear hW
  refine R.out.mono ?_
  rintro e w1 ⟨kk, rfl, ho, hb1⟩
  obtain ⟨U, hU⟩ : ∃ U, U = w1.alloc (.cells #[.int .i64 n, .slice (some ⟨kk, 0, none⟩) 0 n] 28) := ⟨_, rfl⟩
  have HG : Hid (GB U w1.heap.size W.heap.size n []) := by show GB _ _ _ _ _; rw [hU]; exact GB.made hb1.size ho
  have HBU : Hid (Below W.heap.size W U) := by show Below _ _ _; rw [hU]; exact hb1.alloc hb1.size _
  clear ho hb1
  go_wp2_with fail
  rw [← hU]
  obtain ⟨k, hk⟩ : ∃ k, w1.heap.size = k := ⟨_, rfl⟩
  rw [hk] at HG ⊢
  clear hU hk
  go_loopw [18] (fun t wr => ∃ i : Nat, i ≤ n - 1 ∧ t = .int .i64 i ∧ Hid (Below W.heap.size W wr) ∧ Hid (GB wr k W.heap.size n (pathL i))) (fun t _ => n - 1 - (intOf t).toNat)
  case atStart => exact ⟨0, by omega, rfl, HBU.out, HG.out⟩
  case round =>
    obtain ⟨i, hi, rfl, HBr, HGr⟩ := hrel
    by_cases hlt : i < n - 1
    · have C := hide (tie33 k W.heap.size n i (i + 1) (pathL i) wr HGr.out (by rw [pathL_length]; omega))
      go_wp2_with (go_at_call 33; refine C.out.mono ?_; rintro e w2 ⟨rfl, hg, hb2, hk⟩; have HG2 := hide hg; have HB2 := hide hb2; clear hg hb2 hk)
      go_roundw
      case rel => exact ⟨i + 1, by omega, by go_num, Below.trans HBr.out HB2.out, by show GB _ _ _ _ _; rw [pathL_more]; exact HG2.out⟩
      case measure => simp [intOf]; omega
    · have hin : i = n - 1 := by omega
      subst hin
      obtain ⟨_, p, c, hS, hO⟩ := HGr.out
      obtain ⟨q0, q1, _, _⟩ := hS.cell
      obtain ⟨r0, r1, r2, r3⟩ := HN.out.later HBr.out
      have hlt2 : w.heap.size < W.heap.size := by rw [HSZ.out]; omega
      obtain ⟨V, hV, kV, mV⟩ := finish (n := n) hlt2 (HN.out.later HBr.out) hO (below_step HB.out HBr.out)
      have HV := hide hV
      have KV := hide kV
      have MV := hide mV
      clear hV kV mV hS hO
      go_wp2
      rw [← HV.out]
      exact bodyPost_ret (ret_net Try.results29 rfl rfl KV.out) rfl (MV.out 0)
structure Out where
  n : Int
  es : List Pt
  err : Int
def Out.made (o : Out) (w : World) (e : Ending) (w' : World) : Prop := Made w o.n o.es o.err e w'
def pathO (n : Int) : Out := if n < 1 then ⟨0, [], 1⟩ else if 1024 < n then ⟨0, [], 3⟩ else ⟨n, pathL (n.toNat - 1), 0⟩
theorem path29 (n : Int) (w : World) : Calls Try.prog 29 #[.int .i64 n] w fun e w' => (pathO n).made w e w' := by
  unfold pathO Out.made
  by_cases h1 : n < 1
  · rw [if_pos h1]; exact path29small n w h1
  by_cases h2 : 1024 < n
  · rw [if_neg h1, if_pos h2]; exact path29big n w h2
  · rw [if_neg h1, if_neg h2]
    obtain ⟨k, rfl⟩ : ∃ k : Nat, n = k := ⟨n.toNat, by omega⟩
    exact path29ok k w (by omega) (by omega)
end Go.Proofs.Ytncnghbkdbhpbaa
