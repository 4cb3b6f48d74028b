/- What slices.Values yields; a nil graph. -/
import Derived.Test.YtgfiofogcnnkhaaH6
import Derived.RangeFuncCalls
import Derived.OrdersIn
import Derived.RangeFuncNested
import Derived.RangeFuncBound
import Derived.RangeFuncLeaves
import Derived.Shelf.Abstract
import Derived.Shelf.RegionOpen
import Derived.OwnWalkIn
import Derived.TacticsInMore
import Derived.LoopNIn
import Derived.LoopIn
import Derived.RangeFuncWrites
namespace Go.Proofs.Ytgfiofogcnnkhaa
open Go.RowKit Go.Sort Go.Shelf
open Go

section
attribute [local go_sem] Oper.semAt_some
def vEnc (x : Int) : Array Value := #[.int .i64 x]
theorem take_more {O : List Int} {r : Nat} (h : r < O.length) : O.take (r + 1) = O.take r ++ [iat O r] := by
  rw [List.take_add_one, List.getElem?_eq_getElem h]
  unfold iat
  rw [List.getD_eq_getElem?_getD, List.getElem?_eq_getElem h]
  rfl
set_option maxRecDepth 100000 in
set_option maxHeartbeats 4000000 in
theorem values94 (F : Fence) (n : Nat) (h8 : F.fn 94) (hro : F.round = none) (hn : 1 ≤ n) (l k1 g c : Nat) (po : Option Addr) (O : List Int) (hlen : O.length ≤ 100000) (hpo : 0 < O.length → po = some ⟨g, 0, none⟩) (Kp : World → World → Prop) (hK1 : ∀ A B, Kp A B → ∀ i j v, (i = k1 ∨ 0 < O.length ∧ i = g) → A.cell? ⟨i, j, none⟩ = some v → B.cell? ⟨i, j, none⟩ = some v) (J Jx : List Int → World → Prop)
    (hY : ∀ pre x W, J pre W → pre.length < O.length → YieldAt F (n - 1) Try.prog l (vEnc x) W fun e W' =>
      (e = .returned (.bool true) ∧ J (pre ++ [x]) W' ∧ Kp W W') ∨ (e = .returned (.bool false) ∧ Jx (pre ++ [x]) W'))
    (W : World) (hB1 : W.cell? ⟨k1, 0, none⟩ = some (.slice po O.length c)) (hc : ∀ j, j < O.length → W.cell? ⟨g, j, none⟩ = some (.int .i64 (iat O j))) (h0 : J [] W) :
    CallsIn F n Try.prog 94 #[.func (.yield l) #[] #[], ptr k1] W fun e W' => (∃ v, e = .returned v) ∧
      ((∃ ys, ys = O ∧ J ys W') ∨ (∃ pre, (∃ k, k ≤ O.length ∧ pre = O.take k) ∧ Jx pre W')) := by
  refine callsIn_of_wp Try.func94 rfl h8 ?_ hro
  simp only [Try.ntmps94, List.size_toArray, List.length_cons, List.length_nil, Nat.reduceAdd, Nat.reduceSub, Array.replicate_succ, Array.replicate_zero, List.push_toArray, List.append_toArray, List.nil_append, List.cons_append]
  gi_wp2
  have HHP := hide hpo
  clear hpo
  gi_loopw [7] (fun i wr => ∃ r : Nat, r ≤ O.length ∧ i = .int .i64 (r : Int) ∧ J (O.take r) wr ∧ Hid (∀ j, j < O.length → wr.cell? ⟨g, j, none⟩ = some (.int .i64 (iat O j))))
    (fun i _ => O.length - (intOf i).toNat)
  case atStart => exact ⟨0, Nat.zero_le _, rfl, h0, hc⟩
  case round =>
    obtain ⟨r, hr, rfl, hJs, hnx⟩ := hrel
    by_cases h : r < O.length
    · have hpo1 := HHP.out (by omega)
      have c0 := hnx.out r h
      have hsucc := take_more h
      have HY := hide (hY _ (iat O r) wr hJs (by rw [List.length_take]; omega))
      subst hpo1
      obtain ⟨v, hv⟩ : ∃ v : Int, iat O r = v := ⟨_, rfl⟩
      rw [hv] at c0 hsucc HY
      have i1 : (r : Int) < O.length := by omega
      have i2 : (0 : Int) ≤ r := by omega
      obtain ⟨fn, tmps, assign, body, hy, hR⟩ := HY.out
      unfold vEnc at hy
      gi_wp2
      refine hR.mono ?_
      rintro e W3 (⟨rfl, hJ3, hk3⟩ | ⟨rfl, hJx3⟩)
      · gi_wp2
        go_roundw
        case rel => exact ⟨r + 1, by omega, by go_num, by rw [hsucc]; exact hJ3, fun j hj => hK1 _ _ hk3 _ _ _ (Or.inr ⟨by omega, rfl⟩) (hnx.out j hj)⟩
        case measure => simp [intOf]; omega
      · gi_wp2
        refine bodyPost_ret (results_none rfl _ _ _) rfl ?_
        exact ⟨⟨_, rfl⟩, .inr ⟨_, ⟨r + 1, by omega, hsucc.symm⟩, hJx3⟩⟩
    · have hin : r = O.length := by omega
      have i1 : ¬ (r : Int) < O.length := by omega
      rw [hin, List.take_length] at hJs
      clear hin
      gi_wp2
      go_end0
      exact ⟨⟨_, rfl⟩, .inl hJs⟩
theorem values94_stops (F : Fence) (n : Nat) (h8 : F.fn 94) (hro : F.round = none) (hn : 1 ≤ n) (k1 g c : Nat) (po : Option Addr) (O : List Int) (hlen : O.length ≤ 100000) (hpo : 0 < O.length → po = some ⟨g, 0, none⟩) (Kp : World → World → Prop) (hK1 : ∀ A B, Kp A B → ∀ i j v, (i = k1 ∨ 0 < O.length ∧ i = g) → A.cell? ⟨i, j, none⟩ = some v → B.cell? ⟨i, j, none⟩ = some v) (w : World)
    (hB1 : w.cell? ⟨k1, 0, none⟩ = some (.slice po O.length c)) (hc : ∀ j, j < O.length → w.cell? ⟨g, j, none⟩ = some (.int .i64 (iat O j))) :
    SeqStopsK F n Try.prog 94 #[ptr k1] vEnc Kp (fun ys => ys = O) (fun pre => ∃ k, k ≤ O.length ∧ pre = O.take k) O.length w := fun l J Jx W hW _ _ hY h0 => by
  refine (values94 F n h8 hro hn l k1 g c po O hlen hpo Kp hK1 J Jx hY W (later hW hB1) (fun j hj => later hW (hc j hj)) h0).mono ?_
  rintro e W' ⟨he, ⟨ys, rfl, hj⟩ | ⟨pre, hk, hj⟩⟩
  · exact ⟨he, .inl ⟨_, rfl, hj⟩⟩
  · exact ⟨he, .inr ⟨_, hk, hj⟩⟩
end
theorem frame_put {W : World} {l : Nat} {o o' : Obj} {q : Nat → Prop} (_hl : W.heap[l]? = some o) (hq : q l) : Frame W (W.putObj l o') q :=
  Frame.grown (grownBy_putObj' W l o') (fun i e => by cases e; exact hq)
theorem nil23 (w : World) : Calls Try.prog 23 #[.pointer none] w fun e w' => e = .returned (.tuple #[.int .i64 0, .int .i64 1]) ∧ w' = w := by
  have A := none50nil w
  go_enter Try.func23, Try.ntmps23
  go_wp2_with (go_at_call 50; refine A.mono ?_; rintro e w' ⟨rfl, hw⟩; have hw2 := hw.symm; subst hw2)
  go_ret2
  exact ⟨rfl, rfl⟩
theorem nil24 (a0 a1 : Int) (w : World) : Calls Try.prog 24 #[.pointer none, .int .i64 a0, .int .i64 a1] w fun e w' => e = .returned (.tuple #[.int .i64 0, .int .i64 1]) ∧ w' = w := by
  have A := none50nil w
  go_enter Try.func24, Try.ntmps24
  go_wp2_with (go_at_call 50; refine A.mono ?_; rintro e w' ⟨rfl, hw⟩; have hw2 := hw.symm; subst hw2)
  go_ret2
  exact ⟨rfl, rfl⟩
theorem nil25 (a0 : Int) (w : World) : Calls Try.prog 25 #[.pointer none, .int .i64 a0] w fun e w' => e = .returned (.tuple #[.int .i64 0, .int .i64 1]) ∧ w' = w := by
  have A := none50nil w
  go_enter Try.func25, Try.ntmps25
  go_wp2_with (go_at_call 50; refine A.mono ?_; rintro e w' ⟨rfl, hw⟩; have hw2 := hw.symm; subst hw2)
  go_ret2
  exact ⟨rfl, rfl⟩
theorem nil17 (a0 : Int) (w : World) : Calls Try.prog 17 #[.pointer none, .int .i64 a0] w fun e w' => e = .returned (.tuple #[.int .i64 0, .int .i64 0, .int .i64 1]) ∧ w' = w := by
  have A := none50nil w
  go_enter Try.func17, Try.ntmps17
  go_wp2_with (go_at_call 50; refine A.mono ?_; rintro e w' ⟨rfl, hw⟩; have hw2 := hw.symm; subst hw2)
  refine bodyPost_ret (results_TTT Try.results17 _ _ _) rfl ⟨rfl, rfl⟩
theorem nil18 (a0 : Int) (w : World) : Calls Try.prog 18 #[.pointer none, .int .i64 a0] w fun e w' => e = .returned (.tuple #[.int .i64 0, .int .i64 1]) ∧ w' = w := by
  have A := none50nil w
  go_enter Try.func18, Try.ntmps18
  go_wp2_with (go_at_call 50; refine A.mono ?_; rintro e w' ⟨rfl, hw⟩; have hw2 := hw.symm; subst hw2)
  go_ret2
  exact ⟨rfl, rfl⟩
theorem nil16 (a0 : Int) (w : World) : Calls Try.prog 16 #[.pointer none, .int .i64 a0] w fun e w' => e = .returned (.tuple #[.int .i64 0, .int .i64 0, .int .i64 1]) ∧ w' = w := by
  have A := none50nil w
  go_enter Try.func16, Try.ntmps16
  go_wp2_with (go_at_call 50; refine A.mono ?_; rintro e w' ⟨rfl, hw⟩; have hw2 := hw.symm; subst hw2)
  refine bodyPost_ret (results_TTT Try.results16 _ _ _) rfl ⟨rfl, rfl⟩
theorem nil21 (w : World) : Calls Try.prog 21 #[.pointer none] w fun e w' => e = .returned (.int .i64 0) ∧ w' = w := by
  have A := none50nil w
  go_enter Try.func21, Try.ntmps21
  go_wp2_with (go_at_call 50; refine A.mono ?_; rintro e w' ⟨rfl, hw⟩; have hw2 := hw.symm; subst hw2)
  go_ret
  exact ⟨rfl, rfl⟩
theorem nil27 (a0 : Int) (w : World) : Calls Try.prog 27 #[.pointer none, .int .i64 a0] w fun e w' => e = .returned (.int .i64 1) ∧ w' = w := by
  have A := none50nil w
  go_enter Try.func27, Try.ntmps27
  go_wp2_with (go_at_call 50; refine A.mono ?_; rintro e w' ⟨rfl, hw⟩; have hw2 := hw.symm; subst hw2)
  go_ret
  exact ⟨rfl, rfl⟩
theorem nil28 (a0 a1 a2 : Int) (w : World) : Calls Try.prog 28 #[.pointer none, .int .i64 a0, .int .i64 a1, .int .i64 a2] w fun e w' => e = .returned (.int .i64 1) ∧ w' = w := by
  have A := none50nil w
  go_enter Try.func28, Try.ntmps28
  go_wp2_with (go_at_call 50; refine A.mono ?_; rintro e w' ⟨rfl, hw⟩; have hw2 := hw.symm; subst hw2)
  go_ret
  exact ⟨rfl, rfl⟩
theorem nil29 (w : World) : Calls Try.prog 29 #[.pointer none] w fun e w' => e = .returned (.pointer none) ∧ w' = w := by
  have A := none50nil w
  go_enter Try.func29, Try.ntmps29
  go_wp2_with (go_at_call 50; refine A.mono ?_; rintro e w' ⟨rfl, hw⟩; have hw2 := hw.symm; subst hw2)
  go_ret
  exact ⟨rfl, rfl⟩
theorem nil22 (a : Int) (w : World) : Calls Try.prog 22 #[.pointer none, .int .i64 a] w fun e w' => e = .returned (.int .i64 1) ∧ Below w.heap.size w w' := by
  have A := none50nil (w.alloc (.cells #[.int .i64 a] 3))
  go_enter Try.func22, Try.ntmps22
  go_wp2_with (go_at_call 50; refine A.mono ?_; rintro e w' ⟨rfl, hw⟩; have hw2 := hw.symm; subst hw2)
  go_ret
  exact ⟨rfl, by go_grown⟩
theorem nil19 (w : World) : Calls Try.prog 19 #[.pointer none] w fun e w' => e = .returned (.tuple #[nv 0 none 0 0, .slice none 0 0, .slice none 0 0]) ∧ Below w.heap.size w w' := by
  obtain ⟨W, hW⟩ : ∃ W, W = w.alloc (nbx 0 none 0 0) := ⟨_, rfl⟩
  have hb : Below w.heap.size w W := by rw [hW]; go_grown
  have HN : NOwn W w.heap.size 0 none 0 0 := by rw [hW]; exact ⟨by go_cell, by go_cell, by simp [go_sem], by simp [go_sem]⟩
  have A := none50nil W
  have HW := hide hW
  have HB := hide hb
  have HH := hide HN
  obtain ⟨q0, q1, q2, q3⟩ := HN
  clear hW hb
  go_enter Try.func19, Try.ntmps19
  go_wp2_with (go_at_call 50; rw [← HW.out]; refine A.mono ?_; rintro e w' ⟨rfl, hw⟩; have hw2 := hw.symm; subst hw2)
  exact bodyPost_ret (ret_net3 Try.results19 rfl rfl rfl (by first | exact HH.out | exact HH.out.set 0 none 0 0)) rfl ⟨rfl, by first | exact HB.out | exact (HB.out.setCell (p := ⟨w.heap.size, 0, none⟩) (Nat.le_refl _) _).setCell (p := ⟨w.heap.size, 1, none⟩) (Nat.le_refl _) _⟩
end Go.Proofs.Ytgfiofogcnnkhaa
