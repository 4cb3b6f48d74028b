/- upto; K5 and K3,3 are told as what they are. -/
import Derived.Test.YtaebbfilgfkckaaEN
namespace Go.Proofs.Ytaebbfilgfkckaa
open Go.RowKit Go.Sort
open Go
def upL (n : Nat) : List Int := (List.range n).map fun (i : Nat) => (i : Int)
theorem upL_length (n : Nat) : (upL n).length = n := by simp [upL]
theorem upL_more (n : Nat) : upL (n + 1) = upL n ++ [(n : Int)] := by simp [upL, List.range_succ]
set_option maxRecDepth 100000 in
set_option maxHeartbeats 4000000 in
theorem upto29 (n : Nat) (w : World) (hn : n ≤ 80000) : Calls Try.prog 29 #[.int .i64 n] w fun e w' => ∃ p c, e = .returned (.slice p n c) ∧ IOwns w' w.heap.size (.slice p n c) (upL n) ∧ Below w.heap.size w w' := by
  go_enter Try.func29, Try.ntmps29
  go_wp2_with fail
  go_loopw [3, 4] (fun t3 t4 wr => ∃ (i : Nat) (p : Option Addr) (c : Nat), i ≤ n ∧ t4 = .int .i64 i ∧ t3 = .slice p i c ∧ Hid (Below w.heap.size w wr) ∧ Hid (IOwns wr w.heap.size (.slice p i c) (upL i))) (fun _ t4 _ => n - (intOf t4).toNat)
  case atStart => exact ⟨0, none, 0, by omega, rfl, rfl, Below.refl _ _, IOwns.nil _ _⟩
  case round =>
    obtain ⟨i, p, c, hi, rfl, rfl, HBr, HOr⟩ := hrel
    by_cases hlt : i < n
    · have j1 : (i : Int) < n := by omega
      obtain ⟨v1, E, ea, o1, hbE⟩ := push_int HOr.out (i : Int) HBr.out.size (by rw [upL_length]; omega)
      rw [← upL_more] at o1
      obtain ⟨p8, c8, h8, _⟩ := o1.form
      rw [upL_length] at h8
      subst h8
      have HBE := hide (HBr.out.trans hbE)
      have HOE := hide o1
      clear o1 hbE
      go_wp2_with (at_builtin; refine wpList_run_append rfl (.tmp 10) (.tmp 12) 25 rfl 25 rfl _ _ _ E rfl rfl ea ?_)
      go_roundw
      case rel => exact ⟨i + 1, p8, c8, by omega, by go_num, rfl, HBE.out, HOE.out⟩
      case measure => simp [intOf]; omega
    · have j1 : ¬ (i : Int) < n := by omega
      have hie : n = i := by omega
      subst hie
      go_wp2
      go_ret
      exact ⟨p, c, rfl, HOr.out, HBr.out⟩
theorem k5_is : isK 5 (fullL 5 5) (upL 10) := of_decide_eq_true (by kernel_rfl)
theorem k33_is : isK 6 (twoL 3 3 3) (upL 9) := of_decide_eq_true (by kernel_rfl)
theorem k5_kd : kdS 5 (pick (fullL 5 5) (upL 10)) = 5 := by kernel_rfl
theorem k33_kd : kdS 6 (pick (twoL 3 3 3) (upL 9)) = 33 := by kernel_rfl
end Go.Proofs.Ytaebbfilgfkckaa
