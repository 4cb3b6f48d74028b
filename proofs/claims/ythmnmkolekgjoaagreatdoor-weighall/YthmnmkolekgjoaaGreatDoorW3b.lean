/- The shortest digits of the least normal number and of those below it, as strconv reckons them. -/
import Derived.Test.YthmnmkolekgjoaaGreatDoorW3
namespace Go.Proofs.YthmnmkolekgjoaaGreatDoor
open Go.RowKit
open Go
set_option maxHeartbeats 1000000 in
theorem shortD (m : Nat) (e : Int) (w : World) (ht : PowTab w) (hm0 : 9223372036854775808 ≤ m) (hm1 : m + 1024 < 18446744073709551616) (he0 : -1085 ≤ e) (he1 : e ≤ -1085) (hne : ((m : Int) == 9223372036854775808) = true) :
    Calls Tryz.prog 72 #[.int .u64 m, .int .i64 e] w fun r w' =>
      r = .returned (.tuple #[.int .u64 (sfEnd (m - 1024) (m + 1024) m e (-((e + 11) * 78913 / 262144)) (bits BinOp.and IntKind.i64 ((m : Int) / 2048) 1)).1, .int .i64 (sfEnd (m - 1024) (m + 1024) m e (-((e + 11) * 78913 / 262144)) (bits BinOp.and IntKind.i64 ((m : Int) / 2048) 1)).2])
      ∧ Below w.heap.size w w' := by
  have R := Lib.hid (show ∀ a b : Int, (a, b) = sfEnd (m - 1024) (m + 1024) m e (-((e + 11) * 78913 / 262144)) (bits BinOp.and IntKind.i64 ((m : Int) / 2048) 1) → Ending.returned (.tuple #[.int .u64 a, .int .i64 b]) = Ending.returned (.tuple #[.int .u64 (sfEnd (m - 1024) (m + 1024) m e (-((e + 11) * 78913 / 262144)) (bits BinOp.and IntKind.i64 ((m : Int) / 2048) 1)).1, .int .i64 (sfEnd (m - 1024) (m + 1024) m e (-((e + 11) * 78913 / 262144)) (bits BinOp.and IntKind.i64 ((m : Int) / 2048) 1)).2]) from fun a b h => by rw [← h])
  go_enter Tryz.func72, Tryz.ntmps72
  go_wp2_with (first | (go_at_call 67; refine (log10_67 _ (by omega) (by omega) _).mono ?_; rintro e w' ⟨rfl, rfl⟩) | (go_at_call 87; refine (log2_87 _ (by omega) (by omega) _).mono ?_; rintro e w' ⟨rfl, rfl⟩))
  refine (prescale86 _ _ _ _ _ _ _ (by omega) (by omega) (by omega) (by omega) (by omega) (by omega) ht).mono ?_
  rintro r w1 ⟨rfl, rfl⟩
  have hsz := ht.size
  have b0 : 0 ≤ -(e + -((e + 11) * 78913 / 262144) * 108853 / 32768 + 3) := by omega
  have b1 : -(e + -((e + 11) * 78913 / 262144) * 108853 / 32768 + 3) ≤ 63 := by omega
  have q0 := powHi_lt (-((e + 11) * 78913 / 262144) + 348).toNat
  have q1 := powLo_lt (-((e + 11) * 78913 / 262144) + 348).toNat
  go_wp2_with fail
  refine (uscale88i _ _ _ _ _ _ (by omega) (by omega) q0 q1 b0 b1 (by simp [go_sem]) (by simp [go_sem]) (by simp [go_sem])).mono ?_
  rintro r w2 ⟨rfl, n1, rfl⟩
  go_wp2_with (first | (go_at_call 89; refine (nudge89 _ _ _).mono ?_; rintro r w2 ⟨rfl, rfl⟩) | (go_at_call 90; refine (ceil90 _ _).mono ?_; rintro r w2 ⟨rfl, rfl⟩) | (go_at_call 91; refine (floor91 _ _).mono ?_; rintro r w2 ⟨rfl, rfl⟩))
  refine (uscale88i _ _ _ _ _ _ (by omega) (by omega) q0 q1 b0 b1 (by simp [go_sem]) (by simp [go_sem]) (by simp [go_sem])).mono ?_
  rintro r w2 ⟨rfl, n2, rfl⟩
  go_wp2_with (first | (go_at_call 89; refine (nudge89 _ _ _).mono ?_; rintro r w2 ⟨rfl, rfl⟩) | (go_at_call 90; refine (ceil90 _ _).mono ?_; rintro r w2 ⟨rfl, rfl⟩) | (go_at_call 91; refine (floor91 _ _).mono ?_; rintro r w2 ⟨rfl, rfl⟩))
  · go_ret2
    refine ⟨R.out _ _ ?_, below_drewN ((Below.refl _ _).alloc (Nat.le_refl _) _) _⟩
    unfold sfEnd
    simp only []
    rw [if_pos ‹_›]
  · refine (uscale88i _ _ _ _ _ _ (by omega) (by omega) q0 q1 b0 b1 (by simp [go_sem]) (by simp [go_sem]) (by simp [go_sem])).mono ?_
    rintro r w2 ⟨rfl, n3, rfl⟩
    go_wp2_with (go_at_call 92; refine (round92 _ _).mono ?_; rintro r w2 ⟨rfl, rfl⟩)
    go_ret2
    refine ⟨R.out _ _ ?_, below_drewN ((Below.refl _ _).alloc (Nat.le_refl _) _) _⟩
    unfold sfEnd
    simp only []
    rw [if_neg (by omega), if_pos ‹_›, Int.neg_neg]
  · go_ret2
    refine ⟨R.out _ _ ?_, below_drewN ((Below.refl _ _).alloc (Nat.le_refl _) _) _⟩
    unfold sfEnd
    simp only []
    rw [if_neg (by omega), if_neg (by omega), Int.neg_neg]
end Go.Proofs.YthmnmkolekgjoaaGreatDoor
