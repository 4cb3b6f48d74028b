/- The shortest digits of a number below the least normal one, as strconv reckons them. -/
import Derived.Test.YthmnmkolekgjoaaGreatDoorW3
namespace Go.Proofs.YthmnmkolekgjoaaGreatDoor
open Go.RowKit
open Go
set_option maxHeartbeats 1000000 in
theorem shortC (m zn h : Nat) (p : Int) (w : World) (ht : PowTab w) (hz0 : 12 ≤ zn) (hz1 : zn ≤ 63) (hp0 : 324 ≤ p) (hp1 : p ≤ 324) (hh : (2 : Int) ^ (zn - 1) = h) (hm0 : 9223372036854775808 ≤ m) (hm1 : m + h < 18446744073709551616) (hm2 : h ≤ m) (bq : Bool) (hne : ((m : Int) == 9223372036854775808) = bq) :
    Calls Tryz.prog 72 #[.int .u64 m, .int .i64 (-1022 - (zn : Int) - 52)] w fun r w' =>
      r = .returned (.tuple #[.int .u64 (sfEnd (m - h) (m + h) m (-1022 - (zn : Int) - 52) p (bits BinOp.and IntKind.i64 (wrap64 ((m : Int) / 2 ^ zn)) 1)).1, .int .i64 (sfEnd (m - h) (m + h) m (-1022 - (zn : Int) - 52) p (bits BinOp.and IntKind.i64 (wrap64 ((m : Int) / 2 ^ zn)) 1)).2])
      ∧ Below w.heap.size w w' := by
  have R := Lib.hid (show ∀ a b : Int, (a, b) = sfEnd (m - h) (m + h) m (-1022 - (zn : Int) - 52) p (bits BinOp.and IntKind.i64 (wrap64 ((m : Int) / 2 ^ zn)) 1) → Ending.returned (.tuple #[.int .u64 a, .int .i64 b]) = Ending.returned (.tuple #[.int .u64 (sfEnd (m - h) (m + h) m (-1022 - (zn : Int) - 52) p (bits BinOp.and IntKind.i64 (wrap64 ((m : Int) / 2 ^ zn)) 1)).1, .int .i64 (sfEnd (m - h) (m + h) m (-1022 - (zn : Int) - 52) p (bits BinOp.and IntKind.i64 (wrap64 ((m : Int) / 2 ^ zn)) 1)).2]) from fun a b h => by rw [← h])
  have z1 : 11 + (-1085 - (-1022 - (zn : Int) - 52)) = zn := by omega
  have z2 : -((-1022 - (zn : Int) - 52 + zn) * 78913 / 262144) = p := by omega
  have z3 : IntKind.u64.wrap (h : Int) = h := by simp [IntKind.wrap_u64]; omega
  cases bq
  all_goals
    go_enter Tryz.func72, Tryz.ntmps72
    go_wp2_with (first | (go_at_call 67; refine (log10_67 _ (by omega) (by omega) _).mono ?_; rintro e w' ⟨rfl, rfl⟩) | (go_at_call 87; refine (log2_87 _ (by omega) (by omega) _).mono ?_; rintro e w' ⟨rfl, rfl⟩))
    refine (prescale86 _ _ _ _ _ _ _ (by omega) (by omega) (by omega) (by omega) (by omega) (by omega) ht).mono ?_
    rintro r w1 ⟨rfl, rfl⟩
    have hsz := ht.size
    have b0 : 0 ≤ -(-1022 - (zn : Int) - 52 + p * 108853 / 32768 + 3) := by omega
    have b1 : -(-1022 - (zn : Int) - 52 + p * 108853 / 32768 + 3) ≤ 63 := by omega
    have q0 := powHi_lt (p + 348).toNat
    have q1 := powLo_lt (p + 348).toNat
    clear z1 z2 z3
    go_wp2_with fail
    refine (uscale88i _ _ _ _ _ _ (by omega) (by omega) q0 q1 b0 b1 (by simp [go_sem]) (by simp [go_sem]) (by simp [go_sem])).mono ?_
    rintro r w2 ⟨rfl, n1, rfl⟩
    go_wp2_with (first | (go_at_call 89; refine (nudge89 _ _ _).mono ?_; rintro r w2 ⟨rfl, rfl⟩) | (go_at_call 90; refine (ceil90 _ _).mono ?_; rintro r w2 ⟨rfl, rfl⟩) | (go_at_call 91; refine (floor91 _ _).mono ?_; rintro r w2 ⟨rfl, rfl⟩))
    refine (uscale88i _ _ _ _ _ _ (by omega) (by omega) q0 q1 b0 b1 (by simp [go_sem]) (by simp [go_sem]) (by simp [go_sem])).mono ?_
    rintro r w2 ⟨rfl, n2, rfl⟩
    go_wp2_with (first | (go_at_call 89; refine (nudge89 _ _ _).mono ?_; rintro r w2 ⟨rfl, rfl⟩) | (go_at_call 90; refine (ceil90 _ _).mono ?_; rintro r w2 ⟨rfl, rfl⟩) | (go_at_call 91; refine (floor91 _ _).mono ?_; rintro r w2 ⟨rfl, rfl⟩))
    · go_ret2
      refine ⟨R.out _ _ ?_, below_drewN ((Below.refl _ _).alloc (Nat.le_refl _) _) _⟩
      unfold sfEnd
      simp only []
      rw [if_pos ‹_›]
    · refine (uscale88i _ _ _ _ _ _ (by omega) (by omega) q0 q1 b0 b1 (by simp [go_sem]) (by simp [go_sem]) (by simp [go_sem])).mono ?_
      rintro r w2 ⟨rfl, n3, rfl⟩
      go_wp2_with (go_at_call 92; refine (round92 _ _).mono ?_; rintro r w2 ⟨rfl, rfl⟩)
      go_ret2
      refine ⟨R.out _ _ ?_, below_drewN ((Below.refl _ _).alloc (Nat.le_refl _) _) _⟩
      unfold sfEnd
      simp only []
      rw [if_neg (by omega), if_pos ‹_›]
    · go_ret2
      refine ⟨R.out _ _ ?_, below_drewN ((Below.refl _ _).alloc (Nat.le_refl _) _) _⟩
      unfold sfEnd
      simp only []
      rw [if_neg (by omega), if_neg (by omega)]
end Go.Proofs.YthmnmkolekgjoaaGreatDoor
