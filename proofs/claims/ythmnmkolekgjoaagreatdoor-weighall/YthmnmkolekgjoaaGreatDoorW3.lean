/- What the shortest digits of a floating number are, as strconv reckons them. -/
import Derived.Test.YthmnmkolekgjoaaGreatDoorW2
namespace Go.Proofs.YthmnmkolekgjoaaGreatDoor
open Go.RowKit
open Go

def nudgeU (u d : Int) : Int := IntKind.u64.wrap (u + IntKind.u64.wrap d)
def ceilU (u : Int) : Int := IntKind.u64.wrap (u + 3) / 4
def floorU (u : Int) : Int := IntKind.u64.wrap u / 4
def roundU (u : Int) : Int := IntKind.u64.wrap (IntKind.u64.wrap (u + 1) + bits BinOp.and IntKind.u64 (u / 4) 1) / 4
set_option maxHeartbeats 400000 in
theorem nudge89 (u d : Int) (w : World) : Calls Tryz.prog 89 #[.int .u64 u, .int .i64 d] w fun e w' => e = .returned (.int .u64 (nudgeU u d)) ∧ w' = w := by
  go_enter Tryz.func89, Tryz.ntmps89
  go_wp2
  go_ret
  exact ⟨rfl, rfl⟩
set_option maxHeartbeats 400000 in
theorem ceil90 (u : Int) (w : World) : Calls Tryz.prog 90 #[.int .u64 u] w fun e w' => e = .returned (.int .u64 (ceilU u)) ∧ w' = w := by
  go_enter Tryz.func90, Tryz.ntmps90
  go_wp2
  go_ret
  exact ⟨rfl, rfl⟩
set_option maxHeartbeats 400000 in
theorem floor91 (u : Int) (w : World) : Calls Tryz.prog 91 #[.int .u64 u] w fun e w' => e = .returned (.int .u64 (floorU u)) ∧ w' = w := by
  go_enter Tryz.func91, Tryz.ntmps91
  go_wp2
  go_ret
  exact ⟨rfl, rfl⟩
set_option maxHeartbeats 400000 in
theorem round92 (u : Int) (w : World) : Calls Tryz.prog 92 #[.int .u64 u] w fun e w' => e = .returned (.int .u64 (roundU u)) ∧ w' = w := by
  go_enter Tryz.func92, Tryz.ntmps92
  go_wp2
  go_ret
  exact ⟨rfl, rfl⟩

/-- Digits and exponent out of the least, the greatest and the number itself, scaled by the row of p. -/
def sfEnd (mn mx m : Nat) (e p odd : Int) : Int × Int :=
  let hi := powHi (p + 348).toNat
  let lo := powLo (p + 348).toNat
  let s := (-(e + p * 108853 / 32768 + 3)).toNat
  let dmin := ceilU (nudgeU (usc mn hi lo s) odd)
  let dmax := floorU (nudgeU (usc mx hi lo s) (wrap64 (-odd)))
  if dmin ≤ IntKind.u64.wrap (IntKind.u64.wrap (dmax.tdiv 10) * 10) then (IntKind.u64.wrap (dmax.tdiv 10), -(p - 1))
  else if dmin < dmax then (roundU (usc m hi lo s), -p) else (dmin, -p)

theorem powHi_lt (i : Nat) : powHi i < 18446744073709551616 := by
  have h : Pinned.pow10Rows.all (fun r => decide (r.1 < 18446744073709551616)) = true := by decide +kernel
  unfold powHi
  by_cases hi : i < Pinned.pow10Rows.length
  · have := List.all_eq_true.1 h _ (List.getElem_mem hi)
    simpa [List.getD, List.getElem?_eq_getElem hi] using this
  · rw [List.getD, List.getElem?_eq_none (by omega)]; decide
theorem powLo_lt (i : Nat) : powLo i < 18446744073709551616 := by
  have h : Pinned.pow10Rows.all (fun r => decide (r.2 < 18446744073709551616)) = true := by decide +kernel
  unfold powLo
  by_cases hi : i < Pinned.pow10Rows.length
  · have := List.all_eq_true.1 h _ (List.getElem_mem hi)
    simpa [List.getD, List.getElem?_eq_getElem hi] using this
  · rw [List.getD, List.getElem?_eq_none (by omega)]; decide

theorem uscale88i (x s : Int) (hi lo : Nat) (blk : Nat) (w : World) (hx0 : 0 ≤ x) (hx : x < 18446744073709551616) (hh : hi < 18446744073709551616) (hl : lo < 18446744073709551616) (hs0 : 0 ≤ s) (hs : s ≤ 63)
    (c0 : w.cell? ⟨blk, 0, none⟩ = some (.int .u64 hi)) (c1 : w.cell? ⟨blk, 1, none⟩ = some (.int .u64 lo)) (c2 : w.cell? ⟨blk, 2, none⟩ = some (.int .i64 s)) :
    Calls Tryz.prog 88 #[.int .u64 x, .pointer (some ⟨blk, 0, none⟩)] w fun e w' => e = .returned (.int .u64 (usc x.toNat hi lo s.toNat)) ∧ ∃ n, w' = w.drewN n := by
  obtain ⟨x, rfl⟩ := Int.eq_ofNat_of_zero_le hx0
  obtain ⟨s, rfl⟩ := Int.eq_ofNat_of_zero_le hs0
  exact uscale88 x hi lo s blk w (by omega) hh hl (by omega) c0 c1 c2

set_option maxHeartbeats 1000000 in
theorem shortB (m : Nat) (e : Int) (w : World) (ht : PowTab w) (hm0 : 9223372036854775808 ≤ m) (hm1 : m + 1024 < 18446744073709551616) (he0 : -1085 ≤ e) (he1 : e ≤ 961) (hne : ((m : Int) == 9223372036854775808) = false) :
    Calls Tryz.prog 72 #[.int .u64 m, .int .i64 e] w fun r w' =>
      r = .returned (.tuple #[.int .u64 (sfEnd (m - 1024) (m + 1024) m e (-((e + 11) * 78913 / 262144)) (bits BinOp.and IntKind.i64 ((m : Int) / 2048) 1)).1, .int .i64 (sfEnd (m - 1024) (m + 1024) m e (-((e + 11) * 78913 / 262144)) (bits BinOp.and IntKind.i64 ((m : Int) / 2048) 1)).2])
      ∧ Below w.heap.size w w' := by
  have R := Lib.hid (show ∀ a b : Int, (a, b) = sfEnd (m - 1024) (m + 1024) m e (-((e + 11) * 78913 / 262144)) (bits BinOp.and IntKind.i64 ((m : Int) / 2048) 1) → Ending.returned (.tuple #[.int .u64 a, .int .i64 b]) = Ending.returned (.tuple #[.int .u64 (sfEnd (m - 1024) (m + 1024) m e (-((e + 11) * 78913 / 262144)) (bits BinOp.and IntKind.i64 ((m : Int) / 2048) 1)).1, .int .i64 (sfEnd (m - 1024) (m + 1024) m e (-((e + 11) * 78913 / 262144)) (bits BinOp.and IntKind.i64 ((m : Int) / 2048) 1)).2]) from fun a b h => by rw [← h])
  go_enter Tryz.func72, Tryz.ntmps72
  go_wp2_with (first | (go_at_call 67; refine (log10_67 _ (by omega) (by omega) _).mono ?_; rintro e w' ⟨rfl, rfl⟩) | (go_at_call 87; refine (log2_87 _ (by omega) (by omega) _).mono ?_; rintro e w' ⟨rfl, rfl⟩))
  refine (prescale86 _ _ _ _ _ _ _ (by omega) (by omega) (by omega) (by omega) (by omega) (by omega) ht).mono ?_
  rintro r w1 ⟨rfl, rfl⟩
  have hsz := ht.size
  have b0 : 0 ≤ -(e + -((e + 11) * 78913 / 262144) * 108853 / 32768 + 3) := by omega
  have b1 : -(e + -((e + 11) * 78913 / 262144) * 108853 / 32768 + 3) ≤ 63 := by omega
  have q0 := powHi_lt (-((e + 11) * 78913 / 262144) + 348).toNat
  have q1 := powLo_lt (-((e + 11) * 78913 / 262144) + 348).toNat
  go_wp2_with fail
  refine (uscale88i _ _ _ _ _ _ (by omega) (by omega) q0 q1 b0 b1 (by simp [go_sem]) (by simp [go_sem]) (by simp [go_sem])).mono ?_
  rintro r w2 ⟨rfl, n1, rfl⟩
  go_wp2_with (first | (go_at_call 89; refine (nudge89 _ _ _).mono ?_; rintro r w2 ⟨rfl, rfl⟩) | (go_at_call 90; refine (ceil90 _ _).mono ?_; rintro r w2 ⟨rfl, rfl⟩) | (go_at_call 91; refine (floor91 _ _).mono ?_; rintro r w2 ⟨rfl, rfl⟩))
  refine (uscale88i _ _ _ _ _ _ (by omega) (by omega) q0 q1 b0 b1 (by simp [go_sem]) (by simp [go_sem]) (by simp [go_sem])).mono ?_
  rintro r w2 ⟨rfl, n2, rfl⟩
  go_wp2_with (first | (go_at_call 89; refine (nudge89 _ _ _).mono ?_; rintro r w2 ⟨rfl, rfl⟩) | (go_at_call 90; refine (ceil90 _ _).mono ?_; rintro r w2 ⟨rfl, rfl⟩) | (go_at_call 91; refine (floor91 _ _).mono ?_; rintro r w2 ⟨rfl, rfl⟩))
  · go_ret2
    refine ⟨R.out _ _ ?_, below_drewN ((Below.refl _ _).alloc (Nat.le_refl _) _) _⟩
    unfold sfEnd
    simp only []
    rw [if_pos ‹_›]
  · refine (uscale88i _ _ _ _ _ _ (by omega) (by omega) q0 q1 b0 b1 (by simp [go_sem]) (by simp [go_sem]) (by simp [go_sem])).mono ?_
    rintro r w2 ⟨rfl, n3, rfl⟩
    go_wp2_with (go_at_call 92; refine (round92 _ _).mono ?_; rintro r w2 ⟨rfl, rfl⟩)
    go_ret2
    refine ⟨R.out _ _ ?_, below_drewN ((Below.refl _ _).alloc (Nat.le_refl _) _) _⟩
    unfold sfEnd
    simp only []
    rw [if_neg (by omega), if_pos ‹_›, Int.neg_neg]
  · go_ret2
    refine ⟨R.out _ _ ?_, below_drewN ((Below.refl _ _).alloc (Nat.le_refl _) _) _⟩
    unfold sfEnd
    simp only []
    rw [if_neg (by omega), if_neg (by omega), Int.neg_neg]
set_option maxHeartbeats 1000000 in
theorem shortA (m : Nat) (e : Int) (w : World) (ht : PowTab w) (hm0 : 9223372036854775808 ≤ m) (hm1 : m + 1024 < 18446744073709551616) (he0 : -1085 < e) (he1 : e ≤ 961) (hne : ((m : Int) == 9223372036854775808) = true) :
    Calls Tryz.prog 72 #[.int .u64 m, .int .i64 e] w fun r w' =>
      r = .returned (.tuple #[.int .u64 (sfEnd (m - 512) (m + 1024) m e (-(((e + 11) * 631305 - 261663) / 2097152)) (bits BinOp.and IntKind.i64 ((m : Int) / 2048) 1)).1, .int .i64 (sfEnd (m - 512) (m + 1024) m e (-(((e + 11) * 631305 - 261663) / 2097152)) (bits BinOp.and IntKind.i64 ((m : Int) / 2048) 1)).2])
      ∧ Below w.heap.size w w' := by
  have R := Lib.hid (show ∀ a b : Int, (a, b) = sfEnd (m - 512) (m + 1024) m e (-(((e + 11) * 631305 - 261663) / 2097152)) (bits BinOp.and IntKind.i64 ((m : Int) / 2048) 1) → Ending.returned (.tuple #[.int .u64 a, .int .i64 b]) = Ending.returned (.tuple #[.int .u64 (sfEnd (m - 512) (m + 1024) m e (-(((e + 11) * 631305 - 261663) / 2097152)) (bits BinOp.and IntKind.i64 ((m : Int) / 2048) 1)).1, .int .i64 (sfEnd (m - 512) (m + 1024) m e (-(((e + 11) * 631305 - 261663) / 2097152)) (bits BinOp.and IntKind.i64 ((m : Int) / 2048) 1)).2]) from fun a b h => by rw [← h])
  go_enter Tryz.func72, Tryz.ntmps72
  go_wp2_with (first | (go_at_call 85; refine (skewed85 _ (by omega) (by omega) _).mono ?_; rintro e w' ⟨rfl, rfl⟩) | (go_at_call 87; refine (log2_87 _ (by omega) (by omega) _).mono ?_; rintro e w' ⟨rfl, rfl⟩))
  refine (prescale86 _ _ _ _ _ _ _ (by omega) (by omega) (by omega) (by omega) (by omega) (by omega) ht).mono ?_
  rintro r w1 ⟨rfl, rfl⟩
  have hsz := ht.size
  have b0 : 0 ≤ -(e + -(((e + 11) * 631305 - 261663) / 2097152) * 108853 / 32768 + 3) := by omega
  have b1 : -(e + -(((e + 11) * 631305 - 261663) / 2097152) * 108853 / 32768 + 3) ≤ 63 := by omega
  have q0 := powHi_lt (-(((e + 11) * 631305 - 261663) / 2097152) + 348).toNat
  have q1 := powLo_lt (-(((e + 11) * 631305 - 261663) / 2097152) + 348).toNat
  go_wp2_with fail
  refine (uscale88i _ _ _ _ _ _ (by omega) (by omega) q0 q1 b0 b1 (by simp [go_sem]) (by simp [go_sem]) (by simp [go_sem])).mono ?_
  rintro r w2 ⟨rfl, n1, rfl⟩
  go_wp2_with (first | (go_at_call 89; refine (nudge89 _ _ _).mono ?_; rintro r w2 ⟨rfl, rfl⟩) | (go_at_call 90; refine (ceil90 _ _).mono ?_; rintro r w2 ⟨rfl, rfl⟩) | (go_at_call 91; refine (floor91 _ _).mono ?_; rintro r w2 ⟨rfl, rfl⟩))
  refine (uscale88i _ _ _ _ _ _ (by omega) (by omega) q0 q1 b0 b1 (by simp [go_sem]) (by simp [go_sem]) (by simp [go_sem])).mono ?_
  rintro r w2 ⟨rfl, n2, rfl⟩
  go_wp2_with (first | (go_at_call 89; refine (nudge89 _ _ _).mono ?_; rintro r w2 ⟨rfl, rfl⟩) | (go_at_call 90; refine (ceil90 _ _).mono ?_; rintro r w2 ⟨rfl, rfl⟩) | (go_at_call 91; refine (floor91 _ _).mono ?_; rintro r w2 ⟨rfl, rfl⟩))
  · go_ret2
    refine ⟨R.out _ _ ?_, below_drewN ((Below.refl _ _).alloc (Nat.le_refl _) _) _⟩
    unfold sfEnd
    simp only []
    rw [if_pos ‹_›]
  · refine (uscale88i _ _ _ _ _ _ (by omega) (by omega) q0 q1 b0 b1 (by simp [go_sem]) (by simp [go_sem]) (by simp [go_sem])).mono ?_
    rintro r w2 ⟨rfl, n3, rfl⟩
    go_wp2_with (go_at_call 92; refine (round92 _ _).mono ?_; rintro r w2 ⟨rfl, rfl⟩)
    go_ret2
    refine ⟨R.out _ _ ?_, below_drewN ((Below.refl _ _).alloc (Nat.le_refl _) _) _⟩
    unfold sfEnd
    simp only []
    rw [if_neg (by omega), if_pos ‹_›, Int.neg_neg]
  · go_ret2
    refine ⟨R.out _ _ ?_, below_drewN ((Below.refl _ _).alloc (Nat.le_refl _) _) _⟩
    unfold sfEnd
    simp only []
    rw [if_neg (by omega), if_neg (by omega), Int.neg_neg]
end Go.Proofs.YthmnmkolekgjoaaGreatDoor
