/- What the scaling functions of strconv answer, for every argument in their range. -/
import Derived.Test.YthmnmkolekgjoaaGreatDoorW1
import Derived.Test.YthmnmkolekgjoaaGreatDoorShelf
import GoSem.PinnedTables
import Derived.Deep.QuietTactic
import Derived.BigQuiet
import Derived.Lib.Hide
namespace Go.Proofs.YthmnmkolekgjoaaGreatDoor
open Go.RowKit
open Go

/-- A row of the table of powers of ten. -/
def powHi (i : Nat) : Nat := (Pinned.pow10Rows.getD i (0, 0)).1
def powLo (i : Nat) : Nat := (Pinned.pow10Rows.getD i (0, 0)).2
def PowTab (w : World) : Prop := ∀ i : Nat, i < 696 → w.cell? ⟨8, i * 2, none⟩ = some (.int .u64 (powHi i : Nat)) ∧ w.cell? ⟨8, i * 2 + 1, none⟩ = some (.int .u64 (powLo i : Nat))

theorem PowTab.size {w : World} (h : PowTab w) : 8 < w.heap.size := by
  have h0 := (h 0 (by decide)).1
  refine Nat.lt_of_not_le fun hc => ?_
  have : w.heap[8]? = none := Array.getElem?_eq_none hc
  simp [World.cell?, this] at h0
theorem PowTab.below {w w' : World} (h : PowTab w) (hb : Below w.heap.size w w') : PowTab w' := fun i hi => by
  rw [hb.cell (p := ⟨8, i * 2, none⟩) h.size, hb.cell (p := ⟨8, i * 2 + 1, none⟩) h.size]
  exact h i hi

set_option maxHeartbeats 400000 in
theorem log10_67 (x : Int) (h0 : -100000 ≤ x) (h1 : x ≤ 100000) (w : World) : Calls Tryz.prog 67 #[.int .i64 x] w fun e w' => e = .returned (.int .i64 (x * 78913 / 262144)) ∧ w' = w := by
  go_enter Tryz.func67, Tryz.ntmps67
  go_wp2
  go_ret
  exact ⟨rfl, rfl⟩
set_option maxHeartbeats 400000 in
theorem log2_87 (x : Int) (h0 : -100000 ≤ x) (h1 : x ≤ 100000) (w : World) : Calls Tryz.prog 87 #[.int .i64 x] w fun e w' => e = .returned (.int .i64 (x * 108853 / 32768)) ∧ w' = w := by
  go_enter Tryz.func87, Tryz.ntmps87
  go_wp2
  go_ret
  exact ⟨rfl, rfl⟩
set_option maxHeartbeats 400000 in
theorem skewed85 (x : Int) (h0 : -100000 ≤ x) (h1 : x ≤ 100000) (w : World) : Calls Tryz.prog 85 #[.int .i64 x] w fun e w' => e = .returned (.int .i64 ((x * 631305 - 261663) / 2097152)) ∧ w' = w := by
  go_enter Tryz.func85, Tryz.ntmps85
  go_wp2
  go_ret
  exact ⟨rfl, rfl⟩
set_option maxHeartbeats 1000000 in
theorem prescale86 (w : World) (a b c : Value) (e p lp : Int) (hp0 : -348 ≤ p) (hp1 : p ≤ 347) (he0 : -100000 ≤ e) (he1 : e ≤ 100000) (hl0 : -100000 ≤ lp) (hl1 : lp ≤ 100000)
    (ht : PowTab w) :
    Calls Tryz.prog 86 #[.pointer (some ⟨w.heap.size, 0, none⟩), .int .i64 e, .int .i64 p, .int .i64 lp] (w.alloc (.cells #[a, b, c] 112)) fun r w' =>
      r = .returned (.tuple #[]) ∧ w' = w.alloc (.cells #[.int .u64 (powHi (p + 348).toNat : Nat), .int .u64 (powLo (p + 348).toNat : Nat), .int .i64 (-(e + lp + 3))] 112) := by
  have h := ht (p + 348).toNat (by omega)
  have hsz := ht.size
  have c0 : ∀ o, (w.alloc o).cell? ⟨8, (p + 348).toNat * 2, none⟩ = some (.int .u64 (powHi (p + 348).toNat : Nat)) := fun o => by rw [World.cell?_alloc_past _ _ _ hsz]; exact h.1
  have c1 : ∀ o, (w.alloc o).cell? ⟨8, (p + 348).toNat * 2 + 1, none⟩ = some (.int .u64 (powLo (p + 348).toNat : Nat)) := fun o => by rw [World.cell?_alloc_past _ _ _ hsz]; exact h.2
  clear h ht
  generalize powHi (p + 348).toNat = hi at *
  generalize powLo (p + 348).toNat = lo at *
  go_enter Tryz.func86, Tryz.ntmps86
  go_wp2
  go_end0
  exact ⟨rfl, rfl⟩

set_option maxHeartbeats 400000 in
theorem bool113 (b : Bool) (w : World) : Calls Tryz.prog 113 #[.bool b] w fun e w' => e = .returned (.int .u64 (if b then 1 else 0)) ∧ w' = w := by
  cases b <;>
  · go_enter Tryz.func113, Tryz.ntmps113
    go_wp2
    go_ret
    exact ⟨rfl, rfl⟩

def two64 : Int := 18446744073709551616
/-- The scaled number of x by the row (hi, lo), shifted by s, its two lowest bits those of an unrounded one. -/
def usc (x hi lo s : Nat) : Int :=
  if (IntKind.u64.wrap ((x : Int) * hi / 18446744073709551616 / 2 ^ s * 2 ^ s) != (x : Int) * hi / 18446744073709551616) = true then
    bits BinOp.or IntKind.u64 ((x : Int) * hi / 18446744073709551616 / 2 ^ s) 1
  else if (x : Int) * hi % 18446744073709551616 < (x : Int) * lo / 18446744073709551616 then
    bits BinOp.or IntKind.u64 (IntKind.u64.wrap ((x : Int) * hi / 18446744073709551616 - 1) / 2 ^ s)
      (if 1 < IntKind.u64.wrap ((x : Int) * hi % 18446744073709551616 - (x : Int) * lo / 18446744073709551616) then 1 else 0)
  else
    bits BinOp.or IntKind.u64 (IntKind.u64.wrap ((x : Int) * hi / 18446744073709551616) / 2 ^ s)
      (if 1 < IntKind.u64.wrap ((x : Int) * hi % 18446744073709551616 - (x : Int) * lo / 18446744073709551616) then 1 else 0)

theorem usc_bounds (x hi lo s : Nat) : 0 ≤ usc x hi lo s ∧ usc x hi lo s ≤ 18446744073709551615 := by
  unfold usc
  split
  · exact ⟨bits_lo_u64 _ _ _, bits_hi_u64 _ _ _⟩
  · split <;> exact ⟨bits_lo_u64 _ _ _, bits_hi_u64 _ _ _⟩

theorem and63 (s : Nat) (h : s ≤ 63) : bits BinOp.and IntKind.i64 (s : Int) 63 = s := by
  have f : ∀ i : Fin 64, bits BinOp.and IntKind.i64 ((i.val : Nat) : Int) 63 = (i.val : Int) := by decide +kernel
  exact f ⟨s, by omega⟩

set_option maxHeartbeats 1000000 in
theorem uscale88 (x hi lo s : Nat) (blk : Nat) (w : World) (hx : x < 18446744073709551616) (hh : hi < 18446744073709551616) (hl : lo < 18446744073709551616) (hs : s ≤ 63)
    (c0 : w.cell? ⟨blk, 0, none⟩ = some (.int .u64 hi)) (c1 : w.cell? ⟨blk, 1, none⟩ = some (.int .u64 lo)) (c2 : w.cell? ⟨blk, 2, none⟩ = some (.int .i64 s)) :
    Calls Tryz.prog 88 #[.int .u64 x, .pointer (some ⟨blk, 0, none⟩)] w fun e w' => e = .returned (.int .u64 (usc x hi lo s)) ∧ ∃ n, w' = w.drewN n := by
  have hb : bits BinOp.and IntKind.i64 (s : Int) 63 = s := and63 s hs
  have r : ∀ v : Int, v = usc x hi lo s → Ending.returned (.int .u64 v) = Ending.returned (.int .u64 (usc x hi lo s)) := fun v h => by rw [h]
  have R := Lib.hid r
  clear r
  go_enter Tryz.func88, Tryz.ntmps88
  go_wp2_with (first | (go_at_call 120; refine (Tryz.bits_Mul64 _ _ (by assumption) (by assumption) _).mono ?_; rintro e w' ⟨rfl, rfl⟩) | (go_at_call 113; refine (bool113 _ _).mono ?_; rintro e w' ⟨rfl, rfl⟩))
  · go_ret
    refine ⟨R.out _ ?_, 0, rfl⟩
    unfold usc
    rw [if_pos ‹_›]
  · go_quiet ((go_at_call 113; exact Calls.quiet_of_same (bool113 _ _)))
    go_wp2
    all_goals
      go_ret
      refine ⟨R.out _ ?_, _, rfl⟩
      unfold usc
      rw [if_neg (by simp [*]), if_pos ‹_›]
      first | rw [if_pos ‹_›] | rw [if_neg (by omega)]
  · go_quiet ((go_at_call 113; exact Calls.quiet_of_same (bool113 _ _)))
    go_wp2
    all_goals
      go_ret
      refine ⟨R.out _ ?_, _, rfl⟩
      unfold usc
      rw [if_neg (by simp [*]), if_neg (by omega)]
      first | rw [if_pos ‹_›] | rw [if_neg (by omega)]
end Go.Proofs.YthmnmkolekgjoaaGreatDoor
