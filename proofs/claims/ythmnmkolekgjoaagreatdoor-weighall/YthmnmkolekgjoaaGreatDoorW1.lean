/- What the small functions of weigh, of the document's own answer and of math answer at floating words, in every world. -/
import Derived.Test.YthmnmkolekgjoaaGreatDoorProg
import Derived.Test.YthmnmkolekgjoaaGreatDoorFl
import Derived.WalkKit
import Derived.WalkSpells
import Derived.WalkLawsBesides
import Derived.Handy
namespace Go.Proofs.YthmnmkolekgjoaaGreatDoor
open Go.RowKit
open Go

theorem xFrom (n : Int) (w : World) : (callFunc 22 #[.int .u64 n]).run Tryz.prog w = .ok (.value (.float .f64 n.toNat)) w := by
  rw [run_callFunc_extern (e := Extern.MathFloatBits.float64frombits) Tryz.func22 (by kernel_rfl) (by kernel_rfl) (by kernel_rfl) (by kernel_rfl)]; rfl
theorem xBits (b : Nat) (w : World) : (callFunc 26 #[.float .f64 b]).run Tryz.prog w = .ok (.value (.int .u64 b)) w := by
  rw [run_callFunc_extern (e := Extern.MathFloatBits.float64bits) Tryz.func26 (by kernel_rfl) (by kernel_rfl) (by kernel_rfl) (by kernel_rfl)]; rfl

def nanB (x : Nat) : Bool := Ieee.double.order x x != some .eq
def goodB (x : Nat) : Bool := Ieee.double.order x 0 == some .gt || Ieee.double.order x 0 == some .eq
def ltB (x y : Nat) : Bool := Ieee.double.order x y == some .lt
def zeroB (x : Nat) : Bool := Ieee.double.order x 0 == some .eq
def lessB (x y : Nat) : Bool := if nanB x || nanB y then !nanB x else ltB x y
def cleanN (x : Nat) : Nat := if nanB x then 9221120237041090561 else if zeroB x then 0 else x

set_option maxHeartbeats 400000 in
theorem isNaN27 (x : Nat) (w : World) : Calls Tryz.prog 27 #[.float .f64 x] w fun e w' => e = .returned (.bool (nanB x)) ∧ w' = w := by
  go_enter Tryz.func27, Tryz.ntmps27
  go_wp2
  go_ret
  exact ⟨rfl, rfl⟩
set_option maxHeartbeats 400000 in
theorem isNaN23 (x : Nat) (w : World) : Calls Tryz.prog 23 #[.float .f64 x] w fun e w' => e = .returned (.bool (nanB x)) ∧ w' = w := by
  go_enter Tryz.func23, Tryz.ntmps23
  go_wp2
  go_ret
  exact ⟨rfl, rfl⟩
set_option maxHeartbeats 400000 in
theorem good11 (x : Nat) (w : World) : Calls Tryz.prog 11 #[.float .f64 x] w fun e w' => e = .returned (.bool (goodB x)) ∧ w' = w := by
  go_enter Tryz.func11, Tryz.ntmps11
  go_wp2
  go_ret
  exact ⟨rfl, rfl⟩
set_option maxHeartbeats 400000 in
theorem less20 (x y : Nat) (w : World) : Calls Tryz.prog 20 #[.float .f64 x, .float .f64 y] w fun e w' => e = .returned (.bool (lessB x y)) ∧ w' = w := by
  unfold lessB
  cases hx : nanB x <;> cases hy : nanB y <;>
  · go_enter Tryz.func20, Tryz.ntmps20
    go_wp2_with (go_at_call 27; refine (isNaN27 _ _).mono ?_; rintro e w' ⟨rfl, rfl⟩)
    go_ret
    exact ⟨rfl, rfl⟩
set_option maxHeartbeats 400000 in
theorem bits13 (x y : Nat) (w : World) : Calls Tryz.prog 13 #[.float .f64 x, .float .f64 y] w fun e w' => e = .returned (.bool (((x : Int) == (y : Int)))) ∧ w' = w := by
  have h := xBits
  go_enter Tryz.func13, Tryz.ntmps13
  go_wp2
  go_ret
  exact ⟨rfl, rfl⟩
set_option maxHeartbeats 400000 in
theorem clean14 (x : Nat) (w : World) : Calls Tryz.prog 14 #[.float .f64 x] w fun e w' => e = .returned (.float .f64 (cleanN x)) ∧ w' = w := by
  have h := xFrom
  unfold cleanN
  cases hx : nanB x <;> cases hy : zeroB x <;>
  · have hy' : (FloatKind.f64.format.order x 0 == some Ordering.eq) = _ := hy
    go_enter Tryz.func14, Tryz.ntmps14
    go_wp2_with (go_at_call 27; refine (isNaN27 _ _).mono ?_; rintro e w' ⟨rfl, rfl⟩)
    go_ret
    exact ⟨rfl, rfl⟩

def nanAt (w : World) (x y : Nat) : Nat := Question.cut (.nanBits .f64 x y) (w.tape w.drawn (.nanBits .f64 x y))
theorem nanAt_is (w : World) (x y : Nat) : nanB (nanAt w x y) = true := by
  have h : ∀ t : Nat, Fl.isNan (t % 2 * 2 ^ 63 + 0x7ff0000000000000 + 1 + t / 2 % (2 ^ 52 - 1)) = true := by
    intro t
    unfold Fl.isNan Fl.rung Fl.inf Fl.bin
    apply decide_eq_true
    have h2 : t % 2 < 2 := Nat.mod_lt _ (by decide)
    have h3 : t / 2 % (2 ^ 52 - 1) < 2 ^ 52 - 1 := Nat.mod_lt _ (by decide)
    revert h2 h3
    generalize t % 2 = a
    generalize t / 2 % (2 ^ 52 - 1) = b
    intro h2 h3
    omega
  have e : Ieee.double.order (nanAt w x y) (nanAt w x y) = none := Fl.order_nan_left _ _ (h _)
  unfold nanB
  rw [e]; rfl

def addN (x y : Nat) : Nat := match Ieee.double.add x y with
  | some r => cleanN r
  | none => 9221120237041090561

set_option maxHeartbeats 400000 in
theorem add18 (x y : Nat) (w : World) : Calls Tryz.prog 18 #[.float .f64 x, .float .f64 y] w fun e w' => e = .returned (.float .f64 (addN x y)) ∧ (w' = w ∨ w' = w.drew) := by
  unfold addN
  cases h : Ieee.double.add x y with
  | some r =>
    have hr : ∀ w, (binOp .add 27 (.float .f64 x) (.float .f64 y)).run Tryz.prog w = .ok (.float .f64 r) w := fun w => run_float_arith w .add 27 .f64 x y r h
    go_enter Tryz.func18, Tryz.ntmps18
    go_wp2_with (go_at_call 14; refine (clean14 _ _).mono ?_; rintro e w' ⟨rfl, rfl⟩)
    go_ret
    exact ⟨rfl, Or.inl rfl⟩
  | none =>
    have hr : ∀ w, (binOp .add 27 (.float .f64 x) (.float .f64 y)).run Tryz.prog w = .ok (.float .f64 (nanAt w x y)) w.drew := by
      intro w
      have h' : FloatKind.f64.format.add x y = none := h
      simp [binOp, Op.floatArith, h', nanAt, Question.forced]
    have hc : cleanN (nanAt w x y) = 9221120237041090561 := by unfold cleanN; rw [nanAt_is]; rfl
    have HC : Hid (cleanN (nanAt w x y) = 9221120237041090561) := hc
    clear hc
    go_enter Tryz.func18, Tryz.ntmps18
    go_wp2_with (go_at_call 14; refine (clean14 _ _).mono ?_; rintro e w' ⟨rfl, rfl⟩)
    go_ret
    exact ⟨by rw [← HC.out]; rfl, Or.inr rfl⟩
end Go.Proofs.YthmnmkolekgjoaaGreatDoor
