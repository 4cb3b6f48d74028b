/- That WeighSums answers true to every two words, in every world whose tables are laid. -/
import Derived.Test.YthmnmkolekgjoaaGreatDoorWOrder
namespace Go.Proofs.YthmnmkolekgjoaaGreatDoor
open Go.RowKit
open Go

theorem key_zero : Fl.key 0 = 0 := by decide
theorem isNan_zero : Fl.isNan 0 = false := by decide
theorem isNan_canon : nanB 9221120237041090561 = true := by decide +kernel

theorem zeroB_is (x : Nat) (h : nanB x = false) : zeroB x = decide (Fl.key x = 0) := by
  rw [nanB_is] at h
  unfold zeroB
  rw [Fl.order_key x 0 h isNan_zero, Fl.cmp_def, key_zero]
  by_cases h1 : Fl.key x < 0
  · rw [if_pos h1]; simp; omega
  · rw [if_neg h1]
    by_cases h2 : Fl.key x = 0
    · rw [if_pos h2]; simp [h2]
    · rw [if_neg h2]; simp [h2]
theorem goodB_is (x : Nat) : goodB x = (!nanB x && decide (0 ≤ Fl.key x)) := by
  unfold goodB
  cases h : nanB x
  · have h' := h
    rw [nanB_is] at h'
    rw [Fl.order_key x 0 h' isNan_zero, Fl.cmp_def, key_zero]
    by_cases h1 : Fl.key x < 0
    · rw [if_pos h1]; simp; omega
    · rw [if_neg h1]
      by_cases h2 : Fl.key x = 0
      · rw [if_pos h2]; simp [h2]
      · rw [if_neg h2]; simp; omega
  · rw [nanB_is] at h
    rw [Fl.order_nan_left x 0 h]; rfl

theorem clean_clean (x : Nat) : cleanN (cleanN x) = cleanN x := by
  unfold cleanN
  cases h : nanB x
  · cases hz : zeroB x
    · simp [h, hz]
    · have : nanB 0 = false := by decide +kernel
      have hz0 : zeroB 0 = true := by decide +kernel
      simp [this, hz0]
  · simp [isNan_canon]
theorem add_clean (x y : Nat) : cleanN (addN x y) = addN x y := by
  unfold addN
  cases Ieee.double.add x y with
  | none => unfold cleanN; simp [isNan_canon]
  | some r => exact clean_clean r
theorem add_swap (x y : Nat) : addN y x = addN x y := by
  unfold addN; rw [Fl.add_comm]

theorem clean_key (r : Nat) (h : nanB r = false) : nanB (cleanN r) = false ∧ Fl.key (cleanN r) = Fl.key r := by
  unfold cleanN
  rw [h]
  cases hz : zeroB r
  · simp [h]
  · rw [zeroB_is r h] at hz
    have : Fl.key r = 0 := by simpa using hz
    simp only [Bool.false_eq_true, if_false, if_true]
    exact ⟨by decide +kernel, by rw [key_zero, this]⟩

theorem sum_good (x y : Nat) (hx : goodB x = true) (hy : goodB y = true) : goodB (addN x y) = true ∧ lessB (addN x y) x = false ∧ lessB (addN x y) y = false := by
  rw [goodB_is] at hx hy
  simp only [Bool.and_eq_true, Bool.not_eq_true', decide_eq_true_eq] at hx hy
  have nx := hx.1
  have ny := hy.1
  rw [nanB_is] at nx ny
  obtain ⟨r, hr, nr, k1, k2⟩ := Fl.add_weights x y nx ny hx.2 hy.2
  rw [← nanB_is] at nr
  have e : addN x y = cleanN r := by unfold addN; rw [hr]
  obtain ⟨c1, c2⟩ := clean_key r nr
  rw [e]
  refine ⟨?_, ?_, ?_⟩
  · rw [goodB_is, c1, c2]; simp; omega
  · rw [less_plain _ _ c1 hx.1, ltB_is _ _ c1 hx.1, c2]; simp; omega
  · rw [less_plain _ _ c1 hy.1, ltB_is _ _ c1 hy.1, c2]; simp; omega

theorem below_or {w w' : World} (h : w' = w ∨ w' = w.drew) : Below w.heap.size w w' := by
  rcases h with rfl | rfl
  · exact Below.refl _ _
  · exact (Below.refl _ _).drew

set_option maxRecDepth 100000 in
set_option maxHeartbeats 2000000 in
theorem sums_walk (a b : Int) (w : World) (hV : Vars w) : Calls Tryz.prog 5 #[.int .u64 a, .int .u64 b] w fun e w' => e = .returned (.bool true) ∧ Below w.heap.size w w' := by
  have HG := Lib.hid (begun9 w hV)
  clear hV
  have hfr := xFrom
  have e1 : ((addN a.toNat b.toNat : Nat) : Int) == ((cleanN (addN a.toNat b.toNat) : Nat) : Int) := by rw [add_clean]; simp
  have e2 : ((addN a.toNat b.toNat : Nat) : Int) == ((addN b.toNat a.toNat : Nat) : Int) := by rw [add_swap]; simp
  have S := sum_good a.toNat b.toNat
  have way : goodB a.toNat = false ∨ (goodB a.toNat = true ∧ goodB b.toNat = false) ∨ (goodB a.toNat = true ∧ goodB b.toNat = true ∧ goodB (addN a.toNat b.toNat) = true ∧ lessB (addN a.toNat b.toNat) a.toNat = false ∧ lessB (addN a.toNat b.toNat) b.toNat = false) := by
    cases g1 : goodB a.toNat
    · left; rfl
    · cases g2 : goodB b.toNat
      · right; left; exact ⟨rfl, rfl⟩
      · right; right; exact ⟨rfl, rfl, S g1 g2⟩
  clear S
  rcases way with g1 | ⟨g1, g2⟩ | ⟨g1, g2, g3, g4, g5⟩
  all_goals
    go_enter Tryz.func5, Tryz.ntmps5
    go_wp2_with fail
    refine HG.out.mono ?_
    rintro e w1 ⟨rfl, hb⟩
    have HB := Lib.hid hb
    clear hb
    go_wp2_with fail
    refine (add18 _ _ _).mono ?_
    rintro e w2 ⟨rfl, hw2⟩
    have HB2 := Lib.hid (HB.out.trans ((below_or hw2).mono HB.out.size))
    clear hw2
    go_wp2_with (first | (go_at_call 14; refine (clean14 _ _).mono ?_; rintro e w' ⟨rfl, rfl⟩) | (go_at_call 13; refine (bits13 _ _ _).mono ?_; rintro e w' ⟨rfl, rfl⟩))
    refine (add18 _ _ _).mono ?_
    rintro e w3 ⟨rfl, hw3⟩
    have HB3 := Lib.hid (HB2.out.trans ((below_or hw3).mono HB2.out.size))
    clear hw3
    go_wp2_with (first | (go_at_call 13; refine (bits13 _ _ _).mono ?_; rintro e w' ⟨rfl, rfl⟩) | (go_at_call 11; refine (good11 _ _).mono ?_; rintro e w' ⟨rfl, rfl⟩) | (go_at_call 20; refine (less20 _ _ _).mono ?_; rintro e w' ⟨rfl, rfl⟩))
    go_ret
    exact ⟨rfl, HB3.out⟩
end Go.Proofs.YthmnmkolekgjoaaGreatDoor
