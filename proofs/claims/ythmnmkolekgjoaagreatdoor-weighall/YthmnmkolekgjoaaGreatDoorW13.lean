/- Bounds on the shortest digits that strconv reckons: they are never nought, and all fit. -/
import Derived.Test.YthmnmkolekgjoaaGreatDoorW11
import Derived.Test.YthmnmkolekgjoaaGreatDoorW3c
import Derived.Test.YthmnmkolekgjoaaGreatDoorW8b
import Derived.Laws.Bits64b
namespace Go.Proofs.YthmnmkolekgjoaaGreatDoor
open Go.RowKit
open Go
open Go.Lib (nDigits decDigits)

theorem powHi_ge (i : Nat) (hi : i < 696) : 9223372036854775808 ≤ powHi i := by
  have h : Pinned.pow10Rows.all (fun r => decide (9223372036854775808 ≤ r.1)) = true := by decide +kernel
  have hlen : Pinned.pow10Rows.length = 696 := by decide +kernel
  unfold powHi
  have := List.all_eq_true.1 h _ (List.getElem_mem (show i < Pinned.pow10Rows.length by omega))
  simpa [List.getD, List.getElem?_eq_getElem (show i < Pinned.pow10Rows.length by omega)] using this

theorem or_bounds (a b : Nat) (ha : a < 9223372036854775808) (hb : b ≤ 1) (x y : Int) (hx : x = a) (hy : y = b) : (a : Int) ≤ bits BinOp.or IntKind.u64 x y ∧ bits BinOp.or IntKind.u64 x y < 9223372036854775808 := by
  subst hx hy
  rw [bits_or_u64_nat a b (by omega) (by omega)]
  have h1 : a ≤ a ||| b := Nat.left_le_or
  have h2 : a ||| b < 2 ^ 63 := Nat.or_lt_two_pow (by omega) (by omega)
  omega

theorem usc_range (x hi lo s : Nat) (hx0 : 4611686018427387904 ≤ x) (hx : x < 18446744073709551616) (hh0 : 9223372036854775808 ≤ hi) (hh : hi < 18446744073709551616) (hs0 : 1 ≤ s) (hs : s ≤ 58) :
    7 ≤ usc x hi lo s ∧ usc x hi lo s < 9223372036854775808 := by
  -- the high word of the product
  have hp0 : 4611686018427387904 * 9223372036854775808 ≤ x * hi := Nat.mul_le_mul hx0 hh0
  have hp1 : x * hi < 18446744073709551616 * 18446744073709551616 := Nat.mul_lt_mul'' hx hh
  obtain ⟨t, ht⟩ : ∃ t : Nat, x * hi / 18446744073709551616 = t := ⟨_, rfl⟩
  have t0 : 2305843009213693952 ≤ t := by omega
  have t1 : t < 18446744073709551616 := by omega
  have et : (x : Int) * hi / 18446744073709551616 = (t : Nat) := by omega
  have p2 : (2 : Int) ^ s = ((2 ^ s : Nat) : Int) := by push_cast; rfl
  have hp : 2 ≤ 2 ^ s := by
    calc 2 = 2 ^ 1 := rfl
      _ ≤ 2 ^ s := Nat.pow_le_pow_right (by omega) hs0
  have hq : 2 ^ s ≤ 288230376151711744 := by
    calc 2 ^ s ≤ 2 ^ 58 := Nat.pow_le_pow_right (by omega) hs
      _ = 288230376151711744 := by decide
  have dv : ∀ u : Nat, 2305843009213693951 ≤ u → u < 18446744073709551616 → 7 ≤ u / 2 ^ s ∧ u / 2 ^ s < 9223372036854775808 := by
    intro u h0 h1
    constructor
    · refine (Nat.le_div_iff_mul_le (by omega)).2 ?_
      omega
    · refine (Nat.div_lt_iff_lt_mul (by omega)).2 ?_
      omega
  have e2 : ((t : Nat) : Int) / 2 ^ s = ((t / 2 ^ s : Nat) : Int) := by rw [p2]; push_cast; rfl
  have wr : ∀ z : Int, 0 ≤ z → z < 18446744073709551616 → IntKind.u64.wrap z = z := fun z a b => by rw [IntKind.wrap_u64]; omega
  unfold usc
  rw [et]
  split
  · obtain ⟨a, b⟩ := dv t (by omega) t1
    obtain ⟨c, d⟩ := or_bounds (t / 2 ^ s) 1 b (by omega) _ (1 : Int) e2 rfl
    omega
  · split
    · rw [wr _ (by omega) (by omega)]
      have e3 : ((t : Nat) : Int) - 1 = ((t - 1 : Nat) : Int) := by omega
      rw [e3]
      have e4 : (((t - 1 : Nat)) : Int) / 2 ^ s = (((t - 1) / 2 ^ s : Nat) : Int) := by rw [p2]; push_cast; rfl
      obtain ⟨a, b⟩ := dv (t - 1) (by omega) (by omega)
      split
      · obtain ⟨c, d⟩ := or_bounds ((t - 1) / 2 ^ s) 1 b (by omega) _ (1 : Int) e4 rfl
        omega
      · obtain ⟨c, d⟩ := or_bounds ((t - 1) / 2 ^ s) 0 b (by omega) _ (0 : Int) e4 rfl
        omega
    · rw [wr _ (by omega) (by omega)]
      obtain ⟨a, b⟩ := dv t (by omega) t1
      split
      · obtain ⟨c, d⟩ := or_bounds (t / 2 ^ s) 1 b (by omega) _ (1 : Int) e2 rfl
        omega
      · obtain ⟨c, d⟩ := or_bounds (t / 2 ^ s) 0 b (by omega) _ (0 : Int) e2 rfl
        omega

theorem and1 (x : Int) : bits BinOp.and IntKind.i64 x 1 = 0 ∨ bits BinOp.and IntKind.i64 x 1 = 1 := by
  have h : (BitVec.ofInt 64 x &&& BitVec.ofInt 64 1).toNat < 2 := by
    rw [BitVec.toNat_and]
    have e : (BitVec.ofInt 64 1).toNat = 1 := by decide
    rw [e]
    have := Nat.and_le_right (n := (BitVec.ofInt 64 x).toNat) (m := 1)
    omega
  have e : bits BinOp.and IntKind.i64 x 1 = IntKind.i64.wrap ((BitVec.ofInt 64 x &&& BitVec.ofInt 64 1).toNat : Int) := rfl
  rw [e, IntKind.wrap_i64]
  omega

theorem sfEnd_range (mn mx m : Nat) (e p odd : Int) (hmn : 4611686018427387904 ≤ mn) (hmx0 : 4611686018427387904 ≤ mx) (hmx : mx < 18446744073709551616) (hmn1 : mn < 18446744073709551616) (hm0 : 4611686018427387904 ≤ m) (hm : m < 18446744073709551616)
    (hp0 : -348 ≤ p) (hp1 : p ≤ 347) (hs0 : 1 ≤ -(e + p * 108853 / 32768 + 3)) (hs1 : -(e + p * 108853 / 32768 + 3) ≤ 58) (ho : odd = 0 ∨ odd = 1) :
    1 ≤ (sfEnd mn mx m e p odd).1 ∧ (sfEnd mn mx m e p odd).1 < 18446744073709551616 ∧ ((sfEnd mn mx m e p odd).2 = -p ∨ (sfEnd mn mx m e p odd).2 = 1 - p) := by
  have g0 := powHi_ge (p + 348).toNat (by omega)
  have g1 := powHi_lt (p + 348).toNat
  have a1 := usc_range mn (powHi (p + 348).toNat) (powLo (p + 348).toNat) (-(e + p * 108853 / 32768 + 3)).toNat hmn hmn1 g0 g1 (by omega) (by omega)
  have a2 := usc_range mx (powHi (p + 348).toNat) (powLo (p + 348).toNat) (-(e + p * 108853 / 32768 + 3)).toNat hmx0 hmx g0 g1 (by omega) (by omega)
  have a3 := usc_range m (powHi (p + 348).toNat) (powLo (p + 348).toNat) (-(e + p * 108853 / 32768 + 3)).toNat hm0 hm g0 g1 (by omega) (by omega)
  unfold sfEnd
  simp only []
  generalize usc mn (powHi (p + 348).toNat) (powLo (p + 348).toNat) (-(e + p * 108853 / 32768 + 3)).toNat = u1 at *
  generalize usc mx (powHi (p + 348).toNat) (powLo (p + 348).toNat) (-(e + p * 108853 / 32768 + 3)).toNat = u2 at *
  generalize usc m (powHi (p + 348).toNat) (powLo (p + 348).toNat) (-(e + p * 108853 / 32768 + 3)).toNat = u3 at *
  have wr : ∀ z : Int, IntKind.u64.wrap z = z % 18446744073709551616 := fun z => IntKind.wrap_u64 z
  have c1 : 1 ≤ ceilU (nudgeU u1 odd) ∧ ceilU (nudgeU u1 odd) < 4611686018427387904 := by
    unfold ceilU nudgeU
    rw [wr, wr, wr]
    rcases ho with rfl | rfl <;> omega
  have c2 : 0 ≤ floorU (nudgeU u2 (wrap64 (-odd))) ∧ floorU (nudgeU u2 (wrap64 (-odd))) < 4611686018427387904 := by
    unfold floorU nudgeU
    rw [wr, wr, wr]
    omega
  have c3 : 1 ≤ roundU u3 ∧ roundU u3 < 4611686018427387904 := by
    have ab : 0 ≤ bits BinOp.and IntKind.u64 (u3 / 4) 1 ∧ bits BinOp.and IntKind.u64 (u3 / 4) 1 ≤ 1 := by
      obtain ⟨n, hn⟩ : ∃ n : Nat, u3 / 4 = n := ⟨(u3 / 4).toNat, by omega⟩
      have := bits_and_u64_nat n 1 (by omega) (by omega)
      rw [hn]
      have h2 : bits BinOp.and IntKind.u64 (n : Int) 1 = ((n &&& 1 : Nat) : Int) := this
      rw [h2]
      have := Nat.and_le_right (n := n) (m := 1)
      omega
    unfold roundU
    rw [wr, wr]
    omega
  generalize ceilU (nudgeU u1 odd) = dmin at *
  generalize floorU (nudgeU u2 (wrap64 (-odd))) = dmax at *
  generalize roundU u3 = rd at *
  have td : dmax.tdiv 10 = dmax / 10 := Int.tdiv_eq_ediv_of_nonneg (by omega)
  rw [td, wr, wr]
  split
  · refine ⟨?_, ?_, Or.inr ?_⟩
    · simp only; omega
    · simp only; omega
    · simp only; omega
  · split
    · exact ⟨c3.1, by simp only; omega, Or.inl rfl⟩
    · exact ⟨c1.1, by simp only; omega, Or.inl rfl⟩
end Go.Proofs.YthmnmkolekgjoaaGreatDoor
