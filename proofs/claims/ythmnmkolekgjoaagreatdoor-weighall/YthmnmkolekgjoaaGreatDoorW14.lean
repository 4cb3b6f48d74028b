/- The text that FormatFloat gives of every finite number, as a function of its bits. -/
import Derived.Test.YthmnmkolekgjoaaGreatDoorW13
import Derived.Laws.BitsLemmas
namespace Go.Proofs.YthmnmkolekgjoaaGreatDoor
open Go.RowKit
open Go
open Go.Lib (nDigits decDigits)

def fNeg (x : Nat) : Bool := decide (9223372036854775808 ≤ x)
def fExp (x : Nat) : Nat := x / 4503599627370496 % 2048
def fMan (x : Nat) : Nat := x % 4503599627370496

theorem and2047 (n : Nat) (h : n < 4096) : bits BinOp.and IntKind.i64 (n : Int) 2047 = ((n % 2048 : Nat) : Int) := by
  have := bits_mask .i64 12 (by decide) (fun z h0 h1 => by rw [IntKind.wrap_i64]; omega) 11 (by decide) (n : Int) (by omega) (by omega)
  have e : (2 : Int) ^ 11 - 1 = 2047 := by decide
  rw [e] at this
  rw [this]; omega
theorem fx1 (x : Nat) (hx : x < 18446744073709551616) : bits BinOp.and IntKind.i64 ((x : Int) / 4503599627370496) 2047 = (fExp x : Nat) := by
  have e : (x : Int) / 4503599627370496 = ((x / 4503599627370496 : Nat) : Int) := by omega
  rw [e, and2047 _ (by omega)]; rfl
theorem fx2 (x : Nat) (hx : x < 18446744073709551616) : bits BinOp.and IntKind.u64 (x : Int) 4503599627370495 = (fMan x : Nat) := by
  have h := bits_and_u64_nat x 4503599627370495 hx (by omega)
  have e : x &&& 4503599627370495 = x % 4503599627370496 := Nat.and_two_pow_sub_one_eq_mod x 52
  rw [e] at h
  exact h
theorem fx3 (x : Nat) (hx : x < 18446744073709551616) : ((x : Int) / 9223372036854775808 != 0) = fNeg x := by
  unfold fNeg
  by_cases h : 9223372036854775808 ≤ x
  · simp only [h, decide_true, bne_iff_ne]; omega
  · simp only [h, decide_false]
    rw [bne_eq_false_iff_eq]; omega
theorem fx4 (M : Nat) (hM : M < 4503599627370496) : bits BinOp.or IntKind.u64 (M : Int) 4503599627370496 = (M : Int) + 4503599627370496 := by
  have h := bits_or_u64_nat M 4503599627370496 (by omega) (by omega)
  have e : M ||| 4503599627370496 = 4503599627370496 + M := by
    rw [Nat.or_comm]
    exact (Nat.two_pow_add_eq_or_of_lt (i := 52) hM 1).symm
  rw [e] at h
  have : bits BinOp.or IntKind.u64 (M : Int) ((4503599627370496 : Nat) : Int) = ((4503599627370496 + M : Nat) : Int) := h
  have e2 : (((4503599627370496 : Nat) : Int)) = 4503599627370496 := rfl
  rw [e2] at this
  rw [this]; omega

/-- What belongs to a number below the least normal one: its shift, itself shifted, half a step. -/
def subZ (M : Nat) : Nat := 63 - M.log2
def subM (M : Nat) : Nat := M * 2 ^ subZ M
def subH (M : Nat) : Nat := 2 ^ (subZ M - 1)
theorem sub_facts (M : Nat) (h0 : 1 ≤ M) (h1 : M < 4503599627370496) :
    Lib.bitLen M = 64 - subZ M ∧ 12 ≤ subZ M ∧ subZ M ≤ 63 ∧ 9223372036854775808 ≤ subM M ∧ subM M + subH M < 18446744073709551616 ∧ 2 * subH M ≤ subM M ∧ 1 ≤ subH M := by
  have hne : M ≠ 0 := by omega
  have g1 : 2 ^ M.log2 ≤ M := Nat.log2_self_le hne
  have g2 : M < 2 ^ (M.log2 + 1) := Nat.lt_log2_self
  have hk : M.log2 ≤ 51 := by
    have : M.log2 < 52 := (Nat.log2_lt hne).2 h1
    omega
  unfold subM subH subZ
  generalize M.log2 = k at *
  have hb : Lib.bitLen M = k + 1 := by
    rw [Lib.bitLen_shift k M g1 (by omega)]
    have : M / 2 ^ k = 1 := by
      have hp : 0 < 2 ^ k := Nat.two_pow_pos k
      rw [Nat.pow_succ] at g2
      have a : 1 ≤ M / 2 ^ k := (Nat.le_div_iff_mul_le hp).2 (by omega)
      have b : M / 2 ^ k < 2 := (Nat.div_lt_iff_lt_mul hp).2 (by omega)
      omega
    rw [this]
    have : Lib.bitLen 1 = 1 := by decide
    omega
  have hz : 2 ^ (63 - k) = 2 * 2 ^ (63 - k - 1) := by
    have : 63 - k = (63 - k - 1) + 1 := by omega
    rw [this, Nat.pow_succ]; simp; omega
  have hA : 2 ^ k * 2 ^ (63 - k) = 9223372036854775808 := by
    rw [← Nat.pow_add]
    have : k + (63 - k) = 63 := by omega
    rw [this]
  have hp : 0 < 2 ^ (63 - k - 1) := Nat.two_pow_pos _
  have m0 : 2 ^ k * 2 ^ (63 - k) ≤ M * 2 ^ (63 - k) := Nat.mul_le_mul_right _ g1
  have m1 : (M + 1) * 2 ^ (63 - k) ≤ 2 ^ (k + 1) * 2 ^ (63 - k) := Nat.mul_le_mul_right _ g2
  rw [Nat.pow_succ, Nat.mul_right_comm, hA, Nat.add_mul, Nat.one_mul] at m1
  rw [hA] at m0
  have m2 : 1 * 2 ^ (63 - k) ≤ M * 2 ^ (63 - k) := Nat.mul_le_mul_right _ h0
  refine ⟨by omega, by omega, by omega, m0, by omega, by omega, hp⟩

def sfSub (M : Nat) : Int × Int := sfEnd (subM M - subH M) (subM M + subH M) (subM M) (-1022 - (subZ M : Int) - 52) 324 (bits BinOp.and IntKind.i64 (wrap64 ((subM M : Int) / 2 ^ subZ M)) 1)

theorem short_sub (M : Nat) (h0 : 1 ≤ M) (h1 : M < 4503599627370496) (W : World) (hW : PowTab W) :
    Calls Tryz.prog 72 #[.int .u64 (IntKind.u64.wrap ((M : Int) * 2 ^ (64 - (64 - subZ M)))), .int .i64 (-1022 - (64 - ((64 - subZ M : Nat) : Int)) - 52)] W fun r w' => r = .returned (.tuple #[.int .u64 (sfSub M).1, .int .i64 (sfSub M).2]) ∧ Below W.heap.size W w' := by
  obtain ⟨_, z0, z1, m0, m1, m2, m3⟩ := sub_facts M h0 h1
  have e1 : 64 - (64 - subZ M) = subZ M := by omega
  have e2 : -1022 - (64 - ((64 - subZ M : Nat) : Int)) - 52 = -1022 - (subZ M : Int) - 52 := by omega
  have e3 : IntKind.u64.wrap ((M : Int) * 2 ^ subZ M) = (subM M : Nat) := by
    have : (M : Int) * 2 ^ subZ M = (subM M : Nat) := by unfold subM; push_cast; rfl
    rw [this, IntKind.wrap_u64]; omega
  rw [e1, e2, e3]
  exact shortC (subM M) (subZ M) (subH M) 324 W hW z0 z1 (by omega) (by omega) (by unfold subH; push_cast; rfl) m0 m1 (by omega) _ rfl

theorem norm_range (M E : Nat) (hM : M < 4503599627370496) (hE0 : 1 ≤ E) (hE1 : E ≤ 2046) : 1 ≤ (sfNorm M E).1 ∧ (sfNorm M E).1 < 18446744073709551616 ∧ -350 ≤ (sfNorm M E).2 ∧ (sfNorm M E).2 ≤ 350 := by
  unfold sfNorm
  split
  · have := sfEnd_range ((M + 4503599627370496) * 2048 - 512) ((M + 4503599627370496) * 2048 + 1024) ((M + 4503599627370496) * 2048) ((E : Int) - 1086) (-((((E : Int) - 1086 + 11) * 631305 - 261663) / 2097152)) (bits BinOp.and IntKind.i64 ((((M + 4503599627370496) * 2048 : Nat) : Int) / 2048) 1)
      (by omega) (by omega) (by omega) (by omega) (by omega) (by omega) (by omega) (by omega) (by omega) (by omega) (and1 _)
    refine ⟨this.1, this.2.1, ?_, ?_⟩ <;> rcases this.2.2 with h | h <;> rw [h] <;> omega
  · have := sfEnd_range ((M + 4503599627370496) * 2048 - 1024) ((M + 4503599627370496) * 2048 + 1024) ((M + 4503599627370496) * 2048) ((E : Int) - 1086) (-(((E : Int) - 1086 + 11) * 78913 / 262144)) (bits BinOp.and IntKind.i64 ((((M + 4503599627370496) * 2048 : Nat) : Int) / 2048) 1)
      (by omega) (by omega) (by omega) (by omega) (by omega) (by omega) (by omega) (by omega) (by omega) (by omega) (and1 _)
    refine ⟨this.1, this.2.1, ?_, ?_⟩ <;> rcases this.2.2 with h | h <;> rw [h] <;> omega
theorem sub_range (M : Nat) (h0 : 1 ≤ M) (h1 : M < 4503599627370496) : 1 ≤ (sfSub M).1 ∧ (sfSub M).1 < 18446744073709551616 ∧ -350 ≤ (sfSub M).2 ∧ (sfSub M).2 ≤ 350 := by
  obtain ⟨_, z0, z1, m0, m1, m2, m3⟩ := sub_facts M h0 h1
  unfold sfSub
  have := sfEnd_range (subM M - subH M) (subM M + subH M) (subM M) (-1022 - (subZ M : Int) - 52) 324 (bits BinOp.and IntKind.i64 (wrap64 ((subM M : Int) / 2 ^ subZ M)) 1)
    (by omega) (by omega) (by omega) (by omega) (by omega) (by omega) (by omega) (by omega) (by omega) (by omega) (and1 _)
  refine ⟨this.1, this.2.1, ?_, ?_⟩ <;> rcases this.2.2 with h | h <;> rw [h] <;> omega

def fmtD (neg : Bool) (r : Int × Int) : List Int := textG neg (digs r.1.toNat) ((nDigits r.1.toNat : Nat) + r.2)
/-- The text of a finite number, by its bits. -/
def fmtBs (x : Nat) : List Int :=
  if fExp x = 0 then if fMan x = 0 then zeroText (fNeg x) else fmtD (fNeg x) (sfSub (fMan x)) else fmtD (fNeg x) (sfNorm (fMan x) (fExp x))

theorem ftoaAll (x : Nat) (hx : x < 18446744073709551616) (hf : fExp x ≠ 2047) (B : Nat) (w0 w : World) (v : Value) (I : Inv B [] w0 w v []) (hT : Tabs w) :
    Calls Tryz.prog 47 #[v, .float .f64 x, .int .u8 103, .int .i64 (-1)] w fun e w' => ∃ v', e = .returned v' ∧ Inv B [] w0 w' v' (fmtBs x) := by
  have hE : fExp x < 2048 := Nat.mod_lt _ (by omega)
  have hM : fMan x < 4503599627370496 := Nat.mod_lt _ (by omega)
  unfold fmtBs
  by_cases h1 : fExp x = 0
  · rw [if_pos h1]
    have f1 := fx1 x hx
    rw [h1] at f1
    by_cases h2 : fMan x = 0
    · rw [if_pos h2]
      have f2 := fx2 x hx
      rw [h2] at f2
      exact ftoaZero x (fNeg x) B w0 w v hx f1 f2 (fx3 x hx) I
    · rw [if_neg h2]
      obtain ⟨hL, z0, z1, _⟩ := sub_facts (fMan x) (by omega) hM
      have hr := sub_range (fMan x) (by omega) hM
      have hs := short_sub (fMan x) (by omega) hM
      generalize sfSub (fMan x) = q at hr hs ⊢
      obtain ⟨q1, q2⟩ := q
      obtain ⟨r0, r1, r2, r3⟩ := hr
      obtain ⟨d, hd⟩ : ∃ d : Nat, q1 = d := Int.eq_ofNat_of_zero_le (by simp only at r0; omega)
      subst hd
      exact ftoaSub x (fNeg x) (fMan x) (64 - subZ (fMan x)) d q2 B w0 w v hx (by omega) hM f1 (fx2 x hx) (fx3 x hx) hL (by omega) (by omega) hs (by simp only at r0; omega) (by simp only at r1; omega) r2 r3 I hT
  · rw [if_neg h1]
    have hr := norm_range (fMan x) (fExp x) hM (by omega) (by omega)
    have hs := short_norm (fMan x) (fExp x) hM (by omega) (by omega)
    generalize sfNorm (fMan x) (fExp x) = q at hr hs ⊢
    obtain ⟨q1, q2⟩ := q
    obtain ⟨r0, r1, r2, r3⟩ := hr
    obtain ⟨d, hd⟩ : ∃ d : Nat, q1 = d := Int.eq_ofNat_of_zero_le (by simp only at r0; omega)
    subst hd
    exact ftoaNorm x (fNeg x) (fExp x) (fMan x) d q2 B w0 w v hx (by omega) (by omega) hM (fx1 x hx) (fx2 x hx) (fx3 x hx) (fx4 (fMan x) hM) hs (by simp only at r0; omega) (by simp only at r1; omega) r2 r3 I hT
end Go.Proofs.YthmnmkolekgjoaaGreatDoor
