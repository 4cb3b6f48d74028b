/- What weigh.Text answers to 0.1 and 1, and that the statements' beginning answers true. -/
import Derived.Test.YthmnmkolekgjoaaGreatDoorW3b
import Derived.Test.YthmnmkolekgjoaaGreatDoorW9
import Derived.Test.YthmnmkolekgjoaaGreatDoorW10
namespace Go.Proofs.YthmnmkolekgjoaaGreatDoor
open Go.RowKit
open Go
open Go.Lib (nDigits decDigits)

/-- The shortest digits of a normal number out of its fields. -/
def sfNorm (M E : Nat) : Int × Int :=
  if M = 0 ∧ 1 < E then sfEnd ((M + 4503599627370496) * 2048 - 512) ((M + 4503599627370496) * 2048 + 1024) ((M + 4503599627370496) * 2048) ((E : Int) - 1086) (-((((E : Int) - 1086 + 11) * 631305 - 261663) / 2097152)) (bits BinOp.and IntKind.i64 ((((M + 4503599627370496) * 2048 : Nat) : Int) / 2048) 1)
  else sfEnd ((M + 4503599627370496) * 2048 - 1024) ((M + 4503599627370496) * 2048 + 1024) ((M + 4503599627370496) * 2048) ((E : Int) - 1086) (-(((E : Int) - 1086 + 11) * 78913 / 262144)) (bits BinOp.and IntKind.i64 ((((M + 4503599627370496) * 2048 : Nat) : Int) / 2048) 1)

theorem short_norm (M E : Nat) (hM : M < 4503599627370496) (hE0 : 1 ≤ E) (hE1 : E ≤ 2046) (W : World) (hW : PowTab W) :
    Calls Tryz.prog 72 #[.int .u64 (((M : Int) + 4503599627370496) * 2048), .int .i64 ((E : Int) + -1023 - 11 - 52)] W fun r w' => r = .returned (.tuple #[.int .u64 (sfNorm M E).1, .int .i64 (sfNorm M E).2]) ∧ Below W.heap.size W w' := by
  have e1 : ((M : Int) + 4503599627370496) * 2048 = (((M + 4503599627370496) * 2048 : Nat) : Int) := by omega
  have e2 : (E : Int) + -1023 - 11 - 52 = (E : Int) - 1086 := by omega
  rw [e1, e2]
  unfold sfNorm
  by_cases h : M = 0 ∧ 1 < E
  · rw [if_pos h]
    exact shortA _ _ W hW (by omega) (by omega) (by omega) (by omega) (by rw [beq_iff_eq]; omega)
  · rw [if_neg h]
    by_cases hm : M = 0
    · exact shortD _ _ W hW (by omega) (by omega) (by omega) (by omega) (by rw [beq_iff_eq]; omega)
    · exact shortB _ _ W hW (by omega) (by omega) (by omega) (by omega) (by rw [beq_eq_false_iff_ne]; omega)

theorem sf01 : sfNorm 2702159776422298 1019 = (1000000000000000, -16) := by kernel_rfl
theorem sf1 : sfNorm 0 1023 = (1000000000000000, -15) := by kernel_rfl

theorem stripN_congr (f g : Nat → Nat) : ∀ n, (∀ i, i < n → f i = g i) → stripN f n = stripN g n
  | 0, _ => rfl
  | n + 1, h => by
    unfold stripN
    rw [h n (by omega), stripN_congr f g n fun i hi => h i (by omega)]

theorem nd1 : nDigits 1000000000000000 = 16 := Lib.nDigits_unique 15 _ (by decide) (by decide)
theorem digs1 : digs 1000000000000000 = [49] := by
  have h : ∀ i, i < 16 → digAt 1000000000000000 i = 48 + 1000000000000000 / 10 ^ (15 - i) % 10 := fun i hi => by rw [digAt_is _ i (by rw [nd1]; exact hi), nd1]
  have hz : nzd 1000000000000000 = 1 := by
    unfold nzd
    rw [nd1, stripN_congr _ (fun i => 48 + 1000000000000000 / 10 ^ (15 - i) % 10) 16 h]
    decide +kernel
  unfold digs
  rw [hz]
  simp [List.range_succ, h 0 (by decide)]

theorem ftoa01 (B : Nat) (w0 w : World) (v : Value) (I : Inv B [] w0 w v []) (hT : Tabs w) :
    Calls Tryz.prog 47 #[v, .float .f64 4591870180066957722, .int .u8 103, .int .i64 (-1)] w fun e w' => ∃ v', e = .returned v' ∧ Inv B [] w0 w' v' [48, 46, 49] := by
  have h := ftoaNorm 4591870180066957722 false 1019 2702159776422298 1000000000000000 (-16) B w0 w v (by decide) (by decide) (by decide) (by decide) (by decide +kernel) (by decide +kernel) (by decide +kernel) (by decide +kernel)
    (fun W hW => by have := short_norm 2702159776422298 1019 (by decide) (by decide) (by decide) W hW; rw [sf01] at this; exact this) (by decide) (by decide) (by decide) (by decide) I hT
  have e : textG false (digs 1000000000000000) ((nDigits 1000000000000000 : Nat) + (-16)) = [48, 46, 49] := by rw [digs1, nd1]; decide +kernel
  rw [e] at h
  exact h
theorem ftoa1 (B : Nat) (w0 w : World) (v : Value) (I : Inv B [] w0 w v []) (hT : Tabs w) :
    Calls Tryz.prog 47 #[v, .float .f64 4607182418800017408, .int .u8 103, .int .i64 (-1)] w fun e w' => ∃ v', e = .returned v' ∧ Inv B [] w0 w' v' [49] := by
  have h := ftoaNorm 4607182418800017408 false 1023 0 1000000000000000 (-15) B w0 w v (by decide) (by decide) (by decide) (by decide) (by decide +kernel) (by decide +kernel) (by decide +kernel) (by decide +kernel)
    (fun W hW => by have := short_norm 0 1023 (by decide) (by decide) (by decide) W hW; rw [sf1] at this; exact this) (by decide) (by decide) (by decide) (by decide) I hT
  have e : textG false (digs 1000000000000000) ((nDigits 1000000000000000 : Nat) + (-15)) = [49] := by rw [digs1, nd1]; decide +kernel
  rw [e] at h
  exact h

theorem text01 (w : World) (hT : Tabs w) : Calls Tryz.prog 16 #[.float .f64 4591870180066957722] w fun e w' => e = .returned (.string ⟨#[48, 46, 49]⟩) ∧ Below w.heap.size w w' := by
  have ha : ∀ z ∈ ([48, 46, 49] : List Int), 0 ≤ z ∧ z < 128 := by decide
  have h := text16 4591870180066957722 [48, 46, 49] w ha (by decide) (by decide +kernel) (by decide +kernel) (by decide +kernel)
    (format30 _ _ w (format37 _ _ w hT ha (by decide) (fun B w1 v I hT1 => ftoa01 B w w1 v I hT1)))
  have e : strOf (withDot [48, 46, 49]) = ⟨#[48, 46, 49]⟩ := by decide +kernel
  rw [e] at h
  exact h
theorem text1 (w : World) (hT : Tabs w) : Calls Tryz.prog 16 #[.float .f64 4607182418800017408] w fun e w' => e = .returned (.string ⟨#[49, 46, 48]⟩) ∧ Below w.heap.size w w' := by
  have ha : ∀ z ∈ ([49] : List Int), 0 ≤ z ∧ z < 128 := by decide
  have h := text16 4607182418800017408 [49] w ha (by decide) (by decide +kernel) (by decide +kernel) (by decide +kernel)
    (format30 _ _ w (format37 _ _ w hT ha (by decide) (fun B w1 v I hT1 => ftoa1 B w w1 v I hT1)))
  have e : strOf (withDot [49]) = ⟨#[49, 46, 48]⟩ := by decide +kernel
  rw [e] at h
  exact h

/-- All that the beginning reads of package variables. -/
structure Vars (w : World) : Prop where
  tabs : Tabs w
  opt : w.cell? ⟨1, 0, none⟩ = some (.bool true)
  info : w.cell? ⟨7, 0, none⟩ = some (.int .u64 52)
  ten : ∃ b o c, w.cell? ⟨12, 0, none⟩ = some (.slice (some ⟨b, o, none⟩) 23 c) ∧ w.cell? ⟨b, o + 2, none⟩ = some (.float .f64 4636737291354636288)

set_option maxRecDepth 100000 in
set_option maxHeartbeats 1000000 in
theorem begun9 (w : World) (hV : Vars w) : Calls Tryz.prog 9 #[] w fun e w' => e = .returned (.bool true) ∧ Below w.heap.size w w' := by
  obtain ⟨b, o, c, h12, h2⟩ := hV.ten
  have HR := Lib.hid (read24a w b o c hV.opt hV.info h12 h2)
  have HT := Lib.hid hV.tabs
  clear hV h12 h2
  have g1 : goodB 4607182418800017408 = true := by decide +kernel
  have g2 : goodB 13830554455654793216 = false := by decide +kernel
  have g3 : lessB 4607182418800017408 4611686018427387904 = true := by decide +kernel
  have g4 : (FloatKind.f64.format.order 4609434218613702656 4609434218613702656 == some Ordering.eq) = true := by decide +kernel
  go_enter Tryz.func9, Tryz.ntmps9
  go_wp2_with fail
  refine HR.out.mono ?_
  rintro e w1 ⟨rfl, rfl⟩
  go_wp2_with fail
  refine (read24b _).mono ?_
  rintro e w1 ⟨rfl, rfl⟩
  go_wp2_with (go_at_call 11; refine (good11 _ _).mono ?_; rintro e w' ⟨rfl, rfl⟩)
  refine (text01 _ HT.out).mono ?_
  rintro e w2 ⟨rfl, hb2⟩
  have HT2 := Lib.hid (HT.out.below hb2)
  have HB2 := Lib.hid hb2
  clear hb2
  go_wp2_with fail
  refine (text1 _ HT2.out).mono ?_
  rintro e w3 ⟨rfl, hb3⟩
  have HB := Lib.hid (HB2.out.trans (hb3.mono HB2.out.size))
  clear hb3
  go_wp2_with (go_at_call 20; refine (less20 _ _ _).mono ?_; rintro e w' ⟨rfl, rfl⟩)
  go_ret
  exact ⟨rfl, HB.out⟩
end Go.Proofs.YthmnmkolekgjoaaGreatDoor
