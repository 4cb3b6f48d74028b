/- What ftoa64 appends for the numbers below the least normal one and for the zeros, with the format g and no precision. -/
import Derived.Test.YthmnmkolekgjoaaGreatDoorW8
namespace Go.Proofs.YthmnmkolekgjoaaGreatDoor
open Go.RowKit
open Go
open Go.Lib (nDigits decDigits)

def zeroText (neg : Bool) : List Int := if neg then [45, 48] else [48]
set_option maxRecDepth 100000 in
set_option maxHeartbeats 1000000 in
theorem ftoaSub (x : Nat) (neg : Bool) (M L : Nat) (d : Nat) (p : Int) (B : Nat) (w0 w : World) (v : Value) (hx : x < 18446744073709551616)
    (hM0 : 1 ≤ M) (hM : M < 4503599627370496) (f1 : bits BinOp.and IntKind.i64 ((x : Int) / 4503599627370496) 2047 = 0) (f2 : bits BinOp.and IntKind.u64 (x : Int) 4503599627370495 = M)
    (f3 : ((x : Int) / 9223372036854775808 != 0) = neg) (hL : Lib.bitLen M = L) (hL0 : 1 ≤ L) (hL1 : L ≤ 52)
    (hs : ∀ W, PowTab W → Calls Tryz.prog 72 #[.int .u64 (IntKind.u64.wrap ((M : Int) * 2 ^ (64 - L))), .int .i64 (-1022 - (64 - (L : Int)) - 52)] W fun r w' => r = .returned (.tuple #[.int .u64 (d : Nat), .int .i64 p]) ∧ Below W.heap.size W w')
    (hd0 : 1 ≤ d) (hd1 : d < 18446744073709551616) (hp0 : -350 ≤ p) (hp1 : p ≤ 350)
    (I : Inv B [] w0 w v []) (hT : Tabs w) :
    Calls Tryz.prog 47 #[v, .float .f64 x, .int .u8 103, .int .i64 (-1)] w fun e w' =>
      ∃ v', e = .returned v' ∧ Inv B [] w0 w' v' (textG neg (digs d) ((nDigits d : Nat) + p)) := by
  have hb := xBits59
  have g3 : ((M : Int) == 0) = false := by simp; omega
  have HL := Lib.hid hL
  clear hL
  have HS := Lib.hid hs
  clear hs
  go_enter Tryz.func47, Tryz.ntmps47
  go_wp2_with fail
  go_quiet (fail)
  go_wp2_with fail
  refine (Tryz.bits_Len64 _ _ (by omega) (by omega)).mono ?_
  rintro e w1 ⟨rfl, rfl⟩
  rw [Int.toNat_natCast, HL.out]
  go_wp2_with fail
  have hT1 : Tabs ((w.drewN nq).alloc (.cells zeros32 82)) := hT.below ((below_drewN (Below.refl _ _) nq).alloc (Nat.le_refl _) _)
  have I1 : Inv B [] w0 ((w.drewN nq).alloc (.cells zeros32 82)) v [] := (I.drewN nq).alloc _
  refine (HS.out _ hT1.pow).mono ?_
  rintro r w2 ⟨rfl, hb2⟩
  have hT2 := hT1.below hb2
  have I2 := I1.after hb2
  have hbk : w2.heap[w.heap.size]? = some (.cells zeros32 82 (0, 0)) := by
    rw [hb2.block w.heap.size (by simp)]; exact heap_alloc_new (w.drewN nq) _
  have I0 := I
  clear hb2 hT1 I1 I hT f1 f2 g3 hb
  have hu : d < 10 ^ nDigits d := nDigits_lt d
  have HN := Lib.hid (show ∀ n, Calls Tryz.prog 66 #[.int .u64 d] (w2.drewN n) fun e w' => e = .returned (.int .i64 (nDigits d)) ∧ w' = w2.drewN n from fun n => Tryz.internal_strconv_numDigits d hd0 hd1 (w2.drewN n) hT2.ten)
  have HD := Lib.hid (show ∀ n, Calls Tryz.prog 65 #[.slice (some ⟨w.heap.size, 0, none⟩) 32 32, .int .u64 d, .int .i64 p, .int .i64 (nDigits d : Nat)] (w2.drewN n) fun e w' =>
      e = .returned (.tuple #[.int .i64 ((nDigits d : Nat) + p), .int .i64 (nzd d : Nat)]) ∧ ∃ dc, w'.heap[w.heap.size]? = some (.cells dc 82 (0, 0)) ∧ (∀ i : Nat, i < nDigits d → dc[i]? = some (.int .u8 (digAt d i : Nat))) ∧ (w2.drewN n).grownBy w' (some w.heap.size)
    from fun n => setDigits65 w.heap.size d p (w2.drewN n) zeros32 hbk (fun i hi => zeros32_at i hi) rfl hd1 (by omega) (by omega) hu)
  have I3 := Lib.hid (show ∀ n, Inv B [] w0 (w2.drewN n) v [] from fun n => I2.drewN n)
  have HB := Lib.hid hbk
  have hBw := I0.base
  clear hu hT2 hbk I2 I0
  go_wp2
  go_region_with (first | (go_at_call 66; refine (HN.out _).mono ?_; rintro e w' ⟨rfl, rfl⟩) | (go_at_call 65; refine (HD.out _).mono ?_; rintro e w' ⟨rfl, hdc⟩))
  obtain ⟨dc, hbk', hdig, hgr⟩ := hdc
  have I4 := (I3.out _).with_buf HB.out hgr hbk' hBw
  have hz1 : nzd d ≤ nDigits d := stripN_le _ _
  have hz0 : 1 ≤ nzd d := stripN_pos _ (digAt_zero d hd0) _ (nDigits_pos d)
  have hz2 := Go.Lib.nDigits_le20 d hd1
  have hz3 := nDigits_pos d
  have he := efg62 B w.heap.size dc w0 _ v neg (digs d) ((nDigits d : Nat) + p) I4 (fun i hi => by rw [digs_length] at hi; rw [digs_at d i hi]; exact hdig i (by omega)) (by rw [digs_length]; exact hz0) (by rw [digs_length]; omega) (by omega) (by omega)
  rw [digs_length] at he
  have HE := Lib.hid he
  clear he hdig hgr hbk' I4
  go_wp2_with fail
  refine HE.out.mono ?_
  rintro e w3 ⟨v3, rfl, I5⟩
  go_wp2
  go_ret
  exact ⟨_, rfl, I5.drop_buf⟩

set_option maxRecDepth 100000 in
set_option maxHeartbeats 1000000 in
theorem efgZero (B : Nat) (w0 w : World) (v : Value) (neg : Bool) (I : Inv B [] w0 w v []) :
    Calls Tryz.prog 62 #[v, .bool neg, .slice none 0 0, .int .i64 0, .int .i64 0, .int .i64 (-1), .int .u8 103, .bool true] w fun e w' =>
      ∃ v', e = .returned v' ∧ Inv B [] w0 w' v' (zeroText neg) := by
  cases neg
  · go_enter Tryz.func62, Tryz.ntmps62
    go_wp2_with (at_builtin; refine app1 rfl (.tmp 209) _ rfl I rfl _ rfl (by simp) ?_; clear I; intro v1 w1 I)
    go_ret
    exact ⟨_, rfl, I.cast (by simp [zeroText])⟩
  · go_enter Tryz.func62, Tryz.ntmps62
    go_wp2_with (first | (at_builtin; refine app1 rfl (.tmp 179) _ rfl I rfl _ rfl (by simp) ?_; clear I; intro v1 w1 I) | (at_builtin; refine app1 rfl (.tmp 209) _ rfl I rfl _ rfl (by simp) ?_; clear I; intro v1 w1 I))
    go_ret
    exact ⟨_, rfl, I.cast (by simp [zeroText])⟩

set_option maxRecDepth 100000 in
set_option maxHeartbeats 1000000 in
theorem ftoaZero (x : Nat) (neg : Bool) (B : Nat) (w0 w : World) (v : Value) (hx : x < 18446744073709551616)
    (f1 : bits BinOp.and IntKind.i64 ((x : Int) / 4503599627370496) 2047 = 0) (f2 : bits BinOp.and IntKind.u64 (x : Int) 4503599627370495 = 0)
    (f3 : ((x : Int) / 9223372036854775808 != 0) = neg) (I : Inv B [] w0 w v []) :
    Calls Tryz.prog 47 #[v, .float .f64 x, .int .u8 103, .int .i64 (-1)] w fun e w' =>
      ∃ v', e = .returned v' ∧ Inv B [] w0 w' v' (zeroText neg) := by
  have hb := xBits59
  go_enter Tryz.func47, Tryz.ntmps47
  go_wp2_with fail
  go_quiet (fail)
  go_wp2_with fail
  refine (efgZero B w0 _ v neg (I.drewN nq)).mono ?_
  rintro e w1 ⟨v1, rfl, I1⟩
  go_wp2
  go_ret
  exact ⟨_, rfl, I1⟩
end Go.Proofs.YthmnmkolekgjoaaGreatDoor
