/- What ftoa64 appends for a finite number with the format g and no precision. -/
import Derived.Test.YthmnmkolekgjoaaGreatDoorW5
import Derived.Test.YthmnmkolekgjoaaGreatDoorW6
import Derived.Test.YthmnmkolekgjoaaGreatDoorW7
import Derived.Deep.RegionWith
namespace Go.Proofs.YthmnmkolekgjoaaGreatDoor
open Go.RowKit
open Go
open Go.Lib (nDigits decDigits)

/-- A number's text: with an exponent, if that is below -4 or at least 6, else without. -/
def textG (neg : Bool) (ds : List Int) (dp : Int) : List Int := if dp - 1 < -4 ∨ 6 ≤ dp - 1 then textE neg ds (dp - 1) else textF neg ds dp

theorem efg62 (B b : Nat) (dc : Array Value) (w0 w : World) (v : Value) (neg : Bool) (ds : List Int) (dp : Int)
    (I : Inv B [(b, dc)] w0 w v []) (hdc : ∀ i : Nat, i < ds.length → dc[i]? = some (.int .u8 (ds.getD i 0))) (hn0 : 1 ≤ ds.length) (hn1 : ds.length ≤ 20) (he0 : -400 ≤ dp) (he1 : dp ≤ 400) :
    Calls Tryz.prog 62 #[v, .bool neg, .slice (some ⟨b, 0, none⟩) 32 32, .int .i64 dp, .int .i64 ds.length, .int .i64 ds.length, .int .u8 103, .bool true] w fun e w' =>
      ∃ v', e = .returned v' ∧ Inv B [(b, dc)] w0 w' v' (textG neg ds dp) := by
  unfold textG
  by_cases h1 : dp - 1 < -4 ∨ 6 ≤ dp - 1
  · rw [if_pos h1]
    by_cases h2 : ds.length = 1
    · obtain ⟨d0, rfl⟩ := List.length_eq_one_iff.1 h2
      rcases h1 with h | h
      · cases neg
        · exact efgEP1L B b dc w0 w v d0 dp I hdc he0 h
        · exact efgEN1L B b dc w0 w v d0 dp I hdc he0 h
      · cases neg
        · exact efgEP1H B b dc w0 w v d0 dp I hdc he1 h
        · exact efgEN1H B b dc w0 w v d0 dp I hdc he1 h
    · rcases h1 with h | h
      · cases neg
        · exact efgEP2L B b dc w0 w v ds dp I hdc (by omega) hn1 he0 h
        · exact efgEN2L B b dc w0 w v ds dp I hdc (by omega) hn1 he0 h
      · cases neg
        · exact efgEP2H B b dc w0 w v ds dp I hdc (by omega) hn1 he1 h
        · exact efgEN2H B b dc w0 w v ds dp I hdc (by omega) hn1 he1 h
  · rw [if_neg h1]
    by_cases h2 : dp ≤ 0
    · cases neg
      · exact efgFaP B b dc w0 w v ds dp I hdc (by omega) h2 hn0 hn1
      · exact efgFaN B b dc w0 w v ds dp I hdc (by omega) h2 hn0 hn1
    · by_cases h3 : dp < ds.length
      · cases neg
        · exact efgFbP B b dc w0 w v ds dp I hdc (by omega) h3 (by omega) hn1
        · exact efgFbN B b dc w0 w v ds dp I hdc (by omega) h3 (by omega) hn1
      · cases neg
        · exact efgFcP B b dc w0 w v ds dp I hdc hn0 (by omega) (by omega)
        · exact efgFcN B b dc w0 w v ds dp I hdc hn0 (by omega) (by omega)

/-- The tables of strconv that the writing of numbers reads. -/
structure Tabs (w : World) : Prop where
  pow : PowTab w
  ten : Lib.TabIs Tryz.prog w "internal/strconv.uint64pow10" .u64 Lib.pow10Tab

theorem pow10_is : Tryz.prog.globalNamed "internal/strconv.uint64pow10" = some 4 := by kernel_rfl
theorem Tabs.below {w w' : World} (h : Tabs w) (hb : Below w.heap.size w w') : Tabs w' where
  pow := h.pow.below hb
  ten := by
    have := h.pow.size
    exact var?_below hb pow10_is (by omega) h.ten

theorem xBits59 (b : Nat) (w : World) : (callFunc 59 #[.float .f64 b]).run Tryz.prog w = .ok (.value (.int .u64 b)) w := by
  rw [run_callFunc_extern (e := Extern.MathFloatBits.float64bits) Tryz.func59 (by kernel_rfl) (by kernel_rfl) (by kernel_rfl) (by kernel_rfl)]; rfl

theorem bitLen53 (M : Nat) (hM : M < 4503599627370496) : Lib.bitLen ((M : Int) + 4503599627370496).toNat = 53 := by
  have e : ((M : Int) + 4503599627370496).toNat = M + 4503599627370496 := by omega
  rw [e, Lib.bitLen_shift 52 _ (by omega) (by omega)]
  have e2 : (M + 4503599627370496) / 2 ^ 52 = 1 := by omega
  rw [e2]; decide

theorem nDigits_lt : ∀ u : Nat, u < 10 ^ nDigits u := by
  intro u
  induction u using Nat.strongRecOn with
  | _ u ih =>
    by_cases h : u < 10
    · rw [Lib.nDigits_small h]; omega
    · rw [Lib.nDigits_big h, Nat.pow_succ]
      have := ih (u / 10) (by omega)
      omega

theorem grown_of_below {w w' : World} (hb : Below w.heap.size w w') : w.grownBy w' none := ⟨hb.os, hb.tape, hb.output, hb.size, fun k hk _ => hb.block k hk⟩

theorem Inv.after {B : Nat} {kept : List (Nat × Array Value)} {w0 w w' : World} {v : Value} {bs : List Int} (I : Inv B kept w0 w v bs) (hb : Below w.heap.size w w') : Inv B kept w0 w' v bs where
  own := I.own.kept (grown_of_below hb) (by cases hv : v.ownBlock <;> simp)
  buf := fun p hp => by
    have h := I.buf p hp
    rw [hb.block p.1 (Array.getElem?_eq_some_iff.1 h).1]; exact h
  below := I.below.trans (hb.mono I.base)
  base := Nat.le_trans I.base hb.size

theorem Inv.with_buf {B b : Nat} {w0 w w' : World} {v : Value} {bs : List Int} {z dc : Array Value} (I : Inv B [] w0 w v bs) (hbk : w.heap[b]? = some (.cells z 82 (0, 0))) (hgr : w.grownBy w' (some b))
    (hbk' : w'.heap[b]? = some (.cells dc 82 (0, 0))) (hB : B ≤ b) : Inv B [(b, dc)] w0 w' v bs where
  own := I.own.kept hgr (by
    rcases I.own.2 with ⟨rfl, _⟩ | ⟨g, cap, cur, rfl, _, hgg, _⟩
    · left; rfl
    · right
      intro e
      simp [Value.ownBlock] at e
      rw [e, hbk] at hgg
      simp at hgg)
  buf := fun p hp => by
    have : p = (b, dc) := by simpa using hp
    subst this; exact hbk'
  below := I.below.grown hgr I.base (fun k hk => by cases hk; exact hB)
  base := Nat.le_trans I.base hgr.size

theorem Inv.drop_buf {B : Nat} {kept : List (Nat × Array Value)} {w0 w : World} {v : Value} {bs : List Int} (I : Inv B kept w0 w v bs) : Inv B [] w0 w v bs := ⟨I.own, fun p hp => by simp at hp, I.below, I.base⟩

theorem pow_le_nDigits : ∀ u : Nat, 1 ≤ u → 10 ^ (nDigits u - 1) ≤ u := by
  intro u
  induction u using Nat.strongRecOn with
  | _ u ih =>
    intro h1
    by_cases h : u < 10
    · rw [Lib.nDigits_small h]; simpa using h1
    · rw [Lib.nDigits_big h, Nat.add_sub_cancel]
      have := ih (u / 10) (by omega) (by omega)
      have hn : nDigits (u / 10) = (nDigits (u / 10) - 1) + 1 := by
        have : 1 ≤ nDigits (u / 10) := by
          by_cases h' : u / 10 < 10
          · rw [Lib.nDigits_small h']; omega
          · rw [Lib.nDigits_big h']; omega
        omega
      rw [hn, Nat.pow_succ]
      omega

theorem nDigits_pos (u : Nat) : 1 ≤ nDigits u := by
  by_cases h' : u < 10
  · rw [Lib.nDigits_small h']; omega
  · rw [Lib.nDigits_big h']; omega

theorem digAt_is (u i : Nat) (hi : i < nDigits u) : digAt u i = 48 + u / 10 ^ (nDigits u - 1 - i) % 10 := by
  unfold digAt
  rw [Lib.decDigits_eq]
  simp only [List.getD, List.getElem?_map, List.getElem?_range hi, Option.map_some, Option.getD_some, Lib.dg]
  rw [UInt8.toNat_ofNat']
  omega

theorem digAt_zero (u : Nat) (h : 1 ≤ u) : digAt u 0 ≠ 48 := by
  have hp := nDigits_pos u
  rw [digAt_is u 0 (by omega), Nat.sub_zero]
  have h1 := pow_le_nDigits u h
  have h2 := nDigits_lt u
  have e : 10 ^ nDigits u = 10 ^ (nDigits u - 1) * 10 := by rw [← Nat.pow_succ]; congr 1; omega
  rw [e] at h2
  have hpos : 0 < 10 ^ (nDigits u - 1) := Nat.pow_pos (by omega)
  have a : 1 ≤ u / 10 ^ (nDigits u - 1) := (Nat.le_div_iff_mul_le hpos).2 (by omega)
  have b : u / 10 ^ (nDigits u - 1) < 10 := (Nat.div_lt_iff_lt_mul hpos).2 (by omega)
  omega

theorem stripN_le (f : Nat → Nat) : ∀ n, stripN f n ≤ n
  | 0 => Nat.le_refl _
  | n + 1 => by
    unfold stripN
    have := stripN_le f n
    split <;> omega
theorem stripN_pos (f : Nat → Nat) (h : f 0 ≠ 48) : ∀ n, 1 ≤ n → 1 ≤ stripN f n
  | 0, h1 => by omega
  | 1, _ => by simp [stripN, h]
  | n + 2, _ => by
    have := stripN_pos f h (n + 1) (by omega)
    unfold stripN
    split <;> omega

/-- The digits that are written, without the zeros at their end. -/
def digs (d : Nat) : List Int := (List.range (nzd d)).map fun i => (digAt d i : Int)
theorem digs_length (d : Nat) : (digs d).length = nzd d := by simp [digs]
theorem digs_at (d i : Nat) (h : i < nzd d) : (digs d).getD i 0 = (digAt d i : Int) := by
  simp [digs, List.getD, List.getElem?_map, List.getElem?_range h]

/-- 32 bytes of nought, as the walk lays them. -/
def zeros32 : Array Value := #[Value.int .u8 0, Value.int .u8 0, Value.int .u8 0, Value.int .u8 0, Value.int .u8 0, Value.int .u8 0, Value.int .u8 0, Value.int .u8 0, Value.int .u8 0, Value.int .u8 0, Value.int .u8 0, Value.int .u8 0, Value.int .u8 0, Value.int .u8 0, Value.int .u8 0, Value.int .u8 0, Value.int .u8 0, Value.int .u8 0, Value.int .u8 0, Value.int .u8 0, Value.int .u8 0, Value.int .u8 0, Value.int .u8 0, Value.int .u8 0, Value.int .u8 0, Value.int .u8 0, Value.int .u8 0, Value.int .u8 0, Value.int .u8 0, Value.int .u8 0, Value.int .u8 0, Value.int .u8 0]
theorem zeros32_at (i : Nat) (h : i < 32) : zeros32[i]? = some (.int .u8 0) := by
  have e : zeros32 = Array.replicate 32 (.int .u8 0) := rfl
  rw [e, Array.getElem?_replicate, if_pos h]

set_option maxRecDepth 100000 in
set_option maxHeartbeats 1000000 in
theorem ftoaNorm (x : Nat) (neg : Bool) (E M : Nat) (d : Nat) (p : Int) (B : Nat) (w0 w : World) (v : Value) (hx : x < 18446744073709551616)
    (hE0 : 1 ≤ E) (hE1 : E ≤ 2046) (hM : M < 4503599627370496) (f1 : bits BinOp.and IntKind.i64 ((x : Int) / 4503599627370496) 2047 = E) (f2 : bits BinOp.and IntKind.u64 (x : Int) 4503599627370495 = M)
    (f3 : ((x : Int) / 9223372036854775808 != 0) = neg)  (f4 : bits BinOp.or IntKind.u64 (M : Int) 4503599627370496 = (M : Int) + 4503599627370496)
    (hs : ∀ W, PowTab W → Calls Tryz.prog 72 #[.int .u64 (((M : Int) + 4503599627370496) * 2048), .int .i64 ((E : Int) + -1023 - 11 - 52)] W fun r w' => r = .returned (.tuple #[.int .u64 (d : Nat), .int .i64 p]) ∧ Below W.heap.size W w')
    (hd0 : 1 ≤ d) (hd1 : d < 18446744073709551616) (hp0 : -350 ≤ p) (hp1 : p ≤ 350)
    (I : Inv B [] w0 w v []) (hT : Tabs w) :
    Calls Tryz.prog 47 #[v, .float .f64 x, .int .u8 103, .int .i64 (-1)] w fun e w' =>
      ∃ v', e = .returned v' ∧ Inv B [] w0 w' v' (textG neg (digs d) ((nDigits d : Nat) + p)) := by
  have hb := xBits59
  have g1 : ((E : Int) == 2047) = false := by simp; omega
  have g2 : ((E : Int) == 0) = false := by simp; omega
  have g3 : ((M : Int) + 4503599627370496 == 0) = false := by simp; omega
  have HS := Lib.hid hs
  clear hs
  go_enter Tryz.func47, Tryz.ntmps47
  go_wp2_with fail
  go_quiet (fail)
  go_wp2_with fail
  refine (Tryz.bits_Len64 _ _ (by omega) (by omega)).mono ?_
  rintro e w1 ⟨rfl, rfl⟩
  rw [bitLen53 M hM]
  go_wp2_with fail
  have hT1 : Tabs ((w.drewN nq).alloc (.cells zeros32 82)) := hT.below ((below_drewN (Below.refl _ _) nq).alloc (Nat.le_refl _) _)
  have I1 : Inv B [] w0 ((w.drewN nq).alloc (.cells zeros32 82)) v [] := (I.drewN nq).alloc _
  refine (HS.out _ hT1.pow).mono ?_
  rintro r w2 ⟨rfl, hb2⟩
  have hT2 := hT1.below hb2
  have I2 := I1.after hb2
  have hbk : w2.heap[w.heap.size]? = some (.cells zeros32 82 (0, 0)) := by
    rw [hb2.block w.heap.size (by simp)]; exact heap_alloc_new (w.drewN nq) _
  have I0 := I
  clear hb2 hT1 I1 I hT f1 f2 f4 g1 g2 g3 hb
  have hu : d < 10 ^ nDigits d := nDigits_lt d
  have HN := Lib.hid (show ∀ n, Calls Tryz.prog 66 #[.int .u64 d] (w2.drewN n) fun e w' => e = .returned (.int .i64 (nDigits d)) ∧ w' = w2.drewN n from fun n => Tryz.internal_strconv_numDigits d hd0 hd1 (w2.drewN n) hT2.ten)
  have HD := Lib.hid (show ∀ n, Calls Tryz.prog 65 #[.slice (some ⟨w.heap.size, 0, none⟩) 32 32, .int .u64 d, .int .i64 p, .int .i64 (nDigits d : Nat)] (w2.drewN n) fun e w' =>
      e = .returned (.tuple #[.int .i64 ((nDigits d : Nat) + p), .int .i64 (nzd d : Nat)]) ∧ ∃ dc, w'.heap[w.heap.size]? = some (.cells dc 82 (0, 0)) ∧ (∀ i : Nat, i < nDigits d → dc[i]? = some (.int .u8 (digAt d i : Nat))) ∧ (w2.drewN n).grownBy w' (some w.heap.size)
    from fun n => setDigits65 w.heap.size d p (w2.drewN n) zeros32 hbk (fun i hi => zeros32_at i hi) rfl hd1 (by omega) (by omega) hu)
  have I3 := Lib.hid (show ∀ n, Inv B [] w0 (w2.drewN n) v [] from fun n => I2.drewN n)
  have HB := Lib.hid hbk
  have hBw := I0.base
  clear hu hT2 hbk I2 I0
  go_wp2
  go_region_with (first | (go_at_call 66; refine (HN.out _).mono ?_; rintro e w' ⟨rfl, rfl⟩) | (go_at_call 65; refine (HD.out _).mono ?_; rintro e w' ⟨rfl, hdc⟩))
  obtain ⟨dc, hbk', hdig, hgr⟩ := hdc
  have I4 := (I3.out _).with_buf HB.out hgr hbk' hBw
  have hz1 : nzd d ≤ nDigits d := stripN_le _ _
  have hz0 : 1 ≤ nzd d := stripN_pos _ (digAt_zero d hd0) _ (nDigits_pos d)
  have hz2 := Go.Lib.nDigits_le20 d hd1
  have hz3 := nDigits_pos d
  have he := efg62 B w.heap.size dc w0 _ v neg (digs d) ((nDigits d : Nat) + p) I4 (fun i hi => by rw [digs_length] at hi; rw [digs_at d i hi]; exact hdig i (by omega)) (by rw [digs_length]; exact hz0) (by rw [digs_length]; omega) (by omega) (by omega)
  rw [digs_length] at he
  have HE := Lib.hid he
  clear he hdig hgr hbk' I4
  go_wp2_with fail
  refine HE.out.mono ?_
  rintro e w3 ⟨v3, rfl, I5⟩
  go_wp2
  go_ret
  exact ⟨_, rfl, I5.drop_buf⟩
end Go.Proofs.YthmnmkolekgjoaaGreatDoor
