/- What the document's own answers of layer 1 are: they are those of weigh. -/
import Derived.Test.YthmnmkolekgjoaaGreatDoorW15
namespace Go.Proofs.YthmnmkolekgjoaaGreatDoor
open Go.RowKit
open Go

set_option maxHeartbeats 400000 in
theorem good12 (x : Nat) (w : World) : Calls Tryz.prog 12 #[.float .f64 x] w fun e w' => e = .returned (.bool (goodB x)) ∧ w' = w := by
  go_enter Tryz.func12, Tryz.ntmps12
  go_wp2
  go_ret
  exact ⟨rfl, rfl⟩
set_option maxHeartbeats 400000 in
theorem nan28 (w : World) : Calls Tryz.prog 28 #[] w fun e w' => e = .returned (.float .f64 9221120237041090561) ∧ w' = w := by
  have h := xFrom
  go_enter Tryz.func28, Tryz.ntmps28
  go_wp2
  go_ret
  exact ⟨rfl, rfl⟩
set_option maxHeartbeats 400000 in
theorem clean15 (x : Nat) (w : World) : Calls Tryz.prog 15 #[.float .f64 x] w fun e w' => e = .returned (.float .f64 (cleanN x)) ∧ w' = w := by
  unfold cleanN
  cases hx : nanB x <;> cases hy : zeroB x <;>
  · have hx' : (FloatKind.f64.format.order x x != some Ordering.eq) = _ := hx
    have hy' : (FloatKind.f64.format.order x 0 == some Ordering.eq) = _ := hy
    go_enter Tryz.func15, Tryz.ntmps15
    go_wp2_with (go_at_call 28; refine (nan28 _).mono ?_; rintro e w' ⟨rfl, rfl⟩)
    go_ret
    exact ⟨rfl, rfl⟩
set_option maxHeartbeats 400000 in
theorem less21 (x y : Nat) (w : World) : Calls Tryz.prog 21 #[.float .f64 x, .float .f64 y] w fun e w' => e = .returned (.bool (lessB x y)) ∧ w' = w := by
  unfold lessB
  cases hx : nanB x <;> cases hy : nanB y <;>
  · have hx' : (FloatKind.f64.format.order x x != some Ordering.eq) = _ := hx
    have hy' : (FloatKind.f64.format.order y y != some Ordering.eq) = _ := hy
    go_enter Tryz.func21, Tryz.ntmps21
    go_wp2
    go_ret
    exact ⟨rfl, rfl⟩
set_option maxHeartbeats 400000 in
theorem add19 (x y : Nat) (w : World) : Calls Tryz.prog 19 #[.float .f64 x, .float .f64 y] w fun e w' => e = .returned (.float .f64 (addN x y)) ∧ (w' = w ∨ w' = w.drew) := by
  unfold addN
  cases h : Ieee.double.add x y with
  | some r =>
    have hr : ∀ w, (binOp .add 27 (.float .f64 x) (.float .f64 y)).run Tryz.prog w = .ok (.float .f64 r) w := fun w => run_float_arith w .add 27 .f64 x y r h
    go_enter Tryz.func19, Tryz.ntmps19
    go_wp2_with (go_at_call 15; refine (clean15 _ _).mono ?_; rintro e w' ⟨rfl, rfl⟩)
    go_ret
    exact ⟨rfl, Or.inl rfl⟩
  | none =>
    have hr : ∀ w, (binOp .add 27 (.float .f64 x) (.float .f64 y)).run Tryz.prog w = .ok (.float .f64 (nanAt w x y)) w.drew := by
      intro w
      have h' : FloatKind.f64.format.add x y = none := h
      simp [binOp, Op.floatArith, h', nanAt, Question.forced]
    have hc : cleanN (nanAt w x y) = 9221120237041090561 := by unfold cleanN; rw [nanAt_is]; rfl
    have HC : Hid (cleanN (nanAt w x y) = 9221120237041090561) := hc
    clear hc
    go_enter Tryz.func19, Tryz.ntmps19
    go_wp2_with (go_at_call 15; refine (clean15 _ _).mono ?_; rintro e w' ⟨rfl, rfl⟩)
    go_ret
    exact ⟨by rw [← HC.out]; rfl, Or.inr rfl⟩

theorem strOf_get (bs : List Int) (k : Nat) (h : k < (strOf bs).size) : (strOf bs)[k] = (bytesOf bs)[k]'(by simpa [strOf, ByteArray.size] using h) := by
  rfl

theorem byte_eq (c : UInt8) (n : Nat) (hn : n < 256) : ((c.toNat : Int) == (n : Int)) = decide (c = UInt8.ofNat n) := by
  by_cases h : c = UInt8.ofNat n
  · subst h
    rw [UInt8.toNat_ofNat']
    simp; omega
  · simp only [h, decide_false]
    rw [beq_eq_false_iff_ne]
    intro e
    apply h
    apply UInt8.toNat_inj.1
    rw [UInt8.toNat_ofNat']
    omega

theorem dot_hit (bs : List Int) (k : Nat) (hk : k < (bytesOf bs).length) (hn : Lib.NoAny (bytesOf bs) [46, 101] k) (hc : (bytesOf bs)[k] = 46 ∨ (bytesOf bs)[k] = 101) : dotE bs = true := by
  unfold dotE Lib.containsAny
  have := Lib.indexAny_hit hn (List.getElem?_eq_getElem hk) (by rcases hc with h | h <;> rw [h] <;> decide)
  rw [this]; simp
theorem dot_miss (bs : List Int) (hn : Lib.NoAny (bytesOf bs) [46, 101] (bytesOf bs).length) : dotE bs = false := by
  unfold dotE Lib.containsAny
  rw [Lib.indexAny_none hn]; decide

set_option maxRecDepth 100000 in
set_option maxHeartbeats 1000000 in
theorem text17 (x : Nat) (bs : List Int) (w : World) (hl : bs.length ≤ 1000) (h1 : nanB x = false) (h2 : infB x = false) (h3 : infB (negN x) = false)
    (hc : Calls Tryz.prog 30 #[.float .f64 x, .int .u8 103, .int .i64 (-1), .int .i64 64] w fun e w' => e = .returned (.string (strOf bs)) ∧ Below w.heap.size w w') :
    Calls Tryz.prog 17 #[.float .f64 x] w fun e w' => e = .returned (.string (strOf (withDot bs))) ∧ Below w.heap.size w w' := by
  have HC := Lib.hid hc
  have hx' : (FloatKind.f64.format.order x x != some Ordering.eq) = false := h1
  have hs : (strOf bs).size = bs.length := by
    show (bytesOf bs).toArray.size = _
    simp [bytesOf]
  have hbl : (bytesOf bs).length = bs.length := by simp [bytesOf]
  have HCC := Lib.hid (show strOf bs ++ ⟨#[46, 48]⟩ = strOf (bs ++ [46, 48]) from by
      unfold strOf bytesOf
      apply ByteArray.ext
      simp [ByteArray.data_append])
  have HS := Lib.hid hs
  have HBL := Lib.hid hbl
  have hsz : (strOf bs).size ≤ 1000 := by omega
  clear hc hs hbl
  go_enter Tryz.func17, Tryz.ntmps17
  go_wp2_with (go_at_call_of 29 (Value.int IntKind.i64 1); refine (isInf29p _ _).mono ?_; rintro e w' ⟨rfl, rfl⟩)
  refine (isInf29n _ _).mono ?_
  rintro e w1 ⟨rfl, rfl⟩
  go_wp2_with fail
  refine HC.out.mono ?_
  rintro e w2 ⟨rfl, hb2⟩
  have HB := Lib.hid hb2
  clear hb2
  go_wp2
  go_loop [4] (fun t => ∃ k : Nat, k ≤ (strOf bs).size ∧ t = .int .i64 k ∧ Lib.NoAny (bytesOf bs) [46, 101] k) (fun t => (strOf bs).size - (intOf t).toNat)
  case atStart => exact ⟨0, Nat.zero_le _, rfl, Lib.NoAny.zero _ _⟩
  case round =>
    obtain ⟨k, hk, rfl, hno⟩ := hrel
    have HN := Lib.hid hno
    clear hno
    by_cases hlt : k < (strOf bs).size
    · have hkl : k < (bytesOf bs).length := by rw [HBL.out, ← HS.out]; exact hlt
      have e1 := strOf_get bs k hlt
      have b46 : (((strOf bs)[k].toNat : Int) == 46) = decide ((strOf bs)[k] = UInt8.ofNat 46) := byte_eq (strOf bs)[k] 46 (by decide)
      have b101 : (((strOf bs)[k].toNat : Int) == 101) = decide ((strOf bs)[k] = UInt8.ofNat 101) := byte_eq (strOf bs)[k] 101 (by decide)
      have K2 := Lib.hid (show (((strOf bs)[k].toNat : Int) == 46) = true ∨ (((strOf bs)[k].toNat : Int) == 101) = true → withDot bs = bs from fun h => by
        unfold withDot
        rw [b46, b101] at h
        rw [dot_hit bs k hkl HN.out (by rw [← e1]; rcases h with h | h; exact Or.inl (of_decide_eq_true h); exact Or.inr (of_decide_eq_true h))]
        rfl)
      have K3 := Lib.hid (show (((strOf bs)[k].toNat : Int) == 46) = false ∧ (((strOf bs)[k].toNat : Int) == 101) = false → Lib.NoAny (bytesOf bs) [46, 101] (k + 1) from fun h => by
        rw [b46, b101] at h
        refine HN.out.succ (List.getElem?_eq_getElem hkl) ?_
        rw [← e1]
        simp only [List.contains_cons, List.contains_nil, Bool.or_false, Bool.or_eq_false_iff, beq_eq_false_iff_ne]
        exact ⟨of_decide_eq_false h.1, of_decide_eq_false h.2⟩)
      clear b46 b101 e1
      go_wp2
      · have h5 : ((strOf bs)[k].toNat : Int) = 46 := by assumption
        go_ret
        exact ⟨by rw [K2.out (Or.inl (by rw [h5]; rfl))]; rfl, HB.out⟩
      · have h5 : (((strOf bs)[k].toNat : Int) == 46) = true ∨ (((strOf bs)[k].toNat : Int) == 101) = true := by assumption
        go_ret
        exact ⟨by rw [K2.out h5]; rfl, HB.out⟩
      · have h5 : (((strOf bs)[k].toNat : Int) == 46) = false ∧ (((strOf bs)[k].toNat : Int) == 101) = false := by assumption
        go_round
        case rel => exact ⟨k + 1, by omega, by go_num, K3.out h5⟩
        case measure => simp [intOf]; omega
    · have hke : k = (bytesOf bs).length := by rw [HBL.out, ← HS.out]; omega
      have HD := Lib.hid (show withDot bs = bs ++ [46, 48] by unfold withDot; rw [dot_miss bs (by rw [← hke]; exact HN.out)]; rfl)
      clear hke
      go_wp2
      go_ret
      exact ⟨by rw [HD.out, ← HCC.out]; rfl, HB.out⟩

set_option maxRecDepth 100000 in
set_option maxHeartbeats 1000000 in
theorem textAll17 (x : Nat) (hx : x < 18446744073709551616) (w : World) (hT : Tabs w) : Calls Tryz.prog 17 #[.float .f64 x] w fun e w' => e = .returned (.string (textOf x)) ∧ Below w.heap.size w w' := by
  unfold textOf
  cases h1 : nanB x
  · have hx' : (FloatKind.f64.format.order x x != some Ordering.eq) = false := h1
    cases h2 : infB x
    · cases h3 : infB (negN x)
      · have hf := fin_of x hx h1 h2 h3
        exact text17 x (fmtBs x) w (by have := (fmtBs_asc x hf).2.1; omega) h1 h2 h3 (format_fin x hx hf w hT)
      · clear hT
        go_enter Tryz.func17, Tryz.ntmps17
        go_wp2_with (go_at_call_of 29 (Value.int IntKind.i64 1); refine (isInf29p _ _).mono ?_; rintro e w' ⟨rfl, rfl⟩)
        refine (isInf29n _ _).mono ?_
        rintro e w1 ⟨rfl, rfl⟩
        go_wp2
        go_ret
        exact ⟨rfl, Below.refl _ _⟩
    · clear hT
      go_enter Tryz.func17, Tryz.ntmps17
      go_wp2_with (go_at_call 29; refine (isInf29p _ _).mono ?_; rintro e w' ⟨rfl, rfl⟩)
      go_ret
      exact ⟨rfl, Below.refl _ _⟩
  · clear hT
    have hx' : (FloatKind.f64.format.order x x != some Ordering.eq) = true := h1
    go_enter Tryz.func17, Tryz.ntmps17
    go_wp2
    go_ret
    exact ⟨rfl, Below.refl _ _⟩
end Go.Proofs.YthmnmkolekgjoaaGreatDoor
