/- What FormatFloat and weigh.Text answer. -/
import Derived.Test.YthmnmkolekgjoaaGreatDoorW8
namespace Go.Proofs.YthmnmkolekgjoaaGreatDoor
open Go.RowKit
open Go
open Go.Lib (nDigits decDigits)

def bytesOf (bs : List Int) : List UInt8 := bs.map fun z => UInt8.ofNat z.toNat
def strOf (bs : List Int) : ByteArray := ⟨(bytesOf bs).toArray⟩

def zeros24 : Array Value := #[Value.int .u8 0, Value.int .u8 0, Value.int .u8 0, Value.int .u8 0, Value.int .u8 0, Value.int .u8 0, Value.int .u8 0, Value.int .u8 0, Value.int .u8 0, Value.int .u8 0, Value.int .u8 0, Value.int .u8 0, Value.int .u8 0, Value.int .u8 0, Value.int .u8 0, Value.int .u8 0, Value.int .u8 0, Value.int .u8 0, Value.int .u8 0, Value.int .u8 0, Value.int .u8 0, Value.int .u8 0, Value.int .u8 0, Value.int .u8 0]
theorem make24 (w : World) : (Instr.makeSlice 44 (.int .i64 0) (.int .i64 (max 3 24))).run Tryz.prog w = .ok (.slice (some ⟨w.heap.size, 0, none⟩) 0 24) (w.alloc (.cells zeros24 5)) := by kernel_rfl

theorem conv_bytes (w : World) (B : Nat) (w0 : World) (v : Value) (bs : List Int) (I : Inv B [] w0 w v bs) (hne : bs ≠ []) (ha : ∀ z ∈ bs, 0 ≤ z ∧ z < 128) :
    (convert 44 9 v).run Tryz.prog w = .ok (.string (strOf bs)) w := by
  rcases I.own.2 with ⟨rfl, h0⟩ | ⟨g, cap, cur, rfl, _⟩
  · exact absurd (List.length_eq_zero_iff.1 h0) hne
  · have e : bs.length = (bytesOf bs).length := by simp [bytesOf]
    rw [e]
    refine run_convert_bytes_back (P := Tryz.prog) w 44 9 5 ⟨g, 0, none⟩ cap (bytesOf bs) Tryz.underlying44 Tryz.underlying5 Tryz.underlying9 (fun j hj => I.own.cells (g := g) rfl j _ ?_)
    have hj' : j < bs.length := by omega
    have hz := ha bs[j] (List.getElem_mem hj')
    rw [List.getElem?_map, List.getElem?_eq_getElem hj']
    simp only [bytesOf, List.getElem_map, Option.map_some, Option.some.injEq, Value.int.injEq, true_and]
    rw [UInt8.toNat_ofNat']
    omega

set_option maxRecDepth 100000 in
set_option maxHeartbeats 1000000 in
theorem format37 (x : Nat) (bs : List Int) (w : World) (hT : Tabs w) (ha : ∀ z ∈ bs, 0 ≤ z ∧ z < 128) (hne : bs ≠ [])
    (hf : ∀ B w1 v, Inv B [] w w1 v [] → Tabs w1 → Calls Tryz.prog 47 #[v, .float .f64 x, .int .u8 103, .int .i64 (-1)] w1 fun e w' => ∃ v', e = .returned v' ∧ Inv B [] w w' v' bs) :
    Calls Tryz.prog 37 #[.float .f64 x, .int .u8 103, .int .i64 (-1), .int .i64 64] w fun e w' => e = .returned (.string (strOf bs)) ∧ Below w.heap.size w w' := by
  have I1 : Inv w.heap.size [] w (w.alloc (.cells zeros24 5)) (.slice (some ⟨w.heap.size, 0, none⟩) 0 24) [] := {
    own := World.ownsRow_made w zeros24 24 (Nat.le_refl _) (by unfold maxLen; omega) rfl
    buf := fun p hp => by simp at hp
    below := (Below.refl _ _).alloc (Nat.le_refl _) _
    base := by simp }
  have hc := hf _ _ _ I1 (hT.below ((Below.refl _ _).alloc (Nat.le_refl _) _))
  have HC := Lib.hid hc
  have HA := Lib.hid ha
  have HN := Lib.hid hne
  clear hc hf ha I1 hT hne
  have hmk := make24
  go_enter Tryz.func37, Tryz.ntmps37
  go_wp2_with fail
  refine HC.out.mono ?_
  rintro e w1 ⟨v1, rfl, I⟩
  have hcv := conv_bytes w1 _ _ _ _ I HN.out HA.out
  have HB := Lib.hid I.below
  clear I
  go_wp2
  go_ret
  exact ⟨rfl, HB.out⟩

set_option maxRecDepth 100000 in
set_option maxHeartbeats 1000000 in
theorem format30 (x : Nat) (bs : List Int) (w : World) (hc : Calls Tryz.prog 37 #[.float .f64 x, .int .u8 103, .int .i64 (-1), .int .i64 64] w fun e w' => e = .returned (.string (strOf bs)) ∧ Below w.heap.size w w') :
    Calls Tryz.prog 30 #[.float .f64 x, .int .u8 103, .int .i64 (-1), .int .i64 64] w fun e w' => e = .returned (.string (strOf bs)) ∧ Below w.heap.size w w' := by
  have HC := Lib.hid hc
  clear hc
  go_enter Tryz.func30, Tryz.ntmps30
  go_wp2_with fail
  refine HC.out.mono ?_
  rintro e w1 ⟨rfl, hb⟩
  go_wp2
  go_ret
  exact ⟨rfl, hb⟩

def infB (x : Nat) : Bool := Ieee.double.order x 9218868437227405311 == some .gt
def negN (x : Nat) : Nat := Op.negFloat .f64 x
set_option maxHeartbeats 400000 in
theorem isInf29p (x : Nat) (w : World) : Calls Tryz.prog 29 #[.float .f64 x, .int .i64 1] w fun e w' => e = .returned (.bool (infB x)) ∧ w' = w := by
  go_enter Tryz.func29, Tryz.ntmps29
  go_wp2
  go_ret
  exact ⟨rfl, rfl⟩
set_option maxHeartbeats 400000 in
theorem isInf29n (x : Nat) (w : World) : Calls Tryz.prog 29 #[.float .f64 x, .int .i64 (-1)] w fun e w' => e = .returned (.bool (infB (negN x))) ∧ w' = w := by
  have hn : ∀ w, (Op.unary .neg (.float .f64 x)).run Tryz.prog w = .ok (.float .f64 (negN x)) w := fun _ => rfl
  go_enter Tryz.func29, Tryz.ntmps29
  go_wp2
  go_ret
  exact ⟨rfl, rfl⟩

def dotE (bs : List Int) : Bool := Lib.containsAny (bytesOf bs) [46, 101]
def withDot (bs : List Int) : List Int := if dotE bs then bs else bs ++ [46, 48]

theorem contains31 (bs : List Int) (w : World) (ha : ∀ z ∈ bs, 0 ≤ z ∧ z < 128) (hl : bs.length ≤ 1000) :
    Calls Tryz.prog 31 #[.string (strOf bs), .string ⟨#[46, 101]⟩] w fun e w' => e = .returned (.bool (dotE bs)) ∧ Below w.heap.size w w' := by
  refine Tryz.strings_ContainsAny_laid (strOf bs) ⟨#[46, 101]⟩ w ?_ (by decide) ?_ ?_
  · show (bytesOf bs).toArray.size < _
    simp [bytesOf]; omega
  · intro j b hb
    have hb' : (bytesOf bs)[j]? = some b := by simpa [strOf] using hb
    unfold bytesOf at hb'
    rw [List.getElem?_map] at hb'
    obtain ⟨z, hz, rfl⟩ := Option.map_eq_some_iff.1 hb'
    have := ha z (List.mem_of_getElem? hz)
    rw [UInt8.toNat_ofNat']; omega
  · intro j b hb
    match j, hb with
    | 0, hb => simp at hb; subst hb; decide
    | 1, hb => simp at hb; subst hb; decide

set_option maxRecDepth 100000 in
set_option maxHeartbeats 1000000 in
theorem text16 (x : Nat) (bs : List Int) (w : World) (ha : ∀ z ∈ bs, 0 ≤ z ∧ z < 128) (hl : bs.length ≤ 1000) (h1 : nanB x = false) (h2 : infB x = false) (h3 : infB (negN x) = false)
    (hc : Calls Tryz.prog 30 #[.float .f64 x, .int .u8 103, .int .i64 (-1), .int .i64 64] w fun e w' => e = .returned (.string (strOf bs)) ∧ Below w.heap.size w w') :
    Calls Tryz.prog 16 #[.float .f64 x] w fun e w' => e = .returned (.string (strOf (withDot bs))) ∧ Below w.heap.size w w' := by
  have HC := Lib.hid hc
  have HK := Lib.hid (fun w => contains31 bs w ha hl)
  have hsz : (strOf bs).size ≤ 1000 := by
    show (bytesOf bs).toArray.size ≤ 1000
    simpa [bytesOf] using hl
  clear hc ha hl
  unfold withDot
  cases hd : dotE bs
  · have HCC := Lib.hid (show strOf bs ++ ⟨#[46, 48]⟩ = strOf (bs ++ [46, 48]) from by
      unfold strOf bytesOf
      apply ByteArray.ext
      simp [ByteArray.data_append])
    go_enter Tryz.func16, Tryz.ntmps16
    go_wp2_with (first | (go_at_call 27; refine (isNaN27 _ _).mono ?_; rintro e w' ⟨rfl, rfl⟩) | (go_at_call_of 29 (Value.int IntKind.i64 1); refine (isInf29p _ _).mono ?_; rintro e w' ⟨rfl, rfl⟩))
    refine (isInf29n _ _).mono ?_
    rintro e w1 ⟨rfl, rfl⟩
    go_wp2_with fail
    refine HC.out.mono ?_
    rintro e w2 ⟨rfl, hb2⟩
    go_wp2_with fail
    refine (HK.out w2).mono ?_
    rintro e w3 ⟨rfl, hb3⟩
    have HB := Lib.hid (hb2.trans (hb3.mono hb2.size))
    clear hb2 hb3
    go_wp2
    go_ret
    exact ⟨by rw [← HCC.out]; rfl, HB.out⟩
  · go_enter Tryz.func16, Tryz.ntmps16
    go_wp2_with (first | (go_at_call 27; refine (isNaN27 _ _).mono ?_; rintro e w' ⟨rfl, rfl⟩) | (go_at_call_of 29 (Value.int IntKind.i64 1); refine (isInf29p _ _).mono ?_; rintro e w' ⟨rfl, rfl⟩))
    refine (isInf29n _ _).mono ?_
    rintro e w1 ⟨rfl, rfl⟩
    go_wp2_with fail
    refine HC.out.mono ?_
    rintro e w2 ⟨rfl, hb2⟩
    go_wp2_with fail
    refine (HK.out w2).mono ?_
    rintro e w3 ⟨rfl, hb3⟩
    have HB := Lib.hid (hb2.trans (hb3.mono hb2.size))
    clear hb2 hb3
    go_wp2
    go_ret
    exact ⟨rfl, HB.out⟩
end Go.Proofs.YthmnmkolekgjoaaGreatDoor
