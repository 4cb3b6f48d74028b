/- What weigh.Read answers to the two texts that every statement begins with. -/
import Derived.Test.YthmnmkolekgjoaaGreatDoorW2
namespace Go.Proofs.YthmnmkolekgjoaaGreatDoor
open Go.RowKit
open Go
set_option maxRecDepth 100000 in
set_option maxHeartbeats 1000000 in
theorem sign39a (w : World) : Calls Tryz.prog 39 #[.string ⟨#[43, 49, 46, 53, 48]⟩] w fun e w' => e = .returned (.string ⟨#[49, 46, 53, 48]⟩) ∧ w' = w := by
  go_enter Tryz.func39, Tryz.ntmps39
  go_wp2
  go_ret
  exact ⟨by kernel_rfl, rfl⟩
set_option maxRecDepth 100000 in
set_option maxHeartbeats 1000000 in
theorem sign39b (w : World) : Calls Tryz.prog 39 #[.string ⟨#[105, 110, 102]⟩] w fun e w' => e = .returned (.string ⟨#[105, 110, 102]⟩) ∧ w' = w := by
  go_enter Tryz.func39, Tryz.ntmps39
  go_wp2
  go_ret
  exact ⟨by kernel_rfl, rfl⟩
set_option maxRecDepth 100000 in
set_option maxHeartbeats 1000000 in
theorem count40a (w : World) : Calls Tryz.prog 40 #[.string ⟨#[49, 46, 53, 48]⟩] w fun e w' => e = .returned (.int .i64 1) ∧ w' = w := by
  go_enter Tryz.func40, Tryz.ntmps40
  go_wp2
  go_rounds 3
  go_ret
  exact ⟨by kernel_rfl, rfl⟩
set_option maxRecDepth 100000 in
set_option maxHeartbeats 1000000 in
theorem count40b (w : World) : Calls Tryz.prog 40 #[.string ⟨#[53, 48]⟩] w fun e w' => e = .returned (.int .i64 2) ∧ w' = w := by
  go_enter Tryz.func40, Tryz.ntmps40
  go_wp2
  go_rounds 4
  go_ret
  exact ⟨by kernel_rfl, rfl⟩
set_option maxRecDepth 100000 in
set_option maxHeartbeats 1000000 in
theorem count40c (w : World) : Calls Tryz.prog 40 #[.string ⟨#[105, 110, 102]⟩] w fun e w' => e = .returned (.int .i64 0) ∧ w' = w := by
  go_enter Tryz.func40, Tryz.ntmps40
  go_wp2
  go_rounds 2
  go_ret
  exact ⟨by kernel_rfl, rfl⟩
set_option maxRecDepth 100000 in
set_option maxHeartbeats 1000000 in
theorem num33b (w : World) : Calls Tryz.prog 33 #[.string ⟨#[105, 110, 102]⟩] w fun e w' => e = .returned (.bool false) ∧ w' = w := by
  go_enter Tryz.func33, Tryz.ntmps33
  go_wp2_with (first | (go_at_call 39; refine (sign39b _).mono ?_; rintro e w' ⟨rfl, rfl⟩) | (go_at_call 40; refine (count40c _).mono ?_; rintro e w' ⟨rfl, rfl⟩))
  go_ret
  exact ⟨rfl, rfl⟩
set_option maxRecDepth 100000 in
set_option maxHeartbeats 1000000 in
theorem num33a (w : World) : Calls Tryz.prog 33 #[.string ⟨#[43, 49, 46, 53, 48]⟩] w fun e w' => e = .returned (.bool true) ∧ w' = w := by
  have e1 : ({ data := #[49, 46, 53, 48] } : ByteArray).extract 1 4 = ⟨#[46, 53, 48]⟩ := by kernel_rfl
  have e2 : ({ data := #[46, 53, 48] } : ByteArray).extract 1 3 = ⟨#[53, 48]⟩ := by kernel_rfl
  have hp : ∀ w, Calls Tryz.prog 41 #[.string ⟨#[46, 53, 48]⟩, .string ⟨#[46]⟩] w fun e w' => e = .returned (.bool true) ∧ w' = w := fun w => Tryz.strings_HasPrefix ⟨#[46, 53, 48]⟩ ⟨#[46]⟩ w
  have HP := Lib.hid hp
  clear hp
  go_enter Tryz.func33, Tryz.ntmps33
  go_wp2_with fail
  refine (sign39a _).mono ?_
  rintro e w1 ⟨rfl, rfl⟩
  go_wp2_with fail
  refine (count40a _).mono ?_
  rintro e w1 ⟨rfl, rfl⟩
  go_wp2_with fail
  refine (HP.out _).mono ?_
  rintro e w1 ⟨rfl, rfl⟩
  go_wp2_with fail
  refine (count40b _).mono ?_
  rintro e w1 ⟨rfl, rfl⟩
  go_wp2
  go_ret
  exact ⟨rfl, rfl⟩

set_option maxRecDepth 100000 in
set_option maxHeartbeats 1000000 in
theorem common124 (w : World) : Calls Tryz.prog 124 #[.string ⟨#[49, 46, 53, 48]⟩, .string ⟨#[105, 110, 102, 105, 110, 105, 116, 121]⟩] w fun e w' => e = .returned (.int .i64 0) ∧ w' = w := by
  go_enter Tryz.func124, Tryz.ntmps124
  go_wp2
  go_rounds 2
  go_ret
  exact ⟨by kernel_rfl, rfl⟩
set_option maxRecDepth 100000 in
set_option maxHeartbeats 1000000 in
theorem special104 (w : World) : Calls Tryz.prog 104 #[.string ⟨#[43, 49, 46, 53, 48]⟩] w fun e w' => e = .returned (.tuple #[.float .f64 0, .int .i64 0, .bool false]) ∧ w' = w := by
  have e1 : ({ data := #[43, 49, 46, 53, 48] } : ByteArray).extract 1 5 = ⟨#[49, 46, 53, 48]⟩ := by kernel_rfl
  go_enter Tryz.func104, Tryz.ntmps104
  go_wp2_with (go_at_call 124; refine (common124 _).mono ?_; rintro e w' ⟨rfl, rfl⟩)
  go_ret3
  exact ⟨by kernel_rfl, rfl⟩
set_option maxRecDepth 100000 in
set_option maxHeartbeats 4000000 in
theorem read105 (w : World) : Calls Tryz.prog 105 #[.string ⟨#[43, 49, 46, 53, 48]⟩] w fun e w' => e = .returned (.tuple #[.int .u64 150, .int .i64 (-2), .bool false, .bool false, .bool false, .int .i64 5, .bool true]) ∧ w' = w := by
  have b0 : (({ data := #[43, 49, 46, 53, 48] } : ByteArray)[0]).toNat = 43 := rfl
  have b1 : (({ data := #[43, 49, 46, 53, 48] } : ByteArray)[1]).toNat = 49 := rfl
  have b2 : (({ data := #[43, 49, 46, 53, 48] } : ByteArray)[2]).toNat = 46 := rfl
  have b3 : (({ data := #[43, 49, 46, 53, 48] } : ByteArray)[3]).toNat = 53 := rfl
  have b4 : (({ data := #[43, 49, 46, 53, 48] } : ByteArray)[4]).toNat = 48 := rfl
  go_enter Tryz.func105, Tryz.ntmps105
  go_wp2
  go_step3
  go_wp2
  go_step3
  go_wp2
  go_rounds 6
  rw [Exit.noGoto_ret]
  exact bodyPost_ret (v := .tuple #[.int .u64 150, .int .i64 (-2), .bool false, .bool false, .bool false, .int .i64 5, .bool true]) (by simp [results, Tryz.results105, go_sem]) rfl ⟨rfl, rfl⟩

theorem conv150 : floatOfInt .f64 150 = 4639481672377565184 := by decide +kernel
theorem quo15 : floatBits .quo .f64 4639481672377565184 4636737291354636288 = some 4609434218613702656 := by decide +kernel

set_option maxRecDepth 100000 in
set_option maxHeartbeats 1000000 in
theorem exact115 (w : World) (b o c : Nat) (h7 : w.cell? ⟨7, 0, none⟩ = some (.int .u64 52)) (h12 : w.cell? ⟨12, 0, none⟩ = some (.slice (some ⟨b, o, none⟩) 23 c)) (h2 : w.cell? ⟨b, o + 2, none⟩ = some (.float .f64 4636737291354636288)) :
    Calls Tryz.prog 115 #[.int .u64 150, .int .i64 (-2), .bool false] w fun e w' => e = .returned (.tuple #[.float .f64 4609434218613702656, .bool true]) ∧ w' = w := by
  have hc := conv150
  have hq : ∀ w, (binOp .quo 27 (.float .f64 4639481672377565184) (.float .f64 4636737291354636288)).run Tryz.prog w = .ok (.float .f64 4609434218613702656) w := fun w => run_float_arith w .quo 27 .f64 _ _ _ quo15
  go_enter Tryz.func115, Tryz.ntmps115
  go_wp2
  go_ret2
  exact ⟨rfl, rfl⟩

set_option maxRecDepth 100000 in
set_option maxHeartbeats 1000000 in
theorem atof78 (w : World) (b o c : Nat) (h1 : w.cell? ⟨1, 0, none⟩ = some (.bool true)) (h7 : w.cell? ⟨7, 0, none⟩ = some (.int .u64 52)) (h12 : w.cell? ⟨12, 0, none⟩ = some (.slice (some ⟨b, o, none⟩) 23 c)) (h2 : w.cell? ⟨b, o + 2, none⟩ = some (.float .f64 4636737291354636288)) :
    Calls Tryz.prog 78 #[.string ⟨#[43, 49, 46, 53, 48]⟩] w fun e w' => e = .returned (.tuple #[.float .f64 4609434218613702656, .int .i64 5, .nilIface]) ∧ w' = w := by
  have HX := Lib.hid (exact115 w b o c h7 h12 h2)
  clear h7 h12 h2
  go_enter Tryz.func78, Tryz.ntmps78
  go_wp2_with fail
  refine (special104 _).mono ?_
  rintro e w1 ⟨rfl, rfl⟩
  go_wp2_with fail
  refine (read105 _).mono ?_
  rintro e w1 ⟨rfl, rfl⟩
  go_wp2_with (first | (go_at_call 113; refine (bool113 _ _).mono ?_; rintro e w' ⟨rfl, rfl⟩) | (go_at_call 115; refine HX.out.mono ?_; rintro e w' ⟨rfl, rfl⟩))
  go_ret3
  exact ⟨rfl, rfl⟩
set_option maxRecDepth 100000 in
set_option maxHeartbeats 1000000 in
theorem parse34 (w : World) (b o c : Nat) (h1 : w.cell? ⟨1, 0, none⟩ = some (.bool true)) (h7 : w.cell? ⟨7, 0, none⟩ = some (.int .u64 52)) (h12 : w.cell? ⟨12, 0, none⟩ = some (.slice (some ⟨b, o, none⟩) 23 c)) (h2 : w.cell? ⟨b, o + 2, none⟩ = some (.float .f64 4636737291354636288)) :
    Calls Tryz.prog 34 #[.string ⟨#[43, 49, 46, 53, 48]⟩, .int .i64 64] w fun e w' => e = .returned (.tuple #[.float .f64 4609434218613702656, .nilIface]) ∧ w' = w := by
  have HX := Lib.hid (atof78 w b o c h1 h7 h12 h2)
  clear h1 h7 h12 h2
  go_enter Tryz.func34, Tryz.ntmps34
  go_wp2_with (first | (go_at_call 78; refine HX.out.mono ?_; rintro e w' ⟨rfl, rfl⟩) | (go_at_call 43; go_in) | (go_at_call 53; go_in))
  go_ret2
  exact ⟨rfl, rfl⟩
set_option maxRecDepth 100000 in
set_option maxHeartbeats 1000000 in
theorem read24a (w : World) (b o c : Nat) (h1 : w.cell? ⟨1, 0, none⟩ = some (.bool true)) (h7 : w.cell? ⟨7, 0, none⟩ = some (.int .u64 52)) (h12 : w.cell? ⟨12, 0, none⟩ = some (.slice (some ⟨b, o, none⟩) 23 c)) (h2 : w.cell? ⟨b, o + 2, none⟩ = some (.float .f64 4636737291354636288)) :
    Calls Tryz.prog 24 #[.string ⟨#[43, 49, 46, 53, 48]⟩] w fun e w' => e = .returned (.tuple #[.float .f64 4609434218613702656, .int .i64 0]) ∧ w' = w := by
  have HX := Lib.hid (parse34 w b o c h1 h7 h12 h2)
  clear h1 h7 h12 h2
  go_enter Tryz.func24, Tryz.ntmps24
  go_wp2_with (first | (go_at_call 33; refine (num33a _).mono ?_; rintro e w' ⟨rfl, rfl⟩) | (go_at_call 34; refine HX.out.mono ?_; rintro e w' ⟨rfl, rfl⟩))
  go_ret2
  exact ⟨rfl, rfl⟩
set_option maxRecDepth 100000 in
set_option maxHeartbeats 1000000 in
theorem read24b (w : World) : Calls Tryz.prog 24 #[.string ⟨#[105, 110, 102]⟩] w fun e w' => e = .returned (.tuple #[.float .f64 0, .int .i64 17]) ∧ w' = w := by
  go_enter Tryz.func24, Tryz.ntmps24
  go_wp2_with (go_at_call 33; refine (num33b _).mono ?_; rintro e w' ⟨rfl, rfl⟩)
  go_ret2
  exact ⟨rfl, rfl⟩
end Go.Proofs.YthmnmkolekgjoaaGreatDoor
