/- kura's covered, in every world. -/
import Derived.Test.YtaebbfilgfkckaaKB7
namespace Go.Proofs.Ytaebbfilgfkckaa
open Go.RowKit Go.Sort
open Go
/-- How long the first k lists are together. -/
def covN (F : List (List Int)) : Nat → Nat
  | 0 => 0
  | k + 1 => covN F k + (lat F k).length
theorem covN_le {F : List (List Int)} {b : Nat} (h : ∀ v, v < F.length → (lat F v).length ≤ b) : ∀ k, k ≤ F.length → covN F k ≤ k * b
  | 0, _ => by simp [covN]
  | k + 1, hk => by
    have h1 := covN_le h k (by omega)
    have h2 := h k (by omega)
    rw [Nat.add_mul, Nat.one_mul]
    unfold covN
    omega
set_option maxRecDepth 100000 in
set_option maxHeartbeats 4000000 in
theorem covered62 (q : Option Addr) (F : List (List Int)) (cq : Nat) (w : World) (hr : RHas w q F) (hF : F.length ≤ 1000) (hl : ∀ v, v < F.length → (lat F v).length ≤ 100000) : Calls Try.prog 62 #[.slice q F.length cq] w fun e w' => e = .returned (.int .i64 (covN F F.length : Nat)) ∧ Below w.heap.size w w' := by
  have HR := hide hr
  have HC : Hid (∀ k, k ≤ F.length → covN F k ≤ 100000000) := fun k hk => by
    have := covN_le hl k hk
    have : k * 100000 ≤ 1000 * 100000 := Nat.mul_le_mul_right _ (by omega)
    omega
  have HL := hide hl
  clear hr hl
  go_enter Try.func62, Try.ntmps62
  go_wp2_with fail
  go_loopw [3, 8] (fun t3 t8 wr => ∃ k : Nat, k ≤ F.length ∧ t3 = .int .i64 (covN F k : Nat) ∧ t8 = .int .i64 k ∧ Hid (Below w.heap.size w wr)) (fun _ t8 _ => F.length - (intOf t8).toNat)
  case atStart => exact ⟨0, by omega, rfl, rfl, Below.refl _ _⟩
  case round =>
    obtain ⟨k, hk, rfl, rfl, HBr⟩ := hrel
    by_cases hlt : k < F.length
    · obtain ⟨b, off, a, c, rfl, c0, _, _⟩ := (HR.out.later HBr.out).at_ hlt
      have j1 : (k : Int) < F.length := by omega
      have hc := HC.out k hk
      have hl := HL.out k hlt
      have HST : Hid (covN F (k + 1) = covN F k + (lat F k).length) := rfl
      obtain ⟨x, hx⟩ : ∃ x, covN F k = x := ⟨_, rfl⟩
      obtain ⟨y, hy⟩ : ∃ y, (lat F k).length = y := ⟨_, rfl⟩
      rw [hx, hy] at HST
      rw [hx] at hc ⊢
      rw [hy] at hl c0
      clear hx hy
      go_wp2
      go_roundw
      case rel => exact ⟨k + 1, by omega, by rw [HST.out]; go_num, by go_num, HBr.out⟩
      case measure => simp [intOf]; omega
    · have hke : k = F.length := by omega
      subst hke
      have j1 : ¬ (F.length : Int) < F.length := by omega
      go_wp2
      go_ret
      exact ⟨rfl, HBr.out⟩
end Go.Proofs.Ytaebbfilgfkckaa
