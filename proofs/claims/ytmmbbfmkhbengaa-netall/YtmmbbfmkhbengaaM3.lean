/- Least and greatest; Look, in every world. -/
import Derived.Test.YtmmbbfmkhbengaaM2
namespace Go.Proofs.Ytmmbbfmkhbengaa
open Go.RowKit Go.Sort
open Go

theorem min_if (a b : Int) : (if b < a then b else a) = min a b := by split <;> omega
theorem max_if (a b : Int) : (if a < b then b else a) = max a b := by split <;> omega
def mnL (l : List Int) : Nat → Int
  | 0 => iat l 0
  | k + 1 => min (mnL l k) (iat l (k + 1))
def mxL (l : List Int) : Nat → Int
  | 0 => iat l 0
  | k + 1 => max (mxL l k) (iat l (k + 1))
set_option maxHeartbeats 1000000 in
theorem min57 (b off cap : Nat) (l : List Int) (w : World) (h0 : 0 < l.length) (hl : l.length ≤ 4096) (h : ILies w b off l) : Calls Try.prog 57 #[.slice (some ⟨b, off, none⟩) l.length cap] w fun e w' => e = .returned (.int .i64 (mnL l (l.length - 1))) ∧ w' = w := by
  have HH := hide h
  have c0 := h 0 h0
  rw [Nat.add_zero] at c0
  clear h
  have e1 : (1 : Int) ≤ l.length := by omega
  obtain ⟨x, hx⟩ : ∃ x, iat l 0 = x := ⟨_, rfl⟩
  rw [hx] at c0
  go_enter Try.func57, Try.ntmps57
  go_wp2_with fail
  go_loop [3, 4] (fun m t => ∃ k : Nat, k + 1 ≤ l.length ∧ m = .int .i64 (mnL l k) ∧ t = .int .i64 ((k : Int) + 1)) (fun _ t => l.length - (intOf t).toNat)
  case atStart => exact ⟨0, by omega, by simp only [mnL]; rw [hx], rfl⟩
  case round =>
    obtain ⟨k, hk, rfl, rfl⟩ := hrel
    by_cases hlt : k + 1 < l.length
    · have c1 := HH.out (k + 1) hlt
      have e2 : (k : Int) + 1 < l.length := by omega
      have hm : Hid (mnL l (k + 1) = min (mnL l k) (iat l (k + 1))) := rfl
      obtain ⟨y, hy⟩ : ∃ y, iat l (k + 1) = y := ⟨_, rfl⟩
      rw [hy] at c1 hm
      obtain ⟨m, hmm⟩ : ∃ m, mnL l k = m := ⟨_, rfl⟩
      rw [hmm] at hm ⊢
      clear hy hmm
      go_wp2
      go_round
      case rel => exact ⟨k + 1, by omega, by rw [hm.out, min_if], by go_num⟩
      case measure => simp [intOf]; omega
    · have hin : k = l.length - 1 := by omega
      subst hin
      have e2 : ((l.length - 1 : Nat) : Int) + 1 = l.length := by omega
      go_wp2
      go_ret
      exact ⟨rfl, rfl⟩
set_option maxHeartbeats 1000000 in
theorem max58 (b off cap : Nat) (l : List Int) (w : World) (h0 : 0 < l.length) (hl : l.length ≤ 4096) (h : ILies w b off l) : Calls Try.prog 58 #[.slice (some ⟨b, off, none⟩) l.length cap] w fun e w' => e = .returned (.int .i64 (mxL l (l.length - 1))) ∧ w' = w := by
  have HH := hide h
  have c0 := h 0 h0
  rw [Nat.add_zero] at c0
  clear h
  have e1 : (1 : Int) ≤ l.length := by omega
  obtain ⟨x, hx⟩ : ∃ x, iat l 0 = x := ⟨_, rfl⟩
  rw [hx] at c0
  go_enter Try.func58, Try.ntmps58
  go_wp2_with fail
  go_loop [3, 4] (fun m t => ∃ k : Nat, k + 1 ≤ l.length ∧ m = .int .i64 (mxL l k) ∧ t = .int .i64 ((k : Int) + 1)) (fun _ t => l.length - (intOf t).toNat)
  case atStart => exact ⟨0, by omega, by simp only [mxL]; rw [hx], rfl⟩
  case round =>
    obtain ⟨k, hk, rfl, rfl⟩ := hrel
    by_cases hlt : k + 1 < l.length
    · have c1 := HH.out (k + 1) hlt
      have e2 : (k : Int) + 1 < l.length := by omega
      have hm : Hid (mxL l (k + 1) = max (mxL l k) (iat l (k + 1))) := rfl
      obtain ⟨y, hy⟩ : ∃ y, iat l (k + 1) = y := ⟨_, rfl⟩
      rw [hy] at c1 hm
      obtain ⟨m, hmm⟩ : ∃ m, mxL l k = m := ⟨_, rfl⟩
      rw [hmm] at hm ⊢
      clear hy hmm
      go_wp2
      go_round
      case rel => exact ⟨k + 1, by omega, by rw [hm.out, max_if], by go_num⟩
      case measure => simp [intOf]; omega
    · have hin : k = l.length - 1 := by omega
      subst hin
      have e2 : ((l.length - 1 : Nat) : Int) + 1 = l.length := by omega
      go_wp2
      go_ret
      exact ⟨rfl, rfl⟩
end Go.Proofs.Ytmmbbfmkhbengaa
