/- kura's joined and covered, in every world. -/
import Derived.Test.YtaebbfilgfkckaaKB5
namespace Go.Proofs.Ytaebbfilgfkckaa
open Go.RowKit Go.Sort
open Go
/-- Pairs of five places, as far as they have come. -/
def j5 (i k : Nat) : List Pt := (List.range 5).flatMap fun (a : Nat) => ((List.range 5).filter fun b => decide (a < b ∧ (a < i ∨ (a = i ∧ b < k)))).map fun (b : Nat) => (⟨(a : Int), (b : Int)⟩ : Pt)
/-- Pairs of three places and three others. -/
def j33 (i k : Nat) : List Pt := (List.range 3).flatMap fun (a : Nat) => ((List.range 6).filter fun b => decide (3 ≤ b ∧ (a < i ∨ (a = i ∧ b < k)))).map fun (b : Nat) => (⟨(a : Int), (b : Int)⟩ : Pt)
theorem lt5 {i : Nat} (h : i < 5) : i = 0 ∨ i = 1 ∨ i = 2 ∨ i = 3 ∨ i = 4 := by omega
theorem lt3 {i : Nat} (h : i < 3) : i = 0 ∨ i = 1 ∨ i = 2 := by omega
theorem j5_step {i k : Nat} (hi : i < 5) (hk : k < 5) (hik : i < k) : j5 i (k + 1) = j5 i k ++ [⟨(i : Int), (k : Int)⟩] := by
  rcases lt5 hi with rfl | rfl | rfl | rfl | rfl <;> rcases lt5 hk with rfl | rfl | rfl | rfl | rfl <;> first | rfl | omega
theorem j5_next {i : Nat} (hi : i < 5) : j5 i 5 = j5 (i + 1) (i + 2) := by
  rcases lt5 hi with rfl | rfl | rfl | rfl | rfl <;> rfl
theorem j33_step {i k : Nat} (hi : i < 3) (hk : k < 6) (hik : 3 ≤ k) : j33 i (k + 1) = j33 i k ++ [⟨(i : Int), (k : Int)⟩] := by
  have : k = 3 ∨ k = 4 ∨ k = 5 := by omega
  rcases lt3 hi with rfl | rfl | rfl <;> rcases this with rfl | rfl | rfl <;> rfl
theorem j33_next {i : Nat} (hi : i < 3) : j33 i 6 = j33 (i + 1) 3 := by
  rcases lt3 hi with rfl | rfl | rfl <;> rfl
theorem j5_le (i k : Nat) : (j5 i k).length ≤ 25 := by
  unfold j5
  have : ∀ a, ((((List.range 5).filter fun b => decide (a < b ∧ (a < i ∨ (a = i ∧ b < k)))).map fun (b : Nat) => (⟨(a : Int), (b : Int)⟩ : Pt))).length ≤ 5 := fun a => by
    rw [List.length_map]
    exact Nat.le_trans (List.length_filter_le _ _) (by simp)
  rw [List.length_flatMap]
  simp only [List.range, List.range.loop, List.map, List.sum_cons, List.sum_nil]
  have h0 := this 0; have h1 := this 1; have h2 := this 2; have h3 := this 3; have h4 := this 4
  simp only [List.range, List.range.loop] at h0 h1 h2 h3 h4
  omega
theorem j33_le (i k : Nat) : (j33 i k).length ≤ 18 := by
  unfold j33
  have : ∀ a, ((((List.range 6).filter fun b => decide (3 ≤ b ∧ (a < i ∨ (a = i ∧ b < k)))).map fun (b : Nat) => (⟨(a : Int), (b : Int)⟩ : Pt))).length ≤ 6 := fun a => by
    rw [List.length_map]
    exact Nat.le_trans (List.length_filter_le _ _) (by simp)
  rw [List.length_flatMap]
  simp only [List.range, List.range.loop, List.map, List.sum_cons, List.sum_nil]
  have h0 := this 0; have h1 := this 1; have h2 := this 2
  simp only [List.range, List.range.loop] at h0 h1 h2
  omega
set_option maxRecDepth 100000 in
set_option maxHeartbeats 16000000 in
theorem joined41five (w : World) : Calls Try.prog 41 #[.int .i64 5] w fun e w' => ∃ p' c, e = .returned (.slice p' 10 c) ∧ Owns w' w.heap.size (.slice p' 10 c) (j5 5 6) ∧ Below w.heap.size w w' := by
  go_enter Try.func41, Try.ntmps41
  go_wp2_with fail
  go_loopw [3, 10] (fun t3 t10 wr => ∃ (i : Nat) (p' : Option Addr) (c : Nat), i ≤ 5 ∧ t10 = .int .i64 i ∧ t3 = .slice p' (j5 i (i + 1)).length c ∧ Hid (Below w.heap.size w wr) ∧ Hid (Owns wr w.heap.size (.slice p' (j5 i (i + 1)).length c) (j5 i (i + 1)))) (fun _ t10 _ => 5 - (intOf t10).toNat)
  case atStart => exact ⟨0, none, 0, by omega, rfl, rfl, Below.refl _ _, Owns.nil _ _⟩
  case round =>
    obtain ⟨i, p1, c1, hi, rfl, rfl, HBr, HOr⟩ := hrel
    by_cases hlt : i < 5
    · have j1 : (i : Int) < 5 := by omega
      go_wp2_with fail
      go_loopw [3, 5] (fun t3 t5 wj => ∃ (k : Nat) (p' : Option Addr) (c : Nat), i < k ∧ k ≤ 5 ∧ t5 = .int .i64 k ∧ t3 = .slice p' (j5 i k).length c ∧ Hid (Below w.heap.size w wj) ∧ Hid (Owns wj w.heap.size (.slice p' (j5 i k).length c) (j5 i k))) (fun _ t5 _ => 5 - (intOf t5).toNat)
      case atStart => exact ⟨i + 1, p1, c1, by omega, by omega, by go_num, rfl, HBr.out, HOr.out⟩
      case round =>
        obtain ⟨k, p2, c2, hik, hk, rfl, rfl, HBk, HOk⟩ := hrel
        clear HBr HOr
        by_cases hk5 : k < 5
        · have j2 : (k : Int) < 5 := by omega
          have HST := hide (j5_step hlt hk5 hik)
          have hle := j5_le i k
          obtain ⟨v1, E, ea, o1, _, hbE⟩ := app1 HOk.out (i : Int) (k : Int) HBk.out.size (by omega)
          rw [← HST.out] at o1
          obtain ⟨p8, c8, h8, _⟩ := o1.form
          subst h8
          have HBE := hide (HBk.out.trans hbE)
          have HOE := hide o1
          clear o1 hbE
          go_wp2_with (at_builtin; refine wpList_run_append rfl (.tmp 19) (.tmp 23) 22 rfl 22 rfl _ _ _ E rfl rfl ea ?_)
          go_roundw
          case rel => exact ⟨k + 1, p8, c8, by omega, by omega, by go_num, rfl, HBE.out, HOE.out⟩
          case measure => simp [intOf]; omega
        · have j2 : ¬ (k : Int) < 5 := by omega
          have hke : k = 5 := by omega
          subst hke
          have HNX := hide (j5_next hlt)
          rw [HNX.out] at HOk ⊢
          go_wp2
          go_roundw
          case rel => exact ⟨i + 1, p2, c2, by omega, by go_num, rfl, HBk.out, HOk.out⟩
          case measure => simp [intOf]; omega
    · have j1 : ¬ (i : Int) < 5 := by omega
      have hie : i = 5 := by omega
      subst hie
      go_wp2
      go_ret
      exact ⟨p1, c1, rfl, HOr.out, HBr.out⟩
set_option maxRecDepth 100000 in
set_option maxHeartbeats 16000000 in
theorem joined41threes (w : World) : Calls Try.prog 41 #[.int .i64 33] w fun e w' => ∃ p' c, e = .returned (.slice p' 9 c) ∧ Owns w' w.heap.size (.slice p' 9 c) (j33 3 3) ∧ Below w.heap.size w w' := by
  go_enter Try.func41, Try.ntmps41
  go_wp2_with fail
  go_loopw [3, 27] (fun t3 t27 wr => ∃ (i : Nat) (p' : Option Addr) (c : Nat), i ≤ 3 ∧ t27 = .int .i64 i ∧ t3 = .slice p' (j33 i 3).length c ∧ Hid (Below w.heap.size w wr) ∧ Hid (Owns wr w.heap.size (.slice p' (j33 i 3).length c) (j33 i 3))) (fun _ t27 _ => 3 - (intOf t27).toNat)
  case atStart => exact ⟨0, none, 0, by omega, rfl, rfl, Below.refl _ _, Owns.nil _ _⟩
  case round =>
    obtain ⟨i, p1, c1, hi, rfl, rfl, HBr, HOr⟩ := hrel
    by_cases hlt : i < 3
    · have j1 : (i : Int) < 3 := by omega
      go_wp2_with fail
      go_loopw [3, 7] (fun t3 t7 wj => ∃ (k : Nat) (p' : Option Addr) (c : Nat), 3 ≤ k ∧ k ≤ 6 ∧ t7 = .int .i64 k ∧ t3 = .slice p' (j33 i k).length c ∧ Hid (Below w.heap.size w wj) ∧ Hid (Owns wj w.heap.size (.slice p' (j33 i k).length c) (j33 i k))) (fun _ t7 _ => 6 - (intOf t7).toNat)
      case atStart => exact ⟨3, p1, c1, by omega, by omega, rfl, rfl, HBr.out, HOr.out⟩
      case round =>
        obtain ⟨k, p2, c2, hik, hk, rfl, rfl, HBk, HOk⟩ := hrel
        clear HBr HOr
        by_cases hk5 : k < 6
        · have j2 : (k : Int) < 6 := by omega
          have HST := hide (j33_step hlt hk5 hik)
          have hle := j33_le i k
          obtain ⟨v1, E, ea, o1, _, hbE⟩ := app1 HOk.out (i : Int) (k : Int) HBk.out.size (by omega)
          rw [← HST.out] at o1
          obtain ⟨p8, c8, h8, _⟩ := o1.form
          subst h8
          have HBE := hide (HBk.out.trans hbE)
          have HOE := hide o1
          clear o1 hbE
          go_wp2_with (at_builtin; refine wpList_run_append rfl (.tmp 34) (.tmp 38) 22 rfl 22 rfl _ _ _ E rfl rfl ea ?_)
          go_roundw
          case rel => exact ⟨k + 1, p8, c8, by omega, by omega, by go_num, rfl, HBE.out, HOE.out⟩
          case measure => simp [intOf]; omega
        · have j2 : ¬ (k : Int) < 6 := by omega
          have hke : k = 6 := by omega
          subst hke
          have HNX := hide (j33_next hlt)
          rw [HNX.out] at HOk ⊢
          go_wp2
          go_roundw
          case rel => exact ⟨i + 1, p2, c2, by omega, by go_num, rfl, HBk.out, HOk.out⟩
          case measure => simp [intOf]; omega
    · have j1 : ¬ (i : Int) < 3 := by omega
      have hie : i = 3 := by omega
      subst hie
      go_wp2
      go_ret
      exact ⟨p1, c1, rfl, HOr.out, HBr.out⟩
end Go.Proofs.Ytaebbfilgfkckaa
