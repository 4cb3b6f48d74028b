/- MakerAll's walk. -/
import Derived.Test.YtncnghbkdbhpbaaF9
import Derived.Test.YtncnghbkdbhpbaaH1
import Derived.Test.YtncnghbkdbhpbaaH2
namespace Go.Proofs.Ytncnghbkdbhpbaa
open Go.RowKit Go.Sort
open Go

theorem nm_at (i : Nat) (hi : i < 10) : nmArr[i]? = some (nmOf i) := by
  match i, hi with
  | 0, _ => rfl
  | 1, _ => rfl
  | 2, _ => rfl
  | 3, _ => rfl
  | 4, _ => rfl
  | 5, _ => rfl
  | 6, _ => rfl
  | 7, _ => rfl
  | 8, _ => rfl
  | 9, _ => rfl
theorem nm_str (i : Nat) : ∃ s, nmOf i = .string s := by
  unfold nmOf
  split <;> exact ⟨_, rfl⟩
theorem same_self (n : Int) (es : List Pt) : sameB n n es es = true := by simp [sameB]
set_option maxRecDepth 100000 in
set_option maxHeartbeats 8000000 in
theorem all_walk (a b seed : Int) (w : World) : Calls Try.prog 3 #[.int .i64 a, .int .i64 b, .int .u64 seed] w fun e w' => e = .returned (.bool true) ∧ Below w.heap.size w w' := by
  have BG := hide (begun6 w)
  go_enter Try.func3, Try.ntmps3
  go_wp2_with fail
  refine BG.out.mono ?_
  rintro e w0 ⟨rfl, hb0⟩
  have HB0 := hide hb0
  clear hb0 BG
  go_wp2_with fail
  refine (names7 w0).mono ?_
  rintro e W ⟨rfl, hW⟩
  have NM : Hid (∀ i, i < 10 → W.cell? ⟨w0.heap.size, i, none⟩ = some (nmOf i)) := by
    intro i hi
    rw [hW, lit_cell _ _ _ _ _ rfl]
    exact nm_at i hi
  have HBW : Hid (Below w.heap.size w W) := by show Below _ _ _; rw [hW]; exact HB0.out.alloc HB0.out.size _
  obtain ⟨k0, hk0⟩ : ∃ k0, w0.heap.size = k0 := ⟨_, rfl⟩
  rw [hk0] at NM ⊢
  clear hW hk0 HB0
  go_wp2_with fail
  go_loopw [8] (fun t wr => ∃ i : Nat, i ≤ 10 ∧ t = .int .i64 i ∧ Hid (Below W.heap.size W wr)) (fun t _ => 10 - (intOf t).toNat)
  case atStart => exact ⟨0, by omega, rfl, Below.refl _ _⟩
  case round =>
    obtain ⟨i, hi, rfl, HBr⟩ := hrel
    by_cases hlt : i < 10
    · have cN := later HBr.out (NM.out i hlt)
      have K := hide (kind8 i hlt a b seed wr)
      have MK := hide (make9 i hlt a b seed)
      have HL := hide (kind_len i a b seed)
      have NI := hide (NM.out i hlt)
      obtain ⟨s, hs⟩ := nm_str i
      obtain ⟨o, ho⟩ : ∃ o, kindO i a b seed = o := ⟨_, rfl⟩
      rw [hs] at cN K MK NI
      rw [ho] at K MK HL
      clear hs ho
      have i1 : (i : Int) < 10 := by omega
      have i2 : (0 : Int) ≤ i := by omega
      go_wp2_with fail
      refine K.out.mono ?_
      rintro e w1 ⟨hb1, p, c, rfl, ho⟩
      obtain ⟨X, hX⟩ : ∃ X, X = w1.alloc (.cells #[.int .i64 o.n, .slice p o.es.length c] 28) := ⟨_, rfl⟩
      have hbX1 : Below w1.heap.size w1 X := by rw [hX]; go_grown
      have HBX := hide (below_step HBr.out (below_step hb1 hbX1))
      have HNX : Hid (NOwn X w1.heap.size o.n p o.es.length c) := by show NOwn _ _ _ _ _ _; rw [hX]; exact ⟨by go_cell, by go_cell, by go_cell, by go_cell⟩
      obtain ⟨p', c', hv, hHas, _, _, _⟩ := (ho.later hbX1).form
      simp only [Value.slice.injEq, true_and] at hv
      obtain ⟨rfl, rfl⟩ := hv
      have HHX := hide hHas
      clear ho hb1 hbX1 hHas cN K
      go_wp2_with fail
      rw [← hX]
      obtain ⟨kx, hkx⟩ : ∃ kx, w1.heap.size = kx := ⟨_, rfl⟩
      rw [hkx] at HNX ⊢
      clear hX hkx
      go_loopw [11] (fun t wr => ∃ j : Nat, j ≤ 2 ∧ t = .int .i64 j ∧ Hid (Below X.heap.size X wr)) (fun t _ => 2 - (intOf t).toNat)
      case atStart => exact ⟨0, by omega, rfl, Below.refl _ _⟩
      case round =>
        obtain ⟨j, hj, rfl, HBj⟩ := hrel
        by_cases hj2 : j < 2
        · have HBWj := hide (below_step HBX.out HBj.out)
          have cN := later HBWj.out NI.out
          have M := hide (MK.out wr)
          go_wp2_with fail
          refine M.out.mono ?_
          rintro e w2 ⟨hb2, p2, c2, rfl, ho2⟩
          obtain ⟨Y, hY⟩ : ∃ Y, Y = w2.alloc (.cells #[.int .i64 o.n, .slice p2 o.es.length c2] 28) := ⟨_, rfl⟩
          have hbY : Below w2.heap.size w2 Y := by rw [hY]; go_grown
          have hbwY := below_step hb2 hbY
          have HNY : Hid (NOwn Y w2.heap.size o.n p2 o.es.length c2) := by show NOwn _ _ _ _ _ _; rw [hY]; exact ⟨by go_cell, by go_cell, by go_cell, by go_cell⟩
          have hoY := ho2.later hbY
          obtain ⟨p', c', hv, hHas2, _, _, _⟩ := hoY.form
          simp only [Value.slice.injEq, true_and] at hv
          obtain ⟨rfl, rfl⟩ := hv
          have HOY := hide hoY
          have HBY := hide hbwY
          obtain ⟨d0, d1, _, _⟩ := HNX.out.later (below_step HBj.out hb2)
          have S := hide (same22 o.n o.n p2 p o.es o.es c2 c Y (by have := HL.out; omega) hHas2 (HHX.out.later (below_step HBj.out hbwY)))
          rw [same_self] at S
          have lk : kx < w2.heap.size := block_lt_of_cell d0
          have nk : kx ≠ w2.heap.size := by omega
          clear hb2 ho2 hbY hbwY hoY hHas2 cN M
          go_wp2_with fail
          rw [← hY]
          refine S.out.mono ?_
          rintro e w3 ⟨rfl, hb3⟩
          obtain ⟨y0, y1, _, _⟩ := HNY.out.later hb3
          have hB3 := below_step HBY.out hb3
          have P := hide (spoil11 o.n p2 o.es c2 wr.heap.size w3 (HOY.out.later hb3) hB3.size HL.out)
          have HB3 := hide hB3
          clear hb3 hB3 S d0 d1 lk nk hY
          go_wp2_with fail
          refine P.out.mono ?_
          rintro e w4 ⟨rfl, hb4⟩
          have HB4 := hide (below_step HBj.out (Below.trans HB3.out hb4))
          clear hb4 P y0 y1
          go_wp2
          go_roundw
          case rel => exact ⟨j + 1, by omega, by go_num, HB4.out⟩
          case measure => simp [intOf]; omega
        · have hin : j = 2 := by omega
          subst hin
          have HBWj := hide (below_step HBX.out HBj.out)
          go_wp2
          go_roundw
          case rel => exact ⟨i + 1, by omega, by go_num, HBWj.out⟩
          case measure => simp [intOf]; omega
    · have hin : i = 10 := by omega
      subst hin
      have HBE := hide (below_step HBW.out HBr.out)
      go_wp2
      go_ret
      exact ⟨rfl, HBE.out⟩
end Go.Proofs.Ytncnghbkdbhpbaa
