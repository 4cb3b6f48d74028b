/- MakerShapes' walk. -/
import Derived.Test.YtncnghbkdbhpbaaX5
import Derived.Test.YtncnghbkdbhpbaaX7
import Derived.Test.YtncnghbkdbhpbaaH2
namespace Go.Proofs.Ytncnghbkdbhpbaa
open Go.RowKit Go.Sort
open Go

set_option maxRecDepth 100000 in
set_option maxHeartbeats 4000000 in
theorem shapes_out (n m : Int) (w : World) (h : n < 3 ∨ (¬ n < 3 ∧ 40 < n) ∨ (¬ n < 3 ∧ ¬ 40 < n ∧ m < 1) ∨ (¬ n < 3 ∧ ¬ 40 < n ∧ ¬ m < 1 ∧ 20 < m)) : Calls Try.prog 4 #[.int .i64 n, .int .i64 m] w fun e w' => e = .returned (.bool true) ∧ Below w.heap.size w w' := by
  have BG := hide (begun6 w)
  rcases h with h | ⟨h, h1⟩ | ⟨h, h1, h2⟩ | ⟨h, h1, h2, h3⟩
  all_goals
    go_enter Try.func4, Try.ntmps4
    go_wp2_with fail
    refine BG.out.mono ?_
    rintro e w0 ⟨rfl, hb0⟩
    have HB0 := hide hb0
    clear hb0
    go_wp2
    go_ret
    exact ⟨rfl, HB0.out⟩
theorem has_made {w : World} {B : Nat} {p : Option Addr} {es : List Pt} {c : Nat} (h : Owns w B (.slice p es.length c) es) : Has w p es := by
  obtain ⟨p', c', h1, h2, _⟩ := h.form
  simp only [Value.slice.injEq] at h1
  rw [h1.1]
  exact h2
set_option maxRecDepth 100000 in
set_option maxHeartbeats 8000000 in
theorem shapes_six (n m : Nat) (N1 N2 N3 N4 N5 N6 : Nat) (E1 E2 E3 E4 E5 E6 : List Pt) (w : World) (C1 : ∀ W, Calls Try.prog 12 #[.int .i64 n] W fun e w' => Made W N1 E1 0 e w') (C2 : ∀ W, Calls Try.prog 13 #[.int .i64 n] W fun e w' => Made W N2 E2 0 e w') (C3 : ∀ W, Calls Try.prog 14 #[.int .i64 n] W fun e w' => Made W N3 E3 0 e w') (C4 : ∀ W, Calls Try.prog 15 #[.int .i64 n] W fun e w' => Made W N4 E4 0 e w') (C5 : ∀ W, Calls Try.prog 16 #[.int .i64 n, .int .i64 m] W fun e w' => Made W N5 E5 0 e w') (C6 : ∀ W, Calls Try.prog 17 #[.int .i64 n, .int .i64 m] W fun e w' => Made W N6 E6 0 e w') (F1 : Fine N1 E1) (F2 : Fine N2 E2) (F3 : Fine N3 E3) (F4 : Fine N4 E4) (F5 : Fine N5 E5) (F6 : Fine N6 E6) (q4 A5 A6 : Int) (b1 : 3 ≤ n) (b2 : n ≤ 40) (b3 : 1 ≤ m) (b4 : m ≤ 20) (l1 : (E1.length : Int) = n) (l2 : (E2.length : Int) = 2 * n) (k2 : (N2 : Int) = n + 1) (l3 : (E3.length : Int) = 3 * n) (d1 : leN (degN E3 N3 E3.length) N3 = 3) (d2 : grN (degN E3 N3 E3.length) N3 = 3) (l4 : (E4.length : Int) = q4) (x4 : (n : Int) * ((n : Int) - 1) = 2 * q4) (z4 : 0 ≤ q4) (z4' : q4 ≤ 1000) (l5 : (E5.length : Int) = A5) (x5 : (n : Int) * m = A5) (z5 : 0 ≤ A5) (z5' : A5 ≤ 2000) (l6 : (E6.length : Int) = A6 - n - m) (x6 : 2 * (n : Int) * m = A6) (z6 : 0 ≤ A6) (z6' : A6 ≤ 2000) : Calls Try.prog 4 #[.int .i64 n, .int .i64 m] w fun e w' => e = .returned (.bool true) ∧ Below w.heap.size w w' := by
  have BG := hide (begun6 w)
  have M1 := hide C1
  have HF1 := hide F1
  have M2 := hide C2
  have HF2 := hide F2
  have M3 := hide C3
  have HF3 := hide F3
  have M4 := hide C4
  have HF4 := hide F4
  have M5 := hide C5
  have HF5 := hide F5
  have M6 := hide C6
  have HF6 := hide F6
  have HE := hide (And.intro l1 (And.intro l2 (And.intro k2 (And.intro l3 (And.intro l4 (And.intro x4 (And.intro l5 (And.intro x5 (And.intro l6 x6)))))))))
  have HLV : Hid (lookV E3 N3 = .agg #[.int .i64 0, .int .i64 0, .int .i64 3, .int .i64 3, .bool true]) := by
    show _ = _
    unfold lookV
    rw [F3.simple.1, F3.simple.2, d1, d2]
    rfl
  clear C1 C2 C3 C4 C5 C6 F1 F2 F3 F4 F5 F6 l1 l2 k2 l3 l4 x4 l5 x5 l6 x6 d1 d2
  have i1 : ¬ (n : Int) < 3 := by omega
  have i2 : ¬ (40 : Int) < n := by omega
  have i3 : ¬ (m : Int) < 1 := by omega
  have i4 : ¬ (20 : Int) < m := by omega
  go_enter Try.func4, Try.ntmps4
  go_wp2_with fail
  refine BG.out.mono ?_
  rintro e X0 ⟨rfl, hb0⟩
  have HB0 := hide hb0
  clear hb0 BG
  go_wp2_with fail
  refine (M1.out X0).mono ?_
  rintro e w1 ⟨hb1, p1, c1, rfl, ho1⟩
  obtain ⟨X1, hX1⟩ : ∃ X, X = w1.alloc (.cells #[.int .i64 N1, .slice p1 E1.length c1] 28) := ⟨_, rfl⟩
  have hbX : Below w1.heap.size w1 X1 := by rw [hX1]; go_grown
  have hbY := below_step hb1 hbX
  have HB1 := hide (below_step HB0.out hbY)
  have HN1 : Hid (NOwn X1 w1.heap.size N1 p1 E1.length c1) := by show NOwn _ _ _ _ _ _; rw [hX1]; exact ⟨by go_cell, by go_cell, by go_cell, by go_cell⟩
  have HH1 := hide ((has_made ho1).later hbX)
  clear hbX hbY hb1 ho1 HB0
  go_wp2_with fail
  rw [← hX1]
  clear hX1
  refine (M2.out X1).mono ?_
  rintro e w2 ⟨hb2, p2, c2, rfl, ho2⟩
  obtain ⟨X2, hX2⟩ : ∃ X, X = w2.alloc (.cells #[.int .i64 N2, .slice p2 E2.length c2] 28) := ⟨_, rfl⟩
  have hbX : Below w2.heap.size w2 X2 := by rw [hX2]; go_grown
  have hbY := below_step hb2 hbX
  have HB2 := hide (below_step HB1.out hbY)
  have HN2 : Hid (NOwn X2 w2.heap.size N2 p2 E2.length c2) := by show NOwn _ _ _ _ _ _; rw [hX2]; exact ⟨by go_cell, by go_cell, by go_cell, by go_cell⟩
  have HH2 := hide ((has_made ho2).later hbX)
  replace HN1 := hide (HN1.out.later hbY)
  replace HH1 := hide (HH1.out.later hbY)
  clear hbX hbY hb2 ho2 HB1
  go_wp2_with fail
  rw [← hX2]
  clear hX2
  refine (M3.out X2).mono ?_
  rintro e w3 ⟨hb3, p3, c3, rfl, ho3⟩
  obtain ⟨X3, hX3⟩ : ∃ X, X = w3.alloc (.cells #[.int .i64 N3, .slice p3 E3.length c3] 28) := ⟨_, rfl⟩
  have hbX : Below w3.heap.size w3 X3 := by rw [hX3]; go_grown
  have hbY := below_step hb3 hbX
  have HB3 := hide (below_step HB2.out hbY)
  have HN3 : Hid (NOwn X3 w3.heap.size N3 p3 E3.length c3) := by show NOwn _ _ _ _ _ _; rw [hX3]; exact ⟨by go_cell, by go_cell, by go_cell, by go_cell⟩
  have HH3 := hide ((has_made ho3).later hbX)
  replace HN1 := hide (HN1.out.later hbY)
  replace HH1 := hide (HH1.out.later hbY)
  replace HN2 := hide (HN2.out.later hbY)
  replace HH2 := hide (HH2.out.later hbY)
  clear hbX hbY hb3 ho3 HB2
  go_wp2_with fail
  rw [← hX3]
  clear hX3
  refine (M4.out X3).mono ?_
  rintro e w4 ⟨hb4, p4, c4, rfl, ho4⟩
  obtain ⟨X4, hX4⟩ : ∃ X, X = w4.alloc (.cells #[.int .i64 N4, .slice p4 E4.length c4] 28) := ⟨_, rfl⟩
  have hbX : Below w4.heap.size w4 X4 := by rw [hX4]; go_grown
  have hbY := below_step hb4 hbX
  have HB4 := hide (below_step HB3.out hbY)
  have HN4 : Hid (NOwn X4 w4.heap.size N4 p4 E4.length c4) := by show NOwn _ _ _ _ _ _; rw [hX4]; exact ⟨by go_cell, by go_cell, by go_cell, by go_cell⟩
  have HH4 := hide ((has_made ho4).later hbX)
  replace HN1 := hide (HN1.out.later hbY)
  replace HH1 := hide (HH1.out.later hbY)
  replace HN2 := hide (HN2.out.later hbY)
  replace HH2 := hide (HH2.out.later hbY)
  replace HN3 := hide (HN3.out.later hbY)
  replace HH3 := hide (HH3.out.later hbY)
  clear hbX hbY hb4 ho4 HB3
  go_wp2_with fail
  rw [← hX4]
  clear hX4
  refine (M5.out X4).mono ?_
  rintro e w5 ⟨hb5, p5, c5, rfl, ho5⟩
  obtain ⟨X5, hX5⟩ : ∃ X, X = w5.alloc (.cells #[.int .i64 N5, .slice p5 E5.length c5] 28) := ⟨_, rfl⟩
  have hbX : Below w5.heap.size w5 X5 := by rw [hX5]; go_grown
  have hbY := below_step hb5 hbX
  have HB5 := hide (below_step HB4.out hbY)
  have HN5 : Hid (NOwn X5 w5.heap.size N5 p5 E5.length c5) := by show NOwn _ _ _ _ _ _; rw [hX5]; exact ⟨by go_cell, by go_cell, by go_cell, by go_cell⟩
  have HH5 := hide ((has_made ho5).later hbX)
  replace HN1 := hide (HN1.out.later hbY)
  replace HH1 := hide (HH1.out.later hbY)
  replace HN2 := hide (HN2.out.later hbY)
  replace HH2 := hide (HH2.out.later hbY)
  replace HN3 := hide (HN3.out.later hbY)
  replace HH3 := hide (HH3.out.later hbY)
  replace HN4 := hide (HN4.out.later hbY)
  replace HH4 := hide (HH4.out.later hbY)
  clear hbX hbY hb5 ho5 HB4
  go_wp2_with fail
  rw [← hX5]
  clear hX5
  refine (M6.out X5).mono ?_
  rintro e w6 ⟨hb6, p6, c6, rfl, ho6⟩
  obtain ⟨X6, hX6⟩ : ∃ X, X = w6.alloc (.cells #[.int .i64 N6, .slice p6 E6.length c6] 28) := ⟨_, rfl⟩
  have hbX : Below w6.heap.size w6 X6 := by rw [hX6]; go_grown
  have hbY := below_step hb6 hbX
  have HB6 := hide (below_step HB5.out hbY)
  have HN6 : Hid (NOwn X6 w6.heap.size N6 p6 E6.length c6) := by show NOwn _ _ _ _ _ _; rw [hX6]; exact ⟨by go_cell, by go_cell, by go_cell, by go_cell⟩
  have HH6 := hide ((has_made ho6).later hbX)
  have HNw := hide (HN3.out.later hb6)
  replace HN1 := hide (HN1.out.later hbY)
  replace HH1 := hide (HH1.out.later hbY)
  replace HN2 := hide (HN2.out.later hbY)
  replace HH2 := hide (HH2.out.later hbY)
  replace HN3 := hide (HN3.out.later hbY)
  replace HH3 := hide (HH3.out.later hbY)
  replace HN4 := hide (HN4.out.later hbY)
  replace HH4 := hide (HH4.out.later hbY)
  replace HN5 := hide (HN5.out.later hbY)
  replace HH5 := hide (HH5.out.later hbY)
  clear hbX hbY hb6 ho6 HB5
  have LK := hide (look18 N3 p3 E3 c3 X6 HH3.out HF3.out.net)
  rw [HLV.out] at LK
  obtain ⟨q0, q1, _, _⟩ := HNw.out
  have s3 : w3.heap.size < w6.heap.size := block_lt_of_cell q0
  have s3' : w3.heap.size ≠ w6.heap.size := by omega
  clear HLV HNw
  go_wp2_with fail
  rw [← hX6]
  clear hX6 q0 q1 s3 s3'
  refine LK.out.mono ?_
  rintro e w7 ⟨rfl, hb7⟩
  have HB7 := hide (below_step HB6.out hb7)
  clear LK
  replace HN1 := hide (HN1.out.later hb7)
  replace HH1 := hide (HH1.out.later hb7)
  obtain ⟨u1, v1, _, _⟩ := HN1.out
  have s1 : w1.heap.size < w7.heap.size := block_lt_of_cell u1
  have r1 : w1.heap.size ≠ w7.heap.size := by omega
  replace HN2 := hide (HN2.out.later hb7)
  replace HH2 := hide (HH2.out.later hb7)
  obtain ⟨u2, v2, _, _⟩ := HN2.out
  have s2 : w2.heap.size < w7.heap.size := block_lt_of_cell u2
  have r2 : w2.heap.size ≠ w7.heap.size := by omega
  replace HN3 := hide (HN3.out.later hb7)
  replace HH3 := hide (HH3.out.later hb7)
  obtain ⟨u3, v3, _, _⟩ := HN3.out
  have s3 : w3.heap.size < w7.heap.size := block_lt_of_cell u3
  have r3 : w3.heap.size ≠ w7.heap.size := by omega
  replace HN4 := hide (HN4.out.later hb7)
  replace HH4 := hide (HH4.out.later hb7)
  obtain ⟨u4, v4, _, _⟩ := HN4.out
  have s4 : w4.heap.size < w7.heap.size := block_lt_of_cell u4
  have r4 : w4.heap.size ≠ w7.heap.size := by omega
  replace HN5 := hide (HN5.out.later hb7)
  replace HH5 := hide (HH5.out.later hb7)
  obtain ⟨u5, v5, _, _⟩ := HN5.out
  have s5 : w5.heap.size < w7.heap.size := block_lt_of_cell u5
  have r5 : w5.heap.size ≠ w7.heap.size := by omega
  replace HN6 := hide (HN6.out.later hb7)
  replace HH6 := hide (HH6.out.later hb7)
  obtain ⟨u6, v6, _, _⟩ := HN6.out
  have s6 : w6.heap.size < w7.heap.size := block_lt_of_cell u6
  have r6 : w6.heap.size ≠ w7.heap.size := by omega
  clear hb7 HB6
  go_wp2_with fail
  obtain ⟨Z, hZ⟩ : ∃ Z, Z = (w7.alloc (.cells #[.int .i64 0, .int .i64 0, .int .i64 3, .int .i64 3, .bool true] 38)).alloc (.cells #[.int .i64 N1, .slice p1 E1.length c1, .int .i64 N2, .slice p2 E2.length c2, .int .i64 N3, .slice p3 E3.length c3, .int .i64 N4, .slice p4 E4.length c4, .int .i64 N5, .slice p5 E5.length c5, .int .i64 N6, .slice p6 E6.length c6] 28) := ⟨_, rfl⟩
  have hbZ : Below w7.heap.size w7 Z := by rw [hZ]; go_grown
  have HL2 : Hid (Z.cell? ⟨w7.heap.size, 2, none⟩ = some (.int .i64 3) ∧ Z.cell? ⟨w7.heap.size, 3, none⟩ = some (.int .i64 3)) := by show _ ∧ _; rw [hZ]; exact ⟨by go_cell, by go_cell⟩
  have HC : Hid (∀ i, i < 6 → ∃ (N : Nat) (E : List Pt) (p : Option Addr) (c : Nat), Fine N E ∧ Has Z p E ∧ Z.cell? ⟨w7.heap.size + 1, i * 2, none⟩ = some (.int .i64 N) ∧ Z.cell? ⟨w7.heap.size + 1, i * 2 + 1, none⟩ = some (.slice p E.length c)) := by
    intro i hi
    have h6 : i = 0 ∨ i = 1 ∨ i = 2 ∨ i = 3 ∨ i = 4 ∨ i = 5 := by omega
    rcases h6 with rfl | rfl | rfl | rfl | rfl | rfl
    · exact ⟨N1, E1, p1, c1, HF1.out, HH1.out.later hbZ, by rw [hZ]; go_cell, by rw [hZ]; go_cell⟩
    · exact ⟨N2, E2, p2, c2, HF2.out, HH2.out.later hbZ, by rw [hZ]; go_cell, by rw [hZ]; go_cell⟩
    · exact ⟨N3, E3, p3, c3, HF3.out, HH3.out.later hbZ, by rw [hZ]; go_cell, by rw [hZ]; go_cell⟩
    · exact ⟨N4, E4, p4, c4, HF4.out, HH4.out.later hbZ, by rw [hZ]; go_cell, by rw [hZ]; go_cell⟩
    · exact ⟨N5, E5, p5, c5, HF5.out, HH5.out.later hbZ, by rw [hZ]; go_cell, by rw [hZ]; go_cell⟩
    · exact ⟨N6, E6, p6, c6, HF6.out, HH6.out.later hbZ, by rw [hZ]; go_cell, by rw [hZ]; go_cell⟩
  have HM1 := hide (HN1.out.later hbZ)
  have HM2 := hide (HN2.out.later hbZ)
  have HM3 := hide (HN3.out.later hbZ)
  have HM4 := hide (HN4.out.later hbZ)
  have HM5 := hide (HN5.out.later hbZ)
  have HM6 := hide (HN6.out.later hbZ)
  have HBZ := hide (below_step HB7.out hbZ)
  rw [← hZ]
  clear hZ hbZ HB7 HN1 HH1 HF1 M1 u1 v1 s1 r1 HN2 HH2 HF2 M2 u2 v2 s2 r2 HN3 HH3 HF3 M3 u3 v3 s3 r3 HN4 HH4 HF4 M4 u4 v4 s4 r4 HN5 HH5 HF5 M5 u5 v5 s5 r5 HN6 HH6 HF6 M6 u6 v6 s6 r6
  obtain ⟨kz, hkz⟩ : ∃ kz, w7.heap.size + 1 = kz := ⟨_, rfl⟩
  rw [hkz] at HC ⊢
  clear hkz
  obtain ⟨kl, hkl⟩ : ∃ kl, w7.heap.size = kl := ⟨_, rfl⟩
  rw [hkl] at HL2 ⊢
  clear hkl
  obtain ⟨g1, hg1⟩ : ∃ g, w1.heap.size = g := ⟨_, rfl⟩
  rw [hg1] at HM1 ⊢
  clear hg1
  obtain ⟨g2, hg2⟩ : ∃ g, w2.heap.size = g := ⟨_, rfl⟩
  rw [hg2] at HM2 ⊢
  clear hg2
  obtain ⟨g3, hg3⟩ : ∃ g, w3.heap.size = g := ⟨_, rfl⟩
  rw [hg3] at HM3 ⊢
  clear hg3
  obtain ⟨g4, hg4⟩ : ∃ g, w4.heap.size = g := ⟨_, rfl⟩
  rw [hg4] at HM4 ⊢
  clear hg4
  obtain ⟨g5, hg5⟩ : ∃ g, w5.heap.size = g := ⟨_, rfl⟩
  rw [hg5] at HM5 ⊢
  clear hg5
  obtain ⟨g6, hg6⟩ : ∃ g, w6.heap.size = g := ⟨_, rfl⟩
  rw [hg6] at HM6 ⊢
  clear hg6
  go_loopw [19] (fun t wr => ∃ i : Nat, i ≤ 6 ∧ t = .int .i64 i ∧ Hid (Below Z.heap.size Z wr)) (fun t _ => 6 - (intOf t).toNat)
  case atStart => exact ⟨0, by omega, rfl, Below.refl _ _⟩
  case round =>
    obtain ⟨i, hi, rfl, HBr⟩ := hrel
    by_cases hlt : i < 6
    · obtain ⟨N, E, p, c, hF, hH, z0, z1⟩ := HC.out i hlt
      have HF := hide hF
      have y0 := later HBr.out z0
      have y1 := later HBr.out z1
      have HH := hide (hH.later HBr.out)
      have PT := hide (parts19 N p E c wr HH.out hF.net)
      have j1 : (i : Int) < 6 := by omega
      have j2 : (0 : Int) ≤ i := by omega
      clear hF hH z0 z1
      go_wp2_with fail
      refine PT.out.mono ?_
      rintro e w8 ⟨gc, k, C, r, rfl, _, hlab, hb8⟩
      have hk := HF.out.one hlab
      subst hk
      have y0' := later hb8 y0
      have y1' := later hb8 y1
      have LK := hide (look18 N p E c w8 (HH.out.later hb8) HF.out.net)
      have HV : Hid (lookV E N = .agg #[.int .i64 0, .int .i64 0, .int .i64 (leN (degN E N E.length) N), .int .i64 (grN (degN E N E.length) N), .bool true]) := by
        show _ = _
        unfold lookV
        rw [HF.out.simple.1, HF.out.simple.2]
        rfl
      rw [HV.out] at LK
      obtain ⟨le, hle⟩ : ∃ le, leN (degN E N E.length) N = le := ⟨_, rfl⟩
      obtain ⟨gr, hgr⟩ : ∃ gr, grN (degN E N E.length) N = gr := ⟨_, rfl⟩
      rw [hle, hgr] at LK
      have FL : ∀ V, Sem.run Try.prog (Instr.field 38 (.agg #[.int .i64 0, .int .i64 0, .int .i64 le, .int .i64 gr, .bool true]) 4) V = .ok (.bool true) V := fun V => by kernel_rfl
      have HB8 := hide (below_step HBr.out hb8)
      clear hle hgr HV hb8 hlab y0 y1 PT HH HF HBr
      go_wp2_with fail
      refine LK.out.mono ?_
      rintro e w9 ⟨rfl, hb9⟩
      have HB9 := hide (below_step HB8.out hb9)
      clear hb9 HB8 LK y0' y1'
      go_wp2
      go_roundw
      case rel => exact ⟨i + 1, by omega, by go_num, HB9.out⟩
      case measure => simp [intOf]; omega
    · have hin : i = 6 := by omega
      subst hin
      obtain ⟨l1, l2, k2, l3, l4, x4, l5, x5, l6, x6⟩ := HE.out
      obtain ⟨m2, m3⟩ := HL2.out
      have m2' := later HBr.out m2
      have m3' := later HBr.out m3
      obtain ⟨a1, b1', _, _⟩ := HM1.out.later HBr.out
      obtain ⟨a2, b2', _, _⟩ := HM2.out.later HBr.out
      obtain ⟨a3, b3', _, _⟩ := HM3.out.later HBr.out
      obtain ⟨a4, b4', _, _⟩ := HM4.out.later HBr.out
      obtain ⟨a5, b5', _, _⟩ := HM5.out.later HBr.out
      obtain ⟨a6, b6', _, _⟩ := HM6.out.later HBr.out
      have e1 : E1.length = n := by omega
      have e2 : E2.length = 2 * n := by omega
      have e3 : E3.length = 3 * n := by omega
      have f2 : N2 = n + 1 := by omega
      rw [e1] at b1'
      rw [e2] at b2'
      rw [e3] at b3'
      rw [f2] at a2
      obtain ⟨L4, hL4⟩ : ∃ L, E4.length = L := ⟨_, rfl⟩
      obtain ⟨L5, hL5⟩ : ∃ L, E5.length = L := ⟨_, rfl⟩
      obtain ⟨L6, hL6⟩ : ∃ L, E6.length = L := ⟨_, rfl⟩
      rw [hL4] at b4' l4
      rw [hL5] at b5' l5
      rw [hL6] at b6' l6
      rw [← l4] at x4
      have z4a : L4 ≤ 1000 := by omega
      rw [← l5] at x5
      have y6 : A6 - n - m = (L6 : Int) := l6.symm
      have z5a : L5 ≤ 2000 := by omega
      clear l1 l2 k2 l3 l4 l5 l6 e1 e2 e3 f2 hL4 hL5 hL6
      clear m2 m3 HC HE
      go_wp2
      go_ret
      exact ⟨rfl, below_step HBZ.out HBr.out⟩
end Go.Proofs.Ytncnghbkdbhpbaa
