/- The law's beginning holds. -/
import Derived.Test.YtaebbfilgfkckaaEO
namespace Go.Proofs.Ytaebbfilgfkckaa
open Go.RowKit Go.Sort
open Go
theorem has_of {w : World} {B : Nat} {p : Option Addr} {n c : Nat} {ps : List Pt} (h : Owns w B (.slice p n c) ps) (_hl : ps.length = n) : Has w p ps := by
  obtain ⟨q, c', e, k, _⟩ := h.form
  injection e with e1
  rw [e1]; exact k
theorem ihas_of {w : World} {B : Nat} {p : Option Addr} {n c : Nat} {l : List Int} (h : IOwns w B (.slice p n c) l) : IHas w p l := by
  obtain ⟨q, c', e, k, _⟩ := h.form
  injection e with e1
  rw [e1]; exact k
theorem k5_len : (fullL 5 5).length = 10 := by decide
theorem k33_len : (twoL 3 3 3).length = 9 := by decide
theorem kind30five (w : World) : Calls Try.prog 30 #[.string ⟨#[99, 111, 109, 112, 108, 101, 116, 101]⟩, .int .i64 5, .int .i64 0, .int .u64 0] w fun e w' => ∃ p c, e = .returned (.tuple #[nv 5 p 10 c, .int .i64 0]) ∧ Has w' p (fullL 5 5) ∧ Below w.heap.size w w' := by
  have hO : madeO ((5 : Nat) : Int) (fullL 5 5) = ⟨5, fullL 5 5, 0⟩ := by unfold madeO; rw [if_pos (by decide)]; rfl
  refine (kcomplete_o (madeO ((5 : Nat) : Int) (fullL 5 5)) 5 0 0 w (by omega) (by omega) fun W => complete24ok 5 W (by omega) (by omega)).mono ?_
  rw [hO]
  rintro e w' ⟨hb, p, c, rfl, ho⟩
  rw [show (fullL 5 5).length = 10 from k5_len] at ho ⊢
  exact ⟨p, c, rfl, has_of ho k5_len, hb⟩
theorem kind30threes (w : World) : Calls Try.prog 30 #[.string ⟨#[116, 119, 111]⟩, .int .i64 3, .int .i64 3, .int .u64 0] w fun e w' => ∃ p c, e = .returned (.tuple #[nv 6 p 9 c, .int .i64 0]) ∧ Has w' p (twoL 3 3 3) ∧ Below w.heap.size w w' := by
  have hO : madeO (((3 : Nat) : Int) + (3 : Nat)) (twoL 3 3 3) = ⟨6, twoL 3 3 3, 0⟩ := by unfold madeO; rw [if_pos (by decide)]; rfl
  refine (ktwo_o (madeO (((3 : Nat) : Int) + (3 : Nat)) (twoL 3 3 3)) 3 3 0 w (by omega) (by omega) (by omega) (by omega) fun W => sides25ok 3 3 9 W (by omega) (by omega) (by omega) (by omega) (by omega)).mono ?_
  rw [hO]
  rintro e w' ⟨hb, p, c, rfl, ho⟩
  rw [show (twoL 3 3 3).length = 9 from k33_len] at ho ⊢
  exact ⟨p, c, rfl, has_of ho k33_len, hb⟩
theorem k5_kn : knI 5 (fullL 5 5) (upL 10) = 5 := by unfold knI; rw [if_pos k5_is]; exact k5_kd
theorem k33_kn : knI 6 (twoL 3 3 3) (upL 9) = 33 := by unfold knI; rw [if_pos k33_is]; exact k33_kd
theorem k5_sub : subE 5 (fullL 5 5) (upL 10) = 0 := k5_is.1
theorem k33_sub : subE 6 (twoL 3 3 3) (upL 9) = 0 := k33_is.1
theorem k5_ob : obE 5 (fullL 5 5) (upL 10) = 0 := ob_is.2 k5_is
theorem k33_ob : obE 6 (twoL 3 3 3) (upL 9) = 0 := ob_is.2 k33_is
theorem k5_pt : (ptS 5 (pick (fullL 5 5) (upL 10))).length = 10 := by rw [pt_length, k5_kd]; exact j5_length
theorem k33_bs : (bsS 6 (pick (twoL 3 3 3) (upL 9))).length = 6 := by
  have := bs_len (n := 6) (pk := pick (twoL 3 3 3) (upL 9)) (by rw [k33_kd]; decide)
  rw [k33_kd] at this
  omega
set_option maxRecDepth 100000 in
set_option maxHeartbeats 16000000 in
theorem begun6 (w : World) : Calls Try.prog 6 #[] w fun e w' => e = .returned (.bool true) ∧ Below w.heap.size w w' := by
  have G5 := hide (kind30five w)
  go_enter Try.func6, Try.ntmps6
  go_wp2_with fail
  refine G5.out.mono ?_
  rintro r w1 ⟨p1, c1, rfl, h1, hb1⟩
  obtain ⟨A, hA, hbA, nA⟩ : ∃ A, A = w1.alloc (nbx 5 p1 10 c1) ∧ Below w1.heap.size w1 A ∧ NOwn A w1.heap.size 5 p1 10 c1 := ⟨_, rfl, by go_grown, ⟨by go_cell, by go_cell, by simp [go_sem], by simp [go_sem]⟩⟩
  have HA5 := hide (h1.later hbA)
  have HN5 := hide nA
  have HBA := hide (below_step hb1 hbA)
  have G33 := hide (kind30threes A)
  obtain ⟨k1, hk1⟩ : ∃ k, w1.heap.size = k := ⟨_, rfl⟩
  clear G5 h1 hb1 hbA nA
  go_upto_region 2 with fail
  rw [← hA]
  rw [hk1] at HN5
  try rw [hk1]
  clear hA hk1
  go_wp2_with fail
  refine G33.out.mono ?_
  rintro r w2 ⟨p2, c2, rfl, h2, hb2⟩
  obtain ⟨C, hC, hbC, nC⟩ : ∃ C, C = w2.alloc (nbx 6 p2 9 c2) ∧ Below w2.heap.size w2 C ∧ NOwn C w2.heap.size 6 p2 9 c2 := ⟨_, rfl, by go_grown, ⟨by go_cell, by go_cell, by simp [go_sem], by simp [go_sem]⟩⟩
  have HBC := hide (below_step HBA.out (below_step hb2 hbC))
  have HC := hide (nC)
  have HC5 := hide ((HN5.out.later hb2).later hbC)
  have HH5 : Hid (∀ V, Below C.heap.size C V → Has V p1 (fullL 5 5)) := fun V hV => ((HA5.out.later hb2).later hbC).later hV
  have HH33 : Hid (∀ V, Below C.heap.size C V → Has V p2 (twoL 3 3 3)) := fun V hV => (h2.later hbC).later hV
  obtain ⟨k2, hk2⟩ : ∃ k, w2.heap.size = k := ⟨_, rfl⟩
  have CU10 : Hid (∀ V, Calls Try.prog 29 #[.int .i64 10] V fun e w' => ∃ p c, e = .returned (.slice p 10 c) ∧ IHas w' p (upL 10) ∧ Below V.heap.size V w') := fun V => (upto29 10 V (by omega)).mono fun e w' ⟨p, c, h1, h2, h3⟩ => ⟨p, c, h1, ihas_of h2, h3⟩
  have CU9 : Hid (∀ V, Calls Try.prog 29 #[.int .i64 9] V fun e w' => ∃ p c, e = .returned (.slice p 9 c) ∧ IHas w' p (upL 9) ∧ Below V.heap.size V w') := fun V => (upto29 9 V (by omega)).mono fun e w' ⟨p, c, h1, h2, h3⟩ => ⟨p, c, h1, ihas_of h2, h3⟩
  have K12a : Hid (∀ V q cq, Below C.heap.size C V → IHas V q (upL 10) → Calls Try.prog 12 #[nv 5 p1 10 c1, .slice q 10 cq] V fun e w' => e = .returned (.tuple #[.int .i64 5, .int .i64 0]) ∧ Below V.heap.size V w') := fun V q cq hV hq => by
    have := kind12 5 p1 q (fullL 5 5) (upL 10) c1 cq V (by rw [upL_length]; unfold maxLen; omega) (HH5.out V hV) hq
    rw [k5_kn, k5_sub, upL_length, k5_len] at this
    exact this
  have K12b : Hid (∀ V q cq, Below C.heap.size C V → IHas V q (upL 9) → Calls Try.prog 12 #[nv 6 p2 9 c2, .slice q 9 cq] V fun e w' => e = .returned (.tuple #[.int .i64 33, .int .i64 0]) ∧ Below V.heap.size V w') := fun V q cq hV hq => by
    have := kind12 6 p2 q (twoL 3 3 3) (upL 9) c2 cq V (by rw [upL_length]; unfold maxLen; omega) (HH33.out V hV) hq
    rw [k33_kn, k33_sub, upL_length, k33_len] at this
    exact this
  have K13 : Hid (∀ V q cq, Below C.heap.size C V → IHas V q (upL 9) → Calls Try.prog 13 #[nv 6 p2 9 c2, .slice q 9 cq] V fun e w' => ∃ pb cb, e = .returned (.tuple #[.slice pb 6 cb, .int .i64 0]) ∧ Below V.heap.size V w') := fun V q cq hV hq => by
    have := branch13 6 p2 q (twoL 3 3 3) (upL 9) c2 cq V (by rw [upL_length]; unfold maxLen; omega) (HH33.out V hV) hq
    rw [k33_ob, upL_length, k33_len] at this
    refine this.mono ?_
    rintro e w' ⟨b, c, rfl, hf, hb⟩
    rcases hf with ⟨hn, _⟩ | ⟨_, _, p, cp, g, rv, rfl, _⟩
    · exact absurd k33_is hn
    · exact ⟨p, cp, by rw [show (bsS (6 : Int).toNat (pick (twoL 3 3 3) (upL 9))).length = 6 from k33_bs], hb⟩
  have K14 : Hid (∀ V q cq, Below C.heap.size C V → IHas V q (upL 10) → Calls Try.prog 14 #[nv 5 p1 10 c1, .slice q 10 cq] V fun e w' => ∃ pb cb, e = .returned (.tuple #[.slice pb 10 cb, .int .i64 0]) ∧ Below V.heap.size V w') := fun V q cq hV hq => by
    have := paths14 5 p1 q (fullL 5 5) (upL 10) c1 cq V (by rw [upL_length]; unfold maxLen; omega) (HH5.out V hV) hq
    rw [k5_ob, upL_length, k5_len] at this
    refine this.mono ?_
    rintro e w' ⟨b, c, rfl, hf, hb⟩
    rcases hf with ⟨hn, _⟩ | ⟨_, _, p, cp, g, rv, _, rfl, _⟩
    · exact absurd k5_is hn
    · exact ⟨_, _, by rw [show (ptS (5 : Int).toNat (pick (fullL 5 5) (upL 10))).length = 10 from k5_pt], hb⟩
  have K15 : Hid (∀ V q cq, Below C.heap.size C V → IHas V q (upL 10) → Calls Try.prog 15 #[nv 5 p1 10 c1, .slice q 10 cq] V fun e w' => ∃ m pb cb, e = .returned (.tuple #[nv m pb 10 cb, .int .i64 0]) ∧ Below V.heap.size V w') := fun V q cq hV hq => by
    have := shrink15 5 p1 q (fullL 5 5) (upL 10) c1 cq V (by rw [upL_length]; unfold maxLen; omega) (HH5.out V hV) hq
    rw [upL_length, k5_len] at this
    refine this.mono ?_
    rintro e w' ⟨hs, hb⟩
    rcases hs with ⟨hn, _⟩ | ⟨_, p, c, rfl, _⟩
    · exact absurd k5_ob hn
    · refine ⟨((bsS (5 : Int).toNat (pick (fullL 5 5) (upL 10))).length : Nat), p, c, ?_, hb⟩
      rw [k5_kn, show (jsK 5).length = 10 from j5_length]
  have HS : Hid (∀ V, Below C.heap.size C V → (V.cell? ⟨k1, 0, none⟩ = some (.int .i64 5) ∧ V.cell? ⟨k1, 1, none⟩ = some (.slice p1 10 c1)) ∧ V.cell? ⟨k2, 0, none⟩ = some (.int .i64 6) ∧ V.cell? ⟨k2, 1, none⟩ = some (.slice p2 9 c2)) := fun V hV => by
    have a := HC5.out.later hV
    have b := HC.out.later hV
    rw [hk2] at b
    exact ⟨⟨a.1, a.2.1⟩, b.1, b.2.1⟩
  clear G33 h2 hb2 hbC nC
  go_upto_region 3 with fail
  rw [← hC]
  try rw [hk2]
  clear hC hk2
  obtain ⟨⟨s0, s1⟩, s2, s3⟩ := HS.out C (Below.refl _ _)
  go_region_held3 (fun V => (V.cell? ⟨k1, 0, none⟩ = some (.int .i64 5) ∧ V.cell? ⟨k1, 1, none⟩ = some (.slice p1 10 c1)) ∧ V.cell? ⟨k2, 0, none⟩ = some (.int .i64 6) ∧ V.cell? ⟨k2, 1, none⟩ = some (.slice p2 9 c2))
    (first | exact HS.out _ (below_drew C) | exact HS.out _ (Below.refl _ _) | exact HS.out _ HU3.out | exact HS.out _ HV3.out)
    (first | (go_at_call 12; refine (K12a.out _ _ _ HU3.out HI3.out).mono ?_; rintro e w3 ⟨rfl, hb3⟩; have HV3 := hide (below_step HU3.out hb3); clear hb3 s0 s1 s2 s3; obtain ⟨⟨s0, s1⟩, s2, s3⟩ := HS.out w3 HV3.out) | (go_at_call 29; refine (CU10.out _).mono ?_; rintro e u3 ⟨q3, d3, rfl, hi3, hb3⟩; have HU3 := hide (below_step (below_drew C) hb3); have HI3 := hide hi3; clear hb3 hi3 s0 s1 s2 s3; obtain ⟨⟨s0, s1⟩, s2, s3⟩ := HS.out u3 HU3.out))
  rename_i hHeld3
  clear hHeld3
  go_upto_region 4 with fail
  go_region_held3 (fun V => (V.cell? ⟨k1, 0, none⟩ = some (.int .i64 5) ∧ V.cell? ⟨k1, 1, none⟩ = some (.slice p1 10 c1)) ∧ V.cell? ⟨k2, 0, none⟩ = some (.int .i64 6) ∧ V.cell? ⟨k2, 1, none⟩ = some (.slice p2 9 c2))
    (first | exact HS.out _ (below_step HV3.out (below_drew w3)) | exact HS.out _ HV3.out | exact HS.out _ HU4.out | exact HS.out _ HV4.out)
    (first | (go_at_call 12; refine (K12b.out _ _ _ HU4.out HI4.out).mono ?_; rintro e w4 ⟨rfl, hb4⟩; have HV4 := hide (below_step HU4.out hb4); clear hb4 s0 s1 s2 s3; obtain ⟨⟨s0, s1⟩, s2, s3⟩ := HS.out w4 HV4.out) | (go_at_call 29; refine (CU9.out _).mono ?_; rintro e u4 ⟨q4, d4, rfl, hi4, hb4⟩; have HU4 := hide (below_step (below_step HV3.out (below_drew w3)) hb4); have HI4 := hide hi4; clear hb4 hi4 s0 s1 s2 s3; obtain ⟨⟨s0, s1⟩, s2, s3⟩ := HS.out u4 HU4.out))
  rename_i hHeld4
  clear hHeld4
  go_upto_region 5 with fail
  go_region_held3 (fun V => (V.cell? ⟨k1, 0, none⟩ = some (.int .i64 5) ∧ V.cell? ⟨k1, 1, none⟩ = some (.slice p1 10 c1)) ∧ V.cell? ⟨k2, 0, none⟩ = some (.int .i64 6) ∧ V.cell? ⟨k2, 1, none⟩ = some (.slice p2 9 c2))
    (first | exact HS.out _ (below_step HV4.out (below_drew w4)) | exact HS.out _ HV4.out | exact HS.out _ HU5.out | exact HS.out _ HV5.out)
    (first | (go_at_call 13; refine (K13.out _ _ _ HU5.out HI5.out).mono ?_; rintro e w5 ⟨pb, cb, rfl, hb5⟩; have HV5 := hide (below_step HU5.out hb5); clear hb5 s0 s1 s2 s3; obtain ⟨⟨s0, s1⟩, s2, s3⟩ := HS.out w5 HV5.out) | (go_at_call 29; refine (CU9.out _).mono ?_; rintro e u5 ⟨q5, d5, rfl, hi5, hb5⟩; have HU5 := hide (below_step (below_step HV4.out (below_drew w4)) hb5); have HI5 := hide hi5; clear hb5 hi5 s0 s1 s2 s3; obtain ⟨⟨s0, s1⟩, s2, s3⟩ := HS.out u5 HU5.out))
  rename_i hHeld5
  clear hHeld5
  go_upto_region 6 with fail
  go_region_held3 (fun V => (V.cell? ⟨k1, 0, none⟩ = some (.int .i64 5) ∧ V.cell? ⟨k1, 1, none⟩ = some (.slice p1 10 c1)) ∧ V.cell? ⟨k2, 0, none⟩ = some (.int .i64 6) ∧ V.cell? ⟨k2, 1, none⟩ = some (.slice p2 9 c2))
    (first | exact HS.out _ (below_step HV5.out (below_drew w5)) | exact HS.out _ HV5.out | exact HS.out _ HU6.out | exact HS.out _ HV6.out)
    (first | (go_at_call 14; refine (K14.out _ _ _ HU6.out HI6.out).mono ?_; rintro e w6 ⟨pc, cc, rfl, hb6⟩; have HV6 := hide (below_step HU6.out hb6); clear hb6 s0 s1 s2 s3; obtain ⟨⟨s0, s1⟩, s2, s3⟩ := HS.out w6 HV6.out) | (go_at_call 29; refine (CU10.out _).mono ?_; rintro e u6 ⟨q6, d6, rfl, hi6, hb6⟩; have HU6 := hide (below_step (below_step HV5.out (below_drew w5)) hb6); have HI6 := hide hi6; clear hb6 hi6 s0 s1 s2 s3; obtain ⟨⟨s0, s1⟩, s2, s3⟩ := HS.out u6 HU6.out))
  rename_i hHeld6
  clear hHeld6
  go_upto_region 7 with fail
  have HD6 := hide (below_step HV6.out (below_drew w6))
  have HA6 : Hid (Below C.heap.size C (w6.alloc (nbx 0 none 0 0)).drew) := below_step HV6.out (by go_grown)
  have HN6 : Hid (NOwn (w6.alloc (nbx 0 none 0 0)).drew w6.heap.size 0 none 0 0) := ⟨by go_cell, by go_cell, by simp [go_sem], by simp [go_sem]⟩
  have hz6 : C.heap.size ≤ w6.heap.size := HV6.out.size
  go_cut [13, 14] (fun s13 s14 wx => ∃ (kd : Nat) (pd : Option Addr) (cd : Nat), s13 = .pointer (some ⟨kd, 0, none⟩) ∧ s14 = .int .i64 0 ∧ Hid (wx.cell? ⟨kd, 1, none⟩ = some (.slice pd 10 cd)) ∧ Hid (Below C.heap.size C wx))
  case first =>
    go_region_held3 (fun V => (V.cell? ⟨k1, 0, none⟩ = some (.int .i64 5) ∧ V.cell? ⟨k1, 1, none⟩ = some (.slice p1 10 c1)) ∧ V.cell? ⟨k2, 0, none⟩ = some (.int .i64 6) ∧ V.cell? ⟨k2, 1, none⟩ = some (.slice p2 9 c2))
      (first | with_reducible exact HS.out _ HD6.out | with_reducible exact HS.out _ HA6.out | with_reducible exact HS.out _ HU7.out | with_reducible exact HS.out _ HX7.out | with_reducible exact HS.out _ HV7.out | (with_reducible refine HS.out _ ((HV7.out.setCell ?_ _).setCell ?_ _) <;> exact HZ7.out) | (with_reducible refine HS.out _ ((HV7.out.setCell ?_ _).setCell ?_ _) <;> exact hz6) | (refine HS.out _ (below_step HV7.out ?_); go_grown) | fail)
      (first | (go_at_call 29; refine (CU10.out w6.drew).mono ?_; rintro e u7 ⟨q7, d7, rfl, hi7, hb7⟩; have HU7 := hide (below_step HD6.out hb7); have HI7 := hide hi7; have HZ7 : Hid (C.heap.size ≤ u7.heap.size) := HU7.out.size; have HX7 : Hid (Below C.heap.size C (u7.alloc (nbx 0 none 0 0))) := below_step HU7.out (by go_grown); have HIX : Hid (IHas (u7.alloc (nbx 0 none 0 0)) q7 (upL 10)) := hi7.later (by go_grown); have HNX : Hid (NOwn (u7.alloc (nbx 0 none 0 0)) u7.heap.size 0 none 0 0) := ⟨by go_cell, by go_cell, by simp [go_sem], by simp [go_sem]⟩; clear hb7 hi7 s0 s1 s2 s3; obtain ⟨⟨s0, s1⟩, s2, s3⟩ := HS.out u7 HU7.out) | (go_at_call 29; refine (CU10.out (w6.alloc (nbx 0 none 0 0)).drew).mono ?_; rintro e u7 ⟨q7, d7, rfl, hi7, hb7⟩; have HU7 := hide (below_step HA6.out hb7); have HI7 := hide hi7; have HNU := hide (HN6.out.later hb7); clear hb7 hi7 s0 s1 s2 s3; obtain ⟨⟨s0, s1⟩, s2, s3⟩ := HS.out u7 HU7.out) | (go_at_call 15; have HNU' := HNU; refine (K15.out _ _ _ HU7.out HI7.out).mono ?_; rintro e w7 ⟨mm, pd, cd, rfl, hb7⟩; have HV7 := hide (below_step HU7.out hb7); have HN8 := hide (HNU.out.later hb7); clear hb7 s0 s1 s2 s3; obtain ⟨⟨s0, s1⟩, s2, s3⟩ := HS.out w7 HV7.out; obtain ⟨t0, t1, t2, t3⟩ := HN8.out) | (go_at_call 15; refine (K15.out _ _ _ HU7.out HI7.out).mono ?_; rintro e w7 ⟨mm, pd, cd, rfl, hb7⟩; have HV7 := hide (below_step HU7.out hb7); clear hb7 s0 s1 s2 s3; obtain ⟨⟨s0, s1⟩, s2, s3⟩ := HS.out w7 HV7.out) | (go_at_call 15; refine (K15.out _ _ _ HX7.out HIX.out).mono ?_; rintro e w7 ⟨mm, pd, cd, rfl, hb7⟩; have HV7 := hide (below_step HX7.out hb7); have HN8 := hide (HNX.out.later hb7); clear hb7 s0 s1 s2 s3; obtain ⟨⟨s0, s1⟩, s2, s3⟩ := HS.out w7 HV7.out; obtain ⟨t0, t1, t2, t3⟩ := HN8.out))
    all_goals go_wp2_with fail
    all_goals go_meet
    · refine ⟨w7.heap.size, pd, cd, rfl, rfl, ?_, below_step HV7.out (by go_grown)⟩
      show _ = _
      go_cell
    · refine ⟨u7.heap.size, pd, cd, rfl, rfl, ?_, (HV7.out.setCell (by exact HZ7.out) _).setCell (by exact HZ7.out) _⟩
      exact (HN8.out.set mm pd 10 cd).2.1
    · refine ⟨w6.heap.size, pd, cd, rfl, rfl, ?_, (HV7.out.setCell (by exact hz6) _).setCell (by exact hz6) _⟩
      exact (HN8.out.set mm pd 10 cd).2.1
  case rest =>
    obtain ⟨kd, pd, cd, rfl, rfl, HKD, HBD⟩ := hcut
    have t1 := HKD.out
    go_wp2
    go_ret
    exact ⟨retB (by rfl), below_step HBC.out HBD.out⟩
end Go.Proofs.Ytaebbfilgfkckaa
