/- asked, at a node beyond the net. -/
import Derived.Test.YtmmbbfmkhbengaaZ4
namespace Go.Proofs.Ytmmbbfmkhbengaa
open Go.RowKit Go.Sort
open Go

set_option maxRecDepth 100000 in
set_option maxHeartbeats 8000000 in
theorem asked_out (m : Nat) (B k : Nat) (p q : Option Addr) (es : List Pt) (cp cq : Nat) (v e0 : Int) (w : World) {blv : Value} {bn bsz : Nat} {brv : Nat → Value} {bL : Nat → List Int} (hbag : Bag w B k blv bn brv bL bsz) (hB : B ≤ w.heap.size) (hH : ∀ V, Below B w V → Has V p es) (hG : ∀ V, Below B w V → Has V q es) (hnil : q = none → cq = 0) (hm : netB m es = true) (h300 : m ≤ 300) (h3e : es.length ≤ 300) (hv : ¬ (0 ≤ v ∧ v < m)) : Calls Try.prog 14 #[nv m p es.length cp, nv m q es.length cq, .bool true, .int .i64 v, .int .i64 e0, .pointer (some ⟨k, 0, none⟩)] w fun e w' => e = .returned (.bool true) ∧ (∃ lv n rv L sz, Bag w' B k lv n rv L sz) ∧ Below B w w' := by
  obtain ⟨W, hW, hb, sh, sg⟩ := two_sbox w m m p q es.length cp es.length cq
  have HBS := hide hB
  have HH := hide hH
  have HG := hide hG
  have HBW : Hid (Below B w W) := hb.mono hB
  have HBW0 := HBW
  have BGW := hide (hbag.later hb)
  have SHW := hide sh
  have SGW := hide sg
  have HWS : Hid (W.heap.size = w.heap.size + 1 + 1) := by show _ = _; rw [hW]; simp
  have hbv : belowB v m = false := by simp [belowB]; omega
  have C26 : Hid (∀ V, Has V p es → Calls Try.prog 26 #[nv m p es.length cp, .int .i64 v] V fun e w' => ∃ s, e = .returned (.tuple #[s, .int .i64 2]) ∧ IOwns w' V.heap.size s [] ∧ Below V.heap.size V w') := fun V hV => by have := out26u m p es cp v V hV; rw [show outE m es v = 2 by simp [outE, hm, hbv], show outA m es v = [] by simp [outA, hm, hbv]] at this; exact this
  obtain ⟨A2, hA2⟩ : ∃ A, degN es m es.length = A := ⟨_, rfl⟩
  have HA2 : Hid (A2.length = m) := by show _ = _; rw [← hA2, ← dgH_even, dgH_length]
  have hdE : degE m es = 0 := by simp [degE, hm]
  have C25 : Hid (∀ V, Has V p es → Calls Try.prog 25 #[nv m p es.length cp] V fun e w' => ∃ s, e = .returned (.tuple #[s, .int .i64 0]) ∧ IOwns w' V.heap.size s A2 ∧ Below V.heap.size V w') := fun V hV => by have := deg25u m p es cp V hV; rw [hdE, show degA m es = A2 by simp [degA, hm, hA2]] at this; exact this
  obtain ⟨lk, hlk⟩ : ∃ l, lookA m es = l := ⟨_, rfl⟩
  have C33 : Hid (∀ V, Has V p es → Calls Try.prog 33 #[nv m p es.length cp] V fun e w' => e = .returned (.tuple #[lkV lk, .int .i64 0]) ∧ Below V.heap.size V w') := fun V hV => by have := look33u m p es cp V hV; rw [hdE, hlk] at this; exact this
  have C42 : Hid (∀ V, Has V q es → Calls Try.prog 42 #[nv m q es.length cq] V fun e w' => e = .returned (lkV lk) ∧ Below V.heap.size V w') := fun V hV => by have := look18 m q es cq V hV hm; rw [look_same hm, hlk] at this; exact this
  have C41 : Hid (∀ V, Has V q es → Calls Try.prog 41 #[nv m q es.length cq] V fun e w' => ∃ g, e = .returned (.slice (some ⟨g, 0, none⟩) m m) ∧ IRow w' V.heap.size g m A2 ∧ Below V.heap.size V w') := fun V hV => by have := degrees40 m q es cq V hV hm; rw [hA2] at this; exact this
  obtain ⟨E1, hE1⟩ : ∃ E, spA m es e0 = E := ⟨_, rfl⟩
  obtain ⟨N1, hN1⟩ : ∃ N, spN m es e0 = N := ⟨_, rfl⟩
  obtain ⟨er, her⟩ : ∃ e, splitE m es e0 = e := ⟨_, rfl⟩
  have HE1 : Hid (E1.length ≤ 20000) := by show E1.length ≤ 20000; rw [← hE1]; have := spA_len m es e0; omega
  have C29 : Hid (∀ V, Has V p es → Calls Try.prog 29 #[nv m p es.length cp, .int .i64 e0] V fun e w' => ∃ q c, e = .returned (.tuple #[nv N1 q E1.length c, .int .i64 er]) ∧ Owns w' V.heap.size (.slice q E1.length c) E1 ∧ Below V.heap.size V w') := fun V hV => by have := split29u m p es cp e0 V hV; rw [hE1, hN1, her] at this; exact this
  have C39 : Hid (∀ V, Has V q es → Calls Try.prog 39 #[nv m q es.length cq, .int .i64 e0] V fun e w' => ∃ q c, e = .returned (.tuple #[nv N1 q E1.length c, .int .i64 er]) ∧ Owns w' V.heap.size (.slice q E1.length c) E1 ∧ Below V.heap.size V w') := fun V hV => by have := split39u m q es cq e0 V hV hnil hm h300 h3e; rw [hE1, hN1, her] at this; exact this
  obtain ⟨A3, hA3⟩ : ∃ A, bareL es = A := ⟨_, rfl⟩
  obtain ⟨E2, hE2⟩ : ∃ E, pick es A3 = E := ⟨_, rfl⟩
  have hA3l : A3.length ≤ 20000 := by rw [← hA3]; unfold bareL; have := takeN_length (bareB es) es.length; omega
  have HE2 : Hid (E2.length = A3.length) := by show _ = _; rw [← hE2, pick_length]
  have C32 : Hid (∀ V, Has V p es → Calls Try.prog 32 #[nv m p es.length cp] V fun e w' => ∃ q c s, e = .returned (.tuple #[nv m q E2.length c, s, .int .i64 0]) ∧ Owns w' V.heap.size (.slice q E2.length c) E2 ∧ IOwns w' V.heap.size s A3 ∧ Below V.heap.size V w') := fun V hV => by have := bare32u m p es cp V hV; rw [hdE, show baN m es = m by simp [baN, hm], show baL m es = A3 by simp [baL, hm, hA3], show baA m es = E2 by unfold baA; rw [show baL m es = A3 by simp [baL, hm, hA3], hE2]] at this; exact this
  have C40 : Hid (∀ V, Has V q es → Calls Try.prog 40 #[nv m q es.length cq] V fun e w' => ∃ q c s, e = .returned (.tuple #[nv m q E2.length c, s]) ∧ Owns w' V.heap.size (.slice q E2.length c) E2 ∧ IOwns w' V.heap.size s A3 ∧ Below V.heap.size V w') := fun V hV => by have := bare40 m q es cq V hV (by omega); rw [hA3, hE2, ← HE2.out] at this; exact this
  have HLN : Hid (([] : List Int).length ≤ 20000 ∧ A2.length ≤ 20000 ∧ A3.length ≤ 20000) := ⟨by simp, by have := HA2.out; omega, hA3l⟩
  have HE2l : Hid (E2.length ≤ 20000) := by show E2.length ≤ 20000; have := HE2.out; omega
  have HM3 := hide h300
  clear hb sh sg hbag hB hH hG hm hbv hA2 hdE hlk hE1 hN1 her hA3 hE2 hA3l hnil h300 h3e
  go_enter Try.func14, Try.ntmps14
  go_wp2_with fail
  rw [← hW]
  clear hW
  obtain ⟨kb, hkb⟩ : ∃ kb, w.heap.size = kb := ⟨_, rfl⟩
  rw [hkb] at SHW SGW HWS ⊢
  have HKB := hide hkb
  clear hkb
  have HRB : Hid (∀ u b, u < bn → (brv u).ownBlock = some b → b < W.heap.size) := fun u b hu hb => (World.ownsRow.lt (BGW.out.own u hu) b hb).2
  have HRL : Hid (∀ b, blv.ownBlock = some b → b < W.heap.size) := fun b hb => (World.ownsRow.lt BGW.out.lst b hb).2
  refine (C26.out W (HH.out W HBW.out)).mono ?_
  rintro e w1 ⟨so, rfl, ho, hb1⟩
  obtain ⟨po, co, rfl, _⟩ := IOwns.form ho
  rw [List.length_nil] at ho
  have R1 : Hid (∀ b, (Value.slice po 0 co).ownBlock = some b → W.heap.size ≤ b ∧ b < w1.heap.size) := fun b hb => World.ownsRow.lt ho b hb
  have HBw1 : Hid (Below B w w1) := Below.trans HBW.out (hb1.mono (Nat.le_trans HBS.out HBW.out.size))
  have BGw1 := hide (BGW.out.later hb1)
  have SHw1 := hide (SHW.out.later hb1)
  have SGw1 := hide (SGW.out.later hb1)
  clear HBW BGW SHW SGW
  have O1w1 := hide ho
  have Z1 := hide hb1.size
  clear hb1 ho
  obtain ⟨q0, q1, q2, q3⟩ := SHw1.out.cell
  go_wp2_with fail
  clear q0 q1 q2 q3
  refine (C25.out w1 (HH.out w1 HBw1.out)).mono ?_
  rintro e w2 ⟨sd, rfl, ho, hb1⟩
  obtain ⟨pd, cd, rfl, _⟩ := IOwns.form ho
  rw [HA2.out] at ho ⊢
  have R2 : Hid (∀ b, (Value.slice pd m cd).ownBlock = some b → w1.heap.size ≤ b ∧ b < w2.heap.size) := fun b hb => World.ownsRow.lt ho b hb
  have HBw2 : Hid (Below B w w2) := Below.trans HBw1.out (hb1.mono (Nat.le_trans HBS.out HBw1.out.size))
  have BGw2 := hide (BGw1.out.later hb1)
  have SHw2 := hide (SHw1.out.later hb1)
  have SGw2 := hide (SGw1.out.later hb1)
  have O1w2 := hide (O1w1.out.later hb1)
  clear HBw1 BGw1 SHw1 SGw1 O1w1
  have O2w2 := hide ho
  have Z2 := hide hb1.size
  clear hb1 ho
  obtain ⟨q0, q1, q2, q3⟩ := SHw2.out.cell
  go_wp2_with fail
  clear q0 q1 q2 q3
  refine (C33.out w2 (HH.out w2 HBw2.out)).mono ?_
  rintro e w3 ⟨rfl, hb1⟩
  have HBw3 : Hid (Below B w w3) := Below.trans HBw2.out (hb1.mono (Nat.le_trans HBS.out HBw2.out.size))
  have BGw3 := hide (BGw2.out.later hb1)
  have SHw3 := hide (SHw2.out.later hb1)
  have SGw3 := hide (SGw2.out.later hb1)
  have O1w3 := hide (O1w2.out.later hb1)
  have O2w3 := hide (O2w2.out.later hb1)
  clear HBw2 BGw2 SHw2 SGw2 O1w2 O2w2
  have Z3 := hide hb1.size
  clear hb1
  obtain ⟨x3, hx3⟩ : ∃ X, X = w3.alloc (.cells #[.int .i64 lk.a, .int .i64 lk.b, .int .i64 lk.c, .int .i64 lk.d, .bool lk.s] 54) := ⟨_, rfl⟩
  have hb1 : Below w3.heap.size w3 x3 := by rw [hx3]; go_grown
  have HBx3 : Hid (Below B w x3) := Below.trans HBw3.out (hb1.mono (Nat.le_trans HBS.out HBw3.out.size))
  have BGx3 := hide (BGw3.out.later hb1)
  have SHx3 := hide (SHw3.out.later hb1)
  have SGx3 := hide (SGw3.out.later hb1)
  have O1x3 := hide (O1w3.out.later hb1)
  have O2x3 := hide (O2w3.out.later hb1)
  clear HBw3 BGw3 SHw3 SGw3 O1w3 O2w3
  have HBX3 : Hid (B ≤ x3.heap.size) := Nat.le_trans HBS.out HBx3.out.size
  have LKx3 : Hid (LB x3 w3.heap.size lk.a lk.b lk.c lk.d lk.s) := by show LB _ _ _ _ _ _ _; rw [hx3]; exact World.ownsRow_lit w3 #[.int .i64 lk.a, .int .i64 lk.b, .int .i64 lk.c, .int .i64 lk.d, .bool lk.s] 1 (Nat.zero_le _) (by unfold maxLen; omega) rfl
  have ZX3 : Hid (x3.heap.size = w3.heap.size + 1) := by show _ = _; rw [hx3]; simp
  obtain ⟨kl, hkl⟩ : ∃ kl, w3.heap.size = kl := ⟨_, rfl⟩
  clear hb1
  obtain ⟨q0, q1, q2, q3⟩ := SHx3.out.cell
  rw [hx3] at q0 q1 q2 q3
  go_wp2_with fail
  rw [← hx3]
  have HKL := hide hkl
  rw [hkl] at LKx3 ZX3
  try rw [hkl]
  clear hx3 hkl
  clear q0 q1 q2 q3
  refine (C29.out x3 (HH.out x3 HBx3.out)).mono ?_
  rintro e w4 ⟨ps, cs, rfl, ho, hb1⟩
  have HBw4 : Hid (Below B w w4) := Below.trans HBx3.out (hb1.mono (Nat.le_trans HBS.out HBx3.out.size))
  have BGw4 := hide (BGx3.out.later hb1)
  have SHw4 := hide (SHx3.out.later hb1)
  have SGw4 := hide (SGx3.out.later hb1)
  have O1w4 := hide (O1x3.out.later hb1)
  have O2w4 := hide (O2x3.out.later hb1)
  have LKw4 := hide (LKx3.out.later hb1)
  clear HBx3 BGx3 SHx3 SGx3 O1x3 O2x3 LKx3
  have R4 : Hid (∀ b, (Value.slice ps E1.length cs).ownBlock = some b → x3.heap.size ≤ b ∧ b < w4.heap.size) := fun b hb => World.ownsRow.lt ho b hb
  have OSw4 := hide ho
  have Z4 := hide hb1.size
  have hos := hide ho
  clear hb1 ho
  obtain ⟨x4, hx4⟩ : ∃ X, X = w4.alloc (nbx N1 ps E1.length cs) := ⟨_, rfl⟩
  have hb1 : Below w4.heap.size w4 x4 := by rw [hx4]; go_grown
  have HBx4 : Hid (Below B w x4) := Below.trans HBw4.out (hb1.mono (Nat.le_trans HBS.out HBw4.out.size))
  have BGx4 := hide (BGw4.out.later hb1)
  have SHx4 := hide (SHw4.out.later hb1)
  have SGx4 := hide (SGw4.out.later hb1)
  have O1x4 := hide (O1w4.out.later hb1)
  have O2x4 := hide (O2w4.out.later hb1)
  have LKx4 := hide (LKw4.out.later hb1)
  have OSx4 := hide (OSw4.out.later hb1)
  clear HBw4 BGw4 SHw4 SGw4 O1w4 O2w4 LKw4 OSw4
  have HBX4 : Hid (B ≤ x4.heap.size) := Nat.le_trans HBS.out HBx4.out.size
  have SSx4 : Hid (SBox x4 w4.heap.size N1 (.slice ps E1.length cs)) := by show SBox _ _ _ _; rw [hx4]; exact SBox.made _ _ _
  have ZX4 : Hid (x4.heap.size = w4.heap.size + 1) := by show _ = _; rw [hx4]; simp
  obtain ⟨ks, hks⟩ : ∃ ks, w4.heap.size = ks := ⟨_, rfl⟩
  clear hb1
  obtain ⟨q0, q1, q2, q3⟩ := SHx4.out.cell
  rw [hx4] at q0 q1 q2 q3
  go_wp2_with fail
  rw [← hx4]
  have HKS := hide hks
  rw [hks] at SSx4 ZX4
  try rw [hks]
  clear hx4 hks
  clear q0 q1 q2 q3
  refine (C32.out x4 (HH.out x4 HBx4.out)).mono ?_
  rintro e w5 ⟨pr, cr, sl, rfl, ho, ho2, hb1⟩
  obtain ⟨pl, cl, rfl, _⟩ := IOwns.form ho2
  have R3 : Hid (∀ b, (Value.slice pl A3.length cl).ownBlock = some b → x4.heap.size ≤ b ∧ b < w5.heap.size) := fun b hb => World.ownsRow.lt ho2 b hb
  have HBw5 : Hid (Below B w w5) := Below.trans HBx4.out (hb1.mono (Nat.le_trans HBS.out HBx4.out.size))
  have BGw5 := hide (BGx4.out.later hb1)
  have SHw5 := hide (SHx4.out.later hb1)
  have SGw5 := hide (SGx4.out.later hb1)
  have O1w5 := hide (O1x4.out.later hb1)
  have O2w5 := hide (O2x4.out.later hb1)
  have LKw5 := hide (LKx4.out.later hb1)
  have OSw5 := hide (OSx4.out.later hb1)
  have SSw5 := hide (SSx4.out.later hb1)
  clear HBx4 BGx4 SHx4 SGx4 O1x4 O2x4 LKx4 OSx4 SSx4
  have R5 : Hid (∀ b, (Value.slice pr E2.length cr).ownBlock = some b → x4.heap.size ≤ b ∧ b < w5.heap.size) := fun b hb => World.ownsRow.lt ho b hb
  have ORw5 := hide ho
  have O3w5 := hide ho2
  have Z5 := hide hb1.size
  clear hb1 ho ho2
  obtain ⟨x5, hx5⟩ : ∃ X, X = w5.alloc (nbx m pr E2.length cr) := ⟨_, rfl⟩
  have hb1 : Below w5.heap.size w5 x5 := by rw [hx5]; go_grown
  have HBx5 : Hid (Below B w x5) := Below.trans HBw5.out (hb1.mono (Nat.le_trans HBS.out HBw5.out.size))
  have BGx5 := hide (BGw5.out.later hb1)
  have SHx5 := hide (SHw5.out.later hb1)
  have SGx5 := hide (SGw5.out.later hb1)
  have O1x5 := hide (O1w5.out.later hb1)
  have O2x5 := hide (O2w5.out.later hb1)
  have LKx5 := hide (LKw5.out.later hb1)
  have OSx5 := hide (OSw5.out.later hb1)
  have SSx5 := hide (SSw5.out.later hb1)
  have ORx5 := hide (ORw5.out.later hb1)
  have O3x5 := hide (O3w5.out.later hb1)
  clear HBw5 BGw5 SHw5 SGw5 O1w5 O2w5 LKw5 OSw5 SSw5 ORw5 O3w5
  have SRx5 : Hid (SBox x5 w5.heap.size m (.slice pr E2.length cr)) := by show SBox _ _ _ _; rw [hx5]; exact SBox.made _ _ _
  have ZX5 : Hid (x5.heap.size = w5.heap.size + 1) := by show _ = _; rw [hx5]; simp
  clear hb1
  have HZ0 : Hid (W.heap.size ≤ w1.heap.size ∧ w1.heap.size ≤ w2.heap.size ∧ w2.heap.size ≤ x4.heap.size ∧ x4.heap.size ≤ w5.heap.size ∧ w5.heap.size ≤ x5.heap.size) := by
    have := Z1.out; have := Z2.out; have := Z3.out; have := Z4.out; have := Z5.out; have := ZX3.out; have := ZX4.out; have := ZX5.out; have := HKL.out; have := HKS.out
    exact ⟨by omega, by omega, by omega, by omega, by omega⟩
  have HB5 : Hid (B ≤ x5.heap.size) := Nat.le_trans HBS.out HBx5.out.size
  have HWB : Hid (B ≤ W.heap.size) := Nat.le_trans HBS.out HBW0.out.size
  obtain ⟨x6, hx6⟩ : ∃ X, X = x5.alloc (.cells #[.slice po 0 co, .slice pd m cd, .slice pl A3.length cl] 25) := ⟨_, rfl⟩
  have hb1 : Below x5.heap.size x5 x6 := by rw [hx6]; go_grown
  have HBx6 : Hid (Below B w x6) := Below.trans HBx5.out (hb1.mono (Nat.le_trans HBS.out HBx5.out.size))
  have BGx6 := hide (BGx5.out.later hb1)
  have SHx6 := hide (SHx5.out.later hb1)
  have SGx6 := hide (SGx5.out.later hb1)
  have O1x6 := hide (O1x5.out.later hb1)
  have O2x6 := hide (O2x5.out.later hb1)
  have LKx6 := hide (LKx5.out.later hb1)
  have OSx6 := hide (OSx5.out.later hb1)
  have SSx6 := hide (SSx5.out.later hb1)
  have ORx6 := hide (ORx5.out.later hb1)
  have O3x6 := hide (O3x5.out.later hb1)
  have SRx6 := hide (SRx5.out.later hb1)
  clear HBx5 BGx5 SHx5 SGx5 O1x5 O2x5 LKx5 OSx5 SSx5 ORx5 O3x5 SRx5
  have hargs : x6.ownsRow x5.heap.size 25 1 (.slice (some ⟨x5.heap.size, 0, none⟩) 3 3) 3 ((List.range 3).map (fun j => if j = 0 then .slice po 0 co else if j = 1 then .slice pd m cd else .slice pl A3.length cl)) := by rw [hx6]; exact World.ownsRow_lit x5 #[.slice po 0 co, .slice pd m cd, .slice pl A3.length cl] 3 (Nat.le_refl _) (by unfold maxLen; omega) rfl
  have KP := hide (keep22 B k x5.heap.size 3 x5.heap.size (fun j => if j = 0 then .slice po 0 co else if j = 1 then .slice pd m cd else .slice pl A3.length cl) (fun j => if j = 0 then ([] : List Int) else if j = 1 then A2 else A3) x6 BGx6.out (Nat.le_trans HBS.out HBx6.out.size) HB5.out (by omega) hargs
    (fun h => by have := HRL.out _ h; have := HZ0.out; omega)
    (fun j hj => by match j, hj with
      | 0, _ => exact O1x6.out.base HWB.out
      | 1, _ => exact O2x6.out.base (by have := HWB.out; have := HZ0.out; omega)
      | 2, _ => exact O3x6.out.base (by have := HWB.out; have := HZ0.out; omega))
    (fun j hj => by match j, hj with
      | 0, _ => exact HLN.out.1
      | 1, _ => exact HLN.out.2.1
      | 2, _ => exact HLN.out.2.2)
    (fun i j b hi hj h1 h2 => by
      have := HZ0.out
      match i, hi, j, hj with
      | 0, _, 0, _ => rfl
      | 1, _, 1, _ => rfl
      | 2, _, 2, _ => rfl
      | 0, _, 1, _ => have := R1.out b h1; have := R2.out b h2; omega
      | 0, _, 2, _ => have := R1.out b h1; have := R3.out b h2; omega
      | 1, _, 0, _ => have := R2.out b h1; have := R1.out b h2; omega
      | 1, _, 2, _ => have := R2.out b h1; have := R3.out b h2; omega
      | 2, _, 0, _ => have := R3.out b h1; have := R1.out b h2; omega
      | 2, _, 1, _ => have := R3.out b h1; have := R2.out b h2; omega)
    (fun j u b hj hu h1 h2 => by
      have := HZ0.out
      have := HRB.out u b hu h2
      match j, hj with
      | 0, _ => have := R1.out b h1; omega
      | 1, _ => have := R2.out b h1; omega
      | 2, _ => have := R3.out b h1; omega))
  have Z6 := hide hb1.size
  clear hb1 hargs
  go_wp2_with fail
  rw [← hx5, ← hx6, ← ZX5.out]
  obtain ⟨kr, hkr⟩ : ∃ kr, w5.heap.size = kr := ⟨_, rfl⟩
  have HKR := hide hkr
  rw [hkr] at SRx6
  try rw [hkr]
  clear hx5 hx6 hkr
  refine KP.out.mono ?_
  rintro e Z ⟨rfl, hbagZ, hbZ, hkp⟩
  have HBZ : Hid (Below B w Z) := Below.trans HBx6.out hbZ
  have HBAG := hide hbagZ
  have ZZ : Hid (x5.heap.size ≤ Z.heap.size) := Nat.le_trans (by have := HBx6.out.size; exact Z6.out) hbZ.size
  have SHZ := hide (SHx6.out.kp hkp)
  have SGZ := hide (SGx6.out.kp hkp)
  have O1Z := hide (O1x6.out.kp hkp)
  have O2Z := hide (O2x6.out.kp hkp)
  have LKZ := hide (LKx6.out.kp hkp)
  have OSZ := hide (OSx6.out.kp hkp)
  have SSZ := hide (SSx6.out.kp hkp)
  have ORZ := hide (ORx6.out.kp hkp)
  have O3Z := hide (O3x6.out.kp hkp)
  have SRZ := hide (SRx6.out.kp hkp)
  clear HBx6 BGx6 KP hkp hbZ hbagZ SHx6 SGx6 O1x6 O2x6 LKx6 OSx6 SSx6 ORx6 O3x6 SRx6
  obtain ⟨blv2, bn2, brv2, bL2, bsz2, hbg2⟩ := HBAG.out
  have BGZ := hide hbg2
  clear hbg2 HBAG C26 C25 C33 C29 C32 R1 R2 R3 HRB HRL HLN HZ0
  have hvv : ¬ v ≥ 0 ∨ (v ≥ 0 ∧ ¬ v < m) := by omega
  rcases hvv with v1 | ⟨v1, v2⟩
  · obtain ⟨sg0, sg1, sg2, sg3⟩ := SGZ.out.cell
    go_wp2_with fail
    clear sg0 sg1 sg2 sg3
    refine (C39.out Z (HG.out Z HBZ.out)).mono ?_
    rintro e y3 ⟨pt, ct, rfl, ho, hb1⟩
    have HBy3 : Hid (Below B w y3) := Below.trans HBZ.out (hb1.mono (Nat.le_trans HBS.out HBZ.out.size))
    have BGy3 := hide (BGZ.out.later hb1)
    have SHy3 := hide (SHZ.out.later hb1)
    have SGy3 := hide (SGZ.out.later hb1)
    have O1y3 := hide (O1Z.out.later hb1)
    have O2y3 := hide (O2Z.out.later hb1)
    have LKy3 := hide (LKZ.out.later hb1)
    have OSy3 := hide (OSZ.out.later hb1)
    have SSy3 := hide (SSZ.out.later hb1)
    have ORy3 := hide (ORZ.out.later hb1)
    have O3y3 := hide (O3Z.out.later hb1)
    have SRy3 := hide (SRZ.out.later hb1)
    clear HBZ BGZ SHZ SGZ O1Z O2Z LKZ OSZ SSZ ORZ O3Z SRZ
    have OTy3 := hide ho
    have Y3 := hide hb1.size
    clear hb1 ho
    obtain ⟨x7, hx7⟩ : ∃ X, X = y3.alloc (nbx N1 pt E1.length ct) := ⟨_, rfl⟩
    have hb1 : Below y3.heap.size y3 x7 := by rw [hx7]; go_grown
    have HBx7 : Hid (Below B w x7) := Below.trans HBy3.out (hb1.mono (Nat.le_trans HBS.out HBy3.out.size))
    have BGx7 := hide (BGy3.out.later hb1)
    have SHx7 := hide (SHy3.out.later hb1)
    have SGx7 := hide (SGy3.out.later hb1)
    have O1x7 := hide (O1y3.out.later hb1)
    have O2x7 := hide (O2y3.out.later hb1)
    have LKx7 := hide (LKy3.out.later hb1)
    have OSx7 := hide (OSy3.out.later hb1)
    have SSx7 := hide (SSy3.out.later hb1)
    have ORx7 := hide (ORy3.out.later hb1)
    have O3x7 := hide (O3y3.out.later hb1)
    have SRx7 := hide (SRy3.out.later hb1)
    have OTx7 := hide (OTy3.out.later hb1)
    clear HBy3 BGy3 SHy3 SGy3 O1y3 O2y3 LKy3 OSy3 SSy3 ORy3 O3y3 SRy3 OTy3
    have STx7 : Hid (SBox x7 y3.heap.size N1 (.slice pt E1.length ct)) := by show SBox _ _ _ _; rw [hx7]; exact SBox.made _ _ _
    have Y7 := hide hb1.size
    clear hb1
    obtain ⟨sg0, sg1, sg2, sg3⟩ := SGx7.out.cell
    rw [hx7] at sg0 sg1 sg2 sg3
    go_wp2_with fail
    rw [← hx7]
    obtain ⟨kt, hkt⟩ : ∃ kt, y3.heap.size = kt := ⟨_, rfl⟩
    rw [hkt] at STx7
    try rw [hkt]
    clear hx7 hkt
    clear sg0 sg1 sg2 sg3
    refine (C40.out x7 (HG.out x7 HBx7.out)).mono ?_
    rintro e y4 ⟨pq, cq2, sm, rfl, ho, ho2, hb1⟩
    obtain ⟨pm, cm, rfl, _⟩ := IOwns.form ho2
    have HBy4 : Hid (Below B w y4) := Below.trans HBx7.out (hb1.mono (Nat.le_trans HBS.out HBx7.out.size))
    have BGy4 := hide (BGx7.out.later hb1)
    have SHy4 := hide (SHx7.out.later hb1)
    have SGy4 := hide (SGx7.out.later hb1)
    have O1y4 := hide (O1x7.out.later hb1)
    have O2y4 := hide (O2x7.out.later hb1)
    have LKy4 := hide (LKx7.out.later hb1)
    have OSy4 := hide (OSx7.out.later hb1)
    have SSy4 := hide (SSx7.out.later hb1)
    have ORy4 := hide (ORx7.out.later hb1)
    have O3y4 := hide (O3x7.out.later hb1)
    have SRy4 := hide (SRx7.out.later hb1)
    have OTy4 := hide (OTx7.out.later hb1)
    have STy4 := hide (STx7.out.later hb1)
    clear HBx7 BGx7 SHx7 SGx7 O1x7 O2x7 LKx7 OSx7 SSx7 ORx7 O3x7 SRx7 OTx7 STx7
    have OQy4 := hide ho
    have O5y4 := hide ho2
    have Y4 := hide hb1.size
    clear hb1 ho ho2
    obtain ⟨x8, hx8⟩ : ∃ X, X = y4.alloc (nbx m pq E2.length cq2) := ⟨_, rfl⟩
    have hb1 : Below y4.heap.size y4 x8 := by rw [hx8]; go_grown
    have HBx8 : Hid (Below B w x8) := Below.trans HBy4.out (hb1.mono (Nat.le_trans HBS.out HBy4.out.size))
    have BGx8 := hide (BGy4.out.later hb1)
    have SHx8 := hide (SHy4.out.later hb1)
    have SGx8 := hide (SGy4.out.later hb1)
    have O1x8 := hide (O1y4.out.later hb1)
    have O2x8 := hide (O2y4.out.later hb1)
    have LKx8 := hide (LKy4.out.later hb1)
    have OSx8 := hide (OSy4.out.later hb1)
    have SSx8 := hide (SSy4.out.later hb1)
    have ORx8 := hide (ORy4.out.later hb1)
    have O3x8 := hide (O3y4.out.later hb1)
    have SRx8 := hide (SRy4.out.later hb1)
    have OTx8 := hide (OTy4.out.later hb1)
    have STx8 := hide (STy4.out.later hb1)
    have OQx8 := hide (OQy4.out.later hb1)
    have O5x8 := hide (O5y4.out.later hb1)
    clear HBy4 BGy4 SHy4 SGy4 O1y4 O2y4 LKy4 OSy4 SSy4 ORy4 O3y4 SRy4 OTy4 STy4 OQy4 O5y4
    have SQx8 : Hid (SBox x8 y4.heap.size m (.slice pq E2.length cq2)) := by show SBox _ _ _ _; rw [hx8]; exact SBox.made _ _ _
    have Y8 := hide hb1.size
    clear hb1
    go_upto_region 14 with fail
    rw [← hx8]
    obtain ⟨kq, hkq⟩ : ∃ kq, y4.heap.size = kq := ⟨_, rfl⟩
    rw [hkq] at SQx8
    try rw [hkq]
    clear hx8 hkq C39 C40
    have HQ : Hid (∀ V, Below x8.heap.size x8 V → (V.cell? ⟨kb + 1, 0, none⟩ = some (.int .i64 m) ∧ V.cell? ⟨kb + 1, 1, none⟩ = some (.slice q es.length cq) ∧ V.cell? ⟨kl, 0, none⟩ = some (.int .i64 lk.a) ∧ V.cell? ⟨kl, 1, none⟩ = some (.int .i64 lk.b) ∧ V.cell? ⟨kl, 2, none⟩ = some (.int .i64 lk.c) ∧ V.cell? ⟨kl, 3, none⟩ = some (.int .i64 lk.d) ∧ V.cell? ⟨kl, 4, none⟩ = some (.bool lk.s) ∧ V.cell? ⟨ks, 0, none⟩ = some (.int .i64 N1) ∧ V.cell? ⟨ks, 1, none⟩ = some (.slice ps E1.length cs) ∧ V.cell? ⟨kt, 0, none⟩ = some (.int .i64 N1) ∧ V.cell? ⟨kt, 1, none⟩ = some (.slice pt E1.length ct) ∧ V.cell? ⟨kr, 0, none⟩ = some (.int .i64 m) ∧ V.cell? ⟨kr, 1, none⟩ = some (.slice pr E2.length cr) ∧ V.cell? ⟨kq, 0, none⟩ = some (.int .i64 m) ∧ V.cell? ⟨kq, 1, none⟩ = some (.slice pq E2.length cq2))) := fun V hV => by
      obtain ⟨a0, a1, _, _⟩ := (SGx8.out.later hV).cell
      obtain ⟨b0, b1, b2, b3, b4, _⟩ := (LKx8.out.later hV).cells
      obtain ⟨c0, c1, _, _⟩ := (SSx8.out.later hV).cell
      obtain ⟨d0, d1, _, _⟩ := (STx8.out.later hV).cell
      obtain ⟨e0, e1, _, _⟩ := (SRx8.out.later hV).cell
      obtain ⟨f0, f1, _, _⟩ := (SQx8.out.later hV).cell
      exact ⟨a0, a1, b0, b1, b2, b3, b4, c0, c1, d0, d1, e0, e1, f0, f1⟩
    have HBB : Hid (∀ V, Below x8.heap.size x8 V → Below B w V) := fun V hV => Below.trans HBx8.out (hV.mono (Nat.le_trans HBS.out HBx8.out.size))
    have D41 : Hid (∀ V, Below x8.heap.size x8 V → Calls Try.prog 41 #[nv m q es.length cq] V fun e w' => ∃ g, e = .returned (.slice (some ⟨g, 0, none⟩) m m) ∧ IHas w' (some ⟨g, 0, none⟩) A2 ∧ Below V.heap.size V w') := fun V hV => (C41.out V (HG.out V (HBB.out V hV))).mono (by rintro e w' ⟨g, rfl, hg, hb⟩; exact ⟨g, rfl, hg.has, hb⟩)
    have D42 : Hid (∀ V, Below x8.heap.size x8 V → Calls Try.prog 42 #[nv m q es.length cq] V fun e w' => e = .returned (lkV lk) ∧ Below V.heap.size V w') := fun V hV => C42.out V (HG.out V (HBB.out V hV))
    have D30 : Hid (∀ V g, Below x8.heap.size x8 V → IHas V (some ⟨g, 0, none⟩) A2 → Calls Try.prog 30 #[.slice pd m cd, .slice (some ⟨g, 0, none⟩) m m] V fun e w' => e = .returned (.bool true) ∧ Below V.heap.size V w') := fun V g hV hg => by have o := O2x8.out.later hV; rw [← HA2.out] at o; have := ints30 pd (some ⟨g, 0, none⟩) A2 A2 cd m V (by have := HA2.out; have := HM3.out; unfold maxLen; omega) o.has hg; rw [HA2.out, decide_eq_true rfl] at this; exact this
    have D22 : Hid (∀ V, Below x8.heap.size x8 V → Calls Try.prog 22 #[nv N1 ps E1.length cs, nv N1 pt E1.length ct] V fun e w' => e = .returned (.bool true) ∧ Below V.heap.size V w') := fun V hV => by have := same22 N1 N1 ps pt E1 E1 cs ct V (by have := HE1.out; omega) (OSx8.out.later hV).has (OTx8.out.later hV).has; rw [show sameB N1 N1 E1 E1 = true by simp [sameB]] at this; exact this
    have D23 : Hid (∀ V, Below x8.heap.size x8 V → Calls Try.prog 22 #[nv m pr E2.length cr, nv m pq E2.length cq2] V fun e w' => e = .returned (.bool true) ∧ Below V.heap.size V w') := fun V hV => by have := same22 m m pr pq E2 E2 cr cq2 V (by have := HE2l.out; omega) (ORx8.out.later hV).has (OQx8.out.later hV).has; rw [show sameB m m E2 E2 = true by simp [sameB]] at this; exact this
    have D31 : Hid (∀ V, Below x8.heap.size x8 V → Calls Try.prog 30 #[.slice pl A3.length cl, .slice pm A3.length cm] V fun e w' => e = .returned (.bool true) ∧ Below V.heap.size V w') := fun V hV => by have := ints30 pl pm A3 A3 cl cm V (by have := HE2.out; have := HE2l.out; unfold maxLen; omega) (O3x8.out.later hV).has (O5x8.out.later hV).has; rw [decide_eq_true rfl] at this; exact this
    have heq := eq54 lk
    have HBV : Hid (Below x8.heap.size x8 x8.drew) := below_drew _
    have e0q : (er == er) = true := by simp
    go_region_held3 (fun V => V.cell? ⟨kb + 1, 0, none⟩ = some (.int .i64 m) ∧ V.cell? ⟨kb + 1, 1, none⟩ = some (.slice q es.length cq) ∧ V.cell? ⟨kl, 0, none⟩ = some (.int .i64 lk.a) ∧ V.cell? ⟨kl, 1, none⟩ = some (.int .i64 lk.b) ∧ V.cell? ⟨kl, 2, none⟩ = some (.int .i64 lk.c) ∧ V.cell? ⟨kl, 3, none⟩ = some (.int .i64 lk.d) ∧ V.cell? ⟨kl, 4, none⟩ = some (.bool lk.s) ∧ V.cell? ⟨ks, 0, none⟩ = some (.int .i64 N1) ∧ V.cell? ⟨ks, 1, none⟩ = some (.slice ps E1.length cs) ∧ V.cell? ⟨kt, 0, none⟩ = some (.int .i64 N1) ∧ V.cell? ⟨kt, 1, none⟩ = some (.slice pt E1.length ct) ∧ V.cell? ⟨kr, 0, none⟩ = some (.int .i64 m) ∧ V.cell? ⟨kr, 1, none⟩ = some (.slice pr E2.length cr) ∧ V.cell? ⟨kq, 0, none⟩ = some (.int .i64 m) ∧ V.cell? ⟨kq, 1, none⟩ = some (.slice pq E2.length cq2))
      (first | exact HQ.out _ HBV.out)
      (first | (go_at_call 41; refine (D41.out _ HBV.out).mono ?_; rintro e V1 ⟨g1, rfl, hg1, hb1⟩; have HG1 := hide hg1; have HBV := hide (below_step HBV.out hb1); clear hb1 hg1) | (go_at_call 42; refine (D42.out _ HBV.out).mono ?_; rintro e V1 ⟨rfl, hb1⟩; have HBV := hide (below_step HBV.out hb1); clear hb1) | (go_at_call 30; with_reducible refine (D30.out _ _ HBV.out HG1.out).mono ?_; rintro e V1 ⟨rfl, hb1⟩; have HBV := hide (below_step HBV.out hb1); clear hb1) | (go_at_call 30; with_reducible refine (D31.out _ HBV.out).mono ?_; rintro e V1 ⟨rfl, hb1⟩; have HBV := hide (below_step HBV.out hb1); clear hb1) | (go_at_call 22; with_reducible refine (D22.out _ HBV.out).mono ?_; rintro e V1 ⟨rfl, hb1⟩; have HBV := hide (below_step HBV.out hb1); clear hb1) | (go_at_call 22; with_reducible refine (D23.out _ HBV.out).mono ?_; rintro e V1 ⟨rfl, hb1⟩; have HBV := hide (below_step HBV.out hb1); clear hb1))
    rename_i hHeld
    clear hHeld heq e0q D41 D42 D30 D31 D22 D23 HQ
    have HBv : Hid (Below B w V1) := HBB.out _ HBV.out
    have BGv := hide (BGx8.out.later HBV.out)
    have SSv := hide (SSx8.out.later HBV.out)
    have OSv := hide (OSx8.out.later HBV.out)
    have SRv := hide (SRx8.out.later HBV.out)
    have ORv := hide (ORx8.out.later HBV.out)
    clear HBB HBV HBx8 BGx8 SHx8 SGx8 O1x8 O2x8 LKx8 OSx8 SSx8 ORx8 O3x8 SRx8 OTx8 STx8 OQx8 O5x8 SQx8
    obtain ⟨a0, a1, a2, a3⟩ := SSv.out.cell
    go_wp2_with fail
    clear a0 a1 a2 a3
    refine (spoil43 N1 ps E1 cs B V1 (OSv.out.base HBX3.out) (Nat.le_trans HBS.out HBv.out.size) HE1.out).mono ?_
    rintro e u1 ⟨rfl, hf⟩
    have hk := k60_of OSv.out hf
    have HBu1 : Hid (Below B w u1) := Below.trans HBv.out (hf.below (Nat.le_trans HBS.out HBv.out.size) (fun i hi => Nat.le_trans HBX3.out (World.ownsRow.lt OSv.out i hi).1))
    have BGu1 := hide (BGv.out.k60 hk)
    have SRu1 : Hid (SBox u1 kr m (.slice pr E2.length cr)) := hk.row SRv.out (by decide)
    have ORu1 : Hid (Owns u1 x4.heap.size (.slice pr E2.length cr) E2) := hf.row ORv.out (fun i hi h2 => by have := R4.out i h2; have := R5.out i hi; have := ZX4.out; have := HKS.out; omega)
    clear hk hf SSv OSv SRv ORv BGv HBv
    obtain ⟨a0, a1, a2, a3⟩ := SRu1.out.cell
    go_wp2_with fail
    clear a0 a1 a2 a3
    refine (spoil43 m pr E2 cr B u1 (ORu1.out.base HBX4.out) (Nat.le_trans HBS.out HBu1.out.size) HE2l.out).mono ?_
    rintro e u2 ⟨rfl, hf⟩
    have HBu2 : Hid (Below B w u2) := Below.trans HBu1.out (hf.below (Nat.le_trans HBS.out HBu1.out.size) (fun i hi => Nat.le_trans HBX4.out (World.ownsRow.lt ORu1.out i hi).1))
    have BGu2 := hide (BGu1.out.k60 (k60_of ORu1.out hf))
    clear hf
    go_wp2
    go_ret
    exact ⟨rfl, ⟨_, _, _, _, _, BGu2.out⟩, HBu2.out⟩
  · obtain ⟨sg0, sg1, sg2, sg3⟩ := SGZ.out.cell
    go_wp2_with fail
    clear sg0 sg1 sg2 sg3
    refine (C39.out Z (HG.out Z HBZ.out)).mono ?_
    rintro e y3 ⟨pt, ct, rfl, ho, hb1⟩
    have HBy3 : Hid (Below B w y3) := Below.trans HBZ.out (hb1.mono (Nat.le_trans HBS.out HBZ.out.size))
    have BGy3 := hide (BGZ.out.later hb1)
    have SHy3 := hide (SHZ.out.later hb1)
    have SGy3 := hide (SGZ.out.later hb1)
    have O1y3 := hide (O1Z.out.later hb1)
    have O2y3 := hide (O2Z.out.later hb1)
    have LKy3 := hide (LKZ.out.later hb1)
    have OSy3 := hide (OSZ.out.later hb1)
    have SSy3 := hide (SSZ.out.later hb1)
    have ORy3 := hide (ORZ.out.later hb1)
    have O3y3 := hide (O3Z.out.later hb1)
    have SRy3 := hide (SRZ.out.later hb1)
    clear HBZ BGZ SHZ SGZ O1Z O2Z LKZ OSZ SSZ ORZ O3Z SRZ
    have OTy3 := hide ho
    have Y3 := hide hb1.size
    clear hb1 ho
    obtain ⟨x7, hx7⟩ : ∃ X, X = y3.alloc (nbx N1 pt E1.length ct) := ⟨_, rfl⟩
    have hb1 : Below y3.heap.size y3 x7 := by rw [hx7]; go_grown
    have HBx7 : Hid (Below B w x7) := Below.trans HBy3.out (hb1.mono (Nat.le_trans HBS.out HBy3.out.size))
    have BGx7 := hide (BGy3.out.later hb1)
    have SHx7 := hide (SHy3.out.later hb1)
    have SGx7 := hide (SGy3.out.later hb1)
    have O1x7 := hide (O1y3.out.later hb1)
    have O2x7 := hide (O2y3.out.later hb1)
    have LKx7 := hide (LKy3.out.later hb1)
    have OSx7 := hide (OSy3.out.later hb1)
    have SSx7 := hide (SSy3.out.later hb1)
    have ORx7 := hide (ORy3.out.later hb1)
    have O3x7 := hide (O3y3.out.later hb1)
    have SRx7 := hide (SRy3.out.later hb1)
    have OTx7 := hide (OTy3.out.later hb1)
    clear HBy3 BGy3 SHy3 SGy3 O1y3 O2y3 LKy3 OSy3 SSy3 ORy3 O3y3 SRy3 OTy3
    have STx7 : Hid (SBox x7 y3.heap.size N1 (.slice pt E1.length ct)) := by show SBox _ _ _ _; rw [hx7]; exact SBox.made _ _ _
    have Y7 := hide hb1.size
    clear hb1
    obtain ⟨sg0, sg1, sg2, sg3⟩ := SGx7.out.cell
    rw [hx7] at sg0 sg1 sg2 sg3
    go_wp2_with fail
    rw [← hx7]
    obtain ⟨kt, hkt⟩ : ∃ kt, y3.heap.size = kt := ⟨_, rfl⟩
    rw [hkt] at STx7
    try rw [hkt]
    clear hx7 hkt
    clear sg0 sg1 sg2 sg3
    refine (C40.out x7 (HG.out x7 HBx7.out)).mono ?_
    rintro e y4 ⟨pq, cq2, sm, rfl, ho, ho2, hb1⟩
    obtain ⟨pm, cm, rfl, _⟩ := IOwns.form ho2
    have HBy4 : Hid (Below B w y4) := Below.trans HBx7.out (hb1.mono (Nat.le_trans HBS.out HBx7.out.size))
    have BGy4 := hide (BGx7.out.later hb1)
    have SHy4 := hide (SHx7.out.later hb1)
    have SGy4 := hide (SGx7.out.later hb1)
    have O1y4 := hide (O1x7.out.later hb1)
    have O2y4 := hide (O2x7.out.later hb1)
    have LKy4 := hide (LKx7.out.later hb1)
    have OSy4 := hide (OSx7.out.later hb1)
    have SSy4 := hide (SSx7.out.later hb1)
    have ORy4 := hide (ORx7.out.later hb1)
    have O3y4 := hide (O3x7.out.later hb1)
    have SRy4 := hide (SRx7.out.later hb1)
    have OTy4 := hide (OTx7.out.later hb1)
    have STy4 := hide (STx7.out.later hb1)
    clear HBx7 BGx7 SHx7 SGx7 O1x7 O2x7 LKx7 OSx7 SSx7 ORx7 O3x7 SRx7 OTx7 STx7
    have OQy4 := hide ho
    have O5y4 := hide ho2
    have Y4 := hide hb1.size
    clear hb1 ho ho2
    obtain ⟨x8, hx8⟩ : ∃ X, X = y4.alloc (nbx m pq E2.length cq2) := ⟨_, rfl⟩
    have hb1 : Below y4.heap.size y4 x8 := by rw [hx8]; go_grown
    have HBx8 : Hid (Below B w x8) := Below.trans HBy4.out (hb1.mono (Nat.le_trans HBS.out HBy4.out.size))
    have BGx8 := hide (BGy4.out.later hb1)
    have SHx8 := hide (SHy4.out.later hb1)
    have SGx8 := hide (SGy4.out.later hb1)
    have O1x8 := hide (O1y4.out.later hb1)
    have O2x8 := hide (O2y4.out.later hb1)
    have LKx8 := hide (LKy4.out.later hb1)
    have OSx8 := hide (OSy4.out.later hb1)
    have SSx8 := hide (SSy4.out.later hb1)
    have ORx8 := hide (ORy4.out.later hb1)
    have O3x8 := hide (O3y4.out.later hb1)
    have SRx8 := hide (SRy4.out.later hb1)
    have OTx8 := hide (OTy4.out.later hb1)
    have STx8 := hide (STy4.out.later hb1)
    have OQx8 := hide (OQy4.out.later hb1)
    have O5x8 := hide (O5y4.out.later hb1)
    clear HBy4 BGy4 SHy4 SGy4 O1y4 O2y4 LKy4 OSy4 SSy4 ORy4 O3y4 SRy4 OTy4 STy4 OQy4 O5y4
    have SQx8 : Hid (SBox x8 y4.heap.size m (.slice pq E2.length cq2)) := by show SBox _ _ _ _; rw [hx8]; exact SBox.made _ _ _
    have Y8 := hide hb1.size
    clear hb1
    go_upto_region 14 with fail
    rw [← hx8]
    obtain ⟨kq, hkq⟩ : ∃ kq, y4.heap.size = kq := ⟨_, rfl⟩
    rw [hkq] at SQx8
    try rw [hkq]
    clear hx8 hkq C39 C40
    have HQ : Hid (∀ V, Below x8.heap.size x8 V → (V.cell? ⟨kb + 1, 0, none⟩ = some (.int .i64 m) ∧ V.cell? ⟨kb + 1, 1, none⟩ = some (.slice q es.length cq) ∧ V.cell? ⟨kl, 0, none⟩ = some (.int .i64 lk.a) ∧ V.cell? ⟨kl, 1, none⟩ = some (.int .i64 lk.b) ∧ V.cell? ⟨kl, 2, none⟩ = some (.int .i64 lk.c) ∧ V.cell? ⟨kl, 3, none⟩ = some (.int .i64 lk.d) ∧ V.cell? ⟨kl, 4, none⟩ = some (.bool lk.s) ∧ V.cell? ⟨ks, 0, none⟩ = some (.int .i64 N1) ∧ V.cell? ⟨ks, 1, none⟩ = some (.slice ps E1.length cs) ∧ V.cell? ⟨kt, 0, none⟩ = some (.int .i64 N1) ∧ V.cell? ⟨kt, 1, none⟩ = some (.slice pt E1.length ct) ∧ V.cell? ⟨kr, 0, none⟩ = some (.int .i64 m) ∧ V.cell? ⟨kr, 1, none⟩ = some (.slice pr E2.length cr) ∧ V.cell? ⟨kq, 0, none⟩ = some (.int .i64 m) ∧ V.cell? ⟨kq, 1, none⟩ = some (.slice pq E2.length cq2))) := fun V hV => by
      obtain ⟨a0, a1, _, _⟩ := (SGx8.out.later hV).cell
      obtain ⟨b0, b1, b2, b3, b4, _⟩ := (LKx8.out.later hV).cells
      obtain ⟨c0, c1, _, _⟩ := (SSx8.out.later hV).cell
      obtain ⟨d0, d1, _, _⟩ := (STx8.out.later hV).cell
      obtain ⟨e0, e1, _, _⟩ := (SRx8.out.later hV).cell
      obtain ⟨f0, f1, _, _⟩ := (SQx8.out.later hV).cell
      exact ⟨a0, a1, b0, b1, b2, b3, b4, c0, c1, d0, d1, e0, e1, f0, f1⟩
    have HBB : Hid (∀ V, Below x8.heap.size x8 V → Below B w V) := fun V hV => Below.trans HBx8.out (hV.mono (Nat.le_trans HBS.out HBx8.out.size))
    have D41 : Hid (∀ V, Below x8.heap.size x8 V → Calls Try.prog 41 #[nv m q es.length cq] V fun e w' => ∃ g, e = .returned (.slice (some ⟨g, 0, none⟩) m m) ∧ IHas w' (some ⟨g, 0, none⟩) A2 ∧ Below V.heap.size V w') := fun V hV => (C41.out V (HG.out V (HBB.out V hV))).mono (by rintro e w' ⟨g, rfl, hg, hb⟩; exact ⟨g, rfl, hg.has, hb⟩)
    have D42 : Hid (∀ V, Below x8.heap.size x8 V → Calls Try.prog 42 #[nv m q es.length cq] V fun e w' => e = .returned (lkV lk) ∧ Below V.heap.size V w') := fun V hV => C42.out V (HG.out V (HBB.out V hV))
    have D30 : Hid (∀ V g, Below x8.heap.size x8 V → IHas V (some ⟨g, 0, none⟩) A2 → Calls Try.prog 30 #[.slice pd m cd, .slice (some ⟨g, 0, none⟩) m m] V fun e w' => e = .returned (.bool true) ∧ Below V.heap.size V w') := fun V g hV hg => by have o := O2x8.out.later hV; rw [← HA2.out] at o; have := ints30 pd (some ⟨g, 0, none⟩) A2 A2 cd m V (by have := HA2.out; have := HM3.out; unfold maxLen; omega) o.has hg; rw [HA2.out, decide_eq_true rfl] at this; exact this
    have D22 : Hid (∀ V, Below x8.heap.size x8 V → Calls Try.prog 22 #[nv N1 ps E1.length cs, nv N1 pt E1.length ct] V fun e w' => e = .returned (.bool true) ∧ Below V.heap.size V w') := fun V hV => by have := same22 N1 N1 ps pt E1 E1 cs ct V (by have := HE1.out; omega) (OSx8.out.later hV).has (OTx8.out.later hV).has; rw [show sameB N1 N1 E1 E1 = true by simp [sameB]] at this; exact this
    have D23 : Hid (∀ V, Below x8.heap.size x8 V → Calls Try.prog 22 #[nv m pr E2.length cr, nv m pq E2.length cq2] V fun e w' => e = .returned (.bool true) ∧ Below V.heap.size V w') := fun V hV => by have := same22 m m pr pq E2 E2 cr cq2 V (by have := HE2l.out; omega) (ORx8.out.later hV).has (OQx8.out.later hV).has; rw [show sameB m m E2 E2 = true by simp [sameB]] at this; exact this
    have D31 : Hid (∀ V, Below x8.heap.size x8 V → Calls Try.prog 30 #[.slice pl A3.length cl, .slice pm A3.length cm] V fun e w' => e = .returned (.bool true) ∧ Below V.heap.size V w') := fun V hV => by have := ints30 pl pm A3 A3 cl cm V (by have := HE2.out; have := HE2l.out; unfold maxLen; omega) (O3x8.out.later hV).has (O5x8.out.later hV).has; rw [decide_eq_true rfl] at this; exact this
    have heq := eq54 lk
    have HBV : Hid (Below x8.heap.size x8 x8.drew) := below_drew _
    have e0q : (er == er) = true := by simp
    go_region_held3 (fun V => V.cell? ⟨kb + 1, 0, none⟩ = some (.int .i64 m) ∧ V.cell? ⟨kb + 1, 1, none⟩ = some (.slice q es.length cq) ∧ V.cell? ⟨kl, 0, none⟩ = some (.int .i64 lk.a) ∧ V.cell? ⟨kl, 1, none⟩ = some (.int .i64 lk.b) ∧ V.cell? ⟨kl, 2, none⟩ = some (.int .i64 lk.c) ∧ V.cell? ⟨kl, 3, none⟩ = some (.int .i64 lk.d) ∧ V.cell? ⟨kl, 4, none⟩ = some (.bool lk.s) ∧ V.cell? ⟨ks, 0, none⟩ = some (.int .i64 N1) ∧ V.cell? ⟨ks, 1, none⟩ = some (.slice ps E1.length cs) ∧ V.cell? ⟨kt, 0, none⟩ = some (.int .i64 N1) ∧ V.cell? ⟨kt, 1, none⟩ = some (.slice pt E1.length ct) ∧ V.cell? ⟨kr, 0, none⟩ = some (.int .i64 m) ∧ V.cell? ⟨kr, 1, none⟩ = some (.slice pr E2.length cr) ∧ V.cell? ⟨kq, 0, none⟩ = some (.int .i64 m) ∧ V.cell? ⟨kq, 1, none⟩ = some (.slice pq E2.length cq2))
      (first | exact HQ.out _ HBV.out)
      (first | (go_at_call 41; refine (D41.out _ HBV.out).mono ?_; rintro e V1 ⟨g1, rfl, hg1, hb1⟩; have HG1 := hide hg1; have HBV := hide (below_step HBV.out hb1); clear hb1 hg1) | (go_at_call 42; refine (D42.out _ HBV.out).mono ?_; rintro e V1 ⟨rfl, hb1⟩; have HBV := hide (below_step HBV.out hb1); clear hb1) | (go_at_call 30; with_reducible refine (D30.out _ _ HBV.out HG1.out).mono ?_; rintro e V1 ⟨rfl, hb1⟩; have HBV := hide (below_step HBV.out hb1); clear hb1) | (go_at_call 30; with_reducible refine (D31.out _ HBV.out).mono ?_; rintro e V1 ⟨rfl, hb1⟩; have HBV := hide (below_step HBV.out hb1); clear hb1) | (go_at_call 22; with_reducible refine (D22.out _ HBV.out).mono ?_; rintro e V1 ⟨rfl, hb1⟩; have HBV := hide (below_step HBV.out hb1); clear hb1) | (go_at_call 22; with_reducible refine (D23.out _ HBV.out).mono ?_; rintro e V1 ⟨rfl, hb1⟩; have HBV := hide (below_step HBV.out hb1); clear hb1))
    rename_i hHeld
    clear hHeld heq e0q D41 D42 D30 D31 D22 D23 HQ
    have HBv : Hid (Below B w V1) := HBB.out _ HBV.out
    have BGv := hide (BGx8.out.later HBV.out)
    have SSv := hide (SSx8.out.later HBV.out)
    have OSv := hide (OSx8.out.later HBV.out)
    have SRv := hide (SRx8.out.later HBV.out)
    have ORv := hide (ORx8.out.later HBV.out)
    clear HBB HBV HBx8 BGx8 SHx8 SGx8 O1x8 O2x8 LKx8 OSx8 SSx8 ORx8 O3x8 SRx8 OTx8 STx8 OQx8 O5x8 SQx8
    obtain ⟨a0, a1, a2, a3⟩ := SSv.out.cell
    go_wp2_with fail
    clear a0 a1 a2 a3
    refine (spoil43 N1 ps E1 cs B V1 (OSv.out.base HBX3.out) (Nat.le_trans HBS.out HBv.out.size) HE1.out).mono ?_
    rintro e u1 ⟨rfl, hf⟩
    have hk := k60_of OSv.out hf
    have HBu1 : Hid (Below B w u1) := Below.trans HBv.out (hf.below (Nat.le_trans HBS.out HBv.out.size) (fun i hi => Nat.le_trans HBX3.out (World.ownsRow.lt OSv.out i hi).1))
    have BGu1 := hide (BGv.out.k60 hk)
    have SRu1 : Hid (SBox u1 kr m (.slice pr E2.length cr)) := hk.row SRv.out (by decide)
    have ORu1 : Hid (Owns u1 x4.heap.size (.slice pr E2.length cr) E2) := hf.row ORv.out (fun i hi h2 => by have := R4.out i h2; have := R5.out i hi; have := ZX4.out; have := HKS.out; omega)
    clear hk hf SSv OSv SRv ORv BGv HBv
    obtain ⟨a0, a1, a2, a3⟩ := SRu1.out.cell
    go_wp2_with fail
    clear a0 a1 a2 a3
    refine (spoil43 m pr E2 cr B u1 (ORu1.out.base HBX4.out) (Nat.le_trans HBS.out HBu1.out.size) HE2l.out).mono ?_
    rintro e u2 ⟨rfl, hf⟩
    have HBu2 : Hid (Below B w u2) := Below.trans HBu1.out (hf.below (Nat.le_trans HBS.out HBu1.out.size) (fun i hi => Nat.le_trans HBX4.out (World.ownsRow.lt ORu1.out i hi).1))
    have BGu2 := hide (BGu1.out.k60 (k60_of ORu1.out hf))
    clear hf
    go_wp2
    go_ret
    exact ⟨rfl, ⟨_, _, _, _, _, BGu2.out⟩, HBu2.out⟩
end Go.Proofs.Ytmmbbfmkhbengaa
