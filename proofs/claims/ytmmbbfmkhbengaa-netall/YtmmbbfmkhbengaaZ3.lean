/- asked: what is told of a net is the document's. -/
import Derived.Test.YtmmbbfmkhbengaaZ2
namespace Go.Proofs.Ytmmbbfmkhbengaa
open Go.RowKit Go.Sort
open Go

set_option maxRecDepth 100000 in
set_option maxHeartbeats 8000000 in
theorem asked_no (n : Int) (B k : Nat) (p q : Option Addr) (es : List Pt) (cp cq : Nat) (v e0 : Int) (w : World) {blv : Value} {bn bsz : Nat} {brv : Nat → Value} {bL : Nat → List Int} (hbag : Bag w B k blv bn brv bL bsz) (hB : B ≤ w.heap.size) (hH : ∀ V, Below B w V → Has V p es) (hG : ∀ V, Below B w V → Has V q es) (hm : netB n es = false) : Calls Try.prog 14 #[nv n p es.length cp, nv n q es.length cq, .bool false, .int .i64 v, .int .i64 e0, .pointer (some ⟨k, 0, none⟩)] w fun e w' => e = .returned (.bool true) ∧ (∃ lv n rv L sz, Bag w' B k lv n rv L sz) ∧ Below B w w' := by
  obtain ⟨W, hW, hb, sh, sg⟩ := two_sbox w n n p q es.length cp es.length cq
  have HBS := hide hB
  have HH := hide hH
  have HG := hide hG
  have HBW : Hid (Below B w W) := hb.mono hB
  have HBW0 := HBW
  have BGW := hide (hbag.later hb)
  have SHW := hide sh
  have SGW := hide sg
  have HWS : Hid (W.heap.size = w.heap.size + 1 + 1) := by show _ = _; rw [hW]; simp
  have C26 : Hid (∀ V, Has V p es → Calls Try.prog 26 #[nv n p es.length cp, .int .i64 v] V fun e w' => ∃ s, e = .returned (.tuple #[s, .int .i64 1]) ∧ IOwns w' V.heap.size s [] ∧ Below V.heap.size V w') := fun V hV => by have := out26u n p es cp v V hV; rw [show outE n es v = 1 by simp [outE, hm], show outA n es v = [] by simp [outA, hm]] at this; exact this
  have C25 : Hid (∀ V, Has V p es → Calls Try.prog 25 #[nv n p es.length cp] V fun e w' => ∃ s, e = .returned (.tuple #[s, .int .i64 1]) ∧ IOwns w' V.heap.size s [] ∧ Below V.heap.size V w') := fun V hV => by have := deg25u n p es cp V hV; rw [show degE n es = 1 by simp [degE, hm], show degA n es = [] by simp [degA, hm]] at this; exact this
  have C33 : Hid (∀ V, Has V p es → Calls Try.prog 33 #[nv n p es.length cp] V fun e w' => e = .returned (.tuple #[lv 0 0 0 0 false, .int .i64 1]) ∧ Below V.heap.size V w') := fun V hV => by have := look33u n p es cp V hV; rw [show degE n es = 1 by simp [degE, hm], show lookA n es = ⟨0, 0, 0, 0, false⟩ by simp [lookA, hm]] at this; exact this
  have hsp : splitE n es e0 = 1 := by simp [splitE, hm]
  have C29 : Hid (∀ V, Has V p es → Calls Try.prog 29 #[nv n p es.length cp, .int .i64 e0] V fun e w' => ∃ q c, e = .returned (.tuple #[nv 0 q 0 c, .int .i64 1]) ∧ Owns w' V.heap.size (.slice q 0 c) [] ∧ Below V.heap.size V w') := fun V hV => by have := split29u n p es cp e0 V hV; rw [show spN n es e0 = 0 by simp [spN, hsp], show spA n es e0 = [] by simp [spA, hsp], hsp] at this; exact this
  have C32 : Hid (∀ V, Has V p es → Calls Try.prog 32 #[nv n p es.length cp] V fun e w' => ∃ q c s, e = .returned (.tuple #[nv 0 q 0 c, s, .int .i64 1]) ∧ Owns w' V.heap.size (.slice q 0 c) [] ∧ IOwns w' V.heap.size s [] ∧ Below V.heap.size V w') := fun V hV => by have := bare32u n p es cp V hV; rw [show degE n es = 1 by simp [degE, hm], show baN n es = 0 by simp [baN, hm], show baL n es = [] by simp [baL, hm], show baA n es = [] by simp [baA, baL, hm, pick]] at this; exact this
  have HLN : Hid (([] : List Int).length ≤ 20000 ∧ ([] : List Int).length ≤ 20000 ∧ ([] : List Int).length ≤ 20000) := ⟨by simp, by simp, by simp⟩
  clear hb sh sg hbag hB hH hG hm hsp
  go_enter Try.func14, Try.ntmps14
  go_wp2_with fail
  rw [← hW]
  clear hW
  obtain ⟨kb, hkb⟩ : ∃ kb, w.heap.size = kb := ⟨_, rfl⟩
  rw [hkb] at SHW SGW HWS ⊢
  have HKB := hide hkb
  clear hkb
  have HRB : Hid (∀ u b, u < bn → (brv u).ownBlock = some b → b < W.heap.size) := fun u b hu hb => (World.ownsRow.lt (BGW.out.own u hu) b hb).2
  have HRL : Hid (∀ b, blv.ownBlock = some b → b < W.heap.size) := fun b hb => (World.ownsRow.lt BGW.out.lst b hb).2
  refine (C26.out W (HH.out W HBW.out)).mono ?_
  rintro e w1 ⟨so, rfl, ho, hb1⟩
  obtain ⟨po, co, rfl, _⟩ := IOwns.form ho
  rw [List.length_nil] at ho
  have R1 : Hid (∀ b, (Value.slice po 0 co).ownBlock = some b → W.heap.size ≤ b ∧ b < w1.heap.size) := fun b hb => World.ownsRow.lt ho b hb
  have HBw1 : Hid (Below B w w1) := Below.trans HBW.out (hb1.mono (Nat.le_trans HBS.out HBW.out.size))
  have BGw1 := hide (BGW.out.later hb1)
  have SHw1 := hide (SHW.out.later hb1)
  have SGw1 := hide (SGW.out.later hb1)
  clear HBW BGW SHW SGW
  have O1w1 := hide ho
  have Z1 := hide hb1.size
  clear hb1 ho
  obtain ⟨q0, q1, q2, q3⟩ := SHw1.out.cell
  go_wp2_with fail
  clear q0 q1 q2 q3
  refine (C25.out w1 (HH.out w1 HBw1.out)).mono ?_
  rintro e w2 ⟨sd, rfl, ho, hb1⟩
  obtain ⟨pd, cd, rfl, _⟩ := IOwns.form ho
  rw [List.length_nil] at ho
  have R2 : Hid (∀ b, (Value.slice pd 0 cd).ownBlock = some b → w1.heap.size ≤ b ∧ b < w2.heap.size) := fun b hb => World.ownsRow.lt ho b hb
  have HBw2 : Hid (Below B w w2) := Below.trans HBw1.out (hb1.mono (Nat.le_trans HBS.out HBw1.out.size))
  have BGw2 := hide (BGw1.out.later hb1)
  have SHw2 := hide (SHw1.out.later hb1)
  have SGw2 := hide (SGw1.out.later hb1)
  have O1w2 := hide (O1w1.out.later hb1)
  clear HBw1 BGw1 SHw1 SGw1 O1w1
  have O2w2 := hide ho
  have Z2 := hide hb1.size
  clear hb1 ho
  obtain ⟨q0, q1, q2, q3⟩ := SHw2.out.cell
  go_wp2_with fail
  clear q0 q1 q2 q3
  refine (C33.out w2 (HH.out w2 HBw2.out)).mono ?_
  rintro e w3 ⟨rfl, hb1⟩
  have HBw3 : Hid (Below B w w3) := Below.trans HBw2.out (hb1.mono (Nat.le_trans HBS.out HBw2.out.size))
  have BGw3 := hide (BGw2.out.later hb1)
  have SHw3 := hide (SHw2.out.later hb1)
  have SGw3 := hide (SGw2.out.later hb1)
  have O1w3 := hide (O1w2.out.later hb1)
  have O2w3 := hide (O2w2.out.later hb1)
  clear HBw2 BGw2 SHw2 SGw2 O1w2 O2w2
  have Z3 := hide hb1.size
  clear hb1
  obtain ⟨x3, hx3⟩ : ∃ X, X = w3.alloc (.cells #[.int .i64 0, .int .i64 0, .int .i64 0, .int .i64 0, .bool false] 54) := ⟨_, rfl⟩
  have hb1 : Below w3.heap.size w3 x3 := by rw [hx3]; go_grown
  have HBx3 : Hid (Below B w x3) := Below.trans HBw3.out (hb1.mono (Nat.le_trans HBS.out HBw3.out.size))
  have BGx3 := hide (BGw3.out.later hb1)
  have SHx3 := hide (SHw3.out.later hb1)
  have SGx3 := hide (SGw3.out.later hb1)
  have O1x3 := hide (O1w3.out.later hb1)
  have O2x3 := hide (O2w3.out.later hb1)
  clear HBw3 BGw3 SHw3 SGw3 O1w3 O2w3
  have LKx3 : Hid (LB x3 w3.heap.size 0 0 0 0 false) := by show LB _ _ _ _ _ _ _; rw [hx3]; exact World.ownsRow_lit w3 #[.int .i64 0, .int .i64 0, .int .i64 0, .int .i64 0, .bool false] 1 (Nat.zero_le _) (by unfold maxLen; omega) rfl
  have ZX3 : Hid (x3.heap.size = w3.heap.size + 1) := by show _ = _; rw [hx3]; simp
  obtain ⟨kl, hkl⟩ : ∃ kl, w3.heap.size = kl := ⟨_, rfl⟩
  clear hb1
  obtain ⟨q0, q1, q2, q3⟩ := SHx3.out.cell
  rw [hx3] at q0 q1 q2 q3
  go_wp2_with fail
  rw [← hx3]
  have HKL := hide hkl
  rw [hkl] at LKx3 ZX3
  try rw [hkl]
  clear hx3 hkl
  clear q0 q1 q2 q3
  refine (C29.out x3 (HH.out x3 HBx3.out)).mono ?_
  rintro e w4 ⟨ps, cs, rfl, ho, hb1⟩
  have HBw4 : Hid (Below B w w4) := Below.trans HBx3.out (hb1.mono (Nat.le_trans HBS.out HBx3.out.size))
  have BGw4 := hide (BGx3.out.later hb1)
  have SHw4 := hide (SHx3.out.later hb1)
  have SGw4 := hide (SGx3.out.later hb1)
  have O1w4 := hide (O1x3.out.later hb1)
  have O2w4 := hide (O2x3.out.later hb1)
  have LKw4 := hide (LKx3.out.later hb1)
  clear HBx3 BGx3 SHx3 SGx3 O1x3 O2x3 LKx3
  have OSw4 := hide ho
  have Z4 := hide hb1.size
  have hos := hide ho
  clear hb1 ho
  obtain ⟨x4, hx4⟩ : ∃ X, X = w4.alloc (nbx 0 ps 0 cs) := ⟨_, rfl⟩
  have hb1 : Below w4.heap.size w4 x4 := by rw [hx4]; go_grown
  have HBx4 : Hid (Below B w x4) := Below.trans HBw4.out (hb1.mono (Nat.le_trans HBS.out HBw4.out.size))
  have BGx4 := hide (BGw4.out.later hb1)
  have SHx4 := hide (SHw4.out.later hb1)
  have SGx4 := hide (SGw4.out.later hb1)
  have O1x4 := hide (O1w4.out.later hb1)
  have O2x4 := hide (O2w4.out.later hb1)
  have LKx4 := hide (LKw4.out.later hb1)
  have OSx4 := hide (OSw4.out.later hb1)
  clear HBw4 BGw4 SHw4 SGw4 O1w4 O2w4 LKw4 OSw4
  have SSx4 : Hid (SBox x4 w4.heap.size 0 (.slice ps 0 cs)) := by show SBox _ _ _ _; rw [hx4]; exact SBox.made _ _ _
  have ZX4 : Hid (x4.heap.size = w4.heap.size + 1) := by show _ = _; rw [hx4]; simp
  obtain ⟨ks, hks⟩ : ∃ ks, w4.heap.size = ks := ⟨_, rfl⟩
  clear hb1
  obtain ⟨q0, q1, q2, q3⟩ := SHx4.out.cell
  rw [hx4] at q0 q1 q2 q3
  go_wp2_with fail
  rw [← hx4]
  have HKS := hide hks
  rw [hks] at SSx4 ZX4
  try rw [hks]
  clear hx4 hks
  clear q0 q1 q2 q3
  refine (C32.out x4 (HH.out x4 HBx4.out)).mono ?_
  rintro e w5 ⟨pr, cr, sl, rfl, ho, ho2, hb1⟩
  obtain ⟨pl, cl, rfl, _⟩ := IOwns.form ho2
  rw [List.length_nil] at ho2
  have R3 : Hid (∀ b, (Value.slice pl 0 cl).ownBlock = some b → x4.heap.size ≤ b ∧ b < w5.heap.size) := fun b hb => World.ownsRow.lt ho2 b hb
  have HBw5 : Hid (Below B w w5) := Below.trans HBx4.out (hb1.mono (Nat.le_trans HBS.out HBx4.out.size))
  have BGw5 := hide (BGx4.out.later hb1)
  have SHw5 := hide (SHx4.out.later hb1)
  have SGw5 := hide (SGx4.out.later hb1)
  have O1w5 := hide (O1x4.out.later hb1)
  have O2w5 := hide (O2x4.out.later hb1)
  have LKw5 := hide (LKx4.out.later hb1)
  have OSw5 := hide (OSx4.out.later hb1)
  have SSw5 := hide (SSx4.out.later hb1)
  clear HBx4 BGx4 SHx4 SGx4 O1x4 O2x4 LKx4 OSx4 SSx4
  have ORw5 := hide ho
  have O3w5 := hide ho2
  have Z5 := hide hb1.size
  clear hb1 ho ho2
  obtain ⟨x5, hx5⟩ : ∃ X, X = w5.alloc (nbx 0 pr 0 cr) := ⟨_, rfl⟩
  have hb1 : Below w5.heap.size w5 x5 := by rw [hx5]; go_grown
  have HBx5 : Hid (Below B w x5) := Below.trans HBw5.out (hb1.mono (Nat.le_trans HBS.out HBw5.out.size))
  have BGx5 := hide (BGw5.out.later hb1)
  have SHx5 := hide (SHw5.out.later hb1)
  have SGx5 := hide (SGw5.out.later hb1)
  have O1x5 := hide (O1w5.out.later hb1)
  have O2x5 := hide (O2w5.out.later hb1)
  have LKx5 := hide (LKw5.out.later hb1)
  have OSx5 := hide (OSw5.out.later hb1)
  have SSx5 := hide (SSw5.out.later hb1)
  have ORx5 := hide (ORw5.out.later hb1)
  have O3x5 := hide (O3w5.out.later hb1)
  clear HBw5 BGw5 SHw5 SGw5 O1w5 O2w5 LKw5 OSw5 SSw5 ORw5 O3w5
  have SRx5 : Hid (SBox x5 w5.heap.size 0 (.slice pr 0 cr)) := by show SBox _ _ _ _; rw [hx5]; exact SBox.made _ _ _
  have ZX5 : Hid (x5.heap.size = w5.heap.size + 1) := by show _ = _; rw [hx5]; simp
  clear hb1
  have HZ0 : Hid (W.heap.size ≤ w1.heap.size ∧ w1.heap.size ≤ w2.heap.size ∧ w2.heap.size ≤ x4.heap.size ∧ x4.heap.size ≤ w5.heap.size ∧ w5.heap.size ≤ x5.heap.size) := by
    have := Z1.out; have := Z2.out; have := Z3.out; have := Z4.out; have := Z5.out; have := ZX3.out; have := ZX4.out; have := ZX5.out; have := HKL.out; have := HKS.out
    exact ⟨by omega, by omega, by omega, by omega, by omega⟩
  have HB5 : Hid (B ≤ x5.heap.size) := Nat.le_trans HBS.out HBx5.out.size
  have HWB : Hid (B ≤ W.heap.size) := Nat.le_trans HBS.out HBW0.out.size
  obtain ⟨x6, hx6⟩ : ∃ X, X = x5.alloc (.cells #[.slice po 0 co, .slice pd 0 cd, .slice pl 0 cl] 25) := ⟨_, rfl⟩
  have hb1 : Below x5.heap.size x5 x6 := by rw [hx6]; go_grown
  have HBx6 : Hid (Below B w x6) := Below.trans HBx5.out (hb1.mono (Nat.le_trans HBS.out HBx5.out.size))
  have BGx6 := hide (BGx5.out.later hb1)
  have SHx6 := hide (SHx5.out.later hb1)
  have SGx6 := hide (SGx5.out.later hb1)
  have O1x6 := hide (O1x5.out.later hb1)
  have O2x6 := hide (O2x5.out.later hb1)
  have LKx6 := hide (LKx5.out.later hb1)
  have OSx6 := hide (OSx5.out.later hb1)
  have SSx6 := hide (SSx5.out.later hb1)
  have ORx6 := hide (ORx5.out.later hb1)
  have O3x6 := hide (O3x5.out.later hb1)
  have SRx6 := hide (SRx5.out.later hb1)
  clear HBx5 BGx5 SHx5 SGx5 O1x5 O2x5 LKx5 OSx5 SSx5 ORx5 O3x5 SRx5
  have hargs : x6.ownsRow x5.heap.size 25 1 (.slice (some ⟨x5.heap.size, 0, none⟩) 3 3) 3 ((List.range 3).map (fun j => if j = 0 then .slice po 0 co else if j = 1 then .slice pd 0 cd else .slice pl 0 cl)) := by rw [hx6]; exact World.ownsRow_lit x5 #[.slice po 0 co, .slice pd 0 cd, .slice pl 0 cl] 3 (Nat.le_refl _) (by unfold maxLen; omega) rfl
  have KP := hide (keep22 B k x5.heap.size 3 x5.heap.size (fun j => if j = 0 then .slice po 0 co else if j = 1 then .slice pd 0 cd else .slice pl 0 cl) (fun j => if j = 0 then ([] : List Int) else if j = 1 then ([] : List Int) else ([] : List Int)) x6 BGx6.out (Nat.le_trans HBS.out HBx6.out.size) HB5.out (by omega) hargs
    (fun h => by have := HRL.out _ h; have := HZ0.out; omega)
    (fun j hj => by match j, hj with
      | 0, _ => exact O1x6.out.base HWB.out
      | 1, _ => exact O2x6.out.base (by have := HWB.out; have := HZ0.out; omega)
      | 2, _ => exact O3x6.out.base (by have := HWB.out; have := HZ0.out; omega))
    (fun j hj => by match j, hj with
      | 0, _ => exact HLN.out.1
      | 1, _ => exact HLN.out.2.1
      | 2, _ => exact HLN.out.2.2)
    (fun i j b hi hj h1 h2 => by
      have := HZ0.out
      match i, hi, j, hj with
      | 0, _, 0, _ => rfl
      | 1, _, 1, _ => rfl
      | 2, _, 2, _ => rfl
      | 0, _, 1, _ => have := R1.out b h1; have := R2.out b h2; omega
      | 0, _, 2, _ => have := R1.out b h1; have := R3.out b h2; omega
      | 1, _, 0, _ => have := R2.out b h1; have := R1.out b h2; omega
      | 1, _, 2, _ => have := R2.out b h1; have := R3.out b h2; omega
      | 2, _, 0, _ => have := R3.out b h1; have := R1.out b h2; omega
      | 2, _, 1, _ => have := R3.out b h1; have := R2.out b h2; omega)
    (fun j u b hj hu h1 h2 => by
      have := HZ0.out
      have := HRB.out u b hu h2
      match j, hj with
      | 0, _ => have := R1.out b h1; omega
      | 1, _ => have := R2.out b h1; omega
      | 2, _ => have := R3.out b h1; omega))
  have Z6 := hide hb1.size
  clear hb1 hargs
  go_wp2_with fail
  rw [← hx5, ← hx6, ← ZX5.out]
  obtain ⟨kr, hkr⟩ : ∃ kr, w5.heap.size = kr := ⟨_, rfl⟩
  have HKR := hide hkr
  rw [hkr] at SRx6
  try rw [hkr]
  clear hx5 hx6 hkr
  refine KP.out.mono ?_
  rintro e Z ⟨rfl, hbagZ, hbZ, hkp⟩
  have HBZ : Hid (Below B w Z) := Below.trans HBx6.out hbZ
  have HBAG := hide hbagZ
  have ZZ : Hid (x5.heap.size ≤ Z.heap.size) := Nat.le_trans (by have := HBx6.out.size; exact Z6.out) hbZ.size
  have SHZ := hide (SHx6.out.kp hkp)
  have SGZ := hide (SGx6.out.kp hkp)
  have O1Z := hide (O1x6.out.kp hkp)
  have O2Z := hide (O2x6.out.kp hkp)
  have LKZ := hide (LKx6.out.kp hkp)
  have OSZ := hide (OSx6.out.kp hkp)
  have SSZ := hide (SSx6.out.kp hkp)
  have ORZ := hide (ORx6.out.kp hkp)
  have O3Z := hide (O3x6.out.kp hkp)
  have SRZ := hide (SRx6.out.kp hkp)
  clear HBx6 BGx6 KP hkp hbZ hbagZ SHx6 SGx6 O1x6 O2x6 LKx6 OSx6 SSx6 ORx6 O3x6 SRx6
  obtain ⟨sh0, sh1, sh2, sh3⟩ := SHZ.out.cell
  obtain ⟨sg0, sg1, sg2, sg3⟩ := SGZ.out.cell
  obtain ⟨a0, a1, a2, a3⟩ := SSZ.out.cell
  obtain ⟨b0, b1, b2, b3⟩ := SRZ.out.cell
  obtain ⟨l0, l1, l2, l3, l4, _⟩ := LKZ.out.cells
  have SM := hide (same22 0 0 ps pr [] [] cs cr Z (by simp) (Or.inl rfl) (Or.inl rfl))
  have hse : sameB 0 0 [] [] = true := by simp [sameB]
  rw [hse] at SM
  have heq := eq54 ⟨0, 0, 0, 0, false⟩
  go_wp2_with fail
  refine SM.out.mono ?_
  rintro e Y ⟨rfl, hbY⟩
  have HBY : Hid (Below B w Y) := Below.trans HBZ.out (hbY.mono (Nat.le_trans HBS.out HBZ.out.size))
  have HBG : Hid (∃ lv n rv L sz, Bag Y B k lv n rv L sz) := by obtain ⟨x1, x2, x3, x4, x5, hx⟩ := HBAG.out; exact ⟨x1, x2, x3, x4, x5, hx.later hbY⟩
  obtain ⟨y0, y1, y2, y3⟩ := (SSZ.out.later hbY).cell
  clear hbY SM
  go_wp2
  go_ret
  exact ⟨rfl, HBG.out, HBY.out⟩
end Go.Proofs.Ytmmbbfmkhbengaa
