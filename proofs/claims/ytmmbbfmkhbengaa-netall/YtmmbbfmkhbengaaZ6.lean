/- merged: Merge is the document's. -/
import Derived.Test.YtmmbbfmkhbengaaZ4
namespace Go.Proofs.Ytmmbbfmkhbengaa
open Go.RowKit Go.Sort
open Go

theorem meA_len (n : Int) (es : List Pt) (u v : Int) : (meA n es u v).length ≤ es.length := by
  unfold meA
  split
  · rw [rename_length]; exact Nat.le_refl _
  · simp
theorem meL_len (m : Nat) (es : List Pt) (u v : Int) : (meL m es u v).length ≤ m := by
  unfold meL
  split
  · rw [mergeL_length, Int.toNat_natCast]; exact Nat.le_refl _
  · simp
set_option maxRecDepth 100000 in
set_option maxHeartbeats 8000000 in
theorem merged_no (n : Int) (B k : Nat) (p q : Option Addr) (es : List Pt) (cp cq : Nat) (u v : Int) (w : World) {blv : Value} {bn bsz : Nat} {brv : Nat → Value} {bL : Nat → List Int} (hbag : Bag w B k blv bn brv bL bsz) (hB : B ≤ w.heap.size) (hH : ∀ V, Below B w V → Has V p es) (hm : netB n es = false) : Calls Try.prog 16 #[nv n p es.length cp, nv n q es.length cq, .bool false, .int .i64 u, .int .i64 v, .pointer (some ⟨k, 0, none⟩)] w fun e w' => e = .returned (.bool true) ∧ (∃ lv n rv L sz, Bag w' B k lv n rv L sz) ∧ Below B w w' := by
  obtain ⟨W, hW, hb, sh, sg⟩ := two_sbox w n n p q es.length cp es.length cq
  have HBS := hide hB
  have HH := hide hH
  have HBW : Hid (Below B w W) := hb.mono hB
  have HBW0 := HBW
  have BGW := hide (hbag.later hb)
  have SHW := hide sh
  have SGW := hide sg
  have HWS : Hid (W.heap.size = w.heap.size + 1 + 1) := by show _ = _; rw [hW]; simp
  have hme : mergE n es u v = 1 := by simp [mergE, hm]
  have HLN : Hid (([] : List Int).length ≤ 20000) := by show ([] : List Int).length ≤ 20000; simp
  have C31 : Hid (∀ V, Has V p es → Calls Try.prog 31 #[nv n p es.length cp, .int .i64 u, .int .i64 v] V fun e w' => ∃ q c s, e = .returned (.tuple #[nv 0 q 0 c, s, .int .i64 1]) ∧ Owns w' V.heap.size (.slice q 0 c) [] ∧ IOwns w' V.heap.size s [] ∧ Below V.heap.size V w') := fun V hV => by have := merge31u n p es cp u v V hV; rw [show meA n es u v = [] by simp [meA, hme], show meN n es u v = 0 by simp [meN, hme], show meL n es u v = [] by simp [meL, hme], hme] at this; exact this
  clear hb sh sg hbag hB hH hm hme
  go_enter Try.func16, Try.ntmps16
  go_wp2_with fail
  rw [← hW]
  clear hW
  obtain ⟨kb, hkb⟩ : ∃ kb, w.heap.size = kb := ⟨_, rfl⟩
  rw [hkb] at SHW SGW HWS
  try rw [hkb]
  have HKB := hide hkb
  clear hkb
  have HRB : Hid (∀ u b, u < bn → (brv u).ownBlock = some b → b < W.heap.size) := fun u b hu hb => (World.ownsRow.lt (BGW.out.own u hu) b hb).2
  have HRL : Hid (∀ b, blv.ownBlock = some b → b < W.heap.size) := fun b hb => (World.ownsRow.lt BGW.out.lst b hb).2
  have HLB : Hid (B ≤ W.heap.size) := Nat.le_trans HBS.out HBW.out.size
  refine (C31.out W (HH.out W HBW.out)).mono ?_
  rintro e w5 ⟨pr, cr, sl, rfl, ho, ho2, hb1⟩
  obtain ⟨pl, cl, rfl, _⟩ := IOwns.form ho2
  rw [List.length_nil] at ho2
  have R3 : Hid (∀ b, (Value.slice pl 0 cl).ownBlock = some b → W.heap.size ≤ b ∧ b < w5.heap.size) := fun b hb => World.ownsRow.lt ho2 b hb
  have HBw5 : Hid (Below B w w5) := Below.trans HBW.out (hb1.mono (Nat.le_trans HBS.out HBW.out.size))
  have BGw5 := hide (BGW.out.later hb1)
  have SHw5 := hide (SHW.out.later hb1)
  have SGw5 := hide (SGW.out.later hb1)
  clear HBW BGW SHW SGW
  have ORw5 := hide ho
  have O3w5 := hide ho2
  have Z5 := hide hb1.size
  clear hb1 ho ho2
  obtain ⟨x5, hx5⟩ : ∃ X, X = w5.alloc (nbx 0 pr 0 cr) := ⟨_, rfl⟩
  have hb1 : Below w5.heap.size w5 x5 := by rw [hx5]; go_grown
  have HBx5 : Hid (Below B w x5) := Below.trans HBw5.out (hb1.mono (Nat.le_trans HBS.out HBw5.out.size))
  have BGx5 := hide (BGw5.out.later hb1)
  have SHx5 := hide (SHw5.out.later hb1)
  have SGx5 := hide (SGw5.out.later hb1)
  have ORx5 := hide (ORw5.out.later hb1)
  have O3x5 := hide (O3w5.out.later hb1)
  clear HBw5 BGw5 SHw5 SGw5 ORw5 O3w5
  have SRx5 : Hid (SBox x5 w5.heap.size 0 (.slice pr 0 cr)) := by show SBox _ _ _ _; rw [hx5]; exact SBox.made _ _ _
  have ZX5 : Hid (x5.heap.size = w5.heap.size + 1) := by show _ = _; rw [hx5]; simp
  have HZ0 : Hid (W.heap.size ≤ w5.heap.size ∧ w5.heap.size ≤ x5.heap.size) := ⟨Z5.out, hb1.size⟩
  clear hb1
  obtain ⟨x6, hx6⟩ : ∃ X, X = x5.alloc (.cells #[.slice pl 0 cl] 25) := ⟨_, rfl⟩
  have hb1 : Below x5.heap.size x5 x6 := by rw [hx6]; go_grown
  have HB5 : Hid (B ≤ x5.heap.size) := Nat.le_trans HBS.out HBx5.out.size
  have HBx6 : Hid (Below B w x6) := Below.trans HBx5.out (hb1.mono (Nat.le_trans HBS.out HBx5.out.size))
  have BGx6 := hide (BGx5.out.later hb1)
  have SHx6 := hide (SHx5.out.later hb1)
  have SGx6 := hide (SGx5.out.later hb1)
  have ORx6 := hide (ORx5.out.later hb1)
  have O3x6 := hide (O3x5.out.later hb1)
  have SRx6 := hide (SRx5.out.later hb1)
  clear HBx5 BGx5 SHx5 SGx5 ORx5 O3x5 SRx5
  have hargs : x6.ownsRow x5.heap.size 25 1 (.slice (some ⟨x5.heap.size, 0, none⟩) 1 1) 1 ((List.range 1).map (fun _ => .slice pl 0 cl)) := by rw [hx6]; exact World.ownsRow_lit x5 #[.slice pl 0 cl] 1 (Nat.le_refl _) (by unfold maxLen; omega) rfl
  have KP := hide (keep22 B k x5.heap.size 1 x5.heap.size (fun _ => .slice pl 0 cl) (fun _ => ([] : List Int)) x6 BGx6.out (Nat.le_trans HBS.out HBx6.out.size) HB5.out (by omega) hargs
    (fun h => by have := HRL.out _ h; have := HZ0.out; omega)
    (fun j hj => O3x6.out.base HLB.out)
    (fun j hj => HLN.out)
    (fun i j b hi hj _ _ => by omega)
    (fun j u b hj hu h1 h2 => by have := HZ0.out; have := HRB.out u b hu h2; have := R3.out b h1; omega))
  have Z6 := hide hb1.size
  clear hb1 hargs
  go_wp2_with fail
  rw [← hx5, ← hx6, ← ZX5.out]
  obtain ⟨kr, hkr⟩ : ∃ kr, w5.heap.size = kr := ⟨_, rfl⟩
  have HKR := hide hkr
  rw [hkr] at SRx6
  try rw [hkr]
  clear hx5 hx6 hkr
  refine KP.out.mono ?_
  rintro e Z ⟨rfl, hbagZ, hbZ, hkp⟩
  have HBZ : Hid (Below B w Z) := Below.trans HBx6.out hbZ
  have SHZ := hide (SHx6.out.kp hkp)
  have SGZ := hide (SGx6.out.kp hkp)
  have ORZ := hide (ORx6.out.kp hkp)
  have O3Z := hide (O3x6.out.kp hkp)
  have SRZ := hide (SRx6.out.kp hkp)
  clear HBx6 BGx6 KP hkp hbZ SHx6 SGx6 ORx6 O3x6 SRx6
  obtain ⟨blv2, bn2, brv2, bL2, bsz2, hbg2⟩ := hbagZ
  have BGZ := hide hbg2
  clear hbg2
  obtain ⟨a0, a1, a2, a3⟩ := SRZ.out.cell
  go_wp2
  go_ret
  exact ⟨rfl, ⟨_, _, _, _, _, BGZ.out⟩, HBZ.out⟩
set_option maxRecDepth 100000 in
set_option maxHeartbeats 8000000 in
theorem merged_yes (m : Nat) (B k : Nat) (p q : Option Addr) (es : List Pt) (cp cq : Nat) (u v : Int) (w : World) {blv : Value} {bn bsz : Nat} {brv : Nat → Value} {bL : Nat → List Int} (hbag : Bag w B k blv bn brv bL bsz) (hB : B ≤ w.heap.size) (hH : ∀ V, Below B w V → Has V p es) (hG : ∀ V, Below B w V → Has V q es) (hm : netB m es = true) (h300 : m ≤ 300) (h3e : es.length ≤ 300) : Calls Try.prog 16 #[nv m p es.length cp, nv m q es.length cq, .bool true, .int .i64 u, .int .i64 v, .pointer (some ⟨k, 0, none⟩)] w fun e w' => e = .returned (.bool true) ∧ (∃ lv n rv L sz, Bag w' B k lv n rv L sz) ∧ Below B w w' := by
  obtain ⟨W, hW, hb, sh, sg⟩ := two_sbox w m m p q es.length cp es.length cq
  have HBS := hide hB
  have HH := hide hH
  have HG := hide hG
  have HBW : Hid (Below B w W) := hb.mono hB
  have HBW0 := HBW
  have BGW := hide (hbag.later hb)
  have SHW := hide sh
  have SGW := hide sg
  have HWS : Hid (W.heap.size = w.heap.size + 1 + 1) := by show _ = _; rw [hW]; simp
  obtain ⟨E1, hE1⟩ : ∃ E, meA m es u v = E := ⟨_, rfl⟩
  obtain ⟨N1, hN1⟩ : ∃ N, meN m es u v = N := ⟨_, rfl⟩
  obtain ⟨er, her⟩ : ∃ e, mergE m es u v = e := ⟨_, rfl⟩
  obtain ⟨A3, hA3⟩ : ∃ A, meL m es u v = A := ⟨_, rfl⟩
  have HE1 : Hid (E1.length ≤ 20000) := by show E1.length ≤ 20000; rw [← hE1]; have := meA_len m es u v; omega
  have HLN : Hid (A3.length ≤ 20000) := by show A3.length ≤ 20000; rw [← hA3]; have := meL_len m es u v; omega
  have C31 : Hid (∀ V, Has V p es → Calls Try.prog 31 #[nv m p es.length cp, .int .i64 u, .int .i64 v] V fun e w' => ∃ q c s, e = .returned (.tuple #[nv N1 q E1.length c, s, .int .i64 er]) ∧ Owns w' V.heap.size (.slice q E1.length c) E1 ∧ IOwns w' V.heap.size s A3 ∧ Below V.heap.size V w') := fun V hV => by have := merge31u m p es cp u v V hV; rw [hE1, hN1, her, hA3] at this; exact this
  have C46 : Hid (∀ V, Has V q es → Calls Try.prog 46 #[nv m q es.length cq, .int .i64 u, .int .i64 v] V fun e w' => ∃ q c s, e = .returned (.tuple #[nv N1 q E1.length c, s, .int .i64 er]) ∧ Owns w' V.heap.size (.slice q E1.length c) E1 ∧ IOwns w' V.heap.size s A3 ∧ Below V.heap.size V w') := fun V hV => by have := merge46u m q es cq u v V hV hm; rw [hE1, hN1, her, hA3] at this; exact this
  clear hb sh sg hbag hB hH hG hm hE1 hN1 her hA3 h300 h3e
  go_enter Try.func16, Try.ntmps16
  go_wp2_with fail
  rw [← hW]
  clear hW
  obtain ⟨kb, hkb⟩ : ∃ kb, w.heap.size = kb := ⟨_, rfl⟩
  rw [hkb] at SHW SGW HWS
  try rw [hkb]
  have HKB := hide hkb
  clear hkb
  have HRB : Hid (∀ u b, u < bn → (brv u).ownBlock = some b → b < W.heap.size) := fun u b hu hb => (World.ownsRow.lt (BGW.out.own u hu) b hb).2
  have HRL : Hid (∀ b, blv.ownBlock = some b → b < W.heap.size) := fun b hb => (World.ownsRow.lt BGW.out.lst b hb).2
  have HLB : Hid (B ≤ W.heap.size) := Nat.le_trans HBS.out HBW.out.size
  refine (C31.out W (HH.out W HBW.out)).mono ?_
  rintro e w5 ⟨pr, cr, sl, rfl, ho, ho2, hb1⟩
  obtain ⟨pl, cl, rfl, _⟩ := IOwns.form ho2
  have R3 : Hid (∀ b, (Value.slice pl A3.length cl).ownBlock = some b → W.heap.size ≤ b ∧ b < w5.heap.size) := fun b hb => World.ownsRow.lt ho2 b hb
  have HBw5 : Hid (Below B w w5) := Below.trans HBW.out (hb1.mono (Nat.le_trans HBS.out HBW.out.size))
  have BGw5 := hide (BGW.out.later hb1)
  have SHw5 := hide (SHW.out.later hb1)
  have SGw5 := hide (SGW.out.later hb1)
  clear HBW BGW SHW SGW
  have ORw5 := hide ho
  have O3w5 := hide ho2
  have Z5 := hide hb1.size
  clear hb1 ho ho2
  obtain ⟨x5, hx5⟩ : ∃ X, X = w5.alloc (nbx N1 pr E1.length cr) := ⟨_, rfl⟩
  have hb1 : Below w5.heap.size w5 x5 := by rw [hx5]; go_grown
  have HBx5 : Hid (Below B w x5) := Below.trans HBw5.out (hb1.mono (Nat.le_trans HBS.out HBw5.out.size))
  have BGx5 := hide (BGw5.out.later hb1)
  have SHx5 := hide (SHw5.out.later hb1)
  have SGx5 := hide (SGw5.out.later hb1)
  have ORx5 := hide (ORw5.out.later hb1)
  have O3x5 := hide (O3w5.out.later hb1)
  clear HBw5 BGw5 SHw5 SGw5 ORw5 O3w5
  have SRx5 : Hid (SBox x5 w5.heap.size N1 (.slice pr E1.length cr)) := by show SBox _ _ _ _; rw [hx5]; exact SBox.made _ _ _
  have ZX5 : Hid (x5.heap.size = w5.heap.size + 1) := by show _ = _; rw [hx5]; simp
  have HZ0 : Hid (W.heap.size ≤ w5.heap.size ∧ w5.heap.size ≤ x5.heap.size) := ⟨Z5.out, hb1.size⟩
  clear hb1
  obtain ⟨x6, hx6⟩ : ∃ X, X = x5.alloc (.cells #[.slice pl A3.length cl] 25) := ⟨_, rfl⟩
  have hb1 : Below x5.heap.size x5 x6 := by rw [hx6]; go_grown
  have HB5 : Hid (B ≤ x5.heap.size) := Nat.le_trans HBS.out HBx5.out.size
  have HBx6 : Hid (Below B w x6) := Below.trans HBx5.out (hb1.mono (Nat.le_trans HBS.out HBx5.out.size))
  have BGx6 := hide (BGx5.out.later hb1)
  have SHx6 := hide (SHx5.out.later hb1)
  have SGx6 := hide (SGx5.out.later hb1)
  have ORx6 := hide (ORx5.out.later hb1)
  have O3x6 := hide (O3x5.out.later hb1)
  have SRx6 := hide (SRx5.out.later hb1)
  clear HBx5 BGx5 SHx5 SGx5 ORx5 O3x5 SRx5
  have hargs : x6.ownsRow x5.heap.size 25 1 (.slice (some ⟨x5.heap.size, 0, none⟩) 1 1) 1 ((List.range 1).map (fun _ => .slice pl A3.length cl)) := by rw [hx6]; exact World.ownsRow_lit x5 #[.slice pl A3.length cl] 1 (Nat.le_refl _) (by unfold maxLen; omega) rfl
  have KP := hide (keep22 B k x5.heap.size 1 x5.heap.size (fun _ => .slice pl A3.length cl) (fun _ => A3) x6 BGx6.out (Nat.le_trans HBS.out HBx6.out.size) HB5.out (by omega) hargs
    (fun h => by have := HRL.out _ h; have := HZ0.out; omega)
    (fun j hj => O3x6.out.base HLB.out)
    (fun j hj => HLN.out)
    (fun i j b hi hj _ _ => by omega)
    (fun j u b hj hu h1 h2 => by have := HZ0.out; have := HRB.out u b hu h2; have := R3.out b h1; omega))
  have Z6 := hide hb1.size
  clear hb1 hargs
  go_wp2_with fail
  rw [← hx5, ← hx6, ← ZX5.out]
  obtain ⟨kr, hkr⟩ : ∃ kr, w5.heap.size = kr := ⟨_, rfl⟩
  have HKR := hide hkr
  rw [hkr] at SRx6
  try rw [hkr]
  clear hx5 hx6 hkr
  refine KP.out.mono ?_
  rintro e Z ⟨rfl, hbagZ, hbZ, hkp⟩
  have HBZ : Hid (Below B w Z) := Below.trans HBx6.out hbZ
  have SHZ := hide (SHx6.out.kp hkp)
  have SGZ := hide (SGx6.out.kp hkp)
  have ORZ := hide (ORx6.out.kp hkp)
  have O3Z := hide (O3x6.out.kp hkp)
  have SRZ := hide (SRx6.out.kp hkp)
  clear HBx6 BGx6 KP hkp hbZ SHx6 SGx6 ORx6 O3x6 SRx6
  obtain ⟨blv2, bn2, brv2, bL2, bsz2, hbg2⟩ := hbagZ
  have BGZ := hide hbg2
  clear hbg2
  obtain ⟨sg0, sg1, sg2, sg3⟩ := SGZ.out.cell
  go_wp2_with fail
  clear sg0 sg1 sg2 sg3
  refine (C46.out Z (HG.out Z HBZ.out)).mono ?_
  rintro e y4 ⟨pq, cq2, sm, rfl, ho, ho2, hb1⟩
  obtain ⟨pm, cm, rfl, _⟩ := IOwns.form ho2
  have HBy4 : Hid (Below B w y4) := Below.trans HBZ.out (hb1.mono (Nat.le_trans HBS.out HBZ.out.size))
  have BGy4 := hide (BGZ.out.later hb1)
  have SHy4 := hide (SHZ.out.later hb1)
  have SGy4 := hide (SGZ.out.later hb1)
  have ORy4 := hide (ORZ.out.later hb1)
  have O3y4 := hide (O3Z.out.later hb1)
  have SRy4 := hide (SRZ.out.later hb1)
  clear HBZ BGZ SHZ SGZ ORZ O3Z SRZ
  have OQy4 := hide ho
  have O5y4 := hide ho2
  clear hb1 ho ho2
  obtain ⟨x8, hx8⟩ : ∃ X, X = y4.alloc (nbx N1 pq E1.length cq2) := ⟨_, rfl⟩
  have hb1 : Below y4.heap.size y4 x8 := by rw [hx8]; go_grown
  have HBx8 : Hid (Below B w x8) := Below.trans HBy4.out (hb1.mono (Nat.le_trans HBS.out HBy4.out.size))
  have BGx8 := hide (BGy4.out.later hb1)
  have SHx8 := hide (SHy4.out.later hb1)
  have SGx8 := hide (SGy4.out.later hb1)
  have ORx8 := hide (ORy4.out.later hb1)
  have O3x8 := hide (O3y4.out.later hb1)
  have SRx8 := hide (SRy4.out.later hb1)
  have OQx8 := hide (OQy4.out.later hb1)
  have O5x8 := hide (O5y4.out.later hb1)
  clear HBy4 BGy4 SHy4 SGy4 ORy4 O3y4 SRy4 OQy4 O5y4
  have SQx8 : Hid (SBox x8 y4.heap.size N1 (.slice pq E1.length cq2)) := by show SBox _ _ _ _; rw [hx8]; exact SBox.made _ _ _
  clear hb1
  have SM := hide (same22 N1 N1 pr pq E1 E1 cr cq2 x8 (by have := HE1.out; omega) ORx8.out.has OQx8.out.has)
  rw [show sameB N1 N1 E1 E1 = true by simp [sameB]] at SM
  have e0q : (er == er) = true := by simp
  obtain ⟨a0, a1, a2, a3⟩ := SRx8.out.cell
  obtain ⟨b0, b1, b2, b3⟩ := SQx8.out.cell
  rw [hx8] at a0 a1 a2 a3 b0 b1 b2 b3
  go_wp2_with fail
  rw [← hx8]
  obtain ⟨kq, hkq⟩ : ∃ kq, y4.heap.size = kq := ⟨_, rfl⟩
  rw [hkq] at SQx8
  try rw [hkq]
  clear hx8 hkq
  clear a0 a1 a2 a3 b0 b1 b2 b3
  refine SM.out.mono ?_
  rintro e y5 ⟨rfl, hb1⟩
  have HBy5 : Hid (Below B w y5) := Below.trans HBx8.out (hb1.mono (Nat.le_trans HBS.out HBx8.out.size))
  have BGy5 := hide (BGx8.out.later hb1)
  have SHy5 := hide (SHx8.out.later hb1)
  have SGy5 := hide (SGx8.out.later hb1)
  have ORy5 := hide (ORx8.out.later hb1)
  have O3y5 := hide (O3x8.out.later hb1)
  have SRy5 := hide (SRx8.out.later hb1)
  have OQy5 := hide (OQx8.out.later hb1)
  have O5y5 := hide (O5x8.out.later hb1)
  have SQy5 := hide (SQx8.out.later hb1)
  clear HBx8 BGx8 SHx8 SGx8 ORx8 O3x8 SRx8 OQx8 O5x8 SQx8
  clear hb1 SM
  have I1 := hide (ints30 pl pm A3 A3 cl cm y5 (by have := HLN.out; unfold maxLen; omega) O3y5.out.has O5y5.out.has)
  rw [decide_eq_true rfl] at I1
  go_wp2_with fail
  refine I1.out.mono ?_
  rintro e y6 ⟨rfl, hb1⟩
  have HBy6 : Hid (Below B w y6) := Below.trans HBy5.out (hb1.mono (Nat.le_trans HBS.out HBy5.out.size))
  have BGy6 := hide (BGy5.out.later hb1)
  have SHy6 := hide (SHy5.out.later hb1)
  have SGy6 := hide (SGy5.out.later hb1)
  have ORy6 := hide (ORy5.out.later hb1)
  have O3y6 := hide (O3y5.out.later hb1)
  have SRy6 := hide (SRy5.out.later hb1)
  have OQy6 := hide (OQy5.out.later hb1)
  have O5y6 := hide (O5y5.out.later hb1)
  have SQy6 := hide (SQy5.out.later hb1)
  clear HBy5 BGy5 SHy5 SGy5 ORy5 O3y5 SRy5 OQy5 O5y5 SQy5
  clear hb1 I1
  obtain ⟨a0, a1, a2, a3⟩ := SRy6.out.cell
  go_wp2_with fail
  clear a0 a1 a2 a3
  refine (spoil43 N1 pr E1 cr B y6 (ORy6.out.base HLB.out) (Nat.le_trans HBS.out HBy6.out.size) HE1.out).mono ?_
  rintro e u2 ⟨rfl, hf⟩
  have HBu2 : Hid (Below B w u2) := Below.trans HBy6.out (hf.below (Nat.le_trans HBS.out HBy6.out.size) (fun i hi => Nat.le_trans HLB.out (World.ownsRow.lt ORy6.out i hi).1))
  have BGu2 := hide (BGy6.out.k60 (k60_of ORy6.out hf))
  clear hf
  go_wp2
  go_ret
  exact ⟨rfl, ⟨_, _, _, _, _, BGu2.out⟩, HBu2.out⟩
end Go.Proofs.Ytmmbbfmkhbengaa
