/- WalkAll: its walk, whatever the net. -/
import Derived.Test.YtghffodjffkijaaL10
/- WalkAll: its walk. -/
namespace Go.Proofs.Ytghffodjffkijaa
open Go.RowKit Go.Sort Go.Shelf
open Go

set_option maxRecDepth 100000 in
set_option maxHeartbeats 16000000 in
theorem all_C (n : Int) (p : Option Addr) (es : List Pt) (cp : Nat) (s : Int) (w : World) (h : Has w p es) (hnil : p = none → cp = 0) (hl : lightB n es = true) (hm : netB n es = true) (hs0 : ¬ s < 0) (hs1 : ¬ n ≤ s) : Calls Try.prog 3 #[nv n p es.length cp, .int .i64 s] w fun e w' => e = .returned (.bool true) ∧ Below w.heap.size w w' := by
  have hr : refI n es s = 0 := by simp [refI, hm]; omega
  have h3e : es.length ≤ 300 := by unfold lightB at hl; simp at hl; omega
  have hn3 : n ≤ 300 := by unfold lightB at hl; rw [hm] at hl; simp at hl; omega
  obtain ⟨m, t, hmn, hts, hmm, htm⟩ := ref_is hr
  have HD : Hid ((bSt n es s).O.length ≤ 300 ∧ (bSt n es s).By.length ≤ 300 ∧ (bSt n es s).Fa.length ≤ 300 ∧ (dSt n es s).O.length ≤ 300 ∧ (dSt n es s).By.length ≤ 300 ∧ (dSt n es s).Fa.length ≤ 300 ∧ (dLw n es s).length ≤ 300 ∧ (pLb n es).length ≤ 300 ∧ ∀ j, j < (bSt n es s).O.length → 0 ≤ iat (bSt n es s).O j ∧ iat (bSt n es s).O j < (n.toNat : Int)) := by
    have e1 : bSt n es s = bOne es m t := by unfold bSt; rw [if_pos hr, hmn, hts]; rfl
    have e2 : dSt n es s = dOneSt es m t := by unfold dSt; rw [if_pos hr, hmn, hts]; rfl
    have e3 : (dLw n es s).length = m := by unfold dLw; rw [if_pos hr, lwN_len, hmn]; rfl
    have e4 : (pLb n es).length = m := by unfold pLb; rw [hm, if_pos rfl, plab_len, hmn]; rfl
    have k1 : Ok m (bOne es m t) := (bOne_reach hmm htm).ok
    have k2 : Ok m (dOneSt es m t) := (dOneSt_reach hmm htm).1.ok
    have a1 := k1.cnt; have a2 := k1.lb; have a3 := k1.lf; have b1 := k2.cnt; have b2 := k2.lb; have b3 := k2.lf
    rw [e1, e2, e3, e4]
    refine ⟨by omega, by omega, by omega, by omega, by omega, by omega, by omega, by omega, fun j hj => ?_⟩
    rw [hmn, Int.toNat_natCast]
    exact k1.mem j hj
  clear hmn hts hmm htm m t
  obtain ⟨W, hW, hb, a0⟩ := one_net w n p es.length cp
  have BG := hide (begun9 W)
  have HH := hide (h.later hb)
  have HB := hide hb
  have HA := hide a0
  have HL := hide hl
  have HNIL := hide hnil
  have HM := hide hm
  have HR := hide hr
  clear h hb a0 hl hnil hm hr hn3
  go_enter Try.func3, Try.ntmps3
  go_wp2_with fail
  rw [← hW]
  clear hW
  obtain ⟨kg, hkg⟩ : ∃ k, w.heap.size = k := ⟨_, rfl⟩
  have HKG := hide hkg
  rw [hkg] at HA
  try rw [hkg]
  clear hkg
  refine BG.out.mono ?_
  rintro e w1 ⟨rfl, hb1⟩
  have L9 := hide (light9 n p es cp w1 (HH.out.later hb1))
  rw [HL.out] at L9
  have HB1 := hide hb1
  obtain ⟨q0, q1, _, _⟩ := HA.out.later hb1
  clear hb1 BG
  go_wp2_with fail
  refine L9.out.mono ?_
  rintro e w2 ⟨rfl, hb2⟩
  have HB2 := hide (below_step HB1.out hb2)
  clear hb2 q0 q1 L9
  have TW := hide (twin11 n p es cp w2 HNIL.out (by omega) (HH.out.later HB2.out))
  obtain ⟨q0, q1, _, _⟩ := HA.out.later HB2.out
  go_wp2_with fail
  refine TW.out.mono ?_
  rintro e w3 ⟨gt, ct, rfl, hot, hct, hb3⟩
  have HB3 := hide (below_step HB2.out hb3)
  have OT3 := hide hot
  have HCT := hide hct
  clear hb3 hot hct TW q0 q1
  obtain ⟨x3, hx3⟩ : ∃ X, X = w3.alloc (nbx n (some ⟨gt, 0, none⟩) es.length ct) := ⟨_, rfl⟩
  have hb4 : Below w3.heap.size w3 x3 := by rw [hx3]; go_grown
  have HBx := hide (below_step HB3.out hb4)
  have OTx := hide (OT3.out.later hb4)
  have SHx : Hid (NOwn x3 w3.heap.size n (some ⟨gt, 0, none⟩) es.length ct) := by show NOwn _ _ _ _ _ _; rw [hx3]; exact ⟨by unfold nbx; go_cell, by unfold nbx; go_cell, by unfold nbx; go_cell, by unfold nbx; go_cell⟩
  have HAx := hide (HA.out.later HBx.out)
  clear hb4
  obtain ⟨X, hX⟩ : ∃ X, X = x3.alloc (.cells #[.slice none 0 0, .int .i64 0] 31) := ⟨_, rfl⟩
  have hbX : Below x3.heap.size x3 X := by rw [hX]; go_grown
  have HBAG : Hid (∃ lv n rv L sz, Bag X x3.heap.size x3.heap.size lv n rv L sz) := ⟨.slice none 0 0, 0, fun _ => .slice none 0 0, fun _ => [], 0, by rw [hX]; exact World.ownsRow_lit x3 #[.slice none 0 0, .int .i64 0] 1 (Nat.zero_le _) (by unfold maxLen; omega) rfl, Nat.le_refl _, World.ownsRow_nil _ _ _ _, fun u v j hu => by omega, fun v hv => by omega, fun v hv => by omega, by omega, by omega⟩
  have HXY := hide hbX
  have M12 := hide (may12 n p es cp X (HH.out.later (below_step HBx.out hbX)))
  rw [HM.out] at M12
  obtain ⟨q0, q1, _, _⟩ := HAx.out.later hbX
  rw [hX, hx3] at q0 q1
  clear hbX
  go_wp2_with fail
  rw [← hx3]
  have hX2 := hX
  rw [hx3] at hX2
  try rw [← hX2]
  try rw [← hX]
  obtain ⟨kh, hkh⟩ : ∃ k, w3.heap.size = k := ⟨_, rfl⟩
  rw [hkh] at SHx
  try rw [hkh]
  have hxs : x3.heap.size = kh + 1 := by rw [hx3]; simp [hkh]
  clear hX2 hX hx3 hkh q0 q1
  have HG1 : Hid (∀ V, Below x3.heap.size x3 V → Has V p es) := fun V hV => HH.out.later (below_step HBx.out hV)
  have HH1 : Hid (∀ V, Below x3.heap.size x3 V → Lies V gt 0 (es ++ [mk])) := fun V hV => by
    have := OTx.out.later hV
    rw [show es.length + 1 = (es ++ [mk]).length by simp] at this
    exact this.lies
  have HT1 : Hid (∀ V, Below x3.heap.size x3 V → Has V (some ⟨gt, 0, none⟩) es) := fun V hV => Or.inr ⟨gt, 0, rfl, lies_left (HH1.out V hV)⟩
  have HE1 : Hid (∀ V, Below x3.heap.size x3 V → Below w.heap.size w V) := fun V hV => below_step (below_step HB.out HBx.out) hV
  have HC1 : Hid (∀ V, Below x3.heap.size x3 V → (V.cell? ⟨kh, 0, none⟩ = some (.int .i64 n) ∧ V.cell? ⟨kh, 1, none⟩ = some (.slice (some ⟨gt, 0, none⟩) es.length ct)) ∧ V.cell? ⟨kg, 0, none⟩ = some (.int .i64 n) ∧ V.cell? ⟨kg, 1, none⟩ = some (.slice p es.length cp)) := fun V hV => ⟨⟨(SHx.out.later hV).1, (SHx.out.later hV).2.1⟩, (HAx.out.later hV).1, (HAx.out.later hV).2.1⟩
  obtain ⟨D1, hD1⟩ : ∃ d, bSt n es s = d := ⟨_, rfl⟩
  obtain ⟨D2, hD2⟩ : ∃ d, dSt n es s = d := ⟨_, rfl⟩
  obtain ⟨LW, hLW⟩ : ∃ l, dLw n es s = l := ⟨_, rfl⟩
  obtain ⟨PL, hPL⟩ : ∃ l, pLb n es = l := ⟨_, rfl⟩
  obtain ⟨PC, hPC⟩ : ∃ l, pCt n es = l := ⟨_, rfl⟩
  have CB : Hid (∀ V, Below x3.heap.size x3 V → Calls Try.prog 13 #[nv n (some ⟨gt, 0, none⟩) es.length ct, .int .i64 s] V fun e w' => ∃ p0 p1 p2 c0 c1 c2, e = .returned (.tuple #[tv (.slice p0 D1.O.length c0) (.slice p1 D1.By.length c1) (.slice p2 D1.Fa.length c2) (.slice none 0 0), .int .i64 0]) ∧ TQ w' V.heap.size p0 p1 p2 none c0 c1 c2 0 D1.O D1.By D1.Fa [] ∧ Below V.heap.size V w') := fun V hV => by
    have := breadthU n (some ⟨gt, 0, none⟩) es ct s V (HT1.out V hV)
    rw [HR.out, hD1] at this
    exact this
  have CD : Hid (∀ V, Below x3.heap.size x3 V → Calls Try.prog 14 #[nv n (some ⟨gt, 0, none⟩) es.length ct, .int .i64 s] V fun e w' => ∃ q0 q1 q2 q3 d0 d1 d2 d3, e = .returned (.tuple #[tv (.slice q0 D2.O.length d0) (.slice q1 D2.By.length d1) (.slice q2 D2.Fa.length d2) (.slice q3 LW.length d3), .int .i64 0]) ∧ TQ w' V.heap.size q0 q1 q2 q3 d0 d1 d2 d3 D2.O D2.By D2.Fa LW ∧ Below V.heap.size V w') := fun V hV => by
    have := depthU n (some ⟨gt, 0, none⟩) es ct s V (HT1.out V hV)
    rw [HR.out, hD2, hLW] at this
    exact this
  have CP : Hid (∀ V, Below x3.heap.size x3 V → Calls Try.prog 15 #[nv n (some ⟨gt, 0, none⟩) es.length ct] V fun e w' => ∃ pp cq, e = .returned (.tuple #[.slice pp PL.length cq, .int .i64 (PC : Nat), .int .i64 0]) ∧ IOwns w' V.heap.size (.slice pp PL.length cq) PL ∧ Below V.heap.size V w') := fun V hV => by
    have := partsU n (some ⟨gt, 0, none⟩) es ct V (HT1.out V hV)
    rw [HM.out, hPL, hPC] at this
    exact this
  have RB : Hid (∀ V, Below x3.heap.size x3 V → Calls Try.prog 16 #[nv n p es.length cp, .int .i64 s] V fun e w' => ∃ r0 r1 r2 a0 a1 a2, e = .returned (tv (.slice r0 D1.O.length a0) (.slice r1 D1.By.length a1) (.slice r2 D1.Fa.length a2) (.slice none 0 0)) ∧ TQ w' V.heap.size r0 r1 r2 none a0 a1 a2 0 D1.O D1.By D1.Fa [] ∧ Below V.heap.size V w') := fun V hV => by
    have := breadthR n p es cp s V (HG1.out V hV) HR.out
    rw [hD1] at this
    exact this
  have RD : Hid (∀ V, Below x3.heap.size x3 V → Calls Try.prog 17 #[nv n p es.length cp, .int .i64 s] V fun e w' => ∃ s0 s1 s2 s3 b0 b1 b2 b3, e = .returned (tv (.slice s0 D2.O.length b0) (.slice s1 D2.By.length b1) (.slice s2 D2.Fa.length b2) (.slice s3 LW.length b3)) ∧ TP w' V.heap.size s0 s1 s2 s3 b0 b1 b2 b3 D2.O D2.By D2.Fa LW ∧ Below V.heap.size V w') := fun V hV => by
    have := depthR n p es cp s V (HG1.out V hV) HR.out
    rw [hD2, hLW] at this
    exact this
  have RP : Hid (∀ V, Below x3.heap.size x3 V → Calls Try.prog 20 #[nv n p es.length cp, .slice none 0 0, .slice none 0 0] V fun e w' => ∃ pr cr, e = .returned (.tuple #[.slice pr PL.length cr, .int .i64 (PC : Nat)]) ∧ IOwns w' V.heap.size (.slice pr PL.length cr) PL ∧ Below V.heap.size V w') := fun V hV => by
    have := partsR n p es cp V (HG1.out V hV) HM.out
    rw [hPL, hPC] at this
    exact this
  rw [hD1, hD2, hLW, hPL] at HD
  have HD1 := hide hD1
  clear hD1 hD2 hLW hPL hPC
  have HLN : Hid (D1.O.length ≤ 20000 ∧ D1.By.length ≤ 20000 ∧ D1.Fa.length ≤ 20000 ∧ D2.O.length ≤ 20000 ∧ D2.By.length ≤ 20000 ∧ D2.Fa.length ≤ 20000 ∧ LW.length ≤ 20000 ∧ PL.length ≤ 20000) := by obtain ⟨h1, h2, h3, h4, h5, h6, h7, h8, _⟩ := HD.out; exact ⟨by omega, by omega, by omega, by omega, by omega, by omega, by omega, by omega⟩
  have HLP : Hid (PL.length ≤ 300) := HD.out.2.2.2.2.2.2.2.1
  refine M12.out.mono ?_
  rintro e w4 ⟨rfl, hb5⟩
  have HBG4 : Hid (Below x3.heap.size x3 w4 ∧ ∃ lv n rv L sz, Bag w4 x3.heap.size x3.heap.size lv n rv L sz) := by
    obtain ⟨b1, b2, b3, b4, b5, hbg⟩ := HBAG.out
    exact ⟨below_step HXY.out hb5, b1, b2, b3, b4, b5, hbg.later hb5⟩
  obtain ⟨_, c2, c3⟩ := HC1.out w4 HBG4.out.1
  obtain ⟨B, hB⟩ : ∃ B, x3.heap.size = B := ⟨_, rfl⟩
  have HBE := hide hB
  rw [hB] at HBG4 HG1 HH1 HT1 HE1 HC1 CB CD CP RB RD RP hxs
  try rw [hB]
  clear hB hb5 M12 HBAG HXY
  have i5 : (s ≥ n) = False := by simp; omega
  go_wp2_with fail
  clear c2 c3 i5
  rw [← hxs]
  clear hxs
  go_loopw [9] (fun t wr => ∃ i : Nat, i ≤ 2 ∧ t = .int .i64 i ∧ Hid (Below B x3 wr ∧ ∃ lv n rv L sz, Bag wr B B lv n rv L sz)) (fun t _ => 2 - (intOf t).toNat)
  case atStart => exact ⟨0, by omega, rfl, HBG4.out⟩
  case round =>
    obtain ⟨i, hi, rfl, HRR⟩ := hrel
    obtain ⟨hbr, blv, bn, brv, bL, bsz, hbg⟩ := HRR.out
    clear HRR HBG4
    have HBwr := hide hbr
    have BGwr := hide hbg
    by_cases hlt : i < 2
    · have i1 : (i : Int) < 2 := by omega
      clear hbr hbg
      have HRB : Hid (∀ u b, u < bn → (brv u).ownBlock = some b → b < wr.heap.size) := fun u b hu hb => (World.ownsRow.lt (BGwr.out.own u hu) b hb).2
      have HRL : Hid (∀ b, blv.ownBlock = some b → b < wr.heap.size) := fun b hb => (World.ownsRow.lt BGwr.out.lst b hb).2
      have Z0 : Hid (B ≤ wr.heap.size) := by show _ ≤ _; have := HBwr.out.size; have := HBE.out; omega
      obtain ⟨⟨g0, g1⟩, g2, g3⟩ := HC1.out wr HBwr.out
      go_wp2_with fail
      clear g0 g1 g2 g3
      refine (CB.out wr HBwr.out).mono ?_
      rintro e u1 ⟨p0, p1, p2, c0, c1, c2, rfl, hq, hb1⟩
      have R0 : Hid (∀ b, (Value.slice p0 D1.O.length c0).ownBlock = some b → wr.heap.size ≤ b ∧ b < u1.heap.size) := fun b hb => World.ownsRow.lt hq.o0 b hb
      have R1 : Hid (∀ b, (Value.slice p1 D1.By.length c1).ownBlock = some b → wr.heap.size ≤ b ∧ b < u1.heap.size) := fun b hb => World.ownsRow.lt hq.o1 b hb
      have R2 : Hid (∀ b, (Value.slice p2 D1.Fa.length c2).ownBlock = some b → wr.heap.size ≤ b ∧ b < u1.heap.size) := fun b hb => World.ownsRow.lt hq.o2 b hb
      have HBu1 : Hid (Below B x3 u1) := Below.trans HBwr.out (hb1.mono (by have := HBwr.out.size; have := HBE.out; omega))
      have BGu1 := hide (BGwr.out.later hb1)
      clear HBwr BGwr
      have T1u1 := hide hq
      have Z1 := hide hb1.size
      clear hq hb1
      obtain ⟨y1, hy1⟩ : ∃ X, X = u1.alloc (.cells #[.slice p0 D1.O.length c0, .slice p1 D1.By.length c1, .slice p2 D1.Fa.length c2, .slice none 0 0] 35) := ⟨_, rfl⟩
      have hb1 : Below u1.heap.size u1 y1 := by rw [hy1]; go_grown
      have HBy1 : Hid (Below B x3 y1) := Below.trans HBu1.out (hb1.mono (by have := HBu1.out.size; have := HBE.out; omega))
      have BGy1 := hide (BGu1.out.later hb1)
      have T1y1 := hide (T1u1.out.later hb1)
      clear HBu1 BGu1 T1u1
      have K1y1 : Hid (World.ownsRow y1 0 35 4 (.slice (some ⟨u1.heap.size, 0, none⟩) 1 1) 1 [.slice p0 D1.O.length c0, .slice p1 D1.By.length c1, .slice p2 D1.Fa.length c2, .slice none 0 0]) := by show World.ownsRow _ _ _ _ _ _ _; rw [hy1]; exact box35 _ _ _ _ _
      have Zy1 := hide hb1.size
      have ZQy1 : Hid (y1.heap.size = u1.heap.size + 1) := by show _ = _; rw [hy1]; simp
      clear hb1
      obtain ⟨⟨g0, g1⟩, g2, g3⟩ := HC1.out y1 HBy1.out
      rw [hy1] at g0 g1 g2 g3
      go_wp2_with fail
      rw [← hy1]
      obtain ⟨k10, hk10⟩ : ∃ k, u1.heap.size = k := ⟨_, rfl⟩
      have Hk10 := hide hk10
      rw [hk10] at K1y1
      try rw [hk10]
      clear hy1 hk10
      clear g0 g1 g2 g3
      refine (CD.out y1 HBy1.out).mono ?_
      rintro e u2 ⟨q0, q1, q2, q3, d0, d1, d2, d3, rfl, hq, hb1⟩
      have R3 : Hid (∀ b, (Value.slice q0 D2.O.length d0).ownBlock = some b → y1.heap.size ≤ b ∧ b < u2.heap.size) := fun b hb => World.ownsRow.lt hq.o0 b hb
      have R4 : Hid (∀ b, (Value.slice q1 D2.By.length d1).ownBlock = some b → y1.heap.size ≤ b ∧ b < u2.heap.size) := fun b hb => World.ownsRow.lt hq.o1 b hb
      have R5 : Hid (∀ b, (Value.slice q2 D2.Fa.length d2).ownBlock = some b → y1.heap.size ≤ b ∧ b < u2.heap.size) := fun b hb => World.ownsRow.lt hq.o2 b hb
      have R6 : Hid (∀ b, (Value.slice q3 LW.length d3).ownBlock = some b → y1.heap.size ≤ b ∧ b < u2.heap.size) := fun b hb => World.ownsRow.lt hq.o3 b hb
      have HBu2 : Hid (Below B x3 u2) := Below.trans HBy1.out (hb1.mono (by have := HBy1.out.size; have := HBE.out; omega))
      have BGu2 := hide (BGy1.out.later hb1)
      have T1u2 := hide (T1y1.out.later hb1)
      have K1u2 := hide (box_later K1y1.out hb1)
      clear HBy1 BGy1 T1y1 K1y1
      have T2u2 := hide hq
      have Z2 := hide hb1.size
      clear hq hb1
      obtain ⟨y2, hy2⟩ : ∃ X, X = u2.alloc (.cells #[.slice q0 D2.O.length d0, .slice q1 D2.By.length d1, .slice q2 D2.Fa.length d2, .slice q3 LW.length d3] 35) := ⟨_, rfl⟩
      have hb1 : Below u2.heap.size u2 y2 := by rw [hy2]; go_grown
      have HBy2 : Hid (Below B x3 y2) := Below.trans HBu2.out (hb1.mono (by have := HBu2.out.size; have := HBE.out; omega))
      have BGy2 := hide (BGu2.out.later hb1)
      have T1y2 := hide (T1u2.out.later hb1)
      have K1y2 := hide (box_later K1u2.out hb1)
      have T2y2 := hide (T2u2.out.later hb1)
      clear HBu2 BGu2 T1u2 K1u2 T2u2
      have K2y2 : Hid (World.ownsRow y2 0 35 4 (.slice (some ⟨u2.heap.size, 0, none⟩) 1 1) 1 [.slice q0 D2.O.length d0, .slice q1 D2.By.length d1, .slice q2 D2.Fa.length d2, .slice q3 LW.length d3]) := by show World.ownsRow _ _ _ _ _ _ _; rw [hy2]; exact box35 _ _ _ _ _
      have Zy2 := hide hb1.size
      have ZQy2 : Hid (y2.heap.size = u2.heap.size + 1) := by show _ = _; rw [hy2]; simp
      clear hb1
      obtain ⟨⟨g0, g1⟩, g2, g3⟩ := HC1.out y2 HBy2.out
      rw [hy2] at g0 g1 g2 g3
      go_wp2_with fail
      rw [← hy2]
      obtain ⟨k12, hk12⟩ : ∃ k, u2.heap.size = k := ⟨_, rfl⟩
      have Hk12 := hide hk12
      rw [hk12] at K2y2
      try rw [hk12]
      clear hy2 hk12
      clear g0 g1 g2 g3
      refine (CP.out y2 HBy2.out).mono ?_
      rintro e u3 ⟨pp, cq, rfl, hq, hb1⟩
      have R7 : Hid (∀ b, (Value.slice pp PL.length cq).ownBlock = some b → y2.heap.size ≤ b ∧ b < u3.heap.size) := fun b hb => World.ownsRow.lt hq b hb
      have HBu3 : Hid (Below B x3 u3) := Below.trans HBy2.out (hb1.mono (by have := HBy2.out.size; have := HBE.out; omega))
      have BGu3 := hide (BGy2.out.later hb1)
      have T1u3 := hide (T1y2.out.later hb1)
      have K1u3 := hide (box_later K1y2.out hb1)
      have T2u3 := hide (T2y2.out.later hb1)
      have K2u3 := hide (box_later K2y2.out hb1)
      clear HBy2 BGy2 T1y2 K1y2 T2y2 K2y2
      have OPu3 := hide hq
      have Z3 := hide hb1.size
      clear hq hb1
      obtain ⟨y3, hy3⟩ : ∃ X, X = (u3.alloc (.cells #[.slice none 0 0, .slice none 0 0, .slice none 0 0, .slice none 0 0] 35)).alloc (.cells #[.slice none 0 0, .slice none 0 0, .slice none 0 0, .slice none 0 0] 35) := ⟨_, rfl⟩
      have hb1 : Below u3.heap.size u3 y3 := by rw [hy3]; go_grown
      have HBy3 : Hid (Below B x3 y3) := Below.trans HBu3.out (hb1.mono (by have := HBu3.out.size; have := HBE.out; omega))
      have BGy3 := hide (BGu3.out.later hb1)
      have T1y3 := hide (T1u3.out.later hb1)
      have K1y3 := hide (box_later K1u3.out hb1)
      have T2y3 := hide (T2u3.out.later hb1)
      have K2y3 := hide (box_later K2u3.out hb1)
      have OPy3 := hide (OPu3.out.later hb1)
      clear HBu3 BGu3 T1u3 K1u3 T2u3 K2u3 OPu3
      have K3y3 : Hid (World.ownsRow y3 0 35 4 (.slice (some ⟨u3.heap.size, 0, none⟩) 1 1) 1 [.slice none 0 0, .slice none 0 0, .slice none 0 0, .slice none 0 0]) := by show World.ownsRow _ _ _ _ _ _ _; rw [hy3]; exact box_later (box35 _ _ _ _ _) (by go_grown)
      have K4y3 : Hid (World.ownsRow y3 0 35 4 (.slice (some ⟨u3.heap.size + 1, 0, none⟩) 1 1) 1 [.slice none 0 0, .slice none 0 0, .slice none 0 0, .slice none 0 0]) := by
        show World.ownsRow _ _ _ _ _ _ _
        rw [hy3]
        have := box35 (u3.alloc (.cells #[.slice none 0 0, .slice none 0 0, .slice none 0 0, .slice none 0 0] 35)) (.slice none 0 0) (.slice none 0 0) (.slice none 0 0) (.slice none 0 0)
        simpa using this
      have Zy3 := hide hb1.size
      clear hb1
      go_upto_region 21 with fail
      rw [← hy3]
      obtain ⟨k17, hk17⟩ : ∃ k, u3.heap.size = k := ⟨_, rfl⟩
      obtain ⟨k18, hk18⟩ : ∃ k, u3.heap.size + 1 = k := ⟨_, rfl⟩
      have Hk17 := hide hk17
      have Hk18 := hide hk18
      rw [hk18] at K4y3
      rw [hk17] at K3y3
      try rw [hk18]
      try rw [hk17]
      clear hk17 hk18
      clear hy3
      obtain ⟨V0, hV0⟩ : ∃ V, V = y3.drew := ⟨_, rfl⟩
      have hb1 : Below y3.heap.size y3 V0 := by rw [hV0]; exact below_drew _
      have HBV0 : Hid (Below B x3 V0) := Below.trans HBy3.out (hb1.mono (by have := HBy3.out.size; have := HBE.out; omega))
      have BGV0 := hide (BGy3.out.later hb1)
      have T1V0 := hide (T1y3.out.later hb1)
      have K1V0 := hide (box_later K1y3.out hb1)
      have T2V0 := hide (T2y3.out.later hb1)
      have K2V0 := hide (box_later K2y3.out hb1)
      have OPV0 := hide (OPy3.out.later hb1)
      have K3V0 := hide (box_later K3y3.out hb1)
      have K4V0 := hide (box_later K4y3.out hb1)
      clear HBy3 BGy3 T1y3 K1y3 T2y3 K2y3 OPy3 K3y3 K4y3
      have ZV := hide hb1.size
      clear hb1
      obtain ⟨_, g2, g3⟩ := HC1.out V0 HBV0.out
      refine wp_region_held_drew (S := (fun W' => W'.cell? ⟨kg, 0, none⟩ = some (.int .i64 n) ∧ W'.cell? ⟨kg, 1, none⟩ = some (.slice p es.length cp))) (by kernel_rfl) (by rw [← hV0]; exact ⟨g2, g3⟩) (fun hHeld => ?_)
      rw [← hV0] at hHeld ⊢
      clear hV0
      change wpAnyH Try.prog .any _ _ _ 8 #[false, false, false, false, false, false, false, false] _ _
      refine wpAnyH_take (i := 0) (v := ?v1) rfl (by kernel_rfl) (by kernel_rfl) (by kernel_rfl) (fun _ _ _ h => h) (Or.inl ⟨by rfl, ?hy1⟩) (by assumption) ?rest1
      case hy1 => (intro w hSw; (try dsimp only at hSw); go_simp; try with_reducible rfl)
      try simp only [Act.put, List.setIfInBounds_toArray, List.set_cons_zero]
      refine wpAnyH_take (i := 1) (v := ?v2) rfl (by kernel_rfl) (by kernel_rfl) (by kernel_rfl) (fun _ _ _ h => h) (Or.inl ⟨by rfl, ?hy2⟩) (by assumption) ?rest2
      case hy2 => (intro w hSw; (try dsimp only at hSw); go_simp; try with_reducible rfl)
      try simp only [Act.put, List.setIfInBounds_toArray, List.set_cons_zero, List.set_cons_succ]
      refine wpAnyH_take (i := 3) (v := ?v3) rfl (by kernel_rfl) (by kernel_rfl) (by kernel_rfl) (fun _ _ _ h => h) (Or.inl ⟨by rfl, ?hy3⟩) (by assumption) ?rest3
      case hy3 => (intro w hSw; (try dsimp only at hSw); go_simp; try with_reducible rfl)
      try simp only [Act.put, List.setIfInBounds_toArray, List.set_cons_zero, List.set_cons_succ]
      refine wpAnyH_take (i := 4) (v := ?v4) rfl (by kernel_rfl) (by kernel_rfl) (by kernel_rfl) (fun _ _ _ h => h) (Or.inl ⟨by rfl, ?hy4⟩) (by assumption) ?rest4
      case hy4 => (intro w hSw; (try dsimp only at hSw); go_simp; try with_reducible rfl)
      try simp only [Act.put, List.setIfInBounds_toArray, List.set_cons_zero, List.set_cons_succ]
      refine wpAnyH_ready (rs := [2]) (by kernel_rfl) (by simp) ?_
      refine ready_cons ({ dst := some 68, op := Op.call { callee := Callee.value (Operand.func 16), args := #[Operand.tmp 66, Operand.tmp 67], argTypes := #[24, 3] }, type := 35, pos := "law.go:54", after := #[{ on := 0, ground := Ground.data }, { on := 1, ground := Ground.data }], guard := none }) rfl rfl (fun K hK => ?_) ?_
      · clear hHeld g2 g3
        go_simp
        refine (RB.out V0 HBV0.out).mono ?_
        rintro e V1 ⟨r0, r1, r2, a0, a1, a2, rfl, hq, hb1⟩
        have HBV1 : Hid (Below B x3 V1) := Below.trans HBV0.out (hb1.mono (by have := HBV0.out.size; have := HBE.out; omega))
        have BGV1 := hide (BGV0.out.later hb1)
        have T1V1 := hide (T1V0.out.later hb1)
        have K1V1 := hide (box_later K1V0.out hb1)
        have T2V1 := hide (T2V0.out.later hb1)
        have K2V1 := hide (box_later K2V0.out hb1)
        have OPV1 := hide (OPV0.out.later hb1)
        have K3V1 := hide (box_later K3V0.out hb1)
        have K4V1 := hide (box_later K4V0.out hb1)
        clear HBV0 BGV0 T1V0 K1V0 T2V0 K2V0 OPV0 K3V0 K4V0
        have T3V1 := hide hq
        have Z4 := hide hb1.size
        clear hq hb1
        obtain ⟨_, g2, g3⟩ := HC1.out V1 HBV1.out
        refine hK.out _ _ (⟨g2, g3⟩) (fun hHeld => ?_)
        clear hK K
        try simp only [List.setIfInBounds_toArray, List.set_cons_zero, List.set_cons_succ]
        refine wpAnyH_ready (rs := [5]) (by kernel_rfl) (by simp) ?_
        refine ready_cons ({ dst := some 71, op := Op.call { callee := Callee.value (Operand.func 17), args := #[Operand.tmp 69, Operand.tmp 70], argTypes := #[24, 3] }, type := 35, pos := "law.go:54", after := #[{ on := 3, ground := Ground.data }, { on := 4, ground := Ground.data }, { on := 2, ground := Ground.chain }], guard := none }) rfl rfl (fun K hK => ?_) ?_
        · clear hHeld g2 g3
          go_simp
          refine (RD.out V1 HBV1.out).mono ?_
          rintro e V2 ⟨s0, s1, s2, s3, b0, b1, b2, b3, rfl, hq, hb1⟩
          have HBV2 : Hid (Below B x3 V2) := Below.trans HBV1.out (hb1.mono (by have := HBV1.out.size; have := HBE.out; omega))
          have BGV2 := hide (BGV1.out.later hb1)
          have T1V2 := hide (T1V1.out.later hb1)
          have K1V2 := hide (box_later K1V1.out hb1)
          have T2V2 := hide (T2V1.out.later hb1)
          have K2V2 := hide (box_later K2V1.out hb1)
          have OPV2 := hide (OPV1.out.later hb1)
          have K3V2 := hide (box_later K3V1.out hb1)
          have K4V2 := hide (box_later K4V1.out hb1)
          have T3V2 := hide (T3V1.out.later hb1)
          clear HBV1 BGV1 T1V1 K1V1 T2V1 K2V1 OPV1 K3V1 K4V1 T3V1
          have T4V2 := hide hq
          have Z5 := hide hb1.size
          clear hq hb1
          obtain ⟨_, g2, g3⟩ := HC1.out V2 HBV2.out
          have HKK : Hid (k17 < k18 ∧ B ≤ k17) := by
            show _ ∧ _
            have := Z0.out; have := Z1.out; have := Zy1.out; have := Z2.out; have := Zy2.out; have := Z3.out; have := Hk17.out; have := Hk18.out; have := Hk10.out; have := Hk12.out
            exact ⟨by omega, by omega⟩
          have nk0 : kg < x3.heap.size := block_lt_of_cell (HC1.out x3 (Below.refl _ _)).2.1
          have nk1 : kg ≠ k17 := by have := HKK.out; have := HBE.out; omega
          have nk2 : kg ≠ k18 := by have := HKK.out; have := HBE.out; omega
          clear nk0
          refine hK.out _ _ (⟨g2, g3⟩) (fun hHeld => ?_)
          clear hK K
          try simp only [List.setIfInBounds_toArray, List.set_cons_zero, List.set_cons_succ]
          refine wpAnyH_ready (rs := [6]) (by kernel_rfl) (by simp) ?_
          refine ready_cons ({ dst := none, op := Op.store 35 (Operand.tmp 17) (Operand.tmp 68), type := 0, pos := "law.go:54", after := #[{ on := 2, ground := Ground.data }, { on := 5, ground := Ground.chain }, { on := 0, ground := Ground.phase }, { on := 1, ground := Ground.phase }, { on := 2, ground := Ground.phase }, { on := 3, ground := Ground.textOnly Departure.lateStores }, { on := 4, ground := Ground.textOnly Departure.lateStores }, { on := 5, ground := Ground.textOnly Departure.lateStoresUnsure }], guard := none }) rfl rfl (fun K hK => ?_) ?_
          · have HKL : Hid (k10 < k17 ∧ k12 < k17) := by
              show _ ∧ _
              have := Z1.out; have := ZQy1.out; have := Z2.out; have := ZQy2.out; have := Z3.out; have := Hk17.out; have := Hk18.out; have := Hk10.out; have := Hk12.out
              exact ⟨by omega, by omega⟩
            clear hHeld
            obtain ⟨e0, e1, e2, e3, f0, f1, f2, f3⟩ := box_cells K3V2.out
            go_simp
            clear e0 e1 e2 e3 f0 f1 f2 f3
            obtain ⟨V3, hV3⟩ : ∃ V, V = set4 V2 k17 (.slice r0 D1.O.length a0) (.slice r1 D1.By.length a1) (.slice r2 D1.Fa.length a2) (.slice none 0 0) := ⟨_, rfl⟩
            have HBV3 : Hid (Below B x3 V3) := by show Below _ _ _; rw [hV3]; exact below_set4 HBV2.out (by have := HKK.out; omega) _ _ _ _
            have BGV3 := hide (bag_set4 BGV2.out K3V2.out (.slice r0 D1.O.length a0) (.slice r1 D1.By.length a1) (.slice r2 D1.Fa.length a2) (.slice none 0 0))
            rw [← hV3] at BGV3
            have T1V3 := hide (T1V2.out.set4 K3V2.out (.slice r0 D1.O.length a0) (.slice r1 D1.By.length a1) (.slice r2 D1.Fa.length a2) (.slice none 0 0))
            rw [← hV3] at T1V3
            have K1V3 := hide (row_set4 (k := k17) K1V2.out (by simp [Value.ownBlock]; have := HKK.out; have := HKL.out; omega) (.slice r0 D1.O.length a0) (.slice r1 D1.By.length a1) (.slice r2 D1.Fa.length a2) (.slice none 0 0))
            rw [← hV3] at K1V3
            have T2V3 := hide (T2V2.out.set4 K3V2.out (.slice r0 D1.O.length a0) (.slice r1 D1.By.length a1) (.slice r2 D1.Fa.length a2) (.slice none 0 0))
            rw [← hV3] at T2V3
            have K2V3 := hide (row_set4 (k := k17) K2V2.out (by simp [Value.ownBlock]; have := HKK.out; have := HKL.out; omega) (.slice r0 D1.O.length a0) (.slice r1 D1.By.length a1) (.slice r2 D1.Fa.length a2) (.slice none 0 0))
            rw [← hV3] at K2V3
            have OPV3 := hide (iowns_set4 OPV2.out K3V2.out (.slice r0 D1.O.length a0) (.slice r1 D1.By.length a1) (.slice r2 D1.Fa.length a2) (.slice none 0 0))
            rw [← hV3] at OPV3
            have K3V3 : Hid (World.ownsRow V3 0 35 4 (.slice (some ⟨k17, 0, none⟩) 1 1) 1 [.slice r0 D1.O.length a0, .slice r1 D1.By.length a1, .slice r2 D1.Fa.length a2, .slice none 0 0]) := by show World.ownsRow _ _ _ _ _ _ _; rw [hV3]; exact set_box35 K3V2.out
            have K4V3 := hide (row_set4 (k := k17) K4V2.out (by simp [Value.ownBlock]; have := HKK.out; have := HKL.out; omega) (.slice r0 D1.O.length a0) (.slice r1 D1.By.length a1) (.slice r2 D1.Fa.length a2) (.slice none 0 0))
            rw [← hV3] at K4V3
            have T3V3 := hide (T3V2.out.set4 K3V2.out (.slice r0 D1.O.length a0) (.slice r1 D1.By.length a1) (.slice r2 D1.Fa.length a2) (.slice none 0 0))
            rw [← hV3] at T3V3
            have T4V3 := hide (T4V2.out.set4 K3V2.out (.slice r0 D1.O.length a0) (.slice r1 D1.By.length a1) (.slice r2 D1.Fa.length a2) (.slice none 0 0))
            rw [← hV3] at T4V3
            have ZSV3 : Hid (V3.heap.size = V2.heap.size) := by show _ = _; rw [hV3]; simp [World.setCell]
            clear HBV2 BGV2 T1V2 K1V2 T2V2 K2V2 OPV2 K3V2 K4V2 T3V2 T4V2
            have g2' := cellS4 g2 nk1 (.slice r0 D1.O.length a0) (.slice r1 D1.By.length a1) (.slice r2 D1.Fa.length a2) (.slice none 0 0)
            have g3' := cellS4 g3 nk1 (.slice r0 D1.O.length a0) (.slice r1 D1.By.length a1) (.slice r2 D1.Fa.length a2) (.slice none 0 0)
            rw [← hV3] at g2' g3'
            clear g2 g3
            have g2 := g2'
            have g3 := g3'
            clear g2' g3'
            unfold set4 at hV3
            try rw [← hV3]
            clear hV3
            refine hK.out _ _ (⟨g2, g3⟩) (fun hHeld => ?_)
            clear hK K
            try simp only [List.setIfInBounds_toArray, List.set_cons_zero, List.set_cons_succ]
            refine wpAnyH_ready (rs := [7]) (by kernel_rfl) (by simp) ?_
            refine ready_cons ({ dst := none, op := Op.store 35 (Operand.tmp 18) (Operand.tmp 71), type := 0, pos := "law.go:54", after := #[{ on := 5, ground := Ground.data }, { on := 6, ground := Ground.chain }, { on := 0, ground := Ground.phase }, { on := 1, ground := Ground.phase }, { on := 2, ground := Ground.phase }, { on := 3, ground := Ground.phase }, { on := 4, ground := Ground.phase }, { on := 5, ground := Ground.phase }, { on := 6, ground := Ground.phase }], guard := none }) rfl rfl (fun K hK => ?_) ?_
            · clear hHeld
              obtain ⟨e0, e1, e2, e3, f0, f1, f2, f3⟩ := box_cells K4V3.out
              go_simp
              clear e0 e1 e2 e3 f0 f1 f2 f3
              obtain ⟨V4, hV4⟩ : ∃ V, V = set4 V3 k18 (.slice s0 D2.O.length b0) (.slice s1 D2.By.length b1) (.slice s2 D2.Fa.length b2) (.slice s3 LW.length b3) := ⟨_, rfl⟩
              have HBV4 : Hid (Below B x3 V4) := by show Below _ _ _; rw [hV4]; exact below_set4 HBV3.out (by have := HKK.out; omega) _ _ _ _
              have BGV4 := hide (bag_set4 BGV3.out K4V3.out (.slice s0 D2.O.length b0) (.slice s1 D2.By.length b1) (.slice s2 D2.Fa.length b2) (.slice s3 LW.length b3))
              rw [← hV4] at BGV4
              have T1V4 := hide (T1V3.out.set4 K4V3.out (.slice s0 D2.O.length b0) (.slice s1 D2.By.length b1) (.slice s2 D2.Fa.length b2) (.slice s3 LW.length b3))
              rw [← hV4] at T1V4
              have K1V4 := hide (row_set4 (k := k18) K1V3.out (by simp [Value.ownBlock]; have := HKK.out; have := HKL.out; omega) (.slice s0 D2.O.length b0) (.slice s1 D2.By.length b1) (.slice s2 D2.Fa.length b2) (.slice s3 LW.length b3))
              rw [← hV4] at K1V4
              have T2V4 := hide (T2V3.out.set4 K4V3.out (.slice s0 D2.O.length b0) (.slice s1 D2.By.length b1) (.slice s2 D2.Fa.length b2) (.slice s3 LW.length b3))
              rw [← hV4] at T2V4
              have K2V4 := hide (row_set4 (k := k18) K2V3.out (by simp [Value.ownBlock]; have := HKK.out; have := HKL.out; omega) (.slice s0 D2.O.length b0) (.slice s1 D2.By.length b1) (.slice s2 D2.Fa.length b2) (.slice s3 LW.length b3))
              rw [← hV4] at K2V4
              have OPV4 := hide (iowns_set4 OPV3.out K4V3.out (.slice s0 D2.O.length b0) (.slice s1 D2.By.length b1) (.slice s2 D2.Fa.length b2) (.slice s3 LW.length b3))
              rw [← hV4] at OPV4
              have K3V4 := hide (row_set4 (k := k18) K3V3.out (by simp [Value.ownBlock]; have := HKK.out; have := HKL.out; omega) (.slice s0 D2.O.length b0) (.slice s1 D2.By.length b1) (.slice s2 D2.Fa.length b2) (.slice s3 LW.length b3))
              rw [← hV4] at K3V4
              have K4V4 : Hid (World.ownsRow V4 0 35 4 (.slice (some ⟨k18, 0, none⟩) 1 1) 1 [.slice s0 D2.O.length b0, .slice s1 D2.By.length b1, .slice s2 D2.Fa.length b2, .slice s3 LW.length b3]) := by show World.ownsRow _ _ _ _ _ _ _; rw [hV4]; exact set_box35 K4V3.out
              have T3V4 := hide (T3V3.out.set4 K4V3.out (.slice s0 D2.O.length b0) (.slice s1 D2.By.length b1) (.slice s2 D2.Fa.length b2) (.slice s3 LW.length b3))
              rw [← hV4] at T3V4
              have T4V4 := hide (T4V3.out.set4 K4V3.out (.slice s0 D2.O.length b0) (.slice s1 D2.By.length b1) (.slice s2 D2.Fa.length b2) (.slice s3 LW.length b3))
              rw [← hV4] at T4V4
              have ZSV4 : Hid (V4.heap.size = V3.heap.size) := by show _ = _; rw [hV4]; simp [World.setCell]
              clear HBV3 BGV3 T1V3 K1V3 T2V3 K2V3 OPV3 K3V3 K4V3 T3V3 T4V3
              have g2' := cellS4 g2 nk2 (.slice s0 D2.O.length b0) (.slice s1 D2.By.length b1) (.slice s2 D2.Fa.length b2) (.slice s3 LW.length b3)
              have g3' := cellS4 g3 nk2 (.slice s0 D2.O.length b0) (.slice s1 D2.By.length b1) (.slice s2 D2.Fa.length b2) (.slice s3 LW.length b3)
              rw [← hV4] at g2' g3'
              clear g2 g3
              have g2 := g2'
              have g3 := g3'
              clear g2' g3'
              unfold set4 at hV4
              try rw [← hV4]
              clear hV4
              refine hK.out _ _ (⟨g2, g3⟩) (fun hHeld => ?_)
              clear hK K
              try simp only [List.setIfInBounds_toArray, List.set_cons_zero, List.set_cons_succ]
              refine wpAnyH_done (by kernel_rfl) ?_ _
              clear hHeld
              clear g2 g3
              obtain ⟨xa0, xa1, xa2, xa3, xa4, xa5, xa6, xa7⟩ := box_cells K1V4.out
              clear xa4 xa5 xa6 xa7
              obtain ⟨xb0, xb1, xb2, xb3, xb4, xb5, xb6, xb7⟩ := box_cells K3V4.out
              clear xb4 xb5 xb6 xb7
              have SM := hide (same18 V4 D1.O D1.By D1.Fa [] p0 p1 p2 none r0 r1 r2 none c0 c1 c2 0 a0 a1 a2 0 (by have := HLN.out; exact ⟨by omega, by omega, by omega, by simp⟩) ⟨T1V4.out.o0.has, T3V4.out.o0.has⟩ ⟨T1V4.out.o1.has, T3V4.out.o1.has⟩ ⟨T1V4.out.o2.has, T3V4.out.o2.has⟩ ⟨Or.inl rfl, Or.inl rfl⟩)
              simp only [List.length_nil] at SM
              go_wp2_with fail
              clear xa0 xa1 xa2 xa3 xb0 xb1 xb2 xb3
              refine SM.out.mono ?_
              rintro e u4 ⟨rfl, hb1⟩
              clear SM
              have HBu4 : Hid (Below B x3 u4) := Below.trans HBV4.out (hb1.mono (by have := HBV4.out.size; have := HBE.out; omega))
              have BGu4 := hide (BGV4.out.later hb1)
              have T1u4 := hide (T1V4.out.later hb1)
              have K1u4 := hide (box_later K1V4.out hb1)
              have T2u4 := hide (T2V4.out.later hb1)
              have K2u4 := hide (box_later K2V4.out hb1)
              have OPu4 := hide (OPV4.out.later hb1)
              have K3u4 := hide (box_later K3V4.out hb1)
              have K4u4 := hide (box_later K4V4.out hb1)
              have T3u4 := hide (T3V4.out.later hb1)
              have T4u4 := hide (T4V4.out.later hb1)
              clear HBV4 BGV4 T1V4 K1V4 T2V4 K2V4 OPV4 K3V4 K4V4 T3V4 T4V4
              have Z41 := hide hb1.size
              clear hb1
              obtain ⟨xa0, xa1, xa2, xa3, xa4, xa5, xa6, xa7⟩ := box_cells K2u4.out
              clear xa4 xa5 xa6 xa7
              obtain ⟨xb0, xb1, xb2, xb3, xb4, xb5, xb6, xb7⟩ := box_cells K4u4.out
              clear xb4 xb5 xb6 xb7
              have SM := hide (same18 u4 D2.O D2.By D2.Fa LW q0 q1 q2 q3 s0 s1 s2 s3 d0 d1 d2 d3 b0 b1 b2 b3 (by have := HLN.out; exact ⟨by omega, by omega, by omega, by omega⟩) ⟨T2u4.out.o0.has, T4u4.out.1.has⟩ ⟨T2u4.out.o1.has, T4u4.out.2.1.has⟩ ⟨T2u4.out.o2.has, T4u4.out.2.2.1.has⟩ ⟨T2u4.out.o3.has, T4u4.out.2.2.2.has⟩)
              go_wp2_with fail
              clear xa0 xa1 xa2 xa3 xb0 xb1 xb2 xb3
              refine SM.out.mono ?_
              rintro e u5 ⟨rfl, hb1⟩
              clear SM
              have HBu5 : Hid (Below B x3 u5) := Below.trans HBu4.out (hb1.mono (by have := HBu4.out.size; have := HBE.out; omega))
              have BGu5 := hide (BGu4.out.later hb1)
              have T1u5 := hide (T1u4.out.later hb1)
              have K1u5 := hide (box_later K1u4.out hb1)
              have T2u5 := hide (T2u4.out.later hb1)
              have K2u5 := hide (box_later K2u4.out hb1)
              have OPu5 := hide (OPu4.out.later hb1)
              have K3u5 := hide (box_later K3u4.out hb1)
              have K4u5 := hide (box_later K4u4.out hb1)
              have T3u5 := hide (T3u4.out.later hb1)
              have T4u5 := hide (T4u4.out.later hb1)
              clear HBu4 BGu4 T1u4 K1u4 T2u4 K2u4 OPu4 K3u4 K4u4 T3u4 T4u4
              have Z51 := hide hb1.size
              clear hb1
              have KT := hide (kept17 n gt ct p es cp u5 (by omega) HCT.out (HH1.out u5 HBu5.out) (HG1.out u5 HBu5.out))
              obtain ⟨⟨g0, g1⟩, g2, g3⟩ := HC1.out u5 HBu5.out
              go_wp2_with fail
              clear g0 g1 g2 g3
              refine KT.out.mono ?_
              rintro e u6 ⟨rfl, hb1⟩
              clear KT
              have HBu6 : Hid (Below B x3 u6) := Below.trans HBu5.out (hb1.mono (by have := HBu5.out.size; have := HBE.out; omega))
              have BGu6 := hide (BGu5.out.later hb1)
              have T1u6 := hide (T1u5.out.later hb1)
              have K1u6 := hide (box_later K1u5.out hb1)
              have T2u6 := hide (T2u5.out.later hb1)
              have K2u6 := hide (box_later K2u5.out hb1)
              have OPu6 := hide (OPu5.out.later hb1)
              have K3u6 := hide (box_later K3u5.out hb1)
              have K4u6 := hide (box_later K4u5.out hb1)
              have T3u6 := hide (T3u5.out.later hb1)
              have T4u6 := hide (T4u5.out.later hb1)
              clear HBu5 BGu5 T1u5 K1u5 T2u5 K2u5 OPu5 K3u5 K4u5 T3u5 T4u5
              have Z6 := hide hb1.size
              clear hb1
              obtain ⟨⟨g0, g1⟩, g2, g3⟩ := HC1.out u6 HBu6.out
              go_wp2_with fail
              clear g0 g1 g2 g3
              refine (RP.out u6 HBu6.out).mono ?_
              rintro e u7 ⟨pr, cr, rfl, hq, hb1⟩
              have HBu7 : Hid (Below B x3 u7) := Below.trans HBu6.out (hb1.mono (by have := HBu6.out.size; have := HBE.out; omega))
              have BGu7 := hide (BGu6.out.later hb1)
              have T1u7 := hide (T1u6.out.later hb1)
              have K1u7 := hide (box_later K1u6.out hb1)
              have T2u7 := hide (T2u6.out.later hb1)
              have K2u7 := hide (box_later K2u6.out hb1)
              have OPu7 := hide (OPu6.out.later hb1)
              have K3u7 := hide (box_later K3u6.out hb1)
              have K4u7 := hide (box_later K4u6.out hb1)
              have T3u7 := hide (T3u6.out.later hb1)
              have T4u7 := hide (T4u6.out.later hb1)
              clear HBu6 BGu6 T1u6 K1u6 T2u6 K2u6 OPu6 K3u6 K4u6 T3u6 T4u6
              have ORu7 := hide hq
              have Z7 := hide hb1.size
              clear hq hb1
              have IN := hide (ints30 pp pr PL PL cq cr u7 (by have := HLP.out; unfold maxLen; omega) OPu7.out.has ORu7.out.has)
              rw [decide_eq_true rfl] at IN
              have tpc : ((PC : Int) != (PC : Int)) = false := by simp
              go_wp2_with fail
              refine IN.out.mono ?_
              rintro e u8 ⟨rfl, hb1⟩
              clear IN tpc
              have HBu8 : Hid (Below B x3 u8) := Below.trans HBu7.out (hb1.mono (by have := HBu7.out.size; have := HBE.out; omega))
              have BGu8 := hide (BGu7.out.later hb1)
              have T1u8 := hide (T1u7.out.later hb1)
              have K1u8 := hide (box_later K1u7.out hb1)
              have T2u8 := hide (T2u7.out.later hb1)
              have K2u8 := hide (box_later K2u7.out hb1)
              have OPu8 := hide (OPu7.out.later hb1)
              have K3u8 := hide (box_later K3u7.out hb1)
              have K4u8 := hide (box_later K4u7.out hb1)
              have T3u8 := hide (T3u7.out.later hb1)
              have T4u8 := hide (T4u7.out.later hb1)
              have ORu8 := hide (ORu7.out.later hb1)
              clear HBu7 BGu7 T1u7 K1u7 T2u7 K2u7 OPu7 K3u7 K4u7 T3u7 T4u7 ORu7
              have Z8 := hide hb1.size
              clear hb1
              obtain ⟨y9, hy9⟩ : ∃ X, X = u8.alloc (.cells #[.slice p0 D1.O.length c0, .slice p1 D1.By.length c1, .slice p2 D1.Fa.length c2, .slice q0 D2.O.length d0, .slice q1 D2.By.length d1, .slice q2 D2.Fa.length d2, .slice q3 LW.length d3, .slice pp PL.length cq] 33) := ⟨_, rfl⟩
              have hb1 : Below u8.heap.size u8 y9 := by rw [hy9]; go_grown
              obtain ⟨xa0, xa1, xa2, xa3, xa4, xa5, xa6, xa7⟩ := box_cells K1u8.out
              clear xa4 xa5 xa6 xa7
              obtain ⟨xb0, xb1, xb2, xb3, xb4, xb5, xb6, xb7⟩ := box_cells K2u8.out
              clear xb4 xb5 xb6 xb7
              have HBy9 : Hid (Below B x3 y9) := Below.trans HBu8.out (hb1.mono (by have := HBu8.out.size; have := HBE.out; omega))
              have BGy9 := hide (BGu8.out.later hb1)
              have T1y9 := hide (T1u8.out.later hb1)
              have K1y9 := hide (box_later K1u8.out hb1)
              have T2y9 := hide (T2u8.out.later hb1)
              have K2y9 := hide (box_later K2u8.out hb1)
              have OPy9 := hide (OPu8.out.later hb1)
              have K3y9 := hide (box_later K3u8.out hb1)
              have K4y9 := hide (box_later K4u8.out hb1)
              have T3y9 := hide (T3u8.out.later hb1)
              have T4y9 := hide (T4u8.out.later hb1)
              have ORy9 := hide (ORu8.out.later hb1)
              clear HBu8 BGu8 T1u8 K1u8 T2u8 K2u8 OPu8 K3u8 K4u8 T3u8 T4u8 ORu8
              have HZ0 : Hid (wr.heap.size ≤ u1.heap.size ∧ u1.heap.size ≤ y1.heap.size ∧ y1.heap.size ≤ u2.heap.size ∧ u2.heap.size ≤ y2.heap.size ∧ y2.heap.size ≤ u3.heap.size ∧ u3.heap.size ≤ u8.heap.size ∧ B ≤ wr.heap.size) := by
                have := Z0.out; have := Z1.out; have := Zy1.out; have := Z2.out; have := Zy2.out; have := Z3.out; have := Zy3.out; have := ZV.out; have := Z4.out; have := Z5.out; have := ZSV3.out; have := ZSV4.out; have := Z41.out; have := Z51.out; have := Z6.out; have := Z7.out; have := Z8.out; have := Hk17.out; have := Hk10.out; have := Hk12.out
                exact ⟨by omega, by omega, by omega, by omega, by omega, by omega, by omega⟩
              have hargs : y9.ownsRow u8.heap.size 33 1 (.slice (some ⟨u8.heap.size, 0, none⟩) 8 8) 8 ((List.range 8).map (fun j => if j = 0 then .slice p0 D1.O.length c0 else if j = 1 then .slice p1 D1.By.length c1 else if j = 2 then .slice p2 D1.Fa.length c2 else if j = 3 then .slice q0 D2.O.length d0 else if j = 4 then .slice q1 D2.By.length d1 else if j = 5 then .slice q2 D2.Fa.length d2 else if j = 6 then .slice q3 LW.length d3 else .slice pp PL.length cq)) := by rw [hy9]; exact World.ownsRow_lit u8 #[.slice p0 D1.O.length c0, .slice p1 D1.By.length c1, .slice p2 D1.Fa.length c2, .slice q0 D2.O.length d0, .slice q1 D2.By.length d1, .slice q2 D2.Fa.length d2, .slice q3 LW.length d3, .slice pp PL.length cq] 8 (Nat.le_refl _) (by unfold maxLen; omega) rfl
              have KP := hide (keep22 B B u8.heap.size 8 u8.heap.size (fun j => if j = 0 then .slice p0 D1.O.length c0 else if j = 1 then .slice p1 D1.By.length c1 else if j = 2 then .slice p2 D1.Fa.length c2 else if j = 3 then .slice q0 D2.O.length d0 else if j = 4 then .slice q1 D2.By.length d1 else if j = 5 then .slice q2 D2.Fa.length d2 else if j = 6 then .slice q3 LW.length d3 else .slice pp PL.length cq) (fun j => if j = 0 then D1.O else if j = 1 then D1.By else if j = 2 then D1.Fa else if j = 3 then D2.O else if j = 4 then D2.By else if j = 5 then D2.Fa else if j = 6 then LW else PL) y9 BGy9.out (by have := HBy9.out.size; have := HBE.out; omega) (by have := HZ0.out; omega) (by omega) hargs
                (fun h => by have := HRL.out _ h; have := HZ0.out; omega)
                (fun j hj => by match j, hj with
                  | 0, _ => exact IOwns.base T1y9.out.o0 (by have := HZ0.out; omega)
                  | 1, _ => exact IOwns.base T1y9.out.o1 (by have := HZ0.out; omega)
                  | 2, _ => exact IOwns.base T1y9.out.o2 (by have := HZ0.out; omega)
                  | 3, _ => exact IOwns.base T2y9.out.o0 (by have := HZ0.out; omega)
                  | 4, _ => exact IOwns.base T2y9.out.o1 (by have := HZ0.out; omega)
                  | 5, _ => exact IOwns.base T2y9.out.o2 (by have := HZ0.out; omega)
                  | 6, _ => exact IOwns.base T2y9.out.o3 (by have := HZ0.out; omega)
                  | 7, _ => exact IOwns.base OPy9.out (by have := HZ0.out; omega))
                (fun j hj => by match j, hj with
                  | 0, _ => exact HLN.out.1
                  | 1, _ => exact HLN.out.2.1
                  | 2, _ => exact HLN.out.2.2.1
                  | 3, _ => exact HLN.out.2.2.2.1
                  | 4, _ => exact HLN.out.2.2.2.2.1
                  | 5, _ => exact HLN.out.2.2.2.2.2.1
                  | 6, _ => exact HLN.out.2.2.2.2.2.2.1
                  | 7, _ => exact HLN.out.2.2.2.2.2.2.2)
                (fun i j b hi hj h1 h2 => by
                  have := HZ0.out
                  match i, hi, j, hj with
                  | 0, _, 0, _ => rfl
                  | 0, _, 1, _ => exact absurd h2 (T1y9.out.u01 b h1)
                  | 0, _, 2, _ => exact absurd h2 (T1y9.out.u02 b h1)
                  | 0, _, 3, _ => have := R0.out b h1; have := R3.out b h2; omega
                  | 0, _, 4, _ => have := R0.out b h1; have := R4.out b h2; omega
                  | 0, _, 5, _ => have := R0.out b h1; have := R5.out b h2; omega
                  | 0, _, 6, _ => have := R0.out b h1; have := R6.out b h2; omega
                  | 0, _, 7, _ => have := R0.out b h1; have := R7.out b h2; omega
                  | 1, _, 0, _ => exact absurd h1 (T1y9.out.u01 b h2)
                  | 1, _, 1, _ => rfl
                  | 1, _, 2, _ => exact absurd h2 (T1y9.out.u12 b h1)
                  | 1, _, 3, _ => have := R1.out b h1; have := R3.out b h2; omega
                  | 1, _, 4, _ => have := R1.out b h1; have := R4.out b h2; omega
                  | 1, _, 5, _ => have := R1.out b h1; have := R5.out b h2; omega
                  | 1, _, 6, _ => have := R1.out b h1; have := R6.out b h2; omega
                  | 1, _, 7, _ => have := R1.out b h1; have := R7.out b h2; omega
                  | 2, _, 0, _ => exact absurd h1 (T1y9.out.u02 b h2)
                  | 2, _, 1, _ => exact absurd h1 (T1y9.out.u12 b h2)
                  | 2, _, 2, _ => rfl
                  | 2, _, 3, _ => have := R2.out b h1; have := R3.out b h2; omega
                  | 2, _, 4, _ => have := R2.out b h1; have := R4.out b h2; omega
                  | 2, _, 5, _ => have := R2.out b h1; have := R5.out b h2; omega
                  | 2, _, 6, _ => have := R2.out b h1; have := R6.out b h2; omega
                  | 2, _, 7, _ => have := R2.out b h1; have := R7.out b h2; omega
                  | 3, _, 0, _ => have := R3.out b h1; have := R0.out b h2; omega
                  | 3, _, 1, _ => have := R3.out b h1; have := R1.out b h2; omega
                  | 3, _, 2, _ => have := R3.out b h1; have := R2.out b h2; omega
                  | 3, _, 3, _ => rfl
                  | 3, _, 4, _ => exact absurd h2 (T2y9.out.u01 b h1)
                  | 3, _, 5, _ => exact absurd h2 (T2y9.out.u02 b h1)
                  | 3, _, 6, _ => exact absurd h2 (T2y9.out.u03 b h1)
                  | 3, _, 7, _ => have := R3.out b h1; have := R7.out b h2; omega
                  | 4, _, 0, _ => have := R4.out b h1; have := R0.out b h2; omega
                  | 4, _, 1, _ => have := R4.out b h1; have := R1.out b h2; omega
                  | 4, _, 2, _ => have := R4.out b h1; have := R2.out b h2; omega
                  | 4, _, 3, _ => exact absurd h1 (T2y9.out.u01 b h2)
                  | 4, _, 4, _ => rfl
                  | 4, _, 5, _ => exact absurd h2 (T2y9.out.u12 b h1)
                  | 4, _, 6, _ => exact absurd h2 (T2y9.out.u13 b h1)
                  | 4, _, 7, _ => have := R4.out b h1; have := R7.out b h2; omega
                  | 5, _, 0, _ => have := R5.out b h1; have := R0.out b h2; omega
                  | 5, _, 1, _ => have := R5.out b h1; have := R1.out b h2; omega
                  | 5, _, 2, _ => have := R5.out b h1; have := R2.out b h2; omega
                  | 5, _, 3, _ => exact absurd h1 (T2y9.out.u02 b h2)
                  | 5, _, 4, _ => exact absurd h1 (T2y9.out.u12 b h2)
                  | 5, _, 5, _ => rfl
                  | 5, _, 6, _ => exact absurd h2 (T2y9.out.u23 b h1)
                  | 5, _, 7, _ => have := R5.out b h1; have := R7.out b h2; omega
                  | 6, _, 0, _ => have := R6.out b h1; have := R0.out b h2; omega
                  | 6, _, 1, _ => have := R6.out b h1; have := R1.out b h2; omega
                  | 6, _, 2, _ => have := R6.out b h1; have := R2.out b h2; omega
                  | 6, _, 3, _ => exact absurd h1 (T2y9.out.u03 b h2)
                  | 6, _, 4, _ => exact absurd h1 (T2y9.out.u13 b h2)
                  | 6, _, 5, _ => exact absurd h1 (T2y9.out.u23 b h2)
                  | 6, _, 6, _ => rfl
                  | 6, _, 7, _ => have := R6.out b h1; have := R7.out b h2; omega
                  | 7, _, 0, _ => have := R7.out b h1; have := R0.out b h2; omega
                  | 7, _, 1, _ => have := R7.out b h1; have := R1.out b h2; omega
                  | 7, _, 2, _ => have := R7.out b h1; have := R2.out b h2; omega
                  | 7, _, 3, _ => have := R7.out b h1; have := R3.out b h2; omega
                  | 7, _, 4, _ => have := R7.out b h1; have := R4.out b h2; omega
                  | 7, _, 5, _ => have := R7.out b h1; have := R5.out b h2; omega
                  | 7, _, 6, _ => have := R7.out b h1; have := R6.out b h2; omega
                  | 7, _, 7, _ => rfl)
                (fun j u b hj hu h1 h2 => by
                  have := HZ0.out
                  have := HRB.out u b hu h2
                  match j, hj with
                  | 0, _ => have := R0.out b h1; omega
                  | 1, _ => have := R1.out b h1; omega
                  | 2, _ => have := R2.out b h1; omega
                  | 3, _ => have := R3.out b h1; omega
                  | 4, _ => have := R4.out b h1; omega
                  | 5, _ => have := R5.out b h1; omega
                  | 6, _ => have := R6.out b h1; omega
                  | 7, _ => have := R7.out b h1; omega))
              clear hb1 hargs
              go_wp2_with fail
              rw [← hy9]
              clear xa0 xa1 xa2 xa3 xb0 xb1 xb2 xb3
              clear hy9
              refine KP.out.mono ?_
              rintro e Z ⟨rfl, hbagZ, hbZ, hkp⟩
              have HBZ : Hid (Below B x3 Z) := Below.trans HBy9.out hbZ
              have HBAG := hide hbagZ
              have K3Z : Hid (World.ownsRow Z 0 35 4 (.slice (some ⟨k17, 0, none⟩) 1 1) 1 [.slice r0 D1.O.length a0, .slice r1 D1.By.length a1, .slice r2 D1.Fa.length a2, .slice none 0 0]) := hkp.row K3y9.out (by decide) (by decide)
              have T3Z := hide (T3y9.out.kp hkp)
              clear HBy9 KP hkp hbZ hbagZ BGy9 T1y9 K1y9 T2y9 K2y9 OPy9 K3y9 K4y9 T3y9 T4y9 ORy9
              have EC := hide (each23 n (some ⟨gt, 0, none⟩) es ct s (.slice r0 D1.O.length a0) (.slice r1 D1.By.length a1) (.slice r2 D1.Fa.length a2) (.slice none 0 0) D1.O D1.Fa n.toNat Z (by rw [← HD1.out]; exact eachU n (some ⟨gt, 0, none⟩) es ct s Z (HT1.out Z HBZ.out)) (by have := T3Z.out; rw [← HD1.out] at this ⊢; exact tour_at this (Or.inl HR.out)) (by have := HD.out.1; omega) HD.out.2.2.2.2.2.2.2.2)
              obtain ⟨xa0, xa1, xa2, xa3, xa4, xa5, xa6, xa7⟩ := box_cells K3Z.out
              clear xa4 xa5 xa6 xa7
              obtain ⟨⟨g0, g1⟩, g2, g3⟩ := HC1.out Z HBZ.out
              go_wp2_with fail
              clear g0 g1 g2 g3
              clear xa0 xa1 xa2 xa3
              refine EC.out.mono ?_
              rintro e Z2 ⟨rfl, hb1⟩
              have HF : Hid (Below B x3 Z2 ∧ ∃ lv n rv L sz, Bag Z2 B B lv n rv L sz) := by
                obtain ⟨b1, b2, b3, b4, b5, hbg⟩ := HBAG.out
                exact ⟨Below.trans HBZ.out (hb1.mono (by have := HBZ.out.size; have := HBE.out; omega)), b1, b2, b3, b4, b5, hbg.later hb1⟩
              clear hb1 EC HBAG HBZ K3Z
              go_wp2
              go_roundw
              case rel => exact ⟨i + 1, by omega, by go_num, HF.out⟩
              case measure => simp [intOf]; omega
            exact AllReadyH.nil
          exact AllReadyH.nil
        exact AllReadyH.nil
      exact AllReadyH.nil
    · have i1 : ¬ (i : Int) < 2 := by omega
      have AP := hide (apart24 B B wr hbg (by have := hbr.size; have := HBE.out; omega))
      clear hbg hbr
      go_wp2_with fail
      refine AP.out.mono ?_
      rintro e y1 ⟨rfl, hy⟩
      have HF := hide (HE1.out y1 (Below.trans HBwr.out hy))
      clear hy AP
      go_wp2
      go_ret
      exact ⟨rfl, HF.out⟩
end Go.Proofs.Ytghffodjffkijaa

/- WalkAll: its walk. -/
namespace Go.Proofs.Ytghffodjffkijaa
open Go.RowKit Go.Sort Go.Shelf
open Go

set_option maxRecDepth 100000 in
set_option maxHeartbeats 16000000 in
theorem all_A (n : Int) (p : Option Addr) (es : List Pt) (cp : Nat) (s : Int) (w : World) (h : Has w p es) (hnil : p = none → cp = 0) (hl : lightB n es = true) (hm : netB n es = false) : Calls Try.prog 3 #[nv n p es.length cp, .int .i64 s] w fun e w' => e = .returned (.bool true) ∧ Below w.heap.size w w' := by
  have hr : refI n es s = 1 := by simp [refI, hm]
  have h3e : es.length ≤ 300 := by unfold lightB at hl; simp at hl; omega
  obtain ⟨W, hW, hb, a0⟩ := one_net w n p es.length cp
  have BG := hide (begun9 W)
  have HH := hide (h.later hb)
  have HB := hide hb
  have HA := hide a0
  have HL := hide hl
  have HNIL := hide hnil
  have HM := hide hm
  have HR := hide hr
  clear h hb a0 hl hnil hm hr
  go_enter Try.func3, Try.ntmps3
  go_wp2_with fail
  rw [← hW]
  clear hW
  obtain ⟨kg, hkg⟩ : ∃ k, w.heap.size = k := ⟨_, rfl⟩
  have HKG := hide hkg
  rw [hkg] at HA
  try rw [hkg]
  clear hkg
  refine BG.out.mono ?_
  rintro e w1 ⟨rfl, hb1⟩
  have L9 := hide (light9 n p es cp w1 (HH.out.later hb1))
  rw [HL.out] at L9
  have HB1 := hide hb1
  obtain ⟨q0, q1, _, _⟩ := HA.out.later hb1
  clear hb1 BG
  go_wp2_with fail
  refine L9.out.mono ?_
  rintro e w2 ⟨rfl, hb2⟩
  have HB2 := hide (below_step HB1.out hb2)
  clear hb2 q0 q1 L9
  have TW := hide (twin11 n p es cp w2 HNIL.out (by omega) (HH.out.later HB2.out))
  obtain ⟨q0, q1, _, _⟩ := HA.out.later HB2.out
  go_wp2_with fail
  refine TW.out.mono ?_
  rintro e w3 ⟨gt, ct, rfl, hot, hct, hb3⟩
  have HB3 := hide (below_step HB2.out hb3)
  have OT3 := hide hot
  have HCT := hide hct
  clear hb3 hot hct TW q0 q1
  obtain ⟨x3, hx3⟩ : ∃ X, X = w3.alloc (nbx n (some ⟨gt, 0, none⟩) es.length ct) := ⟨_, rfl⟩
  have hb4 : Below w3.heap.size w3 x3 := by rw [hx3]; go_grown
  have HBx := hide (below_step HB3.out hb4)
  have OTx := hide (OT3.out.later hb4)
  have SHx : Hid (NOwn x3 w3.heap.size n (some ⟨gt, 0, none⟩) es.length ct) := by show NOwn _ _ _ _ _ _; rw [hx3]; exact ⟨by unfold nbx; go_cell, by unfold nbx; go_cell, by unfold nbx; go_cell, by unfold nbx; go_cell⟩
  have HAx := hide (HA.out.later HBx.out)
  clear hb4
  obtain ⟨X, hX⟩ : ∃ X, X = x3.alloc (.cells #[.slice none 0 0, .int .i64 0] 31) := ⟨_, rfl⟩
  have hbX : Below x3.heap.size x3 X := by rw [hX]; go_grown
  have HBAG : Hid (∃ lv n rv L sz, Bag X x3.heap.size x3.heap.size lv n rv L sz) := ⟨.slice none 0 0, 0, fun _ => .slice none 0 0, fun _ => [], 0, by rw [hX]; exact World.ownsRow_lit x3 #[.slice none 0 0, .int .i64 0] 1 (Nat.zero_le _) (by unfold maxLen; omega) rfl, Nat.le_refl _, World.ownsRow_nil _ _ _ _, fun u v j hu => by omega, fun v hv => by omega, fun v hv => by omega, by omega, by omega⟩
  have HXY := hide hbX
  have M12 := hide (may12 n p es cp X (HH.out.later (below_step HBx.out hbX)))
  rw [HM.out] at M12
  obtain ⟨q0, q1, _, _⟩ := HAx.out.later hbX
  rw [hX, hx3] at q0 q1
  clear hbX
  go_wp2_with fail
  rw [← hx3]
  have hX2 := hX
  rw [hx3] at hX2
  try rw [← hX2]
  try rw [← hX]
  obtain ⟨kh, hkh⟩ : ∃ k, w3.heap.size = k := ⟨_, rfl⟩
  rw [hkh] at SHx
  try rw [hkh]
  have hxs : x3.heap.size = kh + 1 := by rw [hx3]; simp [hkh]
  clear hX2 hX hx3 hkh q0 q1
  have HG1 : Hid (∀ V, Below x3.heap.size x3 V → Has V p es) := fun V hV => HH.out.later (below_step HBx.out hV)
  have HH1 : Hid (∀ V, Below x3.heap.size x3 V → Lies V gt 0 (es ++ [mk])) := fun V hV => by
    have := OTx.out.later hV
    rw [show es.length + 1 = (es ++ [mk]).length by simp] at this
    exact this.lies
  have HT1 : Hid (∀ V, Below x3.heap.size x3 V → Has V (some ⟨gt, 0, none⟩) es) := fun V hV => Or.inr ⟨gt, 0, rfl, lies_left (HH1.out V hV)⟩
  have HE1 : Hid (∀ V, Below x3.heap.size x3 V → Below w.heap.size w V) := fun V hV => below_step (below_step HB.out HBx.out) hV
  have HC1 : Hid (∀ V, Below x3.heap.size x3 V → (V.cell? ⟨kh, 0, none⟩ = some (.int .i64 n) ∧ V.cell? ⟨kh, 1, none⟩ = some (.slice (some ⟨gt, 0, none⟩) es.length ct)) ∧ V.cell? ⟨kg, 0, none⟩ = some (.int .i64 n) ∧ V.cell? ⟨kg, 1, none⟩ = some (.slice p es.length cp)) := fun V hV => ⟨⟨(SHx.out.later hV).1, (SHx.out.later hV).2.1⟩, (HAx.out.later hV).1, (HAx.out.later hV).2.1⟩
  have CB : Hid (∀ V, Below x3.heap.size x3 V → Calls Try.prog 13 #[nv n (some ⟨gt, 0, none⟩) es.length ct, .int .i64 s] V fun e w' => ∃ p0 p1 p2 c0 c1 c2, e = .returned (.tuple #[tv (.slice p0 0 c0) (.slice p1 0 c1) (.slice p2 0 c2) (.slice none 0 0), .int .i64 1]) ∧ TQ w' V.heap.size p0 p1 p2 none c0 c1 c2 0 ([] : List Int) ([] : List Int) ([] : List Int) [] ∧ Below V.heap.size V w') := fun V hV => by
    have := breadthU n (some ⟨gt, 0, none⟩) es ct s V (HT1.out V hV)
    rw [HR.out, show bSt n es s = ⟨[], [], []⟩ from by unfold bSt; rw [HR.out]; rfl] at this
    exact this
  have CD : Hid (∀ V, Below x3.heap.size x3 V → Calls Try.prog 14 #[nv n (some ⟨gt, 0, none⟩) es.length ct, .int .i64 s] V fun e w' => ∃ q0 q1 q2 q3 d0 d1 d2 d3, e = .returned (.tuple #[tv (.slice q0 0 d0) (.slice q1 0 d1) (.slice q2 0 d2) (.slice q3 0 d3), .int .i64 1]) ∧ TQ w' V.heap.size q0 q1 q2 q3 d0 d1 d2 d3 ([] : List Int) ([] : List Int) ([] : List Int) ([] : List Int) ∧ Below V.heap.size V w') := fun V hV => by
    have := depthU n (some ⟨gt, 0, none⟩) es ct s V (HT1.out V hV)
    rw [HR.out, show dSt n es s = ⟨[], [], []⟩ from by unfold dSt; rw [HR.out]; rfl, show dLw n es s = [] from by unfold dLw; rw [HR.out]; rfl] at this
    exact this
  have CP : Hid (∀ V, Below x3.heap.size x3 V → Calls Try.prog 15 #[nv n (some ⟨gt, 0, none⟩) es.length ct] V fun e w' => ∃ pp cq, e = .returned (.tuple #[.slice pp 0 cq, .int .i64 0, .int .i64 1]) ∧ IOwns w' V.heap.size (.slice pp 0 cq) ([] : List Int) ∧ Below V.heap.size V w') := fun V hV => by
    have := partsU n (some ⟨gt, 0, none⟩) es ct V (HT1.out V hV)
    rw [HM.out, show pLb n es = [] from by unfold pLb; rw [HM.out]; rfl, show pCt n es = 0 from by unfold pCt; rw [HM.out]; rfl] at this
    exact this
  have HLN : Hid (([] : List Int).length ≤ 20000 ∧ ([] : List Int).length ≤ 20000 ∧ ([] : List Int).length ≤ 20000 ∧ ([] : List Int).length ≤ 20000 ∧ ([] : List Int).length ≤ 20000 ∧ ([] : List Int).length ≤ 20000 ∧ ([] : List Int).length ≤ 20000 ∧ ([] : List Int).length ≤ 20000) := ⟨by simp, by simp, by simp, by simp, by simp, by simp, by simp, by simp⟩
  refine M12.out.mono ?_
  rintro e w4 ⟨rfl, hb5⟩
  have HBG4 : Hid (Below x3.heap.size x3 w4 ∧ ∃ lv n rv L sz, Bag w4 x3.heap.size x3.heap.size lv n rv L sz) := by
    obtain ⟨b1, b2, b3, b4, b5, hbg⟩ := HBAG.out
    exact ⟨below_step HXY.out hb5, b1, b2, b3, b4, b5, hbg.later hb5⟩
  obtain ⟨_, c2, c3⟩ := HC1.out w4 HBG4.out.1
  obtain ⟨B, hB⟩ : ∃ B, x3.heap.size = B := ⟨_, rfl⟩
  have HBE := hide hB
  rw [hB] at HBG4 HG1 HH1 HT1 HE1 HC1 CB CD CP hxs
  try rw [hB]
  clear hB hb5 M12 HBAG HXY
  go_wp2_with fail
  clear c2 c3
  rw [← hxs]
  clear hxs
  go_loopw [9] (fun t wr => ∃ i : Nat, i ≤ 2 ∧ t = .int .i64 i ∧ Hid (Below B x3 wr ∧ ∃ lv n rv L sz, Bag wr B B lv n rv L sz)) (fun t _ => 2 - (intOf t).toNat)
  case atStart => exact ⟨0, by omega, rfl, HBG4.out⟩
  case round =>
    obtain ⟨i, hi, rfl, HRR⟩ := hrel
    obtain ⟨hbr, blv, bn, brv, bL, bsz, hbg⟩ := HRR.out
    clear HRR HBG4
    have HBwr := hide hbr
    have BGwr := hide hbg
    by_cases hlt : i < 2
    · have i1 : (i : Int) < 2 := by omega
      clear hbr hbg
      have HRB : Hid (∀ u b, u < bn → (brv u).ownBlock = some b → b < wr.heap.size) := fun u b hu hb => (World.ownsRow.lt (BGwr.out.own u hu) b hb).2
      have HRL : Hid (∀ b, blv.ownBlock = some b → b < wr.heap.size) := fun b hb => (World.ownsRow.lt BGwr.out.lst b hb).2
      have Z0 : Hid (B ≤ wr.heap.size) := by show _ ≤ _; have := HBwr.out.size; have := HBE.out; omega
      obtain ⟨⟨g0, g1⟩, g2, g3⟩ := HC1.out wr HBwr.out
      go_wp2_with fail
      clear g0 g1 g2 g3
      refine (CB.out wr HBwr.out).mono ?_
      rintro e u1 ⟨p0, p1, p2, c0, c1, c2, rfl, hq, hb1⟩
      have R0 : Hid (∀ b, (Value.slice p0 0 c0).ownBlock = some b → wr.heap.size ≤ b ∧ b < u1.heap.size) := fun b hb => World.ownsRow.lt hq.o0 b hb
      have R1 : Hid (∀ b, (Value.slice p1 0 c1).ownBlock = some b → wr.heap.size ≤ b ∧ b < u1.heap.size) := fun b hb => World.ownsRow.lt hq.o1 b hb
      have R2 : Hid (∀ b, (Value.slice p2 0 c2).ownBlock = some b → wr.heap.size ≤ b ∧ b < u1.heap.size) := fun b hb => World.ownsRow.lt hq.o2 b hb
      have HBu1 : Hid (Below B x3 u1) := Below.trans HBwr.out (hb1.mono (by have := HBwr.out.size; have := HBE.out; omega))
      have BGu1 := hide (BGwr.out.later hb1)
      clear HBwr BGwr
      have T1u1 := hide hq
      have Z1 := hide hb1.size
      clear hq hb1
      obtain ⟨y1, hy1⟩ : ∃ X, X = u1.alloc (.cells #[.slice p0 0 c0, .slice p1 0 c1, .slice p2 0 c2, .slice none 0 0] 35) := ⟨_, rfl⟩
      have hb1 : Below u1.heap.size u1 y1 := by rw [hy1]; go_grown
      have HBy1 : Hid (Below B x3 y1) := Below.trans HBu1.out (hb1.mono (by have := HBu1.out.size; have := HBE.out; omega))
      have BGy1 := hide (BGu1.out.later hb1)
      have T1y1 := hide (T1u1.out.later hb1)
      clear HBu1 BGu1 T1u1
      have K1y1 : Hid (World.ownsRow y1 0 35 4 (.slice (some ⟨u1.heap.size, 0, none⟩) 1 1) 1 [.slice p0 0 c0, .slice p1 0 c1, .slice p2 0 c2, .slice none 0 0]) := by show World.ownsRow _ _ _ _ _ _ _; rw [hy1]; exact box35 _ _ _ _ _
      have Zy1 := hide hb1.size
      have ZQy1 : Hid (y1.heap.size = u1.heap.size + 1) := by show _ = _; rw [hy1]; simp
      clear hb1
      obtain ⟨⟨g0, g1⟩, g2, g3⟩ := HC1.out y1 HBy1.out
      rw [hy1] at g0 g1 g2 g3
      go_wp2_with fail
      rw [← hy1]
      obtain ⟨k10, hk10⟩ : ∃ k, u1.heap.size = k := ⟨_, rfl⟩
      have Hk10 := hide hk10
      rw [hk10] at K1y1
      try rw [hk10]
      clear hy1 hk10
      clear g0 g1 g2 g3
      refine (CD.out y1 HBy1.out).mono ?_
      rintro e u2 ⟨q0, q1, q2, q3, d0, d1, d2, d3, rfl, hq, hb1⟩
      have R3 : Hid (∀ b, (Value.slice q0 0 d0).ownBlock = some b → y1.heap.size ≤ b ∧ b < u2.heap.size) := fun b hb => World.ownsRow.lt hq.o0 b hb
      have R4 : Hid (∀ b, (Value.slice q1 0 d1).ownBlock = some b → y1.heap.size ≤ b ∧ b < u2.heap.size) := fun b hb => World.ownsRow.lt hq.o1 b hb
      have R5 : Hid (∀ b, (Value.slice q2 0 d2).ownBlock = some b → y1.heap.size ≤ b ∧ b < u2.heap.size) := fun b hb => World.ownsRow.lt hq.o2 b hb
      have R6 : Hid (∀ b, (Value.slice q3 0 d3).ownBlock = some b → y1.heap.size ≤ b ∧ b < u2.heap.size) := fun b hb => World.ownsRow.lt hq.o3 b hb
      have HBu2 : Hid (Below B x3 u2) := Below.trans HBy1.out (hb1.mono (by have := HBy1.out.size; have := HBE.out; omega))
      have BGu2 := hide (BGy1.out.later hb1)
      have T1u2 := hide (T1y1.out.later hb1)
      have K1u2 := hide (box_later K1y1.out hb1)
      clear HBy1 BGy1 T1y1 K1y1
      have T2u2 := hide hq
      have Z2 := hide hb1.size
      clear hq hb1
      obtain ⟨y2, hy2⟩ : ∃ X, X = u2.alloc (.cells #[.slice q0 0 d0, .slice q1 0 d1, .slice q2 0 d2, .slice q3 0 d3] 35) := ⟨_, rfl⟩
      have hb1 : Below u2.heap.size u2 y2 := by rw [hy2]; go_grown
      have HBy2 : Hid (Below B x3 y2) := Below.trans HBu2.out (hb1.mono (by have := HBu2.out.size; have := HBE.out; omega))
      have BGy2 := hide (BGu2.out.later hb1)
      have T1y2 := hide (T1u2.out.later hb1)
      have K1y2 := hide (box_later K1u2.out hb1)
      have T2y2 := hide (T2u2.out.later hb1)
      clear HBu2 BGu2 T1u2 K1u2 T2u2
      have K2y2 : Hid (World.ownsRow y2 0 35 4 (.slice (some ⟨u2.heap.size, 0, none⟩) 1 1) 1 [.slice q0 0 d0, .slice q1 0 d1, .slice q2 0 d2, .slice q3 0 d3]) := by show World.ownsRow _ _ _ _ _ _ _; rw [hy2]; exact box35 _ _ _ _ _
      have Zy2 := hide hb1.size
      have ZQy2 : Hid (y2.heap.size = u2.heap.size + 1) := by show _ = _; rw [hy2]; simp
      clear hb1
      obtain ⟨⟨g0, g1⟩, g2, g3⟩ := HC1.out y2 HBy2.out
      rw [hy2] at g0 g1 g2 g3
      go_wp2_with fail
      rw [← hy2]
      obtain ⟨k12, hk12⟩ : ∃ k, u2.heap.size = k := ⟨_, rfl⟩
      have Hk12 := hide hk12
      rw [hk12] at K2y2
      try rw [hk12]
      clear hy2 hk12
      clear g0 g1 g2 g3
      refine (CP.out y2 HBy2.out).mono ?_
      rintro e u3 ⟨pp, cq, rfl, hq, hb1⟩
      have R7 : Hid (∀ b, (Value.slice pp 0 cq).ownBlock = some b → y2.heap.size ≤ b ∧ b < u3.heap.size) := fun b hb => World.ownsRow.lt hq b hb
      have HBu3 : Hid (Below B x3 u3) := Below.trans HBy2.out (hb1.mono (by have := HBy2.out.size; have := HBE.out; omega))
      have BGu3 := hide (BGy2.out.later hb1)
      have T1u3 := hide (T1y2.out.later hb1)
      have K1u3 := hide (box_later K1y2.out hb1)
      have T2u3 := hide (T2y2.out.later hb1)
      have K2u3 := hide (box_later K2y2.out hb1)
      clear HBy2 BGy2 T1y2 K1y2 T2y2 K2y2
      have OPu3 := hide hq
      have Z3 := hide hb1.size
      clear hq hb1
      obtain ⟨y3, hy3⟩ : ∃ X, X = (u3.alloc (.cells #[.slice none 0 0, .slice none 0 0, .slice none 0 0, .slice none 0 0] 35)).alloc (.cells #[.slice none 0 0, .slice none 0 0, .slice none 0 0, .slice none 0 0] 35) := ⟨_, rfl⟩
      have hb1 : Below u3.heap.size u3 y3 := by rw [hy3]; go_grown
      have HBy3 : Hid (Below B x3 y3) := Below.trans HBu3.out (hb1.mono (by have := HBu3.out.size; have := HBE.out; omega))
      have BGy3 := hide (BGu3.out.later hb1)
      have T1y3 := hide (T1u3.out.later hb1)
      have K1y3 := hide (box_later K1u3.out hb1)
      have T2y3 := hide (T2u3.out.later hb1)
      have K2y3 := hide (box_later K2u3.out hb1)
      have OPy3 := hide (OPu3.out.later hb1)
      clear HBu3 BGu3 T1u3 K1u3 T2u3 K2u3 OPu3
      have K3y3 : Hid (World.ownsRow y3 0 35 4 (.slice (some ⟨u3.heap.size, 0, none⟩) 1 1) 1 [.slice none 0 0, .slice none 0 0, .slice none 0 0, .slice none 0 0]) := by show World.ownsRow _ _ _ _ _ _ _; rw [hy3]; exact box_later (box35 _ _ _ _ _) (by go_grown)
      have K4y3 : Hid (World.ownsRow y3 0 35 4 (.slice (some ⟨u3.heap.size + 1, 0, none⟩) 1 1) 1 [.slice none 0 0, .slice none 0 0, .slice none 0 0, .slice none 0 0]) := by
        show World.ownsRow _ _ _ _ _ _ _
        rw [hy3]
        have := box35 (u3.alloc (.cells #[.slice none 0 0, .slice none 0 0, .slice none 0 0, .slice none 0 0] 35)) (.slice none 0 0) (.slice none 0 0) (.slice none 0 0) (.slice none 0 0)
        simpa using this
      have Zy3 := hide hb1.size
      clear hb1
      obtain ⟨xa0, xa1, xa2, xa3, xa4, xa5, xa6, xa7⟩ := box_cells K1y3.out
      rw [hy3] at xa0 xa1 xa2 xa3
      clear xa4 xa5 xa6 xa7
      obtain ⟨xb0, xb1, xb2, xb3, xb4, xb5, xb6, xb7⟩ := box_cells K3y3.out
      rw [hy3] at xb0 xb1 xb2 xb3
      clear xb4 xb5 xb6 xb7
      have SM := hide (same18 y3 [] [] [] [] p0 p1 p2 none none none none none c0 c1 c2 0 0 0 0 0 (by simp) ⟨T1y3.out.o0.has, Or.inl rfl⟩ ⟨T1y3.out.o1.has, Or.inl rfl⟩ ⟨T1y3.out.o2.has, Or.inl rfl⟩ ⟨Or.inl rfl, Or.inl rfl⟩)
      simp only [List.length_nil] at SM
      go_wp2_with fail
      rw [← hy3]
      obtain ⟨k17, hk17⟩ : ∃ k, u3.heap.size = k := ⟨_, rfl⟩
      obtain ⟨k18, hk18⟩ : ∃ k, u3.heap.size + 1 = k := ⟨_, rfl⟩
      have Hk17 := hide hk17
      have Hk18 := hide hk18
      rw [hk18] at K4y3
      rw [hk17] at K3y3
      try rw [hk18]
      try rw [hk17]
      clear hk17 hk18
      clear xa0 xa1 xa2 xa3 xb0 xb1 xb2 xb3
      clear hy3
      refine SM.out.mono ?_
      rintro e u4 ⟨rfl, hb1⟩
      clear SM
      have HBu4 : Hid (Below B x3 u4) := Below.trans HBy3.out (hb1.mono (by have := HBy3.out.size; have := HBE.out; omega))
      have BGu4 := hide (BGy3.out.later hb1)
      have T1u4 := hide (T1y3.out.later hb1)
      have K1u4 := hide (box_later K1y3.out hb1)
      have T2u4 := hide (T2y3.out.later hb1)
      have K2u4 := hide (box_later K2y3.out hb1)
      have OPu4 := hide (OPy3.out.later hb1)
      have K3u4 := hide (box_later K3y3.out hb1)
      have K4u4 := hide (box_later K4y3.out hb1)
      clear HBy3 BGy3 T1y3 K1y3 T2y3 K2y3 OPy3 K3y3 K4y3
      have Z4 := hide hb1.size
      clear hb1
      obtain ⟨xa0, xa1, xa2, xa3, xa4, xa5, xa6, xa7⟩ := box_cells K2u4.out
      clear xa4 xa5 xa6 xa7
      obtain ⟨xb0, xb1, xb2, xb3, xb4, xb5, xb6, xb7⟩ := box_cells K4u4.out
      clear xb4 xb5 xb6 xb7
      have SM := hide (same18 u4 [] [] [] [] q0 q1 q2 q3 none none none none d0 d1 d2 d3 0 0 0 0 (by simp) ⟨T2u4.out.o0.has, Or.inl rfl⟩ ⟨T2u4.out.o1.has, Or.inl rfl⟩ ⟨T2u4.out.o2.has, Or.inl rfl⟩ ⟨T2u4.out.o3.has, Or.inl rfl⟩)
      simp only [List.length_nil] at SM
      go_wp2_with fail
      clear xa0 xa1 xa2 xa3 xb0 xb1 xb2 xb3
      refine SM.out.mono ?_
      rintro e u5 ⟨rfl, hb1⟩
      clear SM
      have HBu5 : Hid (Below B x3 u5) := Below.trans HBu4.out (hb1.mono (by have := HBu4.out.size; have := HBE.out; omega))
      have BGu5 := hide (BGu4.out.later hb1)
      have T1u5 := hide (T1u4.out.later hb1)
      have K1u5 := hide (box_later K1u4.out hb1)
      have T2u5 := hide (T2u4.out.later hb1)
      have K2u5 := hide (box_later K2u4.out hb1)
      have OPu5 := hide (OPu4.out.later hb1)
      have K3u5 := hide (box_later K3u4.out hb1)
      have K4u5 := hide (box_later K4u4.out hb1)
      clear HBu4 BGu4 T1u4 K1u4 T2u4 K2u4 OPu4 K3u4 K4u4
      have Z5 := hide hb1.size
      clear hb1
      have KT := hide (kept17 n gt ct p es cp u5 (by omega) HCT.out (HH1.out u5 HBu5.out) (HG1.out u5 HBu5.out))
      obtain ⟨⟨g0, g1⟩, g2, g3⟩ := HC1.out u5 HBu5.out
      go_wp2_with fail
      clear g0 g1 g2 g3
      refine KT.out.mono ?_
      rintro e u6 ⟨rfl, hb1⟩
      clear KT
      have HBu6 : Hid (Below B x3 u6) := Below.trans HBu5.out (hb1.mono (by have := HBu5.out.size; have := HBE.out; omega))
      have BGu6 := hide (BGu5.out.later hb1)
      have T1u6 := hide (T1u5.out.later hb1)
      have K1u6 := hide (box_later K1u5.out hb1)
      have T2u6 := hide (T2u5.out.later hb1)
      have K2u6 := hide (box_later K2u5.out hb1)
      have OPu6 := hide (OPu5.out.later hb1)
      have K3u6 := hide (box_later K3u5.out hb1)
      have K4u6 := hide (box_later K4u5.out hb1)
      clear HBu5 BGu5 T1u5 K1u5 T2u5 K2u5 OPu5 K3u5 K4u5
      have Z6 := hide hb1.size
      clear hb1
      obtain ⟨y9, hy9⟩ : ∃ X, X = u6.alloc (.cells #[.slice p0 0 c0, .slice p1 0 c1, .slice p2 0 c2, .slice q0 0 d0, .slice q1 0 d1, .slice q2 0 d2, .slice q3 0 d3, .slice pp 0 cq] 33) := ⟨_, rfl⟩
      have hb1 : Below u6.heap.size u6 y9 := by rw [hy9]; go_grown
      obtain ⟨xa0, xa1, xa2, xa3, xa4, xa5, xa6, xa7⟩ := box_cells K1u6.out
      clear xa4 xa5 xa6 xa7
      obtain ⟨xb0, xb1, xb2, xb3, xb4, xb5, xb6, xb7⟩ := box_cells K2u6.out
      clear xb4 xb5 xb6 xb7
      have HBy9 : Hid (Below B x3 y9) := Below.trans HBu6.out (hb1.mono (by have := HBu6.out.size; have := HBE.out; omega))
      have BGy9 := hide (BGu6.out.later hb1)
      have T1y9 := hide (T1u6.out.later hb1)
      have K1y9 := hide (box_later K1u6.out hb1)
      have T2y9 := hide (T2u6.out.later hb1)
      have K2y9 := hide (box_later K2u6.out hb1)
      have OPy9 := hide (OPu6.out.later hb1)
      have K3y9 := hide (box_later K3u6.out hb1)
      have K4y9 := hide (box_later K4u6.out hb1)
      clear HBu6 BGu6 T1u6 K1u6 T2u6 K2u6 OPu6 K3u6 K4u6
      have HZ0 : Hid (wr.heap.size ≤ u1.heap.size ∧ u1.heap.size ≤ y1.heap.size ∧ y1.heap.size ≤ u2.heap.size ∧ u2.heap.size ≤ y2.heap.size ∧ y2.heap.size ≤ u3.heap.size ∧ u3.heap.size ≤ u6.heap.size ∧ B ≤ wr.heap.size) := by
        have := Z0.out; have := Z1.out; have := Zy1.out; have := Z2.out; have := Zy2.out; have := Z3.out; have := Zy3.out; have := Z4.out; have := Z5.out; have := Z6.out; have := Hk17.out; have := Hk10.out; have := Hk12.out
        exact ⟨by omega, by omega, by omega, by omega, by omega, by omega, by omega⟩
      have hargs : y9.ownsRow u6.heap.size 33 1 (.slice (some ⟨u6.heap.size, 0, none⟩) 8 8) 8 ((List.range 8).map (fun j => if j = 0 then .slice p0 0 c0 else if j = 1 then .slice p1 0 c1 else if j = 2 then .slice p2 0 c2 else if j = 3 then .slice q0 0 d0 else if j = 4 then .slice q1 0 d1 else if j = 5 then .slice q2 0 d2 else if j = 6 then .slice q3 0 d3 else .slice pp 0 cq)) := by rw [hy9]; exact World.ownsRow_lit u6 #[.slice p0 0 c0, .slice p1 0 c1, .slice p2 0 c2, .slice q0 0 d0, .slice q1 0 d1, .slice q2 0 d2, .slice q3 0 d3, .slice pp 0 cq] 8 (Nat.le_refl _) (by unfold maxLen; omega) rfl
      have KP := hide (keep22 B B u6.heap.size 8 u6.heap.size (fun j => if j = 0 then .slice p0 0 c0 else if j = 1 then .slice p1 0 c1 else if j = 2 then .slice p2 0 c2 else if j = 3 then .slice q0 0 d0 else if j = 4 then .slice q1 0 d1 else if j = 5 then .slice q2 0 d2 else if j = 6 then .slice q3 0 d3 else .slice pp 0 cq) (fun j => if j = 0 then ([] : List Int) else if j = 1 then ([] : List Int) else if j = 2 then ([] : List Int) else if j = 3 then ([] : List Int) else if j = 4 then ([] : List Int) else if j = 5 then ([] : List Int) else if j = 6 then ([] : List Int) else ([] : List Int)) y9 BGy9.out (by have := HBy9.out.size; have := HBE.out; omega) (by have := HZ0.out; omega) (by omega) hargs
        (fun h => by have := HRL.out _ h; have := HZ0.out; omega)
        (fun j hj => by match j, hj with
          | 0, _ => exact IOwns.base T1y9.out.o0 (by have := HZ0.out; omega)
          | 1, _ => exact IOwns.base T1y9.out.o1 (by have := HZ0.out; omega)
          | 2, _ => exact IOwns.base T1y9.out.o2 (by have := HZ0.out; omega)
          | 3, _ => exact IOwns.base T2y9.out.o0 (by have := HZ0.out; omega)
          | 4, _ => exact IOwns.base T2y9.out.o1 (by have := HZ0.out; omega)
          | 5, _ => exact IOwns.base T2y9.out.o2 (by have := HZ0.out; omega)
          | 6, _ => exact IOwns.base T2y9.out.o3 (by have := HZ0.out; omega)
          | 7, _ => exact IOwns.base OPy9.out (by have := HZ0.out; omega))
        (fun j hj => by match j, hj with
          | 0, _ => exact HLN.out.1
          | 1, _ => exact HLN.out.2.1
          | 2, _ => exact HLN.out.2.2.1
          | 3, _ => exact HLN.out.2.2.2.1
          | 4, _ => exact HLN.out.2.2.2.2.1
          | 5, _ => exact HLN.out.2.2.2.2.2.1
          | 6, _ => exact HLN.out.2.2.2.2.2.2.1
          | 7, _ => exact HLN.out.2.2.2.2.2.2.2)
        (fun i j b hi hj h1 h2 => by
          have := HZ0.out
          match i, hi, j, hj with
          | 0, _, 0, _ => rfl
          | 0, _, 1, _ => exact absurd h2 (T1y9.out.u01 b h1)
          | 0, _, 2, _ => exact absurd h2 (T1y9.out.u02 b h1)
          | 0, _, 3, _ => have := R0.out b h1; have := R3.out b h2; omega
          | 0, _, 4, _ => have := R0.out b h1; have := R4.out b h2; omega
          | 0, _, 5, _ => have := R0.out b h1; have := R5.out b h2; omega
          | 0, _, 6, _ => have := R0.out b h1; have := R6.out b h2; omega
          | 0, _, 7, _ => have := R0.out b h1; have := R7.out b h2; omega
          | 1, _, 0, _ => exact absurd h1 (T1y9.out.u01 b h2)
          | 1, _, 1, _ => rfl
          | 1, _, 2, _ => exact absurd h2 (T1y9.out.u12 b h1)
          | 1, _, 3, _ => have := R1.out b h1; have := R3.out b h2; omega
          | 1, _, 4, _ => have := R1.out b h1; have := R4.out b h2; omega
          | 1, _, 5, _ => have := R1.out b h1; have := R5.out b h2; omega
          | 1, _, 6, _ => have := R1.out b h1; have := R6.out b h2; omega
          | 1, _, 7, _ => have := R1.out b h1; have := R7.out b h2; omega
          | 2, _, 0, _ => exact absurd h1 (T1y9.out.u02 b h2)
          | 2, _, 1, _ => exact absurd h1 (T1y9.out.u12 b h2)
          | 2, _, 2, _ => rfl
          | 2, _, 3, _ => have := R2.out b h1; have := R3.out b h2; omega
          | 2, _, 4, _ => have := R2.out b h1; have := R4.out b h2; omega
          | 2, _, 5, _ => have := R2.out b h1; have := R5.out b h2; omega
          | 2, _, 6, _ => have := R2.out b h1; have := R6.out b h2; omega
          | 2, _, 7, _ => have := R2.out b h1; have := R7.out b h2; omega
          | 3, _, 0, _ => have := R3.out b h1; have := R0.out b h2; omega
          | 3, _, 1, _ => have := R3.out b h1; have := R1.out b h2; omega
          | 3, _, 2, _ => have := R3.out b h1; have := R2.out b h2; omega
          | 3, _, 3, _ => rfl
          | 3, _, 4, _ => exact absurd h2 (T2y9.out.u01 b h1)
          | 3, _, 5, _ => exact absurd h2 (T2y9.out.u02 b h1)
          | 3, _, 6, _ => exact absurd h2 (T2y9.out.u03 b h1)
          | 3, _, 7, _ => have := R3.out b h1; have := R7.out b h2; omega
          | 4, _, 0, _ => have := R4.out b h1; have := R0.out b h2; omega
          | 4, _, 1, _ => have := R4.out b h1; have := R1.out b h2; omega
          | 4, _, 2, _ => have := R4.out b h1; have := R2.out b h2; omega
          | 4, _, 3, _ => exact absurd h1 (T2y9.out.u01 b h2)
          | 4, _, 4, _ => rfl
          | 4, _, 5, _ => exact absurd h2 (T2y9.out.u12 b h1)
          | 4, _, 6, _ => exact absurd h2 (T2y9.out.u13 b h1)
          | 4, _, 7, _ => have := R4.out b h1; have := R7.out b h2; omega
          | 5, _, 0, _ => have := R5.out b h1; have := R0.out b h2; omega
          | 5, _, 1, _ => have := R5.out b h1; have := R1.out b h2; omega
          | 5, _, 2, _ => have := R5.out b h1; have := R2.out b h2; omega
          | 5, _, 3, _ => exact absurd h1 (T2y9.out.u02 b h2)
          | 5, _, 4, _ => exact absurd h1 (T2y9.out.u12 b h2)
          | 5, _, 5, _ => rfl
          | 5, _, 6, _ => exact absurd h2 (T2y9.out.u23 b h1)
          | 5, _, 7, _ => have := R5.out b h1; have := R7.out b h2; omega
          | 6, _, 0, _ => have := R6.out b h1; have := R0.out b h2; omega
          | 6, _, 1, _ => have := R6.out b h1; have := R1.out b h2; omega
          | 6, _, 2, _ => have := R6.out b h1; have := R2.out b h2; omega
          | 6, _, 3, _ => exact absurd h1 (T2y9.out.u03 b h2)
          | 6, _, 4, _ => exact absurd h1 (T2y9.out.u13 b h2)
          | 6, _, 5, _ => exact absurd h1 (T2y9.out.u23 b h2)
          | 6, _, 6, _ => rfl
          | 6, _, 7, _ => have := R6.out b h1; have := R7.out b h2; omega
          | 7, _, 0, _ => have := R7.out b h1; have := R0.out b h2; omega
          | 7, _, 1, _ => have := R7.out b h1; have := R1.out b h2; omega
          | 7, _, 2, _ => have := R7.out b h1; have := R2.out b h2; omega
          | 7, _, 3, _ => have := R7.out b h1; have := R3.out b h2; omega
          | 7, _, 4, _ => have := R7.out b h1; have := R4.out b h2; omega
          | 7, _, 5, _ => have := R7.out b h1; have := R5.out b h2; omega
          | 7, _, 6, _ => have := R7.out b h1; have := R6.out b h2; omega
          | 7, _, 7, _ => rfl)
        (fun j u b hj hu h1 h2 => by
          have := HZ0.out
          have := HRB.out u b hu h2
          match j, hj with
          | 0, _ => have := R0.out b h1; omega
          | 1, _ => have := R1.out b h1; omega
          | 2, _ => have := R2.out b h1; omega
          | 3, _ => have := R3.out b h1; omega
          | 4, _ => have := R4.out b h1; omega
          | 5, _ => have := R5.out b h1; omega
          | 6, _ => have := R6.out b h1; omega
          | 7, _ => have := R7.out b h1; omega))
      clear hb1 hargs
      go_wp2_with fail
      rw [← hy9]
      clear xa0 xa1 xa2 xa3 xb0 xb1 xb2 xb3
      clear hy9
      refine KP.out.mono ?_
      rintro e Z ⟨rfl, hbagZ, hbZ, hkp⟩
      have HBZ : Hid (Below B x3 Z) := Below.trans HBy9.out hbZ
      have HBAG := hide hbagZ
      have K3Z : Hid (World.ownsRow Z 0 35 4 (.slice (some ⟨k17, 0, none⟩) 1 1) 1 [.slice none 0 0, .slice none 0 0, .slice none 0 0, .slice none 0 0]) := hkp.row K3y9.out (by decide) (by decide)
      clear HBy9 KP hkp hbZ hbagZ BGy9 T1y9 K1y9 T2y9 K2y9 OPy9 K3y9 K4y9
      have EC := hide (each23 n (some ⟨gt, 0, none⟩) es ct s (.slice none 0 0) (.slice none 0 0) (.slice none 0 0) (.slice none 0 0) [] [] n.toNat Z (by have := eachU n (some ⟨gt, 0, none⟩) es ct s Z (HT1.out Z HBZ.out); rw [show bSt n es s = ⟨[], [], []⟩ from by unfold bSt; rw [HR.out]; rfl] at this; exact this) ⟨none, 0, rfl, fun h => by simp at h⟩ (by simp) (fun j hj => by simp at hj))
      obtain ⟨xa0, xa1, xa2, xa3, xa4, xa5, xa6, xa7⟩ := box_cells K3Z.out
      clear xa4 xa5 xa6 xa7
      obtain ⟨⟨g0, g1⟩, g2, g3⟩ := HC1.out Z HBZ.out
      go_wp2_with fail
      clear g0 g1 g2 g3
      clear xa0 xa1 xa2 xa3
      refine EC.out.mono ?_
      rintro e Z2 ⟨rfl, hb1⟩
      have HF : Hid (Below B x3 Z2 ∧ ∃ lv n rv L sz, Bag Z2 B B lv n rv L sz) := by
        obtain ⟨b1, b2, b3, b4, b5, hbg⟩ := HBAG.out
        exact ⟨Below.trans HBZ.out (hb1.mono (by have := HBZ.out.size; have := HBE.out; omega)), b1, b2, b3, b4, b5, hbg.later hb1⟩
      clear hb1 EC HBAG HBZ K3Z
      go_wp2
      go_roundw
      case rel => exact ⟨i + 1, by omega, by go_num, HF.out⟩
      case measure => simp [intOf]; omega
    · have i1 : ¬ (i : Int) < 2 := by omega
      have AP := hide (apart24 B B wr hbg (by have := hbr.size; have := HBE.out; omega))
      clear hbg hbr
      go_wp2_with fail
      refine AP.out.mono ?_
      rintro e y1 ⟨rfl, hy⟩
      have HF := hide (HE1.out y1 (Below.trans HBwr.out hy))
      clear hy AP
      go_wp2
      go_ret
      exact ⟨rfl, HF.out⟩
set_option maxRecDepth 100000 in
set_option maxHeartbeats 16000000 in
theorem all_B1 (n : Int) (p : Option Addr) (es : List Pt) (cp : Nat) (s : Int) (w : World) (h : Has w p es) (hnil : p = none → cp = 0) (hl : lightB n es = true) (hm : netB n es = true) (hs0 : s < 0) : Calls Try.prog 3 #[nv n p es.length cp, .int .i64 s] w fun e w' => e = .returned (.bool true) ∧ Below w.heap.size w w' := by
  have hr : refI n es s = 2 := by simp [refI, hm, hs0]
  have h3e : es.length ≤ 300 := by unfold lightB at hl; simp at hl; omega
  have hn3 : n ≤ 300 := by unfold lightB at hl; rw [hm] at hl; simp at hl; omega
  have HD : Hid ((pLb n es).length ≤ 300) := by
    show _ ≤ _
    unfold pLb; rw [hm, if_pos rfl, plab_len]; omega
  obtain ⟨W, hW, hb, a0⟩ := one_net w n p es.length cp
  have BG := hide (begun9 W)
  have HH := hide (h.later hb)
  have HB := hide hb
  have HA := hide a0
  have HL := hide hl
  have HNIL := hide hnil
  have HM := hide hm
  have HR := hide hr
  clear h hb a0 hl hnil hm hr hn3
  go_enter Try.func3, Try.ntmps3
  go_wp2_with fail
  rw [← hW]
  clear hW
  obtain ⟨kg, hkg⟩ : ∃ k, w.heap.size = k := ⟨_, rfl⟩
  have HKG := hide hkg
  rw [hkg] at HA
  try rw [hkg]
  clear hkg
  refine BG.out.mono ?_
  rintro e w1 ⟨rfl, hb1⟩
  have L9 := hide (light9 n p es cp w1 (HH.out.later hb1))
  rw [HL.out] at L9
  have HB1 := hide hb1
  obtain ⟨q0, q1, _, _⟩ := HA.out.later hb1
  clear hb1 BG
  go_wp2_with fail
  refine L9.out.mono ?_
  rintro e w2 ⟨rfl, hb2⟩
  have HB2 := hide (below_step HB1.out hb2)
  clear hb2 q0 q1 L9
  have TW := hide (twin11 n p es cp w2 HNIL.out (by omega) (HH.out.later HB2.out))
  obtain ⟨q0, q1, _, _⟩ := HA.out.later HB2.out
  go_wp2_with fail
  refine TW.out.mono ?_
  rintro e w3 ⟨gt, ct, rfl, hot, hct, hb3⟩
  have HB3 := hide (below_step HB2.out hb3)
  have OT3 := hide hot
  have HCT := hide hct
  clear hb3 hot hct TW q0 q1
  obtain ⟨x3, hx3⟩ : ∃ X, X = w3.alloc (nbx n (some ⟨gt, 0, none⟩) es.length ct) := ⟨_, rfl⟩
  have hb4 : Below w3.heap.size w3 x3 := by rw [hx3]; go_grown
  have HBx := hide (below_step HB3.out hb4)
  have OTx := hide (OT3.out.later hb4)
  have SHx : Hid (NOwn x3 w3.heap.size n (some ⟨gt, 0, none⟩) es.length ct) := by show NOwn _ _ _ _ _ _; rw [hx3]; exact ⟨by unfold nbx; go_cell, by unfold nbx; go_cell, by unfold nbx; go_cell, by unfold nbx; go_cell⟩
  have HAx := hide (HA.out.later HBx.out)
  clear hb4
  obtain ⟨X, hX⟩ : ∃ X, X = x3.alloc (.cells #[.slice none 0 0, .int .i64 0] 31) := ⟨_, rfl⟩
  have hbX : Below x3.heap.size x3 X := by rw [hX]; go_grown
  have HBAG : Hid (∃ lv n rv L sz, Bag X x3.heap.size x3.heap.size lv n rv L sz) := ⟨.slice none 0 0, 0, fun _ => .slice none 0 0, fun _ => [], 0, by rw [hX]; exact World.ownsRow_lit x3 #[.slice none 0 0, .int .i64 0] 1 (Nat.zero_le _) (by unfold maxLen; omega) rfl, Nat.le_refl _, World.ownsRow_nil _ _ _ _, fun u v j hu => by omega, fun v hv => by omega, fun v hv => by omega, by omega, by omega⟩
  have HXY := hide hbX
  have M12 := hide (may12 n p es cp X (HH.out.later (below_step HBx.out hbX)))
  rw [HM.out] at M12
  obtain ⟨q0, q1, _, _⟩ := HAx.out.later hbX
  rw [hX, hx3] at q0 q1
  clear hbX
  go_wp2_with fail
  rw [← hx3]
  have hX2 := hX
  rw [hx3] at hX2
  try rw [← hX2]
  try rw [← hX]
  obtain ⟨kh, hkh⟩ : ∃ k, w3.heap.size = k := ⟨_, rfl⟩
  rw [hkh] at SHx
  try rw [hkh]
  have hxs : x3.heap.size = kh + 1 := by rw [hx3]; simp [hkh]
  clear hX2 hX hx3 hkh q0 q1
  have HG1 : Hid (∀ V, Below x3.heap.size x3 V → Has V p es) := fun V hV => HH.out.later (below_step HBx.out hV)
  have HH1 : Hid (∀ V, Below x3.heap.size x3 V → Lies V gt 0 (es ++ [mk])) := fun V hV => by
    have := OTx.out.later hV
    rw [show es.length + 1 = (es ++ [mk]).length by simp] at this
    exact this.lies
  have HT1 : Hid (∀ V, Below x3.heap.size x3 V → Has V (some ⟨gt, 0, none⟩) es) := fun V hV => Or.inr ⟨gt, 0, rfl, lies_left (HH1.out V hV)⟩
  have HE1 : Hid (∀ V, Below x3.heap.size x3 V → Below w.heap.size w V) := fun V hV => below_step (below_step HB.out HBx.out) hV
  have HC1 : Hid (∀ V, Below x3.heap.size x3 V → (V.cell? ⟨kh, 0, none⟩ = some (.int .i64 n) ∧ V.cell? ⟨kh, 1, none⟩ = some (.slice (some ⟨gt, 0, none⟩) es.length ct)) ∧ V.cell? ⟨kg, 0, none⟩ = some (.int .i64 n) ∧ V.cell? ⟨kg, 1, none⟩ = some (.slice p es.length cp)) := fun V hV => ⟨⟨(SHx.out.later hV).1, (SHx.out.later hV).2.1⟩, (HAx.out.later hV).1, (HAx.out.later hV).2.1⟩
  obtain ⟨PL, hPL⟩ : ∃ l, pLb n es = l := ⟨_, rfl⟩
  obtain ⟨PC, hPC⟩ : ∃ l, pCt n es = l := ⟨_, rfl⟩
  have CB : Hid (∀ V, Below x3.heap.size x3 V → Calls Try.prog 13 #[nv n (some ⟨gt, 0, none⟩) es.length ct, .int .i64 s] V fun e w' => ∃ p0 p1 p2 c0 c1 c2, e = .returned (.tuple #[tv (.slice p0 0 c0) (.slice p1 0 c1) (.slice p2 0 c2) (.slice none 0 0), .int .i64 2]) ∧ TQ w' V.heap.size p0 p1 p2 none c0 c1 c2 0 ([] : List Int) ([] : List Int) ([] : List Int) [] ∧ Below V.heap.size V w') := fun V hV => by
    have := breadthU n (some ⟨gt, 0, none⟩) es ct s V (HT1.out V hV)
    rw [HR.out, show bSt n es s = ⟨[], [], []⟩ from by unfold bSt; rw [HR.out]; rfl] at this
    exact this
  have CD : Hid (∀ V, Below x3.heap.size x3 V → Calls Try.prog 14 #[nv n (some ⟨gt, 0, none⟩) es.length ct, .int .i64 s] V fun e w' => ∃ q0 q1 q2 q3 d0 d1 d2 d3, e = .returned (.tuple #[tv (.slice q0 0 d0) (.slice q1 0 d1) (.slice q2 0 d2) (.slice q3 0 d3), .int .i64 2]) ∧ TQ w' V.heap.size q0 q1 q2 q3 d0 d1 d2 d3 ([] : List Int) ([] : List Int) ([] : List Int) ([] : List Int) ∧ Below V.heap.size V w') := fun V hV => by
    have := depthU n (some ⟨gt, 0, none⟩) es ct s V (HT1.out V hV)
    rw [HR.out, show dSt n es s = ⟨[], [], []⟩ from by unfold dSt; rw [HR.out]; rfl, show dLw n es s = [] from by unfold dLw; rw [HR.out]; rfl] at this
    exact this
  have CP : Hid (∀ V, Below x3.heap.size x3 V → Calls Try.prog 15 #[nv n (some ⟨gt, 0, none⟩) es.length ct] V fun e w' => ∃ pp cq, e = .returned (.tuple #[.slice pp PL.length cq, .int .i64 (PC : Nat), .int .i64 0]) ∧ IOwns w' V.heap.size (.slice pp PL.length cq) PL ∧ Below V.heap.size V w') := fun V hV => by
    have := partsU n (some ⟨gt, 0, none⟩) es ct V (HT1.out V hV)
    rw [HM.out, hPL, hPC] at this
    exact this
  have RP : Hid (∀ V, Below x3.heap.size x3 V → Calls Try.prog 20 #[nv n p es.length cp, .slice none 0 0, .slice none 0 0] V fun e w' => ∃ pr cr, e = .returned (.tuple #[.slice pr PL.length cr, .int .i64 (PC : Nat)]) ∧ IOwns w' V.heap.size (.slice pr PL.length cr) PL ∧ Below V.heap.size V w') := fun V hV => by
    have := partsR n p es cp V (HG1.out V hV) HM.out
    rw [hPL, hPC] at this
    exact this
  rw [hPL] at HD
  clear hPL hPC
  have HLN : Hid (([] : List Int).length ≤ 20000 ∧ ([] : List Int).length ≤ 20000 ∧ ([] : List Int).length ≤ 20000 ∧ ([] : List Int).length ≤ 20000 ∧ ([] : List Int).length ≤ 20000 ∧ ([] : List Int).length ≤ 20000 ∧ ([] : List Int).length ≤ 20000 ∧ PL.length ≤ 20000) := ⟨by simp, by simp, by simp, by simp, by simp, by simp, by simp, by have := HD.out; omega⟩
  have HLP : Hid (PL.length ≤ 300) := HD.out
  refine M12.out.mono ?_
  rintro e w4 ⟨rfl, hb5⟩
  have HBG4 : Hid (Below x3.heap.size x3 w4 ∧ ∃ lv n rv L sz, Bag w4 x3.heap.size x3.heap.size lv n rv L sz) := by
    obtain ⟨b1, b2, b3, b4, b5, hbg⟩ := HBAG.out
    exact ⟨below_step HXY.out hb5, b1, b2, b3, b4, b5, hbg.later hb5⟩
  obtain ⟨_, c2, c3⟩ := HC1.out w4 HBG4.out.1
  obtain ⟨B, hB⟩ : ∃ B, x3.heap.size = B := ⟨_, rfl⟩
  have HBE := hide hB
  rw [hB] at HBG4 HG1 HH1 HT1 HE1 HC1 CB CD CP RP hxs
  try rw [hB]
  clear hB hb5 M12 HBAG HXY
  go_wp2_with fail
  clear c2 c3
  rw [← hxs]
  clear hxs
  go_loopw [9] (fun t wr => ∃ i : Nat, i ≤ 2 ∧ t = .int .i64 i ∧ Hid (Below B x3 wr ∧ ∃ lv n rv L sz, Bag wr B B lv n rv L sz)) (fun t _ => 2 - (intOf t).toNat)
  case atStart => exact ⟨0, by omega, rfl, HBG4.out⟩
  case round =>
    obtain ⟨i, hi, rfl, HRR⟩ := hrel
    obtain ⟨hbr, blv, bn, brv, bL, bsz, hbg⟩ := HRR.out
    clear HRR HBG4
    have HBwr := hide hbr
    have BGwr := hide hbg
    by_cases hlt : i < 2
    · have i1 : (i : Int) < 2 := by omega
      clear hbr hbg
      have HRB : Hid (∀ u b, u < bn → (brv u).ownBlock = some b → b < wr.heap.size) := fun u b hu hb => (World.ownsRow.lt (BGwr.out.own u hu) b hb).2
      have HRL : Hid (∀ b, blv.ownBlock = some b → b < wr.heap.size) := fun b hb => (World.ownsRow.lt BGwr.out.lst b hb).2
      have Z0 : Hid (B ≤ wr.heap.size) := by show _ ≤ _; have := HBwr.out.size; have := HBE.out; omega
      obtain ⟨⟨g0, g1⟩, g2, g3⟩ := HC1.out wr HBwr.out
      go_wp2_with fail
      clear g0 g1 g2 g3
      refine (CB.out wr HBwr.out).mono ?_
      rintro e u1 ⟨p0, p1, p2, c0, c1, c2, rfl, hq, hb1⟩
      have R0 : Hid (∀ b, (Value.slice p0 0 c0).ownBlock = some b → wr.heap.size ≤ b ∧ b < u1.heap.size) := fun b hb => World.ownsRow.lt hq.o0 b hb
      have R1 : Hid (∀ b, (Value.slice p1 0 c1).ownBlock = some b → wr.heap.size ≤ b ∧ b < u1.heap.size) := fun b hb => World.ownsRow.lt hq.o1 b hb
      have R2 : Hid (∀ b, (Value.slice p2 0 c2).ownBlock = some b → wr.heap.size ≤ b ∧ b < u1.heap.size) := fun b hb => World.ownsRow.lt hq.o2 b hb
      have HBu1 : Hid (Below B x3 u1) := Below.trans HBwr.out (hb1.mono (by have := HBwr.out.size; have := HBE.out; omega))
      have BGu1 := hide (BGwr.out.later hb1)
      clear HBwr BGwr
      have T1u1 := hide hq
      have Z1 := hide hb1.size
      clear hq hb1
      obtain ⟨y1, hy1⟩ : ∃ X, X = u1.alloc (.cells #[.slice p0 0 c0, .slice p1 0 c1, .slice p2 0 c2, .slice none 0 0] 35) := ⟨_, rfl⟩
      have hb1 : Below u1.heap.size u1 y1 := by rw [hy1]; go_grown
      have HBy1 : Hid (Below B x3 y1) := Below.trans HBu1.out (hb1.mono (by have := HBu1.out.size; have := HBE.out; omega))
      have BGy1 := hide (BGu1.out.later hb1)
      have T1y1 := hide (T1u1.out.later hb1)
      clear HBu1 BGu1 T1u1
      have K1y1 : Hid (World.ownsRow y1 0 35 4 (.slice (some ⟨u1.heap.size, 0, none⟩) 1 1) 1 [.slice p0 0 c0, .slice p1 0 c1, .slice p2 0 c2, .slice none 0 0]) := by show World.ownsRow _ _ _ _ _ _ _; rw [hy1]; exact box35 _ _ _ _ _
      have Zy1 := hide hb1.size
      have ZQy1 : Hid (y1.heap.size = u1.heap.size + 1) := by show _ = _; rw [hy1]; simp
      clear hb1
      obtain ⟨⟨g0, g1⟩, g2, g3⟩ := HC1.out y1 HBy1.out
      rw [hy1] at g0 g1 g2 g3
      go_wp2_with fail
      rw [← hy1]
      obtain ⟨k10, hk10⟩ : ∃ k, u1.heap.size = k := ⟨_, rfl⟩
      have Hk10 := hide hk10
      rw [hk10] at K1y1
      try rw [hk10]
      clear hy1 hk10
      clear g0 g1 g2 g3
      refine (CD.out y1 HBy1.out).mono ?_
      rintro e u2 ⟨q0, q1, q2, q3, d0, d1, d2, d3, rfl, hq, hb1⟩
      have R3 : Hid (∀ b, (Value.slice q0 0 d0).ownBlock = some b → y1.heap.size ≤ b ∧ b < u2.heap.size) := fun b hb => World.ownsRow.lt hq.o0 b hb
      have R4 : Hid (∀ b, (Value.slice q1 0 d1).ownBlock = some b → y1.heap.size ≤ b ∧ b < u2.heap.size) := fun b hb => World.ownsRow.lt hq.o1 b hb
      have R5 : Hid (∀ b, (Value.slice q2 0 d2).ownBlock = some b → y1.heap.size ≤ b ∧ b < u2.heap.size) := fun b hb => World.ownsRow.lt hq.o2 b hb
      have R6 : Hid (∀ b, (Value.slice q3 0 d3).ownBlock = some b → y1.heap.size ≤ b ∧ b < u2.heap.size) := fun b hb => World.ownsRow.lt hq.o3 b hb
      have HBu2 : Hid (Below B x3 u2) := Below.trans HBy1.out (hb1.mono (by have := HBy1.out.size; have := HBE.out; omega))
      have BGu2 := hide (BGy1.out.later hb1)
      have T1u2 := hide (T1y1.out.later hb1)
      have K1u2 := hide (box_later K1y1.out hb1)
      clear HBy1 BGy1 T1y1 K1y1
      have T2u2 := hide hq
      have Z2 := hide hb1.size
      clear hq hb1
      obtain ⟨y2, hy2⟩ : ∃ X, X = u2.alloc (.cells #[.slice q0 0 d0, .slice q1 0 d1, .slice q2 0 d2, .slice q3 0 d3] 35) := ⟨_, rfl⟩
      have hb1 : Below u2.heap.size u2 y2 := by rw [hy2]; go_grown
      have HBy2 : Hid (Below B x3 y2) := Below.trans HBu2.out (hb1.mono (by have := HBu2.out.size; have := HBE.out; omega))
      have BGy2 := hide (BGu2.out.later hb1)
      have T1y2 := hide (T1u2.out.later hb1)
      have K1y2 := hide (box_later K1u2.out hb1)
      have T2y2 := hide (T2u2.out.later hb1)
      clear HBu2 BGu2 T1u2 K1u2 T2u2
      have K2y2 : Hid (World.ownsRow y2 0 35 4 (.slice (some ⟨u2.heap.size, 0, none⟩) 1 1) 1 [.slice q0 0 d0, .slice q1 0 d1, .slice q2 0 d2, .slice q3 0 d3]) := by show World.ownsRow _ _ _ _ _ _ _; rw [hy2]; exact box35 _ _ _ _ _
      have Zy2 := hide hb1.size
      have ZQy2 : Hid (y2.heap.size = u2.heap.size + 1) := by show _ = _; rw [hy2]; simp
      clear hb1
      obtain ⟨⟨g0, g1⟩, g2, g3⟩ := HC1.out y2 HBy2.out
      rw [hy2] at g0 g1 g2 g3
      go_wp2_with fail
      rw [← hy2]
      obtain ⟨k12, hk12⟩ : ∃ k, u2.heap.size = k := ⟨_, rfl⟩
      have Hk12 := hide hk12
      rw [hk12] at K2y2
      try rw [hk12]
      clear hy2 hk12
      clear g0 g1 g2 g3
      refine (CP.out y2 HBy2.out).mono ?_
      rintro e u3 ⟨pp, cq, rfl, hq, hb1⟩
      have R7 : Hid (∀ b, (Value.slice pp PL.length cq).ownBlock = some b → y2.heap.size ≤ b ∧ b < u3.heap.size) := fun b hb => World.ownsRow.lt hq b hb
      have HBu3 : Hid (Below B x3 u3) := Below.trans HBy2.out (hb1.mono (by have := HBy2.out.size; have := HBE.out; omega))
      have BGu3 := hide (BGy2.out.later hb1)
      have T1u3 := hide (T1y2.out.later hb1)
      have K1u3 := hide (box_later K1y2.out hb1)
      have T2u3 := hide (T2y2.out.later hb1)
      have K2u3 := hide (box_later K2y2.out hb1)
      clear HBy2 BGy2 T1y2 K1y2 T2y2 K2y2
      have OPu3 := hide hq
      have Z3 := hide hb1.size
      clear hq hb1
      obtain ⟨y3, hy3⟩ : ∃ X, X = (u3.alloc (.cells #[.slice none 0 0, .slice none 0 0, .slice none 0 0, .slice none 0 0] 35)).alloc (.cells #[.slice none 0 0, .slice none 0 0, .slice none 0 0, .slice none 0 0] 35) := ⟨_, rfl⟩
      have hb1 : Below u3.heap.size u3 y3 := by rw [hy3]; go_grown
      have HBy3 : Hid (Below B x3 y3) := Below.trans HBu3.out (hb1.mono (by have := HBu3.out.size; have := HBE.out; omega))
      have BGy3 := hide (BGu3.out.later hb1)
      have T1y3 := hide (T1u3.out.later hb1)
      have K1y3 := hide (box_later K1u3.out hb1)
      have T2y3 := hide (T2u3.out.later hb1)
      have K2y3 := hide (box_later K2u3.out hb1)
      have OPy3 := hide (OPu3.out.later hb1)
      clear HBu3 BGu3 T1u3 K1u3 T2u3 K2u3 OPu3
      have K3y3 : Hid (World.ownsRow y3 0 35 4 (.slice (some ⟨u3.heap.size, 0, none⟩) 1 1) 1 [.slice none 0 0, .slice none 0 0, .slice none 0 0, .slice none 0 0]) := by show World.ownsRow _ _ _ _ _ _ _; rw [hy3]; exact box_later (box35 _ _ _ _ _) (by go_grown)
      have K4y3 : Hid (World.ownsRow y3 0 35 4 (.slice (some ⟨u3.heap.size + 1, 0, none⟩) 1 1) 1 [.slice none 0 0, .slice none 0 0, .slice none 0 0, .slice none 0 0]) := by
        show World.ownsRow _ _ _ _ _ _ _
        rw [hy3]
        have := box35 (u3.alloc (.cells #[.slice none 0 0, .slice none 0 0, .slice none 0 0, .slice none 0 0] 35)) (.slice none 0 0) (.slice none 0 0) (.slice none 0 0) (.slice none 0 0)
        simpa using this
      have Zy3 := hide hb1.size
      clear hb1
      obtain ⟨xa0, xa1, xa2, xa3, xa4, xa5, xa6, xa7⟩ := box_cells K1y3.out
      rw [hy3] at xa0 xa1 xa2 xa3
      clear xa4 xa5 xa6 xa7
      obtain ⟨xb0, xb1, xb2, xb3, xb4, xb5, xb6, xb7⟩ := box_cells K3y3.out
      rw [hy3] at xb0 xb1 xb2 xb3
      clear xb4 xb5 xb6 xb7
      have SM := hide (same18 y3 [] [] [] [] p0 p1 p2 none none none none none c0 c1 c2 0 0 0 0 0 (by simp) ⟨T1y3.out.o0.has, Or.inl rfl⟩ ⟨T1y3.out.o1.has, Or.inl rfl⟩ ⟨T1y3.out.o2.has, Or.inl rfl⟩ ⟨Or.inl rfl, Or.inl rfl⟩)
      simp only [List.length_nil] at SM
      go_wp2_with fail
      rw [← hy3]
      obtain ⟨k17, hk17⟩ : ∃ k, u3.heap.size = k := ⟨_, rfl⟩
      obtain ⟨k18, hk18⟩ : ∃ k, u3.heap.size + 1 = k := ⟨_, rfl⟩
      have Hk17 := hide hk17
      have Hk18 := hide hk18
      rw [hk18] at K4y3
      rw [hk17] at K3y3
      try rw [hk18]
      try rw [hk17]
      clear hk17 hk18
      clear xa0 xa1 xa2 xa3 xb0 xb1 xb2 xb3
      clear hy3
      refine SM.out.mono ?_
      rintro e u4 ⟨rfl, hb1⟩
      clear SM
      have HBu4 : Hid (Below B x3 u4) := Below.trans HBy3.out (hb1.mono (by have := HBy3.out.size; have := HBE.out; omega))
      have BGu4 := hide (BGy3.out.later hb1)
      have T1u4 := hide (T1y3.out.later hb1)
      have K1u4 := hide (box_later K1y3.out hb1)
      have T2u4 := hide (T2y3.out.later hb1)
      have K2u4 := hide (box_later K2y3.out hb1)
      have OPu4 := hide (OPy3.out.later hb1)
      have K3u4 := hide (box_later K3y3.out hb1)
      have K4u4 := hide (box_later K4y3.out hb1)
      clear HBy3 BGy3 T1y3 K1y3 T2y3 K2y3 OPy3 K3y3 K4y3
      have Z4 := hide hb1.size
      clear hb1
      obtain ⟨xa0, xa1, xa2, xa3, xa4, xa5, xa6, xa7⟩ := box_cells K2u4.out
      clear xa4 xa5 xa6 xa7
      obtain ⟨xb0, xb1, xb2, xb3, xb4, xb5, xb6, xb7⟩ := box_cells K4u4.out
      clear xb4 xb5 xb6 xb7
      have SM := hide (same18 u4 [] [] [] [] q0 q1 q2 q3 none none none none d0 d1 d2 d3 0 0 0 0 (by simp) ⟨T2u4.out.o0.has, Or.inl rfl⟩ ⟨T2u4.out.o1.has, Or.inl rfl⟩ ⟨T2u4.out.o2.has, Or.inl rfl⟩ ⟨T2u4.out.o3.has, Or.inl rfl⟩)
      simp only [List.length_nil] at SM
      go_wp2_with fail
      clear xa0 xa1 xa2 xa3 xb0 xb1 xb2 xb3
      refine SM.out.mono ?_
      rintro e u5 ⟨rfl, hb1⟩
      clear SM
      have HBu5 : Hid (Below B x3 u5) := Below.trans HBu4.out (hb1.mono (by have := HBu4.out.size; have := HBE.out; omega))
      have BGu5 := hide (BGu4.out.later hb1)
      have T1u5 := hide (T1u4.out.later hb1)
      have K1u5 := hide (box_later K1u4.out hb1)
      have T2u5 := hide (T2u4.out.later hb1)
      have K2u5 := hide (box_later K2u4.out hb1)
      have OPu5 := hide (OPu4.out.later hb1)
      have K3u5 := hide (box_later K3u4.out hb1)
      have K4u5 := hide (box_later K4u4.out hb1)
      clear HBu4 BGu4 T1u4 K1u4 T2u4 K2u4 OPu4 K3u4 K4u4
      have Z5 := hide hb1.size
      clear hb1
      have KT := hide (kept17 n gt ct p es cp u5 (by omega) HCT.out (HH1.out u5 HBu5.out) (HG1.out u5 HBu5.out))
      obtain ⟨⟨g0, g1⟩, g2, g3⟩ := HC1.out u5 HBu5.out
      go_wp2_with fail
      clear g0 g1 g2 g3
      refine KT.out.mono ?_
      rintro e u6 ⟨rfl, hb1⟩
      clear KT
      have HBu6 : Hid (Below B x3 u6) := Below.trans HBu5.out (hb1.mono (by have := HBu5.out.size; have := HBE.out; omega))
      have BGu6 := hide (BGu5.out.later hb1)
      have T1u6 := hide (T1u5.out.later hb1)
      have K1u6 := hide (box_later K1u5.out hb1)
      have T2u6 := hide (T2u5.out.later hb1)
      have K2u6 := hide (box_later K2u5.out hb1)
      have OPu6 := hide (OPu5.out.later hb1)
      have K3u6 := hide (box_later K3u5.out hb1)
      have K4u6 := hide (box_later K4u5.out hb1)
      clear HBu5 BGu5 T1u5 K1u5 T2u5 K2u5 OPu5 K3u5 K4u5
      have Z6 := hide hb1.size
      clear hb1
      obtain ⟨⟨g0, g1⟩, g2, g3⟩ := HC1.out u6 HBu6.out
      go_wp2_with fail
      clear g0 g1 g2 g3
      refine (RP.out u6 HBu6.out).mono ?_
      rintro e u7 ⟨pr, cr, rfl, hq, hb1⟩
      have HBu7 : Hid (Below B x3 u7) := Below.trans HBu6.out (hb1.mono (by have := HBu6.out.size; have := HBE.out; omega))
      have BGu7 := hide (BGu6.out.later hb1)
      have T1u7 := hide (T1u6.out.later hb1)
      have K1u7 := hide (box_later K1u6.out hb1)
      have T2u7 := hide (T2u6.out.later hb1)
      have K2u7 := hide (box_later K2u6.out hb1)
      have OPu7 := hide (OPu6.out.later hb1)
      have K3u7 := hide (box_later K3u6.out hb1)
      have K4u7 := hide (box_later K4u6.out hb1)
      clear HBu6 BGu6 T1u6 K1u6 T2u6 K2u6 OPu6 K3u6 K4u6
      have ORu7 := hide hq
      have Z7 := hide hb1.size
      clear hq hb1
      have IN := hide (ints30 pp pr PL PL cq cr u7 (by have := HLP.out; unfold maxLen; omega) OPu7.out.has ORu7.out.has)
      rw [decide_eq_true rfl] at IN
      have tpc : ((PC : Int) != (PC : Int)) = false := by simp
      go_wp2_with fail
      refine IN.out.mono ?_
      rintro e u8 ⟨rfl, hb1⟩
      clear IN tpc
      have HBu8 : Hid (Below B x3 u8) := Below.trans HBu7.out (hb1.mono (by have := HBu7.out.size; have := HBE.out; omega))
      have BGu8 := hide (BGu7.out.later hb1)
      have T1u8 := hide (T1u7.out.later hb1)
      have K1u8 := hide (box_later K1u7.out hb1)
      have T2u8 := hide (T2u7.out.later hb1)
      have K2u8 := hide (box_later K2u7.out hb1)
      have OPu8 := hide (OPu7.out.later hb1)
      have K3u8 := hide (box_later K3u7.out hb1)
      have K4u8 := hide (box_later K4u7.out hb1)
      have ORu8 := hide (ORu7.out.later hb1)
      clear HBu7 BGu7 T1u7 K1u7 T2u7 K2u7 OPu7 K3u7 K4u7 ORu7
      have Z8 := hide hb1.size
      clear hb1
      obtain ⟨y9, hy9⟩ : ∃ X, X = u8.alloc (.cells #[.slice p0 0 c0, .slice p1 0 c1, .slice p2 0 c2, .slice q0 0 d0, .slice q1 0 d1, .slice q2 0 d2, .slice q3 0 d3, .slice pp PL.length cq] 33) := ⟨_, rfl⟩
      have hb1 : Below u8.heap.size u8 y9 := by rw [hy9]; go_grown
      obtain ⟨xa0, xa1, xa2, xa3, xa4, xa5, xa6, xa7⟩ := box_cells K1u8.out
      clear xa4 xa5 xa6 xa7
      obtain ⟨xb0, xb1, xb2, xb3, xb4, xb5, xb6, xb7⟩ := box_cells K2u8.out
      clear xb4 xb5 xb6 xb7
      have HBy9 : Hid (Below B x3 y9) := Below.trans HBu8.out (hb1.mono (by have := HBu8.out.size; have := HBE.out; omega))
      have BGy9 := hide (BGu8.out.later hb1)
      have T1y9 := hide (T1u8.out.later hb1)
      have K1y9 := hide (box_later K1u8.out hb1)
      have T2y9 := hide (T2u8.out.later hb1)
      have K2y9 := hide (box_later K2u8.out hb1)
      have OPy9 := hide (OPu8.out.later hb1)
      have K3y9 := hide (box_later K3u8.out hb1)
      have K4y9 := hide (box_later K4u8.out hb1)
      have ORy9 := hide (ORu8.out.later hb1)
      clear HBu8 BGu8 T1u8 K1u8 T2u8 K2u8 OPu8 K3u8 K4u8 ORu8
      have HZ0 : Hid (wr.heap.size ≤ u1.heap.size ∧ u1.heap.size ≤ y1.heap.size ∧ y1.heap.size ≤ u2.heap.size ∧ u2.heap.size ≤ y2.heap.size ∧ y2.heap.size ≤ u3.heap.size ∧ u3.heap.size ≤ u8.heap.size ∧ B ≤ wr.heap.size) := by
        have := Z0.out; have := Z1.out; have := Zy1.out; have := Z2.out; have := Zy2.out; have := Z3.out; have := Zy3.out; have := Z4.out; have := Z5.out; have := Z6.out; have := Z7.out; have := Z8.out; have := Hk17.out; have := Hk10.out; have := Hk12.out
        exact ⟨by omega, by omega, by omega, by omega, by omega, by omega, by omega⟩
      have hargs : y9.ownsRow u8.heap.size 33 1 (.slice (some ⟨u8.heap.size, 0, none⟩) 8 8) 8 ((List.range 8).map (fun j => if j = 0 then .slice p0 0 c0 else if j = 1 then .slice p1 0 c1 else if j = 2 then .slice p2 0 c2 else if j = 3 then .slice q0 0 d0 else if j = 4 then .slice q1 0 d1 else if j = 5 then .slice q2 0 d2 else if j = 6 then .slice q3 0 d3 else .slice pp PL.length cq)) := by rw [hy9]; exact World.ownsRow_lit u8 #[.slice p0 0 c0, .slice p1 0 c1, .slice p2 0 c2, .slice q0 0 d0, .slice q1 0 d1, .slice q2 0 d2, .slice q3 0 d3, .slice pp PL.length cq] 8 (Nat.le_refl _) (by unfold maxLen; omega) rfl
      have KP := hide (keep22 B B u8.heap.size 8 u8.heap.size (fun j => if j = 0 then .slice p0 0 c0 else if j = 1 then .slice p1 0 c1 else if j = 2 then .slice p2 0 c2 else if j = 3 then .slice q0 0 d0 else if j = 4 then .slice q1 0 d1 else if j = 5 then .slice q2 0 d2 else if j = 6 then .slice q3 0 d3 else .slice pp PL.length cq) (fun j => if j = 0 then ([] : List Int) else if j = 1 then ([] : List Int) else if j = 2 then ([] : List Int) else if j = 3 then ([] : List Int) else if j = 4 then ([] : List Int) else if j = 5 then ([] : List Int) else if j = 6 then ([] : List Int) else PL) y9 BGy9.out (by have := HBy9.out.size; have := HBE.out; omega) (by have := HZ0.out; omega) (by omega) hargs
        (fun h => by have := HRL.out _ h; have := HZ0.out; omega)
        (fun j hj => by match j, hj with
          | 0, _ => exact IOwns.base T1y9.out.o0 (by have := HZ0.out; omega)
          | 1, _ => exact IOwns.base T1y9.out.o1 (by have := HZ0.out; omega)
          | 2, _ => exact IOwns.base T1y9.out.o2 (by have := HZ0.out; omega)
          | 3, _ => exact IOwns.base T2y9.out.o0 (by have := HZ0.out; omega)
          | 4, _ => exact IOwns.base T2y9.out.o1 (by have := HZ0.out; omega)
          | 5, _ => exact IOwns.base T2y9.out.o2 (by have := HZ0.out; omega)
          | 6, _ => exact IOwns.base T2y9.out.o3 (by have := HZ0.out; omega)
          | 7, _ => exact IOwns.base OPy9.out (by have := HZ0.out; omega))
        (fun j hj => by match j, hj with
          | 0, _ => exact HLN.out.1
          | 1, _ => exact HLN.out.2.1
          | 2, _ => exact HLN.out.2.2.1
          | 3, _ => exact HLN.out.2.2.2.1
          | 4, _ => exact HLN.out.2.2.2.2.1
          | 5, _ => exact HLN.out.2.2.2.2.2.1
          | 6, _ => exact HLN.out.2.2.2.2.2.2.1
          | 7, _ => exact HLN.out.2.2.2.2.2.2.2)
        (fun i j b hi hj h1 h2 => by
          have := HZ0.out
          match i, hi, j, hj with
          | 0, _, 0, _ => rfl
          | 0, _, 1, _ => exact absurd h2 (T1y9.out.u01 b h1)
          | 0, _, 2, _ => exact absurd h2 (T1y9.out.u02 b h1)
          | 0, _, 3, _ => have := R0.out b h1; have := R3.out b h2; omega
          | 0, _, 4, _ => have := R0.out b h1; have := R4.out b h2; omega
          | 0, _, 5, _ => have := R0.out b h1; have := R5.out b h2; omega
          | 0, _, 6, _ => have := R0.out b h1; have := R6.out b h2; omega
          | 0, _, 7, _ => have := R0.out b h1; have := R7.out b h2; omega
          | 1, _, 0, _ => exact absurd h1 (T1y9.out.u01 b h2)
          | 1, _, 1, _ => rfl
          | 1, _, 2, _ => exact absurd h2 (T1y9.out.u12 b h1)
          | 1, _, 3, _ => have := R1.out b h1; have := R3.out b h2; omega
          | 1, _, 4, _ => have := R1.out b h1; have := R4.out b h2; omega
          | 1, _, 5, _ => have := R1.out b h1; have := R5.out b h2; omega
          | 1, _, 6, _ => have := R1.out b h1; have := R6.out b h2; omega
          | 1, _, 7, _ => have := R1.out b h1; have := R7.out b h2; omega
          | 2, _, 0, _ => exact absurd h1 (T1y9.out.u02 b h2)
          | 2, _, 1, _ => exact absurd h1 (T1y9.out.u12 b h2)
          | 2, _, 2, _ => rfl
          | 2, _, 3, _ => have := R2.out b h1; have := R3.out b h2; omega
          | 2, _, 4, _ => have := R2.out b h1; have := R4.out b h2; omega
          | 2, _, 5, _ => have := R2.out b h1; have := R5.out b h2; omega
          | 2, _, 6, _ => have := R2.out b h1; have := R6.out b h2; omega
          | 2, _, 7, _ => have := R2.out b h1; have := R7.out b h2; omega
          | 3, _, 0, _ => have := R3.out b h1; have := R0.out b h2; omega
          | 3, _, 1, _ => have := R3.out b h1; have := R1.out b h2; omega
          | 3, _, 2, _ => have := R3.out b h1; have := R2.out b h2; omega
          | 3, _, 3, _ => rfl
          | 3, _, 4, _ => exact absurd h2 (T2y9.out.u01 b h1)
          | 3, _, 5, _ => exact absurd h2 (T2y9.out.u02 b h1)
          | 3, _, 6, _ => exact absurd h2 (T2y9.out.u03 b h1)
          | 3, _, 7, _ => have := R3.out b h1; have := R7.out b h2; omega
          | 4, _, 0, _ => have := R4.out b h1; have := R0.out b h2; omega
          | 4, _, 1, _ => have := R4.out b h1; have := R1.out b h2; omega
          | 4, _, 2, _ => have := R4.out b h1; have := R2.out b h2; omega
          | 4, _, 3, _ => exact absurd h1 (T2y9.out.u01 b h2)
          | 4, _, 4, _ => rfl
          | 4, _, 5, _ => exact absurd h2 (T2y9.out.u12 b h1)
          | 4, _, 6, _ => exact absurd h2 (T2y9.out.u13 b h1)
          | 4, _, 7, _ => have := R4.out b h1; have := R7.out b h2; omega
          | 5, _, 0, _ => have := R5.out b h1; have := R0.out b h2; omega
          | 5, _, 1, _ => have := R5.out b h1; have := R1.out b h2; omega
          | 5, _, 2, _ => have := R5.out b h1; have := R2.out b h2; omega
          | 5, _, 3, _ => exact absurd h1 (T2y9.out.u02 b h2)
          | 5, _, 4, _ => exact absurd h1 (T2y9.out.u12 b h2)
          | 5, _, 5, _ => rfl
          | 5, _, 6, _ => exact absurd h2 (T2y9.out.u23 b h1)
          | 5, _, 7, _ => have := R5.out b h1; have := R7.out b h2; omega
          | 6, _, 0, _ => have := R6.out b h1; have := R0.out b h2; omega
          | 6, _, 1, _ => have := R6.out b h1; have := R1.out b h2; omega
          | 6, _, 2, _ => have := R6.out b h1; have := R2.out b h2; omega
          | 6, _, 3, _ => exact absurd h1 (T2y9.out.u03 b h2)
          | 6, _, 4, _ => exact absurd h1 (T2y9.out.u13 b h2)
          | 6, _, 5, _ => exact absurd h1 (T2y9.out.u23 b h2)
          | 6, _, 6, _ => rfl
          | 6, _, 7, _ => have := R6.out b h1; have := R7.out b h2; omega
          | 7, _, 0, _ => have := R7.out b h1; have := R0.out b h2; omega
          | 7, _, 1, _ => have := R7.out b h1; have := R1.out b h2; omega
          | 7, _, 2, _ => have := R7.out b h1; have := R2.out b h2; omega
          | 7, _, 3, _ => have := R7.out b h1; have := R3.out b h2; omega
          | 7, _, 4, _ => have := R7.out b h1; have := R4.out b h2; omega
          | 7, _, 5, _ => have := R7.out b h1; have := R5.out b h2; omega
          | 7, _, 6, _ => have := R7.out b h1; have := R6.out b h2; omega
          | 7, _, 7, _ => rfl)
        (fun j u b hj hu h1 h2 => by
          have := HZ0.out
          have := HRB.out u b hu h2
          match j, hj with
          | 0, _ => have := R0.out b h1; omega
          | 1, _ => have := R1.out b h1; omega
          | 2, _ => have := R2.out b h1; omega
          | 3, _ => have := R3.out b h1; omega
          | 4, _ => have := R4.out b h1; omega
          | 5, _ => have := R5.out b h1; omega
          | 6, _ => have := R6.out b h1; omega
          | 7, _ => have := R7.out b h1; omega))
      clear hb1 hargs
      go_wp2_with fail
      rw [← hy9]
      clear xa0 xa1 xa2 xa3 xb0 xb1 xb2 xb3
      clear hy9
      refine KP.out.mono ?_
      rintro e Z ⟨rfl, hbagZ, hbZ, hkp⟩
      have HBZ : Hid (Below B x3 Z) := Below.trans HBy9.out hbZ
      have HBAG := hide hbagZ
      have K3Z : Hid (World.ownsRow Z 0 35 4 (.slice (some ⟨k17, 0, none⟩) 1 1) 1 [.slice none 0 0, .slice none 0 0, .slice none 0 0, .slice none 0 0]) := hkp.row K3y9.out (by decide) (by decide)
      clear HBy9 KP hkp hbZ hbagZ BGy9 T1y9 K1y9 T2y9 K2y9 OPy9 K3y9 K4y9 ORy9
      have EC := hide (each23 n (some ⟨gt, 0, none⟩) es ct s (.slice none 0 0) (.slice none 0 0) (.slice none 0 0) (.slice none 0 0) [] [] n.toNat Z (by have := eachU n (some ⟨gt, 0, none⟩) es ct s Z (HT1.out Z HBZ.out); rw [show bSt n es s = ⟨[], [], []⟩ from by unfold bSt; rw [HR.out]; rfl] at this; exact this) ⟨none, 0, rfl, fun h => by simp at h⟩ (by simp) (fun j hj => by simp at hj))
      obtain ⟨xa0, xa1, xa2, xa3, xa4, xa5, xa6, xa7⟩ := box_cells K3Z.out
      clear xa4 xa5 xa6 xa7
      obtain ⟨⟨g0, g1⟩, g2, g3⟩ := HC1.out Z HBZ.out
      go_wp2_with fail
      clear g0 g1 g2 g3
      clear xa0 xa1 xa2 xa3
      refine EC.out.mono ?_
      rintro e Z2 ⟨rfl, hb1⟩
      have HF : Hid (Below B x3 Z2 ∧ ∃ lv n rv L sz, Bag Z2 B B lv n rv L sz) := by
        obtain ⟨b1, b2, b3, b4, b5, hbg⟩ := HBAG.out
        exact ⟨Below.trans HBZ.out (hb1.mono (by have := HBZ.out.size; have := HBE.out; omega)), b1, b2, b3, b4, b5, hbg.later hb1⟩
      clear hb1 EC HBAG HBZ K3Z
      go_wp2
      go_roundw
      case rel => exact ⟨i + 1, by omega, by go_num, HF.out⟩
      case measure => simp [intOf]; omega
    · have i1 : ¬ (i : Int) < 2 := by omega
      have AP := hide (apart24 B B wr hbg (by have := hbr.size; have := HBE.out; omega))
      clear hbg hbr
      go_wp2_with fail
      refine AP.out.mono ?_
      rintro e y1 ⟨rfl, hy⟩
      have HF := hide (HE1.out y1 (Below.trans HBwr.out hy))
      clear hy AP
      go_wp2
      go_ret
      exact ⟨rfl, HF.out⟩
set_option maxRecDepth 100000 in
set_option maxHeartbeats 16000000 in
theorem all_B2 (n : Int) (p : Option Addr) (es : List Pt) (cp : Nat) (s : Int) (w : World) (h : Has w p es) (hnil : p = none → cp = 0) (hl : lightB n es = true) (hm : netB n es = true) (hs0 : ¬ s < 0) (hs1 : n ≤ s) : Calls Try.prog 3 #[nv n p es.length cp, .int .i64 s] w fun e w' => e = .returned (.bool true) ∧ Below w.heap.size w w' := by
  have hr : refI n es s = 2 := by simp [refI, hm, hs1]
  have h3e : es.length ≤ 300 := by unfold lightB at hl; simp at hl; omega
  have hn3 : n ≤ 300 := by unfold lightB at hl; rw [hm] at hl; simp at hl; omega
  have HD : Hid ((pLb n es).length ≤ 300) := by
    show _ ≤ _
    unfold pLb; rw [hm, if_pos rfl, plab_len]; omega
  obtain ⟨W, hW, hb, a0⟩ := one_net w n p es.length cp
  have BG := hide (begun9 W)
  have HH := hide (h.later hb)
  have HB := hide hb
  have HA := hide a0
  have HL := hide hl
  have HNIL := hide hnil
  have HM := hide hm
  have HR := hide hr
  clear h hb a0 hl hnil hm hr hn3
  go_enter Try.func3, Try.ntmps3
  go_wp2_with fail
  rw [← hW]
  clear hW
  obtain ⟨kg, hkg⟩ : ∃ k, w.heap.size = k := ⟨_, rfl⟩
  have HKG := hide hkg
  rw [hkg] at HA
  try rw [hkg]
  clear hkg
  refine BG.out.mono ?_
  rintro e w1 ⟨rfl, hb1⟩
  have L9 := hide (light9 n p es cp w1 (HH.out.later hb1))
  rw [HL.out] at L9
  have HB1 := hide hb1
  obtain ⟨q0, q1, _, _⟩ := HA.out.later hb1
  clear hb1 BG
  go_wp2_with fail
  refine L9.out.mono ?_
  rintro e w2 ⟨rfl, hb2⟩
  have HB2 := hide (below_step HB1.out hb2)
  clear hb2 q0 q1 L9
  have TW := hide (twin11 n p es cp w2 HNIL.out (by omega) (HH.out.later HB2.out))
  obtain ⟨q0, q1, _, _⟩ := HA.out.later HB2.out
  go_wp2_with fail
  refine TW.out.mono ?_
  rintro e w3 ⟨gt, ct, rfl, hot, hct, hb3⟩
  have HB3 := hide (below_step HB2.out hb3)
  have OT3 := hide hot
  have HCT := hide hct
  clear hb3 hot hct TW q0 q1
  obtain ⟨x3, hx3⟩ : ∃ X, X = w3.alloc (nbx n (some ⟨gt, 0, none⟩) es.length ct) := ⟨_, rfl⟩
  have hb4 : Below w3.heap.size w3 x3 := by rw [hx3]; go_grown
  have HBx := hide (below_step HB3.out hb4)
  have OTx := hide (OT3.out.later hb4)
  have SHx : Hid (NOwn x3 w3.heap.size n (some ⟨gt, 0, none⟩) es.length ct) := by show NOwn _ _ _ _ _ _; rw [hx3]; exact ⟨by unfold nbx; go_cell, by unfold nbx; go_cell, by unfold nbx; go_cell, by unfold nbx; go_cell⟩
  have HAx := hide (HA.out.later HBx.out)
  clear hb4
  obtain ⟨X, hX⟩ : ∃ X, X = x3.alloc (.cells #[.slice none 0 0, .int .i64 0] 31) := ⟨_, rfl⟩
  have hbX : Below x3.heap.size x3 X := by rw [hX]; go_grown
  have HBAG : Hid (∃ lv n rv L sz, Bag X x3.heap.size x3.heap.size lv n rv L sz) := ⟨.slice none 0 0, 0, fun _ => .slice none 0 0, fun _ => [], 0, by rw [hX]; exact World.ownsRow_lit x3 #[.slice none 0 0, .int .i64 0] 1 (Nat.zero_le _) (by unfold maxLen; omega) rfl, Nat.le_refl _, World.ownsRow_nil _ _ _ _, fun u v j hu => by omega, fun v hv => by omega, fun v hv => by omega, by omega, by omega⟩
  have HXY := hide hbX
  have M12 := hide (may12 n p es cp X (HH.out.later (below_step HBx.out hbX)))
  rw [HM.out] at M12
  obtain ⟨q0, q1, _, _⟩ := HAx.out.later hbX
  rw [hX, hx3] at q0 q1
  clear hbX
  go_wp2_with fail
  rw [← hx3]
  have hX2 := hX
  rw [hx3] at hX2
  try rw [← hX2]
  try rw [← hX]
  obtain ⟨kh, hkh⟩ : ∃ k, w3.heap.size = k := ⟨_, rfl⟩
  rw [hkh] at SHx
  try rw [hkh]
  have hxs : x3.heap.size = kh + 1 := by rw [hx3]; simp [hkh]
  clear hX2 hX hx3 hkh q0 q1
  have HG1 : Hid (∀ V, Below x3.heap.size x3 V → Has V p es) := fun V hV => HH.out.later (below_step HBx.out hV)
  have HH1 : Hid (∀ V, Below x3.heap.size x3 V → Lies V gt 0 (es ++ [mk])) := fun V hV => by
    have := OTx.out.later hV
    rw [show es.length + 1 = (es ++ [mk]).length by simp] at this
    exact this.lies
  have HT1 : Hid (∀ V, Below x3.heap.size x3 V → Has V (some ⟨gt, 0, none⟩) es) := fun V hV => Or.inr ⟨gt, 0, rfl, lies_left (HH1.out V hV)⟩
  have HE1 : Hid (∀ V, Below x3.heap.size x3 V → Below w.heap.size w V) := fun V hV => below_step (below_step HB.out HBx.out) hV
  have HC1 : Hid (∀ V, Below x3.heap.size x3 V → (V.cell? ⟨kh, 0, none⟩ = some (.int .i64 n) ∧ V.cell? ⟨kh, 1, none⟩ = some (.slice (some ⟨gt, 0, none⟩) es.length ct)) ∧ V.cell? ⟨kg, 0, none⟩ = some (.int .i64 n) ∧ V.cell? ⟨kg, 1, none⟩ = some (.slice p es.length cp)) := fun V hV => ⟨⟨(SHx.out.later hV).1, (SHx.out.later hV).2.1⟩, (HAx.out.later hV).1, (HAx.out.later hV).2.1⟩
  obtain ⟨PL, hPL⟩ : ∃ l, pLb n es = l := ⟨_, rfl⟩
  obtain ⟨PC, hPC⟩ : ∃ l, pCt n es = l := ⟨_, rfl⟩
  have CB : Hid (∀ V, Below x3.heap.size x3 V → Calls Try.prog 13 #[nv n (some ⟨gt, 0, none⟩) es.length ct, .int .i64 s] V fun e w' => ∃ p0 p1 p2 c0 c1 c2, e = .returned (.tuple #[tv (.slice p0 0 c0) (.slice p1 0 c1) (.slice p2 0 c2) (.slice none 0 0), .int .i64 2]) ∧ TQ w' V.heap.size p0 p1 p2 none c0 c1 c2 0 ([] : List Int) ([] : List Int) ([] : List Int) [] ∧ Below V.heap.size V w') := fun V hV => by
    have := breadthU n (some ⟨gt, 0, none⟩) es ct s V (HT1.out V hV)
    rw [HR.out, show bSt n es s = ⟨[], [], []⟩ from by unfold bSt; rw [HR.out]; rfl] at this
    exact this
  have CD : Hid (∀ V, Below x3.heap.size x3 V → Calls Try.prog 14 #[nv n (some ⟨gt, 0, none⟩) es.length ct, .int .i64 s] V fun e w' => ∃ q0 q1 q2 q3 d0 d1 d2 d3, e = .returned (.tuple #[tv (.slice q0 0 d0) (.slice q1 0 d1) (.slice q2 0 d2) (.slice q3 0 d3), .int .i64 2]) ∧ TQ w' V.heap.size q0 q1 q2 q3 d0 d1 d2 d3 ([] : List Int) ([] : List Int) ([] : List Int) ([] : List Int) ∧ Below V.heap.size V w') := fun V hV => by
    have := depthU n (some ⟨gt, 0, none⟩) es ct s V (HT1.out V hV)
    rw [HR.out, show dSt n es s = ⟨[], [], []⟩ from by unfold dSt; rw [HR.out]; rfl, show dLw n es s = [] from by unfold dLw; rw [HR.out]; rfl] at this
    exact this
  have CP : Hid (∀ V, Below x3.heap.size x3 V → Calls Try.prog 15 #[nv n (some ⟨gt, 0, none⟩) es.length ct] V fun e w' => ∃ pp cq, e = .returned (.tuple #[.slice pp PL.length cq, .int .i64 (PC : Nat), .int .i64 0]) ∧ IOwns w' V.heap.size (.slice pp PL.length cq) PL ∧ Below V.heap.size V w') := fun V hV => by
    have := partsU n (some ⟨gt, 0, none⟩) es ct V (HT1.out V hV)
    rw [HM.out, hPL, hPC] at this
    exact this
  have RP : Hid (∀ V, Below x3.heap.size x3 V → Calls Try.prog 20 #[nv n p es.length cp, .slice none 0 0, .slice none 0 0] V fun e w' => ∃ pr cr, e = .returned (.tuple #[.slice pr PL.length cr, .int .i64 (PC : Nat)]) ∧ IOwns w' V.heap.size (.slice pr PL.length cr) PL ∧ Below V.heap.size V w') := fun V hV => by
    have := partsR n p es cp V (HG1.out V hV) HM.out
    rw [hPL, hPC] at this
    exact this
  rw [hPL] at HD
  clear hPL hPC
  have HLN : Hid (([] : List Int).length ≤ 20000 ∧ ([] : List Int).length ≤ 20000 ∧ ([] : List Int).length ≤ 20000 ∧ ([] : List Int).length ≤ 20000 ∧ ([] : List Int).length ≤ 20000 ∧ ([] : List Int).length ≤ 20000 ∧ ([] : List Int).length ≤ 20000 ∧ PL.length ≤ 20000) := ⟨by simp, by simp, by simp, by simp, by simp, by simp, by simp, by have := HD.out; omega⟩
  have HLP : Hid (PL.length ≤ 300) := HD.out
  refine M12.out.mono ?_
  rintro e w4 ⟨rfl, hb5⟩
  have HBG4 : Hid (Below x3.heap.size x3 w4 ∧ ∃ lv n rv L sz, Bag w4 x3.heap.size x3.heap.size lv n rv L sz) := by
    obtain ⟨b1, b2, b3, b4, b5, hbg⟩ := HBAG.out
    exact ⟨below_step HXY.out hb5, b1, b2, b3, b4, b5, hbg.later hb5⟩
  obtain ⟨_, c2, c3⟩ := HC1.out w4 HBG4.out.1
  obtain ⟨B, hB⟩ : ∃ B, x3.heap.size = B := ⟨_, rfl⟩
  have HBE := hide hB
  rw [hB] at HBG4 HG1 HH1 HT1 HE1 HC1 CB CD CP RP hxs
  try rw [hB]
  clear hB hb5 M12 HBAG HXY
  have i5 : (s ≥ n) = True := by simp; omega
  go_wp2_with fail
  clear c2 c3 i5
  rw [← hxs]
  clear hxs
  go_loopw [9] (fun t wr => ∃ i : Nat, i ≤ 2 ∧ t = .int .i64 i ∧ Hid (Below B x3 wr ∧ ∃ lv n rv L sz, Bag wr B B lv n rv L sz)) (fun t _ => 2 - (intOf t).toNat)
  case atStart => exact ⟨0, by omega, rfl, HBG4.out⟩
  case round =>
    obtain ⟨i, hi, rfl, HRR⟩ := hrel
    obtain ⟨hbr, blv, bn, brv, bL, bsz, hbg⟩ := HRR.out
    clear HRR HBG4
    have HBwr := hide hbr
    have BGwr := hide hbg
    by_cases hlt : i < 2
    · have i1 : (i : Int) < 2 := by omega
      clear hbr hbg
      have HRB : Hid (∀ u b, u < bn → (brv u).ownBlock = some b → b < wr.heap.size) := fun u b hu hb => (World.ownsRow.lt (BGwr.out.own u hu) b hb).2
      have HRL : Hid (∀ b, blv.ownBlock = some b → b < wr.heap.size) := fun b hb => (World.ownsRow.lt BGwr.out.lst b hb).2
      have Z0 : Hid (B ≤ wr.heap.size) := by show _ ≤ _; have := HBwr.out.size; have := HBE.out; omega
      obtain ⟨⟨g0, g1⟩, g2, g3⟩ := HC1.out wr HBwr.out
      go_wp2_with fail
      clear g0 g1 g2 g3
      refine (CB.out wr HBwr.out).mono ?_
      rintro e u1 ⟨p0, p1, p2, c0, c1, c2, rfl, hq, hb1⟩
      have R0 : Hid (∀ b, (Value.slice p0 0 c0).ownBlock = some b → wr.heap.size ≤ b ∧ b < u1.heap.size) := fun b hb => World.ownsRow.lt hq.o0 b hb
      have R1 : Hid (∀ b, (Value.slice p1 0 c1).ownBlock = some b → wr.heap.size ≤ b ∧ b < u1.heap.size) := fun b hb => World.ownsRow.lt hq.o1 b hb
      have R2 : Hid (∀ b, (Value.slice p2 0 c2).ownBlock = some b → wr.heap.size ≤ b ∧ b < u1.heap.size) := fun b hb => World.ownsRow.lt hq.o2 b hb
      have HBu1 : Hid (Below B x3 u1) := Below.trans HBwr.out (hb1.mono (by have := HBwr.out.size; have := HBE.out; omega))
      have BGu1 := hide (BGwr.out.later hb1)
      clear HBwr BGwr
      have T1u1 := hide hq
      have Z1 := hide hb1.size
      clear hq hb1
      obtain ⟨y1, hy1⟩ : ∃ X, X = u1.alloc (.cells #[.slice p0 0 c0, .slice p1 0 c1, .slice p2 0 c2, .slice none 0 0] 35) := ⟨_, rfl⟩
      have hb1 : Below u1.heap.size u1 y1 := by rw [hy1]; go_grown
      have HBy1 : Hid (Below B x3 y1) := Below.trans HBu1.out (hb1.mono (by have := HBu1.out.size; have := HBE.out; omega))
      have BGy1 := hide (BGu1.out.later hb1)
      have T1y1 := hide (T1u1.out.later hb1)
      clear HBu1 BGu1 T1u1
      have K1y1 : Hid (World.ownsRow y1 0 35 4 (.slice (some ⟨u1.heap.size, 0, none⟩) 1 1) 1 [.slice p0 0 c0, .slice p1 0 c1, .slice p2 0 c2, .slice none 0 0]) := by show World.ownsRow _ _ _ _ _ _ _; rw [hy1]; exact box35 _ _ _ _ _
      have Zy1 := hide hb1.size
      have ZQy1 : Hid (y1.heap.size = u1.heap.size + 1) := by show _ = _; rw [hy1]; simp
      clear hb1
      obtain ⟨⟨g0, g1⟩, g2, g3⟩ := HC1.out y1 HBy1.out
      rw [hy1] at g0 g1 g2 g3
      go_wp2_with fail
      rw [← hy1]
      obtain ⟨k10, hk10⟩ : ∃ k, u1.heap.size = k := ⟨_, rfl⟩
      have Hk10 := hide hk10
      rw [hk10] at K1y1
      try rw [hk10]
      clear hy1 hk10
      clear g0 g1 g2 g3
      refine (CD.out y1 HBy1.out).mono ?_
      rintro e u2 ⟨q0, q1, q2, q3, d0, d1, d2, d3, rfl, hq, hb1⟩
      have R3 : Hid (∀ b, (Value.slice q0 0 d0).ownBlock = some b → y1.heap.size ≤ b ∧ b < u2.heap.size) := fun b hb => World.ownsRow.lt hq.o0 b hb
      have R4 : Hid (∀ b, (Value.slice q1 0 d1).ownBlock = some b → y1.heap.size ≤ b ∧ b < u2.heap.size) := fun b hb => World.ownsRow.lt hq.o1 b hb
      have R5 : Hid (∀ b, (Value.slice q2 0 d2).ownBlock = some b → y1.heap.size ≤ b ∧ b < u2.heap.size) := fun b hb => World.ownsRow.lt hq.o2 b hb
      have R6 : Hid (∀ b, (Value.slice q3 0 d3).ownBlock = some b → y1.heap.size ≤ b ∧ b < u2.heap.size) := fun b hb => World.ownsRow.lt hq.o3 b hb
      have HBu2 : Hid (Below B x3 u2) := Below.trans HBy1.out (hb1.mono (by have := HBy1.out.size; have := HBE.out; omega))
      have BGu2 := hide (BGy1.out.later hb1)
      have T1u2 := hide (T1y1.out.later hb1)
      have K1u2 := hide (box_later K1y1.out hb1)
      clear HBy1 BGy1 T1y1 K1y1
      have T2u2 := hide hq
      have Z2 := hide hb1.size
      clear hq hb1
      obtain ⟨y2, hy2⟩ : ∃ X, X = u2.alloc (.cells #[.slice q0 0 d0, .slice q1 0 d1, .slice q2 0 d2, .slice q3 0 d3] 35) := ⟨_, rfl⟩
      have hb1 : Below u2.heap.size u2 y2 := by rw [hy2]; go_grown
      have HBy2 : Hid (Below B x3 y2) := Below.trans HBu2.out (hb1.mono (by have := HBu2.out.size; have := HBE.out; omega))
      have BGy2 := hide (BGu2.out.later hb1)
      have T1y2 := hide (T1u2.out.later hb1)
      have K1y2 := hide (box_later K1u2.out hb1)
      have T2y2 := hide (T2u2.out.later hb1)
      clear HBu2 BGu2 T1u2 K1u2 T2u2
      have K2y2 : Hid (World.ownsRow y2 0 35 4 (.slice (some ⟨u2.heap.size, 0, none⟩) 1 1) 1 [.slice q0 0 d0, .slice q1 0 d1, .slice q2 0 d2, .slice q3 0 d3]) := by show World.ownsRow _ _ _ _ _ _ _; rw [hy2]; exact box35 _ _ _ _ _
      have Zy2 := hide hb1.size
      have ZQy2 : Hid (y2.heap.size = u2.heap.size + 1) := by show _ = _; rw [hy2]; simp
      clear hb1
      obtain ⟨⟨g0, g1⟩, g2, g3⟩ := HC1.out y2 HBy2.out
      rw [hy2] at g0 g1 g2 g3
      go_wp2_with fail
      rw [← hy2]
      obtain ⟨k12, hk12⟩ : ∃ k, u2.heap.size = k := ⟨_, rfl⟩
      have Hk12 := hide hk12
      rw [hk12] at K2y2
      try rw [hk12]
      clear hy2 hk12
      clear g0 g1 g2 g3
      refine (CP.out y2 HBy2.out).mono ?_
      rintro e u3 ⟨pp, cq, rfl, hq, hb1⟩
      have R7 : Hid (∀ b, (Value.slice pp PL.length cq).ownBlock = some b → y2.heap.size ≤ b ∧ b < u3.heap.size) := fun b hb => World.ownsRow.lt hq b hb
      have HBu3 : Hid (Below B x3 u3) := Below.trans HBy2.out (hb1.mono (by have := HBy2.out.size; have := HBE.out; omega))
      have BGu3 := hide (BGy2.out.later hb1)
      have T1u3 := hide (T1y2.out.later hb1)
      have K1u3 := hide (box_later K1y2.out hb1)
      have T2u3 := hide (T2y2.out.later hb1)
      have K2u3 := hide (box_later K2y2.out hb1)
      clear HBy2 BGy2 T1y2 K1y2 T2y2 K2y2
      have OPu3 := hide hq
      have Z3 := hide hb1.size
      clear hq hb1
      obtain ⟨y3, hy3⟩ : ∃ X, X = (u3.alloc (.cells #[.slice none 0 0, .slice none 0 0, .slice none 0 0, .slice none 0 0] 35)).alloc (.cells #[.slice none 0 0, .slice none 0 0, .slice none 0 0, .slice none 0 0] 35) := ⟨_, rfl⟩
      have hb1 : Below u3.heap.size u3 y3 := by rw [hy3]; go_grown
      have HBy3 : Hid (Below B x3 y3) := Below.trans HBu3.out (hb1.mono (by have := HBu3.out.size; have := HBE.out; omega))
      have BGy3 := hide (BGu3.out.later hb1)
      have T1y3 := hide (T1u3.out.later hb1)
      have K1y3 := hide (box_later K1u3.out hb1)
      have T2y3 := hide (T2u3.out.later hb1)
      have K2y3 := hide (box_later K2u3.out hb1)
      have OPy3 := hide (OPu3.out.later hb1)
      clear HBu3 BGu3 T1u3 K1u3 T2u3 K2u3 OPu3
      have K3y3 : Hid (World.ownsRow y3 0 35 4 (.slice (some ⟨u3.heap.size, 0, none⟩) 1 1) 1 [.slice none 0 0, .slice none 0 0, .slice none 0 0, .slice none 0 0]) := by show World.ownsRow _ _ _ _ _ _ _; rw [hy3]; exact box_later (box35 _ _ _ _ _) (by go_grown)
      have K4y3 : Hid (World.ownsRow y3 0 35 4 (.slice (some ⟨u3.heap.size + 1, 0, none⟩) 1 1) 1 [.slice none 0 0, .slice none 0 0, .slice none 0 0, .slice none 0 0]) := by
        show World.ownsRow _ _ _ _ _ _ _
        rw [hy3]
        have := box35 (u3.alloc (.cells #[.slice none 0 0, .slice none 0 0, .slice none 0 0, .slice none 0 0] 35)) (.slice none 0 0) (.slice none 0 0) (.slice none 0 0) (.slice none 0 0)
        simpa using this
      have Zy3 := hide hb1.size
      clear hb1
      obtain ⟨xa0, xa1, xa2, xa3, xa4, xa5, xa6, xa7⟩ := box_cells K1y3.out
      rw [hy3] at xa0 xa1 xa2 xa3
      clear xa4 xa5 xa6 xa7
      obtain ⟨xb0, xb1, xb2, xb3, xb4, xb5, xb6, xb7⟩ := box_cells K3y3.out
      rw [hy3] at xb0 xb1 xb2 xb3
      clear xb4 xb5 xb6 xb7
      have SM := hide (same18 y3 [] [] [] [] p0 p1 p2 none none none none none c0 c1 c2 0 0 0 0 0 (by simp) ⟨T1y3.out.o0.has, Or.inl rfl⟩ ⟨T1y3.out.o1.has, Or.inl rfl⟩ ⟨T1y3.out.o2.has, Or.inl rfl⟩ ⟨Or.inl rfl, Or.inl rfl⟩)
      simp only [List.length_nil] at SM
      go_wp2_with fail
      rw [← hy3]
      obtain ⟨k17, hk17⟩ : ∃ k, u3.heap.size = k := ⟨_, rfl⟩
      obtain ⟨k18, hk18⟩ : ∃ k, u3.heap.size + 1 = k := ⟨_, rfl⟩
      have Hk17 := hide hk17
      have Hk18 := hide hk18
      rw [hk18] at K4y3
      rw [hk17] at K3y3
      try rw [hk18]
      try rw [hk17]
      clear hk17 hk18
      clear xa0 xa1 xa2 xa3 xb0 xb1 xb2 xb3
      clear hy3
      refine SM.out.mono ?_
      rintro e u4 ⟨rfl, hb1⟩
      clear SM
      have HBu4 : Hid (Below B x3 u4) := Below.trans HBy3.out (hb1.mono (by have := HBy3.out.size; have := HBE.out; omega))
      have BGu4 := hide (BGy3.out.later hb1)
      have T1u4 := hide (T1y3.out.later hb1)
      have K1u4 := hide (box_later K1y3.out hb1)
      have T2u4 := hide (T2y3.out.later hb1)
      have K2u4 := hide (box_later K2y3.out hb1)
      have OPu4 := hide (OPy3.out.later hb1)
      have K3u4 := hide (box_later K3y3.out hb1)
      have K4u4 := hide (box_later K4y3.out hb1)
      clear HBy3 BGy3 T1y3 K1y3 T2y3 K2y3 OPy3 K3y3 K4y3
      have Z4 := hide hb1.size
      clear hb1
      obtain ⟨xa0, xa1, xa2, xa3, xa4, xa5, xa6, xa7⟩ := box_cells K2u4.out
      clear xa4 xa5 xa6 xa7
      obtain ⟨xb0, xb1, xb2, xb3, xb4, xb5, xb6, xb7⟩ := box_cells K4u4.out
      clear xb4 xb5 xb6 xb7
      have SM := hide (same18 u4 [] [] [] [] q0 q1 q2 q3 none none none none d0 d1 d2 d3 0 0 0 0 (by simp) ⟨T2u4.out.o0.has, Or.inl rfl⟩ ⟨T2u4.out.o1.has, Or.inl rfl⟩ ⟨T2u4.out.o2.has, Or.inl rfl⟩ ⟨T2u4.out.o3.has, Or.inl rfl⟩)
      simp only [List.length_nil] at SM
      go_wp2_with fail
      clear xa0 xa1 xa2 xa3 xb0 xb1 xb2 xb3
      refine SM.out.mono ?_
      rintro e u5 ⟨rfl, hb1⟩
      clear SM
      have HBu5 : Hid (Below B x3 u5) := Below.trans HBu4.out (hb1.mono (by have := HBu4.out.size; have := HBE.out; omega))
      have BGu5 := hide (BGu4.out.later hb1)
      have T1u5 := hide (T1u4.out.later hb1)
      have K1u5 := hide (box_later K1u4.out hb1)
      have T2u5 := hide (T2u4.out.later hb1)
      have K2u5 := hide (box_later K2u4.out hb1)
      have OPu5 := hide (OPu4.out.later hb1)
      have K3u5 := hide (box_later K3u4.out hb1)
      have K4u5 := hide (box_later K4u4.out hb1)
      clear HBu4 BGu4 T1u4 K1u4 T2u4 K2u4 OPu4 K3u4 K4u4
      have Z5 := hide hb1.size
      clear hb1
      have KT := hide (kept17 n gt ct p es cp u5 (by omega) HCT.out (HH1.out u5 HBu5.out) (HG1.out u5 HBu5.out))
      obtain ⟨⟨g0, g1⟩, g2, g3⟩ := HC1.out u5 HBu5.out
      go_wp2_with fail
      clear g0 g1 g2 g3
      refine KT.out.mono ?_
      rintro e u6 ⟨rfl, hb1⟩
      clear KT
      have HBu6 : Hid (Below B x3 u6) := Below.trans HBu5.out (hb1.mono (by have := HBu5.out.size; have := HBE.out; omega))
      have BGu6 := hide (BGu5.out.later hb1)
      have T1u6 := hide (T1u5.out.later hb1)
      have K1u6 := hide (box_later K1u5.out hb1)
      have T2u6 := hide (T2u5.out.later hb1)
      have K2u6 := hide (box_later K2u5.out hb1)
      have OPu6 := hide (OPu5.out.later hb1)
      have K3u6 := hide (box_later K3u5.out hb1)
      have K4u6 := hide (box_later K4u5.out hb1)
      clear HBu5 BGu5 T1u5 K1u5 T2u5 K2u5 OPu5 K3u5 K4u5
      have Z6 := hide hb1.size
      clear hb1
      obtain ⟨⟨g0, g1⟩, g2, g3⟩ := HC1.out u6 HBu6.out
      go_wp2_with fail
      clear g0 g1 g2 g3
      refine (RP.out u6 HBu6.out).mono ?_
      rintro e u7 ⟨pr, cr, rfl, hq, hb1⟩
      have HBu7 : Hid (Below B x3 u7) := Below.trans HBu6.out (hb1.mono (by have := HBu6.out.size; have := HBE.out; omega))
      have BGu7 := hide (BGu6.out.later hb1)
      have T1u7 := hide (T1u6.out.later hb1)
      have K1u7 := hide (box_later K1u6.out hb1)
      have T2u7 := hide (T2u6.out.later hb1)
      have K2u7 := hide (box_later K2u6.out hb1)
      have OPu7 := hide (OPu6.out.later hb1)
      have K3u7 := hide (box_later K3u6.out hb1)
      have K4u7 := hide (box_later K4u6.out hb1)
      clear HBu6 BGu6 T1u6 K1u6 T2u6 K2u6 OPu6 K3u6 K4u6
      have ORu7 := hide hq
      have Z7 := hide hb1.size
      clear hq hb1
      have IN := hide (ints30 pp pr PL PL cq cr u7 (by have := HLP.out; unfold maxLen; omega) OPu7.out.has ORu7.out.has)
      rw [decide_eq_true rfl] at IN
      have tpc : ((PC : Int) != (PC : Int)) = false := by simp
      go_wp2_with fail
      refine IN.out.mono ?_
      rintro e u8 ⟨rfl, hb1⟩
      clear IN tpc
      have HBu8 : Hid (Below B x3 u8) := Below.trans HBu7.out (hb1.mono (by have := HBu7.out.size; have := HBE.out; omega))
      have BGu8 := hide (BGu7.out.later hb1)
      have T1u8 := hide (T1u7.out.later hb1)
      have K1u8 := hide (box_later K1u7.out hb1)
      have T2u8 := hide (T2u7.out.later hb1)
      have K2u8 := hide (box_later K2u7.out hb1)
      have OPu8 := hide (OPu7.out.later hb1)
      have K3u8 := hide (box_later K3u7.out hb1)
      have K4u8 := hide (box_later K4u7.out hb1)
      have ORu8 := hide (ORu7.out.later hb1)
      clear HBu7 BGu7 T1u7 K1u7 T2u7 K2u7 OPu7 K3u7 K4u7 ORu7
      have Z8 := hide hb1.size
      clear hb1
      obtain ⟨y9, hy9⟩ : ∃ X, X = u8.alloc (.cells #[.slice p0 0 c0, .slice p1 0 c1, .slice p2 0 c2, .slice q0 0 d0, .slice q1 0 d1, .slice q2 0 d2, .slice q3 0 d3, .slice pp PL.length cq] 33) := ⟨_, rfl⟩
      have hb1 : Below u8.heap.size u8 y9 := by rw [hy9]; go_grown
      obtain ⟨xa0, xa1, xa2, xa3, xa4, xa5, xa6, xa7⟩ := box_cells K1u8.out
      clear xa4 xa5 xa6 xa7
      obtain ⟨xb0, xb1, xb2, xb3, xb4, xb5, xb6, xb7⟩ := box_cells K2u8.out
      clear xb4 xb5 xb6 xb7
      have HBy9 : Hid (Below B x3 y9) := Below.trans HBu8.out (hb1.mono (by have := HBu8.out.size; have := HBE.out; omega))
      have BGy9 := hide (BGu8.out.later hb1)
      have T1y9 := hide (T1u8.out.later hb1)
      have K1y9 := hide (box_later K1u8.out hb1)
      have T2y9 := hide (T2u8.out.later hb1)
      have K2y9 := hide (box_later K2u8.out hb1)
      have OPy9 := hide (OPu8.out.later hb1)
      have K3y9 := hide (box_later K3u8.out hb1)
      have K4y9 := hide (box_later K4u8.out hb1)
      have ORy9 := hide (ORu8.out.later hb1)
      clear HBu8 BGu8 T1u8 K1u8 T2u8 K2u8 OPu8 K3u8 K4u8 ORu8
      have HZ0 : Hid (wr.heap.size ≤ u1.heap.size ∧ u1.heap.size ≤ y1.heap.size ∧ y1.heap.size ≤ u2.heap.size ∧ u2.heap.size ≤ y2.heap.size ∧ y2.heap.size ≤ u3.heap.size ∧ u3.heap.size ≤ u8.heap.size ∧ B ≤ wr.heap.size) := by
        have := Z0.out; have := Z1.out; have := Zy1.out; have := Z2.out; have := Zy2.out; have := Z3.out; have := Zy3.out; have := Z4.out; have := Z5.out; have := Z6.out; have := Z7.out; have := Z8.out; have := Hk17.out; have := Hk10.out; have := Hk12.out
        exact ⟨by omega, by omega, by omega, by omega, by omega, by omega, by omega⟩
      have hargs : y9.ownsRow u8.heap.size 33 1 (.slice (some ⟨u8.heap.size, 0, none⟩) 8 8) 8 ((List.range 8).map (fun j => if j = 0 then .slice p0 0 c0 else if j = 1 then .slice p1 0 c1 else if j = 2 then .slice p2 0 c2 else if j = 3 then .slice q0 0 d0 else if j = 4 then .slice q1 0 d1 else if j = 5 then .slice q2 0 d2 else if j = 6 then .slice q3 0 d3 else .slice pp PL.length cq)) := by rw [hy9]; exact World.ownsRow_lit u8 #[.slice p0 0 c0, .slice p1 0 c1, .slice p2 0 c2, .slice q0 0 d0, .slice q1 0 d1, .slice q2 0 d2, .slice q3 0 d3, .slice pp PL.length cq] 8 (Nat.le_refl _) (by unfold maxLen; omega) rfl
      have KP := hide (keep22 B B u8.heap.size 8 u8.heap.size (fun j => if j = 0 then .slice p0 0 c0 else if j = 1 then .slice p1 0 c1 else if j = 2 then .slice p2 0 c2 else if j = 3 then .slice q0 0 d0 else if j = 4 then .slice q1 0 d1 else if j = 5 then .slice q2 0 d2 else if j = 6 then .slice q3 0 d3 else .slice pp PL.length cq) (fun j => if j = 0 then ([] : List Int) else if j = 1 then ([] : List Int) else if j = 2 then ([] : List Int) else if j = 3 then ([] : List Int) else if j = 4 then ([] : List Int) else if j = 5 then ([] : List Int) else if j = 6 then ([] : List Int) else PL) y9 BGy9.out (by have := HBy9.out.size; have := HBE.out; omega) (by have := HZ0.out; omega) (by omega) hargs
        (fun h => by have := HRL.out _ h; have := HZ0.out; omega)
        (fun j hj => by match j, hj with
          | 0, _ => exact IOwns.base T1y9.out.o0 (by have := HZ0.out; omega)
          | 1, _ => exact IOwns.base T1y9.out.o1 (by have := HZ0.out; omega)
          | 2, _ => exact IOwns.base T1y9.out.o2 (by have := HZ0.out; omega)
          | 3, _ => exact IOwns.base T2y9.out.o0 (by have := HZ0.out; omega)
          | 4, _ => exact IOwns.base T2y9.out.o1 (by have := HZ0.out; omega)
          | 5, _ => exact IOwns.base T2y9.out.o2 (by have := HZ0.out; omega)
          | 6, _ => exact IOwns.base T2y9.out.o3 (by have := HZ0.out; omega)
          | 7, _ => exact IOwns.base OPy9.out (by have := HZ0.out; omega))
        (fun j hj => by match j, hj with
          | 0, _ => exact HLN.out.1
          | 1, _ => exact HLN.out.2.1
          | 2, _ => exact HLN.out.2.2.1
          | 3, _ => exact HLN.out.2.2.2.1
          | 4, _ => exact HLN.out.2.2.2.2.1
          | 5, _ => exact HLN.out.2.2.2.2.2.1
          | 6, _ => exact HLN.out.2.2.2.2.2.2.1
          | 7, _ => exact HLN.out.2.2.2.2.2.2.2)
        (fun i j b hi hj h1 h2 => by
          have := HZ0.out
          match i, hi, j, hj with
          | 0, _, 0, _ => rfl
          | 0, _, 1, _ => exact absurd h2 (T1y9.out.u01 b h1)
          | 0, _, 2, _ => exact absurd h2 (T1y9.out.u02 b h1)
          | 0, _, 3, _ => have := R0.out b h1; have := R3.out b h2; omega
          | 0, _, 4, _ => have := R0.out b h1; have := R4.out b h2; omega
          | 0, _, 5, _ => have := R0.out b h1; have := R5.out b h2; omega
          | 0, _, 6, _ => have := R0.out b h1; have := R6.out b h2; omega
          | 0, _, 7, _ => have := R0.out b h1; have := R7.out b h2; omega
          | 1, _, 0, _ => exact absurd h1 (T1y9.out.u01 b h2)
          | 1, _, 1, _ => rfl
          | 1, _, 2, _ => exact absurd h2 (T1y9.out.u12 b h1)
          | 1, _, 3, _ => have := R1.out b h1; have := R3.out b h2; omega
          | 1, _, 4, _ => have := R1.out b h1; have := R4.out b h2; omega
          | 1, _, 5, _ => have := R1.out b h1; have := R5.out b h2; omega
          | 1, _, 6, _ => have := R1.out b h1; have := R6.out b h2; omega
          | 1, _, 7, _ => have := R1.out b h1; have := R7.out b h2; omega
          | 2, _, 0, _ => exact absurd h1 (T1y9.out.u02 b h2)
          | 2, _, 1, _ => exact absurd h1 (T1y9.out.u12 b h2)
          | 2, _, 2, _ => rfl
          | 2, _, 3, _ => have := R2.out b h1; have := R3.out b h2; omega
          | 2, _, 4, _ => have := R2.out b h1; have := R4.out b h2; omega
          | 2, _, 5, _ => have := R2.out b h1; have := R5.out b h2; omega
          | 2, _, 6, _ => have := R2.out b h1; have := R6.out b h2; omega
          | 2, _, 7, _ => have := R2.out b h1; have := R7.out b h2; omega
          | 3, _, 0, _ => have := R3.out b h1; have := R0.out b h2; omega
          | 3, _, 1, _ => have := R3.out b h1; have := R1.out b h2; omega
          | 3, _, 2, _ => have := R3.out b h1; have := R2.out b h2; omega
          | 3, _, 3, _ => rfl
          | 3, _, 4, _ => exact absurd h2 (T2y9.out.u01 b h1)
          | 3, _, 5, _ => exact absurd h2 (T2y9.out.u02 b h1)
          | 3, _, 6, _ => exact absurd h2 (T2y9.out.u03 b h1)
          | 3, _, 7, _ => have := R3.out b h1; have := R7.out b h2; omega
          | 4, _, 0, _ => have := R4.out b h1; have := R0.out b h2; omega
          | 4, _, 1, _ => have := R4.out b h1; have := R1.out b h2; omega
          | 4, _, 2, _ => have := R4.out b h1; have := R2.out b h2; omega
          | 4, _, 3, _ => exact absurd h1 (T2y9.out.u01 b h2)
          | 4, _, 4, _ => rfl
          | 4, _, 5, _ => exact absurd h2 (T2y9.out.u12 b h1)
          | 4, _, 6, _ => exact absurd h2 (T2y9.out.u13 b h1)
          | 4, _, 7, _ => have := R4.out b h1; have := R7.out b h2; omega
          | 5, _, 0, _ => have := R5.out b h1; have := R0.out b h2; omega
          | 5, _, 1, _ => have := R5.out b h1; have := R1.out b h2; omega
          | 5, _, 2, _ => have := R5.out b h1; have := R2.out b h2; omega
          | 5, _, 3, _ => exact absurd h1 (T2y9.out.u02 b h2)
          | 5, _, 4, _ => exact absurd h1 (T2y9.out.u12 b h2)
          | 5, _, 5, _ => rfl
          | 5, _, 6, _ => exact absurd h2 (T2y9.out.u23 b h1)
          | 5, _, 7, _ => have := R5.out b h1; have := R7.out b h2; omega
          | 6, _, 0, _ => have := R6.out b h1; have := R0.out b h2; omega
          | 6, _, 1, _ => have := R6.out b h1; have := R1.out b h2; omega
          | 6, _, 2, _ => have := R6.out b h1; have := R2.out b h2; omega
          | 6, _, 3, _ => exact absurd h1 (T2y9.out.u03 b h2)
          | 6, _, 4, _ => exact absurd h1 (T2y9.out.u13 b h2)
          | 6, _, 5, _ => exact absurd h1 (T2y9.out.u23 b h2)
          | 6, _, 6, _ => rfl
          | 6, _, 7, _ => have := R6.out b h1; have := R7.out b h2; omega
          | 7, _, 0, _ => have := R7.out b h1; have := R0.out b h2; omega
          | 7, _, 1, _ => have := R7.out b h1; have := R1.out b h2; omega
          | 7, _, 2, _ => have := R7.out b h1; have := R2.out b h2; omega
          | 7, _, 3, _ => have := R7.out b h1; have := R3.out b h2; omega
          | 7, _, 4, _ => have := R7.out b h1; have := R4.out b h2; omega
          | 7, _, 5, _ => have := R7.out b h1; have := R5.out b h2; omega
          | 7, _, 6, _ => have := R7.out b h1; have := R6.out b h2; omega
          | 7, _, 7, _ => rfl)
        (fun j u b hj hu h1 h2 => by
          have := HZ0.out
          have := HRB.out u b hu h2
          match j, hj with
          | 0, _ => have := R0.out b h1; omega
          | 1, _ => have := R1.out b h1; omega
          | 2, _ => have := R2.out b h1; omega
          | 3, _ => have := R3.out b h1; omega
          | 4, _ => have := R4.out b h1; omega
          | 5, _ => have := R5.out b h1; omega
          | 6, _ => have := R6.out b h1; omega
          | 7, _ => have := R7.out b h1; omega))
      clear hb1 hargs
      go_wp2_with fail
      rw [← hy9]
      clear xa0 xa1 xa2 xa3 xb0 xb1 xb2 xb3
      clear hy9
      refine KP.out.mono ?_
      rintro e Z ⟨rfl, hbagZ, hbZ, hkp⟩
      have HBZ : Hid (Below B x3 Z) := Below.trans HBy9.out hbZ
      have HBAG := hide hbagZ
      have K3Z : Hid (World.ownsRow Z 0 35 4 (.slice (some ⟨k17, 0, none⟩) 1 1) 1 [.slice none 0 0, .slice none 0 0, .slice none 0 0, .slice none 0 0]) := hkp.row K3y9.out (by decide) (by decide)
      clear HBy9 KP hkp hbZ hbagZ BGy9 T1y9 K1y9 T2y9 K2y9 OPy9 K3y9 K4y9 ORy9
      have EC := hide (each23 n (some ⟨gt, 0, none⟩) es ct s (.slice none 0 0) (.slice none 0 0) (.slice none 0 0) (.slice none 0 0) [] [] n.toNat Z (by have := eachU n (some ⟨gt, 0, none⟩) es ct s Z (HT1.out Z HBZ.out); rw [show bSt n es s = ⟨[], [], []⟩ from by unfold bSt; rw [HR.out]; rfl] at this; exact this) ⟨none, 0, rfl, fun h => by simp at h⟩ (by simp) (fun j hj => by simp at hj))
      obtain ⟨xa0, xa1, xa2, xa3, xa4, xa5, xa6, xa7⟩ := box_cells K3Z.out
      clear xa4 xa5 xa6 xa7
      obtain ⟨⟨g0, g1⟩, g2, g3⟩ := HC1.out Z HBZ.out
      go_wp2_with fail
      clear g0 g1 g2 g3
      clear xa0 xa1 xa2 xa3
      refine EC.out.mono ?_
      rintro e Z2 ⟨rfl, hb1⟩
      have HF : Hid (Below B x3 Z2 ∧ ∃ lv n rv L sz, Bag Z2 B B lv n rv L sz) := by
        obtain ⟨b1, b2, b3, b4, b5, hbg⟩ := HBAG.out
        exact ⟨Below.trans HBZ.out (hb1.mono (by have := HBZ.out.size; have := HBE.out; omega)), b1, b2, b3, b4, b5, hbg.later hb1⟩
      clear hb1 EC HBAG HBZ K3Z
      go_wp2
      go_roundw
      case rel => exact ⟨i + 1, by omega, by go_num, HF.out⟩
      case measure => simp [intOf]; omega
    · have i1 : ¬ (i : Int) < 2 := by omega
      have AP := hide (apart24 B B wr hbg (by have := hbr.size; have := HBE.out; omega))
      clear hbg hbr
      go_wp2_with fail
      refine AP.out.mono ?_
      rintro e y1 ⟨rfl, hy⟩
      have HF := hide (HE1.out y1 (Below.trans HBwr.out hy))
      clear hy AP
      go_wp2
      go_ret
      exact ⟨rfl, HF.out⟩
end Go.Proofs.Ytghffodjffkijaa

namespace Go.Proofs.Ytghffodjffkijaa
open Go.RowKit Go.Sort
open Go

set_option maxRecDepth 100000 in
set_option maxHeartbeats 8000000 in
/-- WalkAll where it passes by. -/
theorem all_pass (n : Int) (p : Option Addr) (es : List Pt) (cp : Nat) (s : Int) (w : World) (h : Has w p es) (hl : lightB n es = false) : Calls Try.prog 3 #[nv n p es.length cp, .int .i64 s] w fun e w' => e = .returned (.bool true) ∧ Below w.heap.size w w' := by
  obtain ⟨W, hW, hb, a0⟩ := one_net w n p es.length cp
  have BG := hide (begun9 W)
  have HH := hide (h.later hb)
  have HB := hide hb
  have HA := hide a0
  have HL := hide hl
  clear h hb a0 hl
  go_enter Try.func3, Try.ntmps3
  go_wp2_with fail
  rw [← hW]
  clear hW
  refine BG.out.mono ?_
  rintro e w1 ⟨rfl, hb1⟩
  have L9 := hide (light9 n p es cp w1 (HH.out.later hb1))
  rw [HL.out] at L9
  have HB1 := hide (below_step HB.out hb1)
  obtain ⟨q0, q1, _, _⟩ := HA.out.later hb1
  clear hb1 BG
  go_wp2_with fail
  refine L9.out.mono ?_
  rintro e w2 ⟨rfl, hb2⟩
  have HB2 := hide (below_step HB1.out hb2)
  clear hb2 q0 q1 L9
  go_wp2
  go_ret
  exact ⟨rfl, HB2.out⟩
theorem all_walk (n : Int) (p : Option Addr) (es : List Pt) (cp : Nat) (s : Int) (w : World) (h : Has w p es) (hnil : p = none → cp = 0) : Calls Try.prog 3 #[nv n p es.length cp, .int .i64 s] w fun e w' => e = .returned (.bool true) ∧ Below w.heap.size w w' := by
  cases hl : lightB n es
  · exact all_pass n p es cp s w h hl
  · cases hm : netB n es
    · exact all_A n p es cp s w h hnil hl hm
    · by_cases hs0 : s < 0
      · exact all_B1 n p es cp s w h hnil hl hm hs0
      · by_cases hs1 : n ≤ s
        · exact all_B2 n p es cp s w h hnil hl hm hs0 hs1
        · exact all_C n p es cp s w h hnil hl hm hs0 hs1
end Go.Proofs.Ytghffodjffkijaa
