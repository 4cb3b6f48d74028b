/- DualAll: its walk where the rotation may be, over what the calls answer. -/
import Derived.Test.YtcgdmonejogbaaaGA
namespace Go.Proofs.Ytcgdmonejogbaaa
open Go.RowKit Go.Sort
open Go
set_option maxRecDepth 100000 in
set_option maxHeartbeats 64000000 in
theorem all_yes (n : Int) (p : Option Addr) (es : List Pt) (cp : Nat) (q : Option Addr) (rs : List (List Int)) (cq : Nat) (va aa vb ab e0 f0 t0 : Int) (w : World) (h : Has w p es) (hnil : p = none → cp = 0) (hr : RHas w q rs) (hcap : rs.length ≤ cq) (hn : (rs.length + 1) * 24 ≤ 140737488355328) (hl : ∀ v, v < rs.length → ((lat rs v).length + 1) * 8 ≤ 140737488355328)
    (N1 N3 N4 N5 fv : Int) (E1 E3 E4 E5 : List Pt) (F1 F3 F4 F5 : List (List Int)) (O6 : List Int) (x1 x2 x3 x4 x5 x6 : Int)
    (C14 : lightB n es = true → ∀ (ph : Option Addr) (ch : Nat) (qt : Option Addr) (ct : Nat) (V : World), Has V ph es → (ph = none → ch = 0) → RHas V qt rs → rs.length ≤ ct → Calls Try.prog 14 #[nv n ph es.length ch, .slice qt rs.length ct] V fun e w' => PA N1 E1 F1 x1 V e w')
    (C15 : lightB n es = true → ∀ (ph : Option Addr) (ch : Nat) (qt : Option Addr) (ct : Nat) (V : World), Has V ph es → (ph = none → ch = 0) → RHas V qt rs → rs.length ≤ ct → Calls Try.prog 15 #[nv n ph es.length ch, .slice qt rs.length ct, cv va aa] V fun e w' => e = .returned (.tuple #[.int .i64 fv, .int .i64 x2]) ∧ Below V.heap.size V w')
    (C16 : lightB n es = true → ∀ (ph : Option Addr) (ch : Nat) (qt : Option Addr) (ct : Nat) (V : World), Has V ph es → (ph = none → ch = 0) → RHas V qt rs → rs.length ≤ ct → Calls Try.prog 16 #[nv n ph es.length ch, .slice qt rs.length ct, cv va aa, cv vb ab] V fun e w' => PA N3 E3 F3 x3 V e w')
    (C17 : lightB n es = true → ∀ (ph : Option Addr) (ch : Nat) (qt : Option Addr) (ct : Nat) (V : World), Has V ph es → (ph = none → ch = 0) → RHas V qt rs → rs.length ≤ ct → Calls Try.prog 17 #[nv n ph es.length ch, .slice qt rs.length ct, .int .i64 e0] V fun e w' => PA N4 E4 F4 x4 V e w')
    (C18 : lightB n es = true → ∀ (ph : Option Addr) (ch : Nat) (qt : Option Addr) (ct : Nat) (V : World), Has V ph es → (ph = none → ch = 0) → RHas V qt rs → rs.length ≤ ct → Calls Try.prog 18 #[nv n ph es.length ch, .slice qt rs.length ct, .int .i64 e0] V fun e w' => PA N5 E5 F5 x5 V e w')
    (C19 : lightB n es = true → ∀ (ph : Option Addr) (ch : Nat) (qt : Option Addr) (ct : Nat) (V : World), Has V ph es → (ph = none → ch = 0) → RHas V qt rs → rs.length ≤ ct → Calls Try.prog 19 #[nv n ph es.length ch, .slice qt rs.length ct, .int .i64 f0, .int .i64 t0] V fun e w' => PO O6 x6 V e w')
    (R24 : lightB n es = true → ∀ (ph : Option Addr) (ch : Nat) (qt : Option Addr) (ct : Nat) (V : World), Has V ph es → (ph = none → ch = 0) → RHas V qt rs → rs.length ≤ ct → Calls Try.prog 24 #[nv n ph es.length ch, .slice qt rs.length ct] V fun e w' => RA N1 E1 F1 x1 V e w')
    (R25 : lightB n es = true → ∀ (ph : Option Addr) (ch : Nat) (qt : Option Addr) (ct : Nat) (V : World), Has V ph es → (ph = none → ch = 0) → RHas V qt rs → rs.length ≤ ct → Calls Try.prog 25 #[nv n ph es.length ch, .slice qt rs.length ct, cv va aa] V fun e w' => e = .returned (.tuple #[.int .i64 fv, .int .i64 x2]) ∧ Below V.heap.size V w')
    (R26 : lightB n es = true → ∀ (ph : Option Addr) (ch : Nat) (qt : Option Addr) (ct : Nat) (V : World), Has V ph es → (ph = none → ch = 0) → RHas V qt rs → rs.length ≤ ct → Calls Try.prog 26 #[nv n ph es.length ch, .slice qt rs.length ct, cv va aa, cv vb ab] V fun e w' => RA N3 E3 F3 x3 V e w')
    (R27 : lightB n es = true → ∀ (ph : Option Addr) (ch : Nat) (qt : Option Addr) (ct : Nat) (V : World), Has V ph es → (ph = none → ch = 0) → RHas V qt rs → rs.length ≤ ct → Calls Try.prog 27 #[nv n ph es.length ch, .slice qt rs.length ct, .int .i64 e0] V fun e w' => RA N4 E4 F4 x4 V e w')
    (R28 : lightB n es = true → ∀ (ph : Option Addr) (ch : Nat) (qt : Option Addr) (ct : Nat) (V : World), Has V ph es → (ph = none → ch = 0) → RHas V qt rs → rs.length ≤ ct → Calls Try.prog 28 #[nv n ph es.length ch, .slice qt rs.length ct, .int .i64 e0] V fun e w' => RA N5 E5 F5 x5 V e w')
    (R29 : lightB n es = true → ∀ (ph : Option Addr) (ch : Nat) (qt : Option Addr) (ct : Nat) (V : World), Has V ph es → (ph = none → ch = 0) → RHas V qt rs → rs.length ≤ ct → Calls Try.prog 29 #[nv n ph es.length ch, .slice qt rs.length ct, .int .i64 f0, .int .i64 t0] V fun e w' => RO O6 x6 V e w')
    (hI : rotI n es rs = 0)
    (b1 : E1.length ≤ 20000 ∧ F1.length ≤ 20000 ∧ ∀ v, v < F1.length → (lat F1 v).length ≤ 20000) (b3 : E3.length ≤ 20000 ∧ F3.length ≤ 20000 ∧ ∀ v, v < F3.length → (lat F3 v).length ≤ 20000) (b4 : E4.length ≤ 20000 ∧ F4.length ≤ 20000 ∧ ∀ v, v < F4.length → (lat F4 v).length ≤ 20000) (b5 : E5.length ≤ 20000 ∧ F5.length ≤ 20000 ∧ ∀ v, v < F5.length → (lat F5 v).length ≤ 20000) (b6 : O6.length ≤ 20000)
    : Calls Try.prog 3 #[nv n p es.length cp, .slice q rs.length cq, cv va aa, cv vb ab, .int .i64 e0, .int .i64 f0, .int .i64 t0] w fun e w' => e = .returned (.bool true) ∧ Below w.heap.size w w' := by
  obtain ⟨W, hW, hb0, a0, sa, sb⟩ := three_boxes w n p es.length cp va aa vb ab
  have BG := hide (begun9 W)
  have HB0 := hide hb0
  have HA0 := hide a0
  have HSA := hide sa
  have HSB := hide sb
  have HH := hide (h.later hb0)
  have HR := hide (hr.later hb0)
  have HLL := hide hl
  have lm : rs.length ≤ maxLen := by unfold maxLen; omega
  have HLM := hide lm
  have HCAP := hide hcap
  have D14 := hide C14
  have D15 := hide C15
  have D16 := hide C16
  have D17 := hide C17
  have D18 := hide C18
  have D19 := hide C19
  have D24 := hide R24
  have D25 := hide R25
  have D26 := hide R26
  have D27 := hide R27
  have D28 := hide R28
  have D29 := hide R29
  have HBD1 := hide b1
  have HBD3 := hide b3
  have HBD4 := hide b4
  have HBD5 := hide b5
  have HBD6 := hide b6
  have HII := hide hI
  clear h hr hb0 a0 sa sb hl lm hcap C14 C15 C16 C17 C18 C19 b1 b3 b4 b5 b6 hI R24 R25 R26 R27 R28 R29
  go_enter Try.func3, Try.ntmps3
  go_wp2_with fail
  rw [← hW]
  clear hW
  obtain ⟨kg, hkg⟩ : ∃ k, w.heap.size = k := ⟨_, rfl⟩
  have HKG := hide hkg
  rw [hkg] at HA0 HSA HSB
  try rw [hkg]
  clear hkg
  refine BG.out.mono ?_
  rintro r w1 ⟨rfl, hb1⟩
  have HB1 := hide hb1
  have L1 := hide (light10s n p es cp q rs cq w1 (HH.out.later hb1) (HR.out.later hb1) HLM.out)
  obtain ⟨g0, g1, _, _⟩ := HA0.out.later hb1
  clear hb1 BG
  go_wp2_with fail
  refine L1.out.mono ?_
  rintro r w2 ⟨⟨xl, rfl, hlight⟩, hb2⟩
  have HB2 := hide (below_step HB1.out hb2)
  have HLT := hide hlight
  clear hb2 L1 g0 g1 hlight
  cases xl
  · go_wp2
    go_ret
    exact ⟨rfl, below_step HB0.out HB2.out⟩
  have hlb := HLT.out rfl
  have hes : es.length ≤ 300 := by
    have hlb := hlb
    unfold lightB at hlb
    simp at hlb
    exact hlb.1
  have HLB := hide hlb
  clear hlb HLT
  obtain ⟨g0, g1, _, _⟩ := HA0.out.later HB2.out
  have MR := mayR10 n p es cp q rs cq w2 (HH.out.later HB2.out) (HR.out.later HB2.out) HLM.out
  rw [HII.out] at MR
  have MR := hide MR
  go_wp2_with fail
  refine MR.out.mono ?_
  rintro r w3 ⟨rfl, hb3⟩
  have HB3 := hide (below_step HB2.out hb3)
  clear hb3 MR g0 g1
  obtain ⟨g0, g1, _, _⟩ := HA0.out.later HB3.out
  have TW := hide (twin11 n p es cp w3 hnil (by omega) (HH.out.later HB3.out))
  go_wp2_with fail
  refine TW.out.mono ?_
  rintro e w4 ⟨gt, ct, rfl, hot, hct, hb4⟩
  have HB4 := hide (below_step HB3.out hb4)
  have OT4 := hide hot
  have HCT := hide hct
  clear hb4 hot hct TW g0 g1
  have TR := hide (twin13 q rs cq w4 (HR.out.later HB4.out) hn HLL.out)
  go_wp2_with fail
  refine TR.out.mono ?_
  rintro e w5 ⟨gr, cr, rvr, rfl, htr, hb5⟩
  have HB5 := hide (below_step HB4.out hb5)
  have OT5 := hide (OT4.out.later hb5)
  have HTR5 := hide htr
  clear hb5 htr TR OT4
  obtain ⟨U, hU⟩ : ∃ X, X = w5.alloc (nbx n (some ⟨gt, 0, none⟩) es.length ct) := ⟨_, rfl⟩
  have hbU : Below w5.heap.size w5 U := by rw [hU]; go_grown
  have SHU : Hid (NOwn U w5.heap.size n (some ⟨gt, 0, none⟩) es.length ct) := by show NOwn _ _ _ _ _ _; rw [hU]; exact ⟨by unfold nbx; go_cell, by unfold nbx; go_cell, by unfold nbx; go_cell, by unfold nbx; go_cell⟩
  have hUs : U.heap.size = w5.heap.size + 1 := by rw [hU]; simp
  obtain ⟨X, hX⟩ : ∃ X, X = U.alloc (.cells #[.slice none 0 0, .int .i64 0] 37) := ⟨_, rfl⟩
  have hbX : Below U.heap.size U X := by rw [hX]; go_grown
  have HBAG : Hid (BagE X U.heap.size U.heap.size) := ⟨.slice none 0 0, 0, fun _ => .slice none 0 0, fun _ => [], 0, by rw [hX]; exact World.ownsRow_lit U #[.slice none 0 0, .int .i64 0] 1 (Nat.zero_le _) (by unfold maxLen; omega) rfl, Nat.le_refl _, World.ownsRow_nil _ _ _ _, fun u v j hu => by omega, fun v hv => by omega, fun v hv => by omega, by omega, by omega⟩
  have HXB := hide hbX
  have HBU := hide (below_step HB5.out hbU)
  have HLU : Hid (Lies U gt 0 (es ++ [mk])) := by
    have := OT5.out.later hbU
    rw [show es.length + 1 = (es ++ [mk]).length by simp] at this
    exact this.lies
  have HTU := hide (HTR5.out.later hbU)
  have HHU : Hid (Has U (some ⟨gt, 0, none⟩) es) := Or.inr ⟨gt, 0, rfl, lies_left HLU.out⟩
  have HGU := hide (HH.out.later HBU.out)
  have HRU := hide (HR.out.later HBU.out)
  have HRT : Hid (RHas U (some ⟨gr, 0, none⟩) rs) := HTU.out.fb.has fun v hv => by have := HLL.out v hv; unfold maxLen; omega
  have HRC : Hid (rs.length ≤ cr) := Nat.le_of_succ_le HTU.out.cap
  have HAU := hide (HA0.out.later HBU.out)
  go_upto_region 8 with fail
  rw [← hU, ← hX]
  try rw [← hUs]
  obtain ⟨kh, hkh⟩ : ∃ k, w5.heap.size = k := ⟨_, rfl⟩
  rw [hkh] at SHU
  try rw [hkh]
  obtain ⟨B, hB⟩ : ∃ B, U.heap.size = B := ⟨_, rfl⟩
  have H14 : Hid (∀ V, Below U.heap.size U V → Calls Try.prog 14 #[nv n (some ⟨gt, 0, none⟩) es.length ct, .slice (some ⟨gr, 0, none⟩) rs.length cr] V fun e w' => PA N1 E1 F1 x1 V e w') := fun V hV => D14.out HLB.out _ _ _ _ V (HHU.out.later hV) (by intro h; cases h) (HRT.out.later hV) HRC.out
  have H15 : Hid (∀ V, Below U.heap.size U V → Calls Try.prog 15 #[nv n (some ⟨gt, 0, none⟩) es.length ct, .slice (some ⟨gr, 0, none⟩) rs.length cr, cv va aa] V fun e w' => e = .returned (.tuple #[.int .i64 fv, .int .i64 x2]) ∧ Below V.heap.size V w') := fun V hV => D15.out HLB.out _ _ _ _ V (HHU.out.later hV) (by intro h; cases h) (HRT.out.later hV) HRC.out
  have H16 : Hid (∀ V, Below U.heap.size U V → Calls Try.prog 16 #[nv n (some ⟨gt, 0, none⟩) es.length ct, .slice (some ⟨gr, 0, none⟩) rs.length cr, cv va aa, cv vb ab] V fun e w' => PA N3 E3 F3 x3 V e w') := fun V hV => D16.out HLB.out _ _ _ _ V (HHU.out.later hV) (by intro h; cases h) (HRT.out.later hV) HRC.out
  have H17 : Hid (∀ V, Below U.heap.size U V → Calls Try.prog 17 #[nv n (some ⟨gt, 0, none⟩) es.length ct, .slice (some ⟨gr, 0, none⟩) rs.length cr, .int .i64 e0] V fun e w' => PA N4 E4 F4 x4 V e w') := fun V hV => D17.out HLB.out _ _ _ _ V (HHU.out.later hV) (by intro h; cases h) (HRT.out.later hV) HRC.out
  have H18 : Hid (∀ V, Below U.heap.size U V → Calls Try.prog 18 #[nv n (some ⟨gt, 0, none⟩) es.length ct, .slice (some ⟨gr, 0, none⟩) rs.length cr, .int .i64 e0] V fun e w' => PA N5 E5 F5 x5 V e w') := fun V hV => D18.out HLB.out _ _ _ _ V (HHU.out.later hV) (by intro h; cases h) (HRT.out.later hV) HRC.out
  have H19 : Hid (∀ V, Below U.heap.size U V → Calls Try.prog 19 #[nv n (some ⟨gt, 0, none⟩) es.length ct, .slice (some ⟨gr, 0, none⟩) rs.length cr, .int .i64 f0, .int .i64 t0] V fun e w' => PO O6 x6 V e w') := fun V hV => D19.out HLB.out _ _ _ _ V (HHU.out.later hV) (by intro h; cases h) (HRT.out.later hV) HRC.out
  have H24 : Hid (∀ V, Below U.heap.size U V → Calls Try.prog 24 #[nv n p es.length cp, .slice q rs.length cq] V fun e w' => RA N1 E1 F1 x1 V e w') := fun V hV => D24.out HLB.out _ _ _ _ V (HGU.out.later hV) hnil (HRU.out.later hV) HCAP.out
  have H25 : Hid (∀ V, Below U.heap.size U V → Calls Try.prog 25 #[nv n p es.length cp, .slice q rs.length cq, cv va aa] V fun e w' => e = .returned (.tuple #[.int .i64 fv, .int .i64 x2]) ∧ Below V.heap.size V w') := fun V hV => D25.out HLB.out _ _ _ _ V (HGU.out.later hV) hnil (HRU.out.later hV) HCAP.out
  have H26 : Hid (∀ V, Below U.heap.size U V → Calls Try.prog 26 #[nv n p es.length cp, .slice q rs.length cq, cv va aa, cv vb ab] V fun e w' => RA N3 E3 F3 x3 V e w') := fun V hV => D26.out HLB.out _ _ _ _ V (HGU.out.later hV) hnil (HRU.out.later hV) HCAP.out
  have H27 : Hid (∀ V, Below U.heap.size U V → Calls Try.prog 27 #[nv n p es.length cp, .slice q rs.length cq, .int .i64 e0] V fun e w' => RA N4 E4 F4 x4 V e w') := fun V hV => D27.out HLB.out _ _ _ _ V (HGU.out.later hV) hnil (HRU.out.later hV) HCAP.out
  have H28 : Hid (∀ V, Below U.heap.size U V → Calls Try.prog 28 #[nv n p es.length cp, .slice q rs.length cq, .int .i64 e0] V fun e w' => RA N5 E5 F5 x5 V e w') := fun V hV => D28.out HLB.out _ _ _ _ V (HGU.out.later hV) hnil (HRU.out.later hV) HCAP.out
  have H29 : Hid (∀ V, Below U.heap.size U V → Calls Try.prog 29 #[nv n p es.length cp, .slice q rs.length cq, .int .i64 f0, .int .i64 t0] V fun e w' => RO O6 x6 V e w') := fun V hV => D29.out HLB.out _ _ _ _ V (HGU.out.later hV) hnil (HRU.out.later hV) HCAP.out
  have HK1 : Hid (∀ V, Below U.heap.size U V → Calls Try.prog 22 #[nv n (some ⟨gt, 0, none⟩) es.length ct, nv n p es.length cp] V fun e w' => e = .returned (.bool true) ∧ Below V.heap.size V w') := fun V hV => kept17 n gt ct p es cp V (by omega) HCT.out (HLU.out.later hV) (HGU.out.later hV)
  have HK2 : Hid (∀ V, Below U.heap.size U V → Calls Try.prog 23 #[.slice (some ⟨gr, 0, none⟩) rs.length cr, .slice q rs.length cq] V fun e w' => e = .returned (.bool true) ∧ Below V.heap.size V w') := fun V hV => kept23 w4.heap.size gr cr rvr q rs cq V (HTU.out.later hV) (HRU.out.later hV) hn HLL.out
  have HCE : Hid (∀ V, Below U.heap.size U V → (V.cell? ⟨kh, 0, none⟩ = some (.int .i64 n) ∧ V.cell? ⟨kh, 1, none⟩ = some (.slice (some ⟨gt, 0, none⟩) es.length ct)) ∧ (V.cell? ⟨kg, 0, none⟩ = some (.int .i64 n) ∧ V.cell? ⟨kg, 1, none⟩ = some (.slice p es.length cp)) ∧ (V.cell? ⟨kg + 1, 0, none⟩ = some (.int .i64 va) ∧ V.cell? ⟨kg + 1, 1, none⟩ = some (.int .i64 aa)) ∧ V.cell? ⟨kg + 2, 0, none⟩ = some (.int .i64 vb) ∧ V.cell? ⟨kg + 2, 1, none⟩ = some (.int .i64 ab)) := fun V hV => by
    obtain ⟨a0, a1, _, _⟩ := SHU.out.later hV
    obtain ⟨b0, b1, _, _⟩ := HAU.out.later hV
    have hz := below_step HBU.out hV
    exact ⟨⟨a0, a1⟩, ⟨b0, b1⟩, ⟨later hz HSA.out.1, later hz HSA.out.2⟩, later hz HSB.out.1, later hz HSB.out.2⟩
  have HBG0 : Hid (Below U.heap.size U X ∧ BagE X U.heap.size B) := ⟨HXB.out, by rw [← hB]; exact HBAG.out⟩
  have HEND : Hid (∀ V, Below U.heap.size U V → Below w.heap.size w V) := fun V hV => below_step HB0.out (below_step HBU.out hV)
  try rw [hB]
  clear hU hX hUs hkh hbU hbX hB HBAG HXB HHU HGU HRT HRU HLU HTU HTR5 OT5 D14 D15 D16 D17 D18 D19
  clear D24 D25 D26 D27 D28 D29
  go_wp2_with fail
  go_loopw [19] (fun t wr => ∃ i : Nat, i ≤ 2 ∧ t = .int .i64 i ∧ Hid (Below U.heap.size U wr ∧ BagE wr U.heap.size B)) (fun t _ => 2 - (intOf t).toNat)
  case atStart => exact ⟨0, by omega, rfl, HBG0.out⟩
  case round =>
    obtain ⟨i, hi, rfl, HBG⟩ := hrel
    clear HBG0
    by_cases hlt : i < 2
    · have i1 : (i : Int) < 2 := by omega
      have HV0 : Hid (Below wr.heap.size wr wr) := Below.refl _ _
      obtain ⟨⟨a0, a1⟩, ⟨b0, b1⟩, ⟨s2, s2'⟩, s3, s3'⟩ := HCE.out _ (below_step HBG.out.1 HV0.out)
      have K1 := hide (H14.out _ (below_step HBG.out.1 HV0.out))
      go_wp2_with fail
      refine K1.out.mono ?_
      rintro r y1 ⟨pn1, cn1, pa1, ca1, rv1, rfl, hh, hq, hl, hb⟩
      have HE1 := hide hb
      have HVy1 := hide (below_step HV0.out hb)
      have HH1 := hide hh
      have HQ1 := hide hq
      have HL1 := hide hl
      clear hh hq hl hb K1 a0 a1 b0 b1 s2 s2' s3 s3'
      go_upto_region 12 with fail
      obtain ⟨X1, hX⟩ : ∃ X, X = y1.alloc (nbx N1 pn1 E1.length cn1) := ⟨_, rfl⟩
      have hbX : Below y1.heap.size y1 X1 := by rw [hX]; go_grown
      have HKX1 : Hid (NOwn X1 y1.heap.size N1 pn1 E1.length cn1) := by show NOwn _ _ _ _ _ _; rw [hX]; exact ⟨by unfold nbx; go_cell, by unfold nbx; go_cell, by unfold nbx; go_cell, by unfold nbx; go_cell⟩
      have HSX1 : Hid (X1.heap.size = y1.heap.size + 1) := by show _ = _; rw [hX]; simp
      rw [← hX]
      obtain ⟨e1, he1⟩ : ∃ k, y1.heap.size = k := ⟨_, rfl⟩
      try rw [he1]
      have HEX1 := hide hbX
      have HVX1 := hide (below_step HVy1.out hbX)
      have HEE1 := hide he1
      clear hX hbX he1
      obtain ⟨⟨a0, a1⟩, ⟨b0, b1⟩, ⟨s2, s2'⟩, s3, s3'⟩ := HCE.out _ (below_step HBG.out.1 HVX1.out)
      have K2 := hide (H15.out _ (below_step HBG.out.1 HVX1.out))
      go_wp2_with fail
      refine K2.out.mono ?_
      rintro r y2 ⟨rfl, hb⟩
      have HE2 := hide hb
      have HVy2 := hide (below_step HVX1.out hb)
      clear hb K2 a0 a1 b0 b1 s2 s2' s3 s3'
      obtain ⟨⟨a0, a1⟩, ⟨b0, b1⟩, ⟨s2, s2'⟩, s3, s3'⟩ := HCE.out _ (below_step HBG.out.1 HVy2.out)
      have K3 := hide (H16.out _ (below_step HBG.out.1 HVy2.out))
      go_wp2_with fail
      refine K3.out.mono ?_
      rintro r y3 ⟨pn3, cn3, pa3, ca3, rv3, rfl, hh, hq, hl, hb⟩
      have HE3 := hide hb
      have HVy3 := hide (below_step HVy2.out hb)
      have HH3 := hide hh
      have HQ3 := hide hq
      have HL3 := hide hl
      clear hh hq hl hb K3 a0 a1 b0 b1 s2 s2' s3 s3'
      go_upto_region 14 with fail
      obtain ⟨X3, hX⟩ : ∃ X, X = y3.alloc (nbx N3 pn3 E3.length cn3) := ⟨_, rfl⟩
      have hbX : Below y3.heap.size y3 X3 := by rw [hX]; go_grown
      have HKX3 : Hid (NOwn X3 y3.heap.size N3 pn3 E3.length cn3) := by show NOwn _ _ _ _ _ _; rw [hX]; exact ⟨by unfold nbx; go_cell, by unfold nbx; go_cell, by unfold nbx; go_cell, by unfold nbx; go_cell⟩
      have HSX3 : Hid (X3.heap.size = y3.heap.size + 1) := by show _ = _; rw [hX]; simp
      rw [← hX]
      obtain ⟨e3, he3⟩ : ∃ k, y3.heap.size = k := ⟨_, rfl⟩
      try rw [he3]
      have HEX3 := hide hbX
      have HVX3 := hide (below_step HVy3.out hbX)
      have HEE3 := hide he3
      clear hX hbX he3
      obtain ⟨⟨a0, a1⟩, ⟨b0, b1⟩, ⟨s2, s2'⟩, s3, s3'⟩ := HCE.out _ (below_step HBG.out.1 HVX3.out)
      have K4 := hide (H17.out _ (below_step HBG.out.1 HVX3.out))
      go_wp2_with fail
      refine K4.out.mono ?_
      rintro r y4 ⟨pn4, cn4, pa4, ca4, rv4, rfl, hh, hq, hl, hb⟩
      have HE4 := hide hb
      have HVy4 := hide (below_step HVX3.out hb)
      have HH4 := hide hh
      have HQ4 := hide hq
      have HL4 := hide hl
      clear hh hq hl hb K4 a0 a1 b0 b1 s2 s2' s3 s3'
      go_upto_region 15 with fail
      obtain ⟨X4, hX⟩ : ∃ X, X = y4.alloc (nbx N4 pn4 E4.length cn4) := ⟨_, rfl⟩
      have hbX : Below y4.heap.size y4 X4 := by rw [hX]; go_grown
      have HKX4 : Hid (NOwn X4 y4.heap.size N4 pn4 E4.length cn4) := by show NOwn _ _ _ _ _ _; rw [hX]; exact ⟨by unfold nbx; go_cell, by unfold nbx; go_cell, by unfold nbx; go_cell, by unfold nbx; go_cell⟩
      have HSX4 : Hid (X4.heap.size = y4.heap.size + 1) := by show _ = _; rw [hX]; simp
      rw [← hX]
      obtain ⟨e4, he4⟩ : ∃ k, y4.heap.size = k := ⟨_, rfl⟩
      try rw [he4]
      have HEX4 := hide hbX
      have HVX4 := hide (below_step HVy4.out hbX)
      have HEE4 := hide he4
      clear hX hbX he4
      obtain ⟨⟨a0, a1⟩, ⟨b0, b1⟩, ⟨s2, s2'⟩, s3, s3'⟩ := HCE.out _ (below_step HBG.out.1 HVX4.out)
      have K5 := hide (H18.out _ (below_step HBG.out.1 HVX4.out))
      go_wp2_with fail
      refine K5.out.mono ?_
      rintro r y5 ⟨pn5, cn5, pa5, ca5, rv5, rfl, hh, hq, hl, hb⟩
      have HE5 := hide hb
      have HVy5 := hide (below_step HVX4.out hb)
      have HH5 := hide hh
      have HQ5 := hide hq
      have HL5 := hide hl
      clear hh hq hl hb K5 a0 a1 b0 b1 s2 s2' s3 s3'
      go_upto_region 16 with fail
      obtain ⟨X5, hX⟩ : ∃ X, X = y5.alloc (nbx N5 pn5 E5.length cn5) := ⟨_, rfl⟩
      have hbX : Below y5.heap.size y5 X5 := by rw [hX]; go_grown
      have HKX5 : Hid (NOwn X5 y5.heap.size N5 pn5 E5.length cn5) := by show NOwn _ _ _ _ _ _; rw [hX]; exact ⟨by unfold nbx; go_cell, by unfold nbx; go_cell, by unfold nbx; go_cell, by unfold nbx; go_cell⟩
      have HSX5 : Hid (X5.heap.size = y5.heap.size + 1) := by show _ = _; rw [hX]; simp
      rw [← hX]
      obtain ⟨e5, he5⟩ : ∃ k, y5.heap.size = k := ⟨_, rfl⟩
      try rw [he5]
      have HEX5 := hide hbX
      have HVX5 := hide (below_step HVy5.out hbX)
      have HEE5 := hide he5
      clear hX hbX he5
      obtain ⟨⟨a0, a1⟩, ⟨b0, b1⟩, ⟨s2, s2'⟩, s3, s3'⟩ := HCE.out _ (below_step HBG.out.1 HVX5.out)
      have K6 := hide (H19.out _ (below_step HBG.out.1 HVX5.out))
      go_wp2_with fail
      refine K6.out.mono ?_
      rintro r y6 ⟨po, co, rfl, hl, hb⟩
      have HE6 := hide hb
      have HVy6 := hide (below_step HVX5.out hb)
      have HL6 := hide hl
      have HO6 : Hid (∀ j, (Value.slice po O6.length co).ownBlock = some j → j < y6.heap.size) := fun j hj => (World.ownsRow.lt hl j hj).2
      clear hl
      clear hb K6 a0 a1 b0 b1 s2 s2' s3 s3'
      have HT5 := hide HE6.out
      have HT4 := hide (below_step HE5.out (below_step HEX5.out HT5.out))
      have HT3 := hide (below_step HE4.out (below_step HEX4.out HT4.out))
      have HT1 := hide (below_step HE2.out (below_step HE3.out (below_step HEX3.out HT3.out)))
      have HR1 := hide (below_step HEX1.out HT1.out)
      have HZ1 := hide (HL1.out.later HR1.out)
      have HN1 := hide (HH1.out.later HR1.out)
      have HX1 := hide (HKX1.out.later HT1.out)
      have HR3 := hide (below_step HEX3.out HT3.out)
      have HZ3 := hide (HL3.out.later HR3.out)
      have HN3 := hide (HH3.out.later HR3.out)
      have HX3 := hide (HKX3.out.later HT3.out)
      have HR4 := hide (below_step HEX4.out HT4.out)
      have HZ4 := hide (HL4.out.later HR4.out)
      have HN4 := hide (HH4.out.later HR4.out)
      have HX4 := hide (HKX4.out.later HT4.out)
      have HR5 := hide (below_step HEX5.out HT5.out)
      have HZ5 := hide (HL5.out.later HR5.out)
      have HN5 := hide (HH5.out.later HR5.out)
      have HX5 := hide (HKX5.out.later HT5.out)
      obtain ⟨s, hs⟩ : ∃ z, wr.heap.size = z := ⟨_, rfl⟩
      obtain ⟨e2, he2⟩ : ∃ z, y2.heap.size = z := ⟨_, rfl⟩
      obtain ⟨z, hz⟩ : ∃ z, y6.heap.size = z := ⟨_, rfl⟩
      have HORD : Hid (U.heap.size ≤ s ∧ B < s ∧ s ≤ e1 ∧ e1 + 1 ≤ e2 ∧ e2 ≤ e3 ∧ e3 + 1 ≤ e4 ∧ e4 + 1 ≤ e5 ∧ e5 + 1 ≤ z ∧ z ≤ y6.heap.size) := by
        have f1 := HE1.out.size; have f2 := HE2.out.size; have f3 := HE3.out.size; have f4 := HE4.out.size; have f5 := HE5.out.size; have f6 := HE6.out.size; have f7 := HBG.out.1.size; have f8 := HBG.out.2.k.2
        have c1 := HEE1.out; have c3 := HEE3.out; have c4 := HEE4.out; have c5 := HEE5.out; have d1 := HSX1.out; have d3 := HSX3.out; have d4 := HSX4.out; have d5 := HSX5.out
        exact ⟨by omega, by omega, by omega, by omega, by omega, by omega, by omega, by omega, by omega⟩
      rw [hs, HEE1.out] at HZ1
      rw [he2, HEE3.out] at HZ3
      rw [HSX3.out, HEE3.out, HEE4.out] at HZ4
      rw [HSX4.out, HEE4.out, HEE5.out] at HZ5
      rw [HSX5.out, HEE5.out] at HL6
      rw [hz] at HO6
      rw [HEE1.out] at HX1
      rw [HEE3.out] at HX3
      rw [HEE4.out] at HX4
      rw [HEE5.out] at HX5
      have HKB : Hid (KBag (Rng s z) (Rng s z) y6 U.heap.size B) := HBG.out.2.start (s := s) (z := z) HVy6.out (by rw [hs]; exact Nat.le_refl _)
      have HSS := hide hs
      have HE2S := hide he2
      have HZS := hide hz
      clear hs he2 hz
      have P1 := hide (keepall_rng s z s e1 U.heap.size B pa1 F1 ca1 rv1 y6 HKB.out HZ1.out HBD1.out.2.2 (by have := HBD1.out.2.1; omega) (by have := HORD.out; omega) (by have := HORD.out; omega) (by have := HORD.out; omega) (by have := HORD.out; have := Nat.le_refl y6.heap.size; omega) (by have := HORD.out; omega) (by have := HORD.out; omega))
      go_wp2_with fail
      refine P1.out.mono ?_
      rintro r k1 ⟨rfl, hk⟩
      have HP1 := hide hk
      clear hk P1
      have HY3 : Hid (LB k1 e2 e3 pa3 F3 ca3 rv3) := HZ3.out.same HP1.out.same (by have := HORD.out; omega) (by have := HORD.out; omega)
      have P2 := hide (keepall_rng s z e2 e3 U.heap.size B pa3 F3 ca3 rv3 k1 (HP1.out.bag.weak fun i hi => ⟨by have := hi.1; have := HORD.out; omega, hi.2⟩) HY3.out HBD3.out.2.2 (by have := HBD3.out.2.1; omega) (by have := HORD.out; omega) (by have := HORD.out; omega) (by have := HORD.out; omega) (by have := HORD.out; have := HP1.out.size; omega) (by have := HORD.out; omega) (by have := HORD.out; omega))
      go_wp2_with fail
      refine P2.out.mono ?_
      rintro r k2 ⟨rfl, hk⟩
      have HP2 := hide (HP1.out.trans hk)
      clear hk P2
      have HY4 : Hid (LB k2 (e3 + 1) e4 pa4 F4 ca4 rv4) := HZ4.out.same HP2.out.same (by have := HORD.out; omega) (by have := HORD.out; omega)
      have P3 := hide (keepall_rng s z (e3 + 1) e4 U.heap.size B pa4 F4 ca4 rv4 k2 (HP2.out.bag.weak fun i hi => ⟨by have := hi.1; have := HORD.out; omega, hi.2⟩) HY4.out HBD4.out.2.2 (by have := HBD4.out.2.1; omega) (by have := HORD.out; omega) (by have := HORD.out; omega) (by have := HORD.out; omega) (by have := HORD.out; have := HP2.out.size; omega) (by have := HORD.out; omega) (by have := HORD.out; omega))
      go_wp2_with fail
      refine P3.out.mono ?_
      rintro r k3 ⟨rfl, hk⟩
      have HP3 := hide (HP2.out.trans hk)
      clear hk P3
      have HY5 : Hid (LB k3 (e4 + 1) e5 pa5 F5 ca5 rv5) := HZ5.out.same HP3.out.same (by have := HORD.out; omega) (by have := HORD.out; omega)
      have P4 := hide (keepall_rng s z (e4 + 1) e5 U.heap.size B pa5 F5 ca5 rv5 k3 (HP3.out.bag.weak fun i hi => ⟨by have := hi.1; have := HORD.out; omega, hi.2⟩) HY5.out HBD5.out.2.2 (by have := HBD5.out.2.1; omega) (by have := HORD.out; omega) (by have := HORD.out; omega) (by have := HORD.out; omega) (by have := HORD.out; have := HP3.out.size; omega) (by have := HORD.out; omega) (by have := HORD.out; omega))
      go_wp2_with fail
      refine P4.out.mono ?_
      rintro r k4 ⟨rfl, hk⟩
      have HP4 := hide (HP3.out.trans hk)
      clear hk P4
      have HY6 : Hid (IOwns k4 (e5 + 1) (.slice po O6.length co) O6) := own_same HL6.out fun g hg => HP4.out.same g ⟨by have := (World.ownsRow.lt HL6.out g hg).1; have := HORD.out; omega, HO6.out g hg⟩
      have P5 := hide (keepone_rng s z (e5 + 1) z U.heap.size B po O6 co k4 (HP4.out.bag.weak fun i hi => ⟨by have := hi.1; have := HORD.out; omega, hi.2⟩) HY6.out HO6.out HBD6.out (by have := HORD.out; omega) (by have := HORD.out; omega) (by have := HORD.out; omega) (by have := HORD.out; have := HP4.out.size; omega) (by have := HORD.out; omega) (by have := HORD.out; omega))
      go_wp2_with fail
      refine P5.out.mono ?_
      rintro r k5 ⟨rfl, hk⟩
      have HP5 := hide (HP4.out.trans hk)
      clear hk P5
      have HG5 : Hid (Below U.heap.size U k5 ∧ BagE k5 U.heap.size B) := ⟨(below_step HBG.out.1 HVy6.out).trans HP5.out.below, HP5.out.bag.any⟩
      have HW1 : Hid (NOwn k5 e1 N1 pn1 E1.length cn1) := nown_same HX1.out (HP5.out.same e1 ⟨by have := HORD.out; omega, by have := HORD.out; omega⟩)
      have HW3 : Hid (NOwn k5 e3 N3 pn3 E3.length cn3) := nown_same HX3.out (HP5.out.same e3 ⟨by have := HORD.out; omega, by have := HORD.out; omega⟩)
      have HW4 : Hid (NOwn k5 e4 N4 pn4 E4.length cn4) := nown_same HX4.out (HP5.out.same e4 ⟨by have := HORD.out; omega, by have := HORD.out; omega⟩)
      have HW5 : Hid (NOwn k5 e5 N5 pn5 E5.length cn5) := nown_same HX5.out (HP5.out.same e5 ⟨by have := HORD.out; omega, by have := HORD.out; omega⟩)
      obtain ⟨⟨a0, a1⟩, ⟨b0, b1⟩, _⟩ := HCE.out _ HG5.out.1
      have K7 := hide (HK1.out _ HG5.out.1)
      go_wp2_with fail
      refine K7.out.mono ?_
      rintro r u1 ⟨rfl, hb⟩
      have HB6 := hide hb
      clear hb K7 a0 a1 b0 b1
      have K8 := hide (HK2.out _ (below_step HG5.out.1 HB6.out))
      go_wp2_with fail
      refine K8.out.mono ?_
      rintro r u2 ⟨rfl, hb⟩
      have HB7 := hide (below_step HB6.out hb)
      clear hb K8
      have HG7 : Hid (Below U.heap.size U u2 ∧ BagE u2 U.heap.size B) := ⟨below_step HG5.out.1 HB7.out, HG5.out.2.later HB7.out⟩
      have HM1 : Hid (LB k5 s e1 pa1 F1 ca1 rv1) := HZ1.out.same HP5.out.same (by have := HORD.out; omega) (by have := HORD.out; omega)
      have HJ1 : Hid (Has k5 pn1 E1) := has_same HN1.out HP5.out.same (fun a ha => by have := HQ1.out a ha; have := HORD.out; have := HSS.out; have := HE2S.out; have := HEE1.out; have := HEE3.out; have := HEE4.out; have := HSX3.out; have := HSX4.out; omega) (by rw [HZS.out]; exact Nat.le_refl _)
      have HM3 : Hid (LB k5 e2 e3 pa3 F3 ca3 rv3) := HZ3.out.same HP5.out.same (by have := HORD.out; omega) (by have := HORD.out; omega)
      have HJ3 : Hid (Has k5 pn3 E3) := has_same HN3.out HP5.out.same (fun a ha => by have := HQ3.out a ha; have := HORD.out; have := HSS.out; have := HE2S.out; have := HEE1.out; have := HEE3.out; have := HEE4.out; have := HSX3.out; have := HSX4.out; omega) (by rw [HZS.out]; exact Nat.le_refl _)
      have HM4 : Hid (LB k5 (e3 + 1) e4 pa4 F4 ca4 rv4) := HZ4.out.same HP5.out.same (by have := HORD.out; omega) (by have := HORD.out; omega)
      have HJ4 : Hid (Has k5 pn4 E4) := has_same HN4.out HP5.out.same (fun a ha => by have := HQ4.out a ha; have := HORD.out; have := HSS.out; have := HE2S.out; have := HEE1.out; have := HEE3.out; have := HEE4.out; have := HSX3.out; have := HSX4.out; omega) (by rw [HZS.out]; exact Nat.le_refl _)
      have HM5 : Hid (LB k5 (e4 + 1) e5 pa5 F5 ca5 rv5) := HZ5.out.same HP5.out.same (by have := HORD.out; omega) (by have := HORD.out; omega)
      have HJ5 : Hid (Has k5 pn5 E5) := has_same HN5.out HP5.out.same (fun a ha => by have := HQ5.out a ha; have := HORD.out; have := HSS.out; have := HE2S.out; have := HEE1.out; have := HEE3.out; have := HEE4.out; have := HSX3.out; have := HSX4.out; omega) (by rw [HZS.out]; exact Nat.le_refl _)
      have HM6 : Hid (IOwns k5 (e5 + 1) (.slice po O6.length co) O6) := own_same HL6.out fun g hg => HP5.out.same g ⟨by have := (World.ownsRow.lt HL6.out g hg).1; have := HORD.out; omega, HO6.out g hg⟩
      have HD0 : Hid (Below k5.heap.size k5 u2) := HB7.out
      clear HV0 HE1 HE2 HE3 HE4 HE5 HE6 HVy1 HVy2 HVy3 HVy4 HVy5 HVy6 HVX1 HVX3 HVX4 HVX5 HEX1 HEX3 HEX4 HEX5 HH1 HH3 HH4 HH5 HL1 HL3 HL4 HL5 HL6 HQ1 HQ3 HQ4 HQ5 HKX1 HKX3 HKX4 HKX5 HT1 HT3 HT4 HT5 HR1 HR3 HR4 HR5 HZ1 HZ3 HZ4 HZ5 HN1 HN3 HN4 HN5 HX1 HX3 HX4 HX5 HKB HP1 HP2 HP3 HP4 HP5 HY3 HY4 HY5 HY6 HB6 HBG HG7
      obtain ⟨_, ⟨b0, b1⟩, ⟨s2, s2'⟩, s3, s3'⟩ := HCE.out _ (below_step HG5.out.1 HD0.out)
      have K1 := hide (H24.out _ (below_step HG5.out.1 HD0.out))
      go_wp2_with fail
      refine K1.out.mono ?_
      rintro r v1 ⟨qn1, dn1, qa1, da1, rfl, hh, hl, hb⟩
      have HF1 := hide hb
      have HD1 := hide (below_step HD0.out hb)
      have HS1 := hide hh
      have HU1 := hide hl
      clear hh hl hb K1 b0 b1 s2 s2' s3 s3'
      go_upto_region 28 with fail
      obtain ⟨Y1, hX⟩ : ∃ X, X = v1.alloc (nbx N1 qn1 E1.length dn1) := ⟨_, rfl⟩
      have hbX : Below v1.heap.size v1 Y1 := by rw [hX]; go_grown
      have HKY1 : Hid (NOwn Y1 v1.heap.size N1 qn1 E1.length dn1) := by show NOwn _ _ _ _ _ _; rw [hX]; exact ⟨by unfold nbx; go_cell, by unfold nbx; go_cell, by unfold nbx; go_cell, by unfold nbx; go_cell⟩
      rw [← hX]
      obtain ⟨l1, hl1⟩ : ∃ k, v1.heap.size = k := ⟨_, rfl⟩
      rw [hl1] at HKY1
      try rw [hl1]
      have HFX1 := hide hbX
      have HDX1 := hide (below_step HD1.out hbX)
      clear hX hbX hl1
      obtain ⟨_, ⟨b0, b1⟩, ⟨s2, s2'⟩, s3, s3'⟩ := HCE.out _ (below_step HG5.out.1 HDX1.out)
      have K2 := hide (H25.out _ (below_step HG5.out.1 HDX1.out))
      go_wp2_with fail
      refine K2.out.mono ?_
      rintro r v2 ⟨rfl, hb⟩
      have HF2 := hide hb
      have HD2 := hide (below_step HDX1.out hb)
      clear hb K2 b0 b1 s2 s2' s3 s3'
      obtain ⟨_, ⟨b0, b1⟩, ⟨s2, s2'⟩, s3, s3'⟩ := HCE.out _ (below_step HG5.out.1 HD2.out)
      have K3 := hide (H26.out _ (below_step HG5.out.1 HD2.out))
      go_wp2_with fail
      refine K3.out.mono ?_
      rintro r v3 ⟨qn3, dn3, qa3, da3, rfl, hh, hl, hb⟩
      have HF3 := hide hb
      have HD3 := hide (below_step HD2.out hb)
      have HS3 := hide hh
      have HU3 := hide hl
      clear hh hl hb K3 b0 b1 s2 s2' s3 s3'
      go_upto_region 30 with fail
      obtain ⟨Y3, hX⟩ : ∃ X, X = v3.alloc (nbx N3 qn3 E3.length dn3) := ⟨_, rfl⟩
      have hbX : Below v3.heap.size v3 Y3 := by rw [hX]; go_grown
      have HKY3 : Hid (NOwn Y3 v3.heap.size N3 qn3 E3.length dn3) := by show NOwn _ _ _ _ _ _; rw [hX]; exact ⟨by unfold nbx; go_cell, by unfold nbx; go_cell, by unfold nbx; go_cell, by unfold nbx; go_cell⟩
      rw [← hX]
      obtain ⟨l3, hl3⟩ : ∃ k, v3.heap.size = k := ⟨_, rfl⟩
      rw [hl3] at HKY3
      try rw [hl3]
      have HFX3 := hide hbX
      have HDX3 := hide (below_step HD3.out hbX)
      clear hX hbX hl3
      obtain ⟨_, ⟨b0, b1⟩, ⟨s2, s2'⟩, s3, s3'⟩ := HCE.out _ (below_step HG5.out.1 HDX3.out)
      have K4 := hide (H27.out _ (below_step HG5.out.1 HDX3.out))
      go_wp2_with fail
      refine K4.out.mono ?_
      rintro r v4 ⟨qn4, dn4, qa4, da4, rfl, hh, hl, hb⟩
      have HF4 := hide hb
      have HD4 := hide (below_step HDX3.out hb)
      have HS4 := hide hh
      have HU4 := hide hl
      clear hh hl hb K4 b0 b1 s2 s2' s3 s3'
      go_upto_region 31 with fail
      obtain ⟨Y4, hX⟩ : ∃ X, X = v4.alloc (nbx N4 qn4 E4.length dn4) := ⟨_, rfl⟩
      have hbX : Below v4.heap.size v4 Y4 := by rw [hX]; go_grown
      have HKY4 : Hid (NOwn Y4 v4.heap.size N4 qn4 E4.length dn4) := by show NOwn _ _ _ _ _ _; rw [hX]; exact ⟨by unfold nbx; go_cell, by unfold nbx; go_cell, by unfold nbx; go_cell, by unfold nbx; go_cell⟩
      rw [← hX]
      obtain ⟨l4, hl4⟩ : ∃ k, v4.heap.size = k := ⟨_, rfl⟩
      rw [hl4] at HKY4
      try rw [hl4]
      have HFX4 := hide hbX
      have HDX4 := hide (below_step HD4.out hbX)
      clear hX hbX hl4
      obtain ⟨_, ⟨b0, b1⟩, ⟨s2, s2'⟩, s3, s3'⟩ := HCE.out _ (below_step HG5.out.1 HDX4.out)
      have K5 := hide (H28.out _ (below_step HG5.out.1 HDX4.out))
      go_wp2_with fail
      refine K5.out.mono ?_
      rintro r v5 ⟨qn5, dn5, qa5, da5, rfl, hh, hl, hb⟩
      have HF5 := hide hb
      have HD5 := hide (below_step HDX4.out hb)
      have HS5 := hide hh
      have HU5 := hide hl
      clear hh hl hb K5 b0 b1 s2 s2' s3 s3'
      go_upto_region 32 with fail
      obtain ⟨Y5, hX⟩ : ∃ X, X = v5.alloc (nbx N5 qn5 E5.length dn5) := ⟨_, rfl⟩
      have hbX : Below v5.heap.size v5 Y5 := by rw [hX]; go_grown
      have HKY5 : Hid (NOwn Y5 v5.heap.size N5 qn5 E5.length dn5) := by show NOwn _ _ _ _ _ _; rw [hX]; exact ⟨by unfold nbx; go_cell, by unfold nbx; go_cell, by unfold nbx; go_cell, by unfold nbx; go_cell⟩
      rw [← hX]
      obtain ⟨l5, hl5⟩ : ∃ k, v5.heap.size = k := ⟨_, rfl⟩
      rw [hl5] at HKY5
      try rw [hl5]
      have HFX5 := hide hbX
      have HDX5 := hide (below_step HD5.out hbX)
      clear hX hbX hl5
      obtain ⟨_, ⟨b0, b1⟩, ⟨s2, s2'⟩, s3, s3'⟩ := HCE.out _ (below_step HG5.out.1 HDX5.out)
      have K6 := hide (H29.out _ (below_step HG5.out.1 HDX5.out))
      go_wp2_with fail
      refine K6.out.mono ?_
      rintro r v6 ⟨qo, do_, rfl, hl, hb⟩
      have HF6 := hide hb
      have HD6 := hide (below_step HDX5.out hb)
      have HU6 := hide hl
      clear hl
      clear hb K6 b0 b1 s2 s2' s3 s3'
      have HW_5 := hide HF6.out
      have HW_4 := hide (below_step HF5.out (below_step HFX5.out HW_5.out))
      have HW_3 := hide (below_step HF4.out (below_step HFX4.out HW_4.out))
      have HW_1 := hide (below_step HF2.out (below_step HF3.out (below_step HFX3.out HW_3.out)))
      obtain ⟨q6, hq6⟩ : ∃ q, q = v6 := ⟨_, rfl⟩
      have HX0 : Hid (Below v6.heap.size v6 v6) := Below.refl _ _
      obtain ⟨c0, c1, _, _⟩ := HW1.out.later (below_step HD6.out HX0.out)
      obtain ⟨d0, d1, _, _⟩ := HKY1.out.later (below_step HW_1.out HX0.out)
      have S1 := hide (same30 N1 pn1 qn1 E1 cn1 dn1 pa1 qa1 F1 ca1 da1 _ (by have := HBD1.out.1; omega) (by have := HBD1.out.2.1; unfold maxLen; omega) (HJ1.out.later (below_step HD6.out HX0.out)) (HS1.out.later (below_step HFX1.out (below_step HW_1.out HX0.out))) ((HM1.out.later (below_step HD6.out HX0.out)).has HBD1.out.2.2) (HU1.out.later (below_step HFX1.out (below_step HW_1.out HX0.out))))
      go_wp2_with fail
      refine S1.out.mono ?_
      rintro r g1 ⟨rfl, hb⟩
      have HX1 := hide (below_step HX0.out hb)
      clear hb S1 c0 c1 d0 d1
      obtain ⟨c0, c1, _, _⟩ := HW3.out.later (below_step HD6.out HX1.out)
      obtain ⟨d0, d1, _, _⟩ := HKY3.out.later (below_step HW_3.out HX1.out)
      have S3 := hide (same30 N3 pn3 qn3 E3 cn3 dn3 pa3 qa3 F3 ca3 da3 _ (by have := HBD3.out.1; omega) (by have := HBD3.out.2.1; unfold maxLen; omega) (HJ3.out.later (below_step HD6.out HX1.out)) (HS3.out.later (below_step HFX3.out (below_step HW_3.out HX1.out))) ((HM3.out.later (below_step HD6.out HX1.out)).has HBD3.out.2.2) (HU3.out.later (below_step HFX3.out (below_step HW_3.out HX1.out))))
      go_wp2_with fail
      refine S3.out.mono ?_
      rintro r g3 ⟨rfl, hb⟩
      have HX3 := hide (below_step HX1.out hb)
      clear hb S3 c0 c1 d0 d1
      obtain ⟨c0, c1, _, _⟩ := HW4.out.later (below_step HD6.out HX3.out)
      obtain ⟨d0, d1, _, _⟩ := HKY4.out.later (below_step HW_4.out HX3.out)
      have S4 := hide (same30 N4 pn4 qn4 E4 cn4 dn4 pa4 qa4 F4 ca4 da4 _ (by have := HBD4.out.1; omega) (by have := HBD4.out.2.1; unfold maxLen; omega) (HJ4.out.later (below_step HD6.out HX3.out)) (HS4.out.later (below_step HFX4.out (below_step HW_4.out HX3.out))) ((HM4.out.later (below_step HD6.out HX3.out)).has HBD4.out.2.2) (HU4.out.later (below_step HFX4.out (below_step HW_4.out HX3.out))))
      go_wp2_with fail
      refine S4.out.mono ?_
      rintro r g4 ⟨rfl, hb⟩
      have HX4 := hide (below_step HX3.out hb)
      clear hb S4 c0 c1 d0 d1
      obtain ⟨c0, c1, _, _⟩ := HW5.out.later (below_step HD6.out HX4.out)
      obtain ⟨d0, d1, _, _⟩ := HKY5.out.later (below_step HW_5.out HX4.out)
      have S5 := hide (same30 N5 pn5 qn5 E5 cn5 dn5 pa5 qa5 F5 ca5 da5 _ (by have := HBD5.out.1; omega) (by have := HBD5.out.2.1; unfold maxLen; omega) (HJ5.out.later (below_step HD6.out HX4.out)) (HS5.out.later (below_step HFX5.out (below_step HW_5.out HX4.out))) ((HM5.out.later (below_step HD6.out HX4.out)).has HBD5.out.2.2) (HU5.out.later (below_step HFX5.out (below_step HW_5.out HX4.out))))
      go_wp2_with fail
      refine S5.out.mono ?_
      rintro r g5 ⟨rfl, hb⟩
      have HX5 := hide (below_step HX4.out hb)
      clear hb S5 c0 c1 d0 d1
      have S6 := ints30 po qo O6 O6 co do_ g5 (by have := HBD6.out; unfold maxLen; omega) (ihas_own (HM6.out.later (below_step HD6.out HX5.out))) (HU6.out.later HX5.out)
      rw [decide_eq_true rfl] at S6
      have S6 := hide S6
      go_wp2_with fail
      refine S6.out.mono ?_
      rintro r g6 ⟨rfl, hb⟩
      have HG9 : Hid (Below U.heap.size U g6 ∧ BagE g6 U.heap.size B) := ⟨below_step HG5.out.1 (below_step HD6.out (below_step HX5.out hb)), HG5.out.2.later (below_step HD6.out (below_step HX5.out hb))⟩
      clear hb S6
      go_wp2
      go_roundw
      case rel => exact ⟨i + 1, by omega, by go_num, HG9.out⟩
      case measure => simp [intOf]; omega
    · have i1 : ¬ (i : Int) < 2 := by omega
      obtain ⟨lv, m, rv, L, sz, hbg⟩ := HBG.out.2
      have AP := hide (apart24 U.heap.size B wr hbg HBG.out.1.size)
      clear hbg
      go_wp2_with fail
      refine AP.out.mono ?_
      rintro r v1 ⟨rfl, hb⟩
      have HE := hide (HEND.out _ (HBG.out.1.trans hb))
      clear hb AP
      go_wp2
      go_ret
      exact ⟨rfl, HE.out⟩
end Go.Proofs.Ytcgdmonejogbaaa
