/- NetAll: its walk. -/
import Derived.Test.YtmmbbfmkhbengaaZ5
import Derived.Test.YtmmbbfmkhbengaaZ6
import Derived.Test.YtmmbbfmkhbengaaZ7
namespace Go.Proofs.Ytmmbbfmkhbengaa
open Go.RowKit Go.Sort
open Go

theorem nown_of {w : World} {k : Nat} {n : Int} {p : Option Addr} {l c : Nat} (h : SBox w k n (.slice p l c)) : NOwn w k n p l c := h.cell
/-- asked, whatever the net. -/
theorem asked14 (n : Int) (B k : Nat) (p q : Option Addr) (es : List Pt) (cp cq : Nat) (v e0 : Int) (w : World) {blv : Value} {bn bsz : Nat} {brv : Nat → Value} {bL : Nat → List Int} (hbag : Bag w B k blv bn brv bL bsz) (hB : B ≤ w.heap.size) (hH : ∀ V, Below B w V → Has V p es) (hG : ∀ V, Below B w V → Has V q es) (hnil : q = none → cq = 0) (hl : lightB n es = true) :
    Calls Try.prog 14 #[nv n p es.length cp, nv n q es.length cq, .bool (netB n es), .int .i64 v, .int .i64 e0, .pointer (some ⟨k, 0, none⟩)] w fun e w' => e = .returned (.bool true) ∧ (∃ lv n rv L sz, Bag w' B k lv n rv L sz) ∧ Below B w w' := by
  cases hm : netB n es
  · exact asked_no n B k p q es cp cq v e0 w hbag hB hH hG hm
  · obtain ⟨n0, _⟩ := netB_is hm
    obtain ⟨m, rfl⟩ : ∃ m : Nat, n = m := ⟨n.toNat, by omega⟩
    have h3 : m ≤ 300 ∧ es.length ≤ 300 := by
      unfold lightB at hl
      rw [hm] at hl
      simp at hl
      omega
    by_cases hv : 0 ≤ v ∧ v < m
    · exact asked_in m B k p q es cp cq v e0 w hbag hB hH hG hnil hm h3.1 h3.2 hv
    · exact asked_out m B k p q es cp cq v e0 w hbag hB hH hG hnil hm h3.1 h3.2 hv
theorem merged16 (n : Int) (B k : Nat) (p q : Option Addr) (es : List Pt) (cp cq : Nat) (u v : Int) (w : World) {blv : Value} {bn bsz : Nat} {brv : Nat → Value} {bL : Nat → List Int} (hbag : Bag w B k blv bn brv bL bsz) (hB : B ≤ w.heap.size) (hH : ∀ V, Below B w V → Has V p es) (hG : ∀ V, Below B w V → Has V q es) (hl : lightB n es = true) :
    Calls Try.prog 16 #[nv n p es.length cp, nv n q es.length cq, .bool (netB n es), .int .i64 u, .int .i64 v, .pointer (some ⟨k, 0, none⟩)] w fun e w' => e = .returned (.bool true) ∧ (∃ lv n rv L sz, Bag w' B k lv n rv L sz) ∧ Below B w w' := by
  cases hm : netB n es
  · exact merged_no n B k p q es cp cq u v w hbag hB hH hm
  · obtain ⟨n0, _⟩ := netB_is hm
    obtain ⟨m, rfl⟩ : ∃ m : Nat, n = m := ⟨n.toNat, by omega⟩
    have h3 : m ≤ 300 ∧ es.length ≤ 300 := by
      unfold lightB at hl
      rw [hm] at hl
      simp at hl
      omega
    exact merged_yes m B k p q es cp cq u v w hbag hB hH hG hm h3.1 h3.2
theorem chosen15 (n : Int) (B k : Nat) (p q : Option Addr) (es : List Pt) (cp cq : Nat) (pk pn : Option Addr) (lk ln : List Int) (ck cn : Nat) (w : World) {blv : Value} {bn bsz : Nat} {brv : Nat → Value} {bL : Nat → List Int} (hbag : Bag w B k blv bn brv bL bsz) (hB : B ≤ w.heap.size) (hH : ∀ V, Below B w V → Has V p es) (hG : ∀ V, Below B w V → Has V q es) (hK : ∀ V, Below B w V → IHas V pk lk) (hN : ∀ V, Below B w V → IHas V pn ln) (hk0 : pk = none → ck = 0) (hn0 : pn = none → cn = 0) (hkl : lk.length ≤ 400) (hnl : ln.length ≤ 400) (hl : lightB n es = true) :
    Calls Try.prog 15 #[nv n p es.length cp, nv n q es.length cq, .bool (netB n es), .slice pk lk.length ck, .slice pn ln.length cn, .pointer (some ⟨k, 0, none⟩)] w fun e w' => e = .returned (.bool true) ∧ (∃ lv n rv L sz, Bag w' B k lv n rv L sz) ∧ Below B w w' := by
  cases hm : netB n es
  · exact chosen_no n B k p q es cp cq pk pn lk ln ck cn w hbag hB hH hm hK hN hk0 hn0 hkl hnl
  · obtain ⟨n0, _⟩ := netB_is hm
    obtain ⟨m, rfl⟩ : ∃ m : Nat, n = m := ⟨n.toNat, by omega⟩
    have h3 : es.length ≤ 300 := by
      unfold lightB at hl
      rw [hm] at hl
      simp at hl
      omega
    exact chosen_yes m B k p q es cp cq pk pn lk ln ck cn w hbag hB hH hG hm h3 hK hN hk0 hn0 hkl hnl
set_option maxRecDepth 100000 in
set_option maxHeartbeats 8000000 in
/-- NetAll where it passes by. -/
theorem all_pass (n : Int) (p pk pn : Option Addr) (es : List Pt) (cp ck cn a b : Nat) (v e0 : Int) (w : World) (h : Has w p es) (hno : ¬ (lightB n es = true ∧ a ≤ 400 ∧ b ≤ 400)) : Calls Try.prog 3 #[nv n p es.length cp, .int .i64 v, .int .i64 e0, .slice pk a ck, .slice pn b cn] w fun e w' => e = .returned (.bool true) ∧ Below w.heap.size w w' := by
  obtain ⟨W, hW, hb, a0⟩ := one_net w n p es.length cp
  have BG := hide (begun8 W)
  have HH := hide (h.later hb)
  have HB := hide hb
  have HA := hide a0
  clear h hb a0
  go_enter Try.func3, Try.ntmps3
  go_wp2_with fail
  rw [← hW]
  clear hW
  refine BG.out.mono ?_
  rintro e w1 ⟨rfl, hb1⟩
  have L9 := hide (light9 n p es cp w1 (HH.out.later hb1))
  have HB1 := hide (below_step HB.out hb1)
  have HA1 := hide (HA.out.later hb1)
  obtain ⟨q0, q1, _, _⟩ := HA1.out
  clear hb1 BG
  go_wp2_with fail
  refine L9.out.mono ?_
  rintro e w2 ⟨rfl, hb2⟩
  have HB2 := hide (below_step HB1.out hb2)
  clear hb2 q0 q1 L9
  cases hl : lightB n es
  · go_wp2
    go_ret
    exact ⟨rfl, HB2.out⟩
  · by_cases ha : a ≤ 400
    · have hb : ¬ b ≤ 400 := fun hb => hno ⟨hl, ha, hb⟩
      have F1 := hide (few10 pk a ck w2)
      rw [decide_eq_true ha] at F1
      go_wp2_with fail
      refine F1.out.mono ?_
      rintro e w3 ⟨rfl, hw⟩
      have hw := hw.symm
      subst hw
      have F2 := hide (few10 pn b cn w2)
      rw [decide_eq_false hb] at F2
      go_wp2_with fail
      refine F2.out.mono ?_
      rintro e w3 ⟨rfl, hw⟩
      have hw := hw.symm
      subst hw
      go_wp2
      go_ret
      exact ⟨rfl, HB2.out⟩
    · have F1 := hide (few10 pk a ck w2)
      rw [decide_eq_false ha] at F1
      go_wp2_with fail
      refine F1.out.mono ?_
      rintro e w3 ⟨rfl, hw⟩
      have hw := hw.symm
      subst hw
      go_wp2
      go_ret
      exact ⟨rfl, HB2.out⟩
set_option maxRecDepth 100000 in
set_option maxHeartbeats 8000000 in
/-- NetAll where it looks. -/
theorem all_look (n : Int) (p pk pn : Option Addr) (es : List Pt) (lk ln : List Int) (cp ck cn : Nat) (v e0 : Int) (w : World) (h : Has w p es) (hnil : p = none → cp = 0) (hk : IHas w pk lk) (hn : IHas w pn ln) (hk0 : pk = none → ck = 0) (hn0 : pn = none → cn = 0) (hl : lightB n es = true) (ha : lk.length ≤ 400) (hb4 : ln.length ≤ 400) : Calls Try.prog 3 #[nv n p es.length cp, .int .i64 v, .int .i64 e0, .slice pk lk.length ck, .slice pn ln.length cn] w fun e w' => e = .returned (.bool true) ∧ Below w.heap.size w w' := by
  have h3e : es.length ≤ 300 := by unfold lightB at hl; simp at hl; omega
  obtain ⟨W, hW, hb, a0⟩ := one_net w n p es.length cp
  have BG := hide (begun8 W)
  have HH := hide (h.later hb)
  have HK := hide (hk.later hb)
  have HN := hide (hn.later hb)
  have HB := hide hb
  have HA := hide a0
  have HL := hide hl
  have HNIL := hide hnil
  have HK0 := hide hk0
  have HN0 := hide hn0
  clear h hb a0 hk hn hl hnil hk0 hn0
  go_enter Try.func3, Try.ntmps3
  go_wp2_with fail
  rw [← hW]
  clear hW
  obtain ⟨kg, hkg⟩ : ∃ k, w.heap.size = k := ⟨_, rfl⟩
  have HKG := hide hkg
  rw [hkg] at HA
  try rw [hkg]
  clear hkg
  refine BG.out.mono ?_
  rintro e w1 ⟨rfl, hb1⟩
  have L9 := hide (light9 n p es cp w1 (HH.out.later hb1))
  rw [HL.out] at L9
  have HB1 := hide hb1
  obtain ⟨q0, q1, _, _⟩ := HA.out.later hb1
  clear hb1 BG
  go_wp2_with fail
  refine L9.out.mono ?_
  rintro e w2 ⟨rfl, hb2⟩
  have HB2 := hide (below_step HB1.out hb2)
  clear hb2 q0 q1 L9
  have F1 := hide (few10 pk lk.length ck w2)
  rw [decide_eq_true ha] at F1
  go_wp2_with fail
  refine F1.out.mono ?_
  rintro e w3 ⟨rfl, hw⟩
  have hw := hw.symm
  subst hw
  have F2 := hide (few10 pn ln.length cn w2)
  rw [decide_eq_true hb4] at F2
  go_wp2_with fail
  refine F2.out.mono ?_
  rintro e w3 ⟨rfl, hw⟩
  have hw := hw.symm
  subst hw
  have TW := hide (twin11 n p es cp w2 HNIL.out (by omega) (HH.out.later HB2.out))
  obtain ⟨q0, q1, _, _⟩ := HA.out.later HB2.out
  clear F1 F2
  go_wp2_with fail
  refine TW.out.mono ?_
  rintro e w3 ⟨gt, ct, rfl, hot, hct, hb3⟩
  have HB3 := hide (below_step HB2.out hb3)
  have OT3 := hide hot
  have HCT := hide hct
  clear hb3 hot TW q0 q1
  obtain ⟨x3, hx3⟩ : ∃ X, X = w3.alloc (nbx n (some ⟨gt, 0, none⟩) es.length ct) := ⟨_, rfl⟩
  have hb4' : Below w3.heap.size w3 x3 := by rw [hx3]; go_grown
  have HBx := hide (below_step HB3.out hb4')
  have OTx := hide (OT3.out.later hb4')
  have SHx : Hid (SBox x3 w3.heap.size n (.slice (some ⟨gt, 0, none⟩) es.length ct)) := by show SBox _ _ _ _; rw [hx3]; exact SBox.made _ _ _
  have M12 := hide (may12 n p es cp x3 (HH.out.later HBx.out))
  obtain ⟨q0, q1, _, _⟩ := HA.out.later HBx.out
  rw [hx3] at q0 q1
  clear hb4'
  go_wp2_with fail
  rw [← hx3]
  obtain ⟨kh, hkh⟩ : ∃ k, w3.heap.size = k := ⟨_, rfl⟩
  rw [hkh] at SHx
  try rw [hkh]
  clear hx3 hkh q0 q1
  refine M12.out.mono ?_
  rintro e w4 ⟨rfl, hb5⟩
  have HB4 := hide (below_step HBx.out hb5)
  have OT4 := hide (OTx.out.later hb5)
  have SH4 := hide (SHx.out.later hb5)
  have hlies : Has w4 (some ⟨gt, 0, none⟩) es := Or.inr ⟨gt, 0, rfl, lies_left (by have := OT4.out; rw [show es.length + 1 = (es ++ [mk]).length by simp] at this; exact this.lies)⟩
  have M13 := hide (may13 n (some ⟨gt, 0, none⟩) es ct w4 hlies)
  obtain ⟨s0, s1, _, _⟩ := SH4.out.cell
  clear hb5 M12 hlies
  go_wp2_with fail
  clear s0 s1
  refine M13.out.mono ?_
  rintro e Y ⟨rfl, hb6⟩
  have HBY := hide (below_step HB4.out hb6)
  have OTY := hide (OT4.out.later hb6)
  have SHY := hide (SH4.out.later hb6)
  have HAY := hide (HA.out.later HBY.out)
  clear hb6 M13
  obtain ⟨mb, hmb⟩ : ∃ mb, netB n es = mb := ⟨_, rfl⟩
  have HMB := hide hmb
  rw [hmb]
  have t1 : (mb != mb) = false := by simp
  obtain ⟨X, hX⟩ : ∃ X, X = Y.alloc (.cells #[.slice none 0 0, .int .i64 0] 33) := ⟨_, rfl⟩
  have hbX : Below Y.heap.size Y X := by rw [hX]; go_grown
  have HBAG : Hid (∃ lv n rv L sz, Bag X Y.heap.size Y.heap.size lv n rv L sz) := ⟨.slice none 0 0, 0, fun _ => .slice none 0 0, fun _ => [], 0, by rw [hX]; exact World.ownsRow_lit Y #[.slice none 0 0, .int .i64 0] 1 (Nat.zero_le _) (by unfold maxLen; omega) rfl, Nat.le_refl _, World.ownsRow_nil _ _ _ _, fun u v j hu => by omega, fun v hv => by omega, fun v hv => by omega, by omega, by omega⟩
  have HXY := hide hbX
  have HG1 : Hid (∀ V, Below Y.heap.size Y V → Has V p es) := fun V hV => HH.out.later (below_step HBY.out hV)
  have HH1 : Hid (∀ V, Below Y.heap.size Y V → Lies V gt 0 (es ++ [mk])) := fun V hV => by
    have := OTY.out.later hV
    rw [show es.length + 1 = (es ++ [mk]).length by simp] at this
    exact this.lies
  have HK1 : Hid (∀ V, Below Y.heap.size Y V → IHas V pk lk) := fun V hV => HK.out.later (below_step HBY.out hV)
  have HN1 : Hid (∀ V, Below Y.heap.size Y V → IHas V pn ln) := fun V hV => HN.out.later (below_step HBY.out hV)
  have HE1 : Hid (∀ V, Below Y.heap.size Y V → Below w.heap.size w V) := fun V hV => below_step (below_step HB.out HBY.out) hV
  have HC1 : Hid (∀ V, Below Y.heap.size Y V → (V.cell? ⟨kh, 0, none⟩ = some (.int .i64 n) ∧ V.cell? ⟨kh, 1, none⟩ = some (.slice (some ⟨gt, 0, none⟩) es.length ct)) ∧ V.cell? ⟨kg, 0, none⟩ = some (.int .i64 n) ∧ V.cell? ⟨kg, 1, none⟩ = some (.slice p es.length cp)) := fun V hV => ⟨⟨(SHY.out.later hV).cell.1, (SHY.out.later hV).cell.2.1⟩, (HAY.out.later hV).1, (HAY.out.later hV).2.1⟩
  clear hbX hmb
  go_wp2_with fail
  rw [← hX]
  obtain ⟨B, hB⟩ : ∃ B, Y.heap.size = B := ⟨_, rfl⟩
  have HBE := hide hB
  rw [hB] at HBAG HXY HG1 HH1 HK1 HN1 HE1 HC1
  try rw [hB]
  clear hX hB t1
  go_loopw [14] (fun t wr => ∃ i : Nat, i ≤ 2 ∧ t = .int .i64 i ∧ Hid (Below B Y wr ∧ ∃ lv n rv L sz, Bag wr B B lv n rv L sz)) (fun t _ => 2 - (intOf t).toNat)
  case atStart => exact ⟨0, by omega, rfl, HXY.out, HBAG.out⟩
  case round =>
    obtain ⟨i, hi, rfl, HR⟩ := hrel
    obtain ⟨hbr, b1, b2, b3, b4, b5, hbg⟩ := HR.out
    have hBr : B ≤ wr.heap.size := by have := hbr.size; have := HBE.out; omega
    by_cases hlt : i < 2
    · have i1 : (i : Int) < 2 := by omega
      have AS := hide (asked14 n B B (some ⟨gt, 0, none⟩) p es ct cp v e0 wr hbg hBr (fun V hV => Or.inr ⟨gt, 0, rfl, lies_left (HH1.out V (Below.trans hbr hV))⟩) (fun V hV => HG1.out V (Below.trans hbr hV)) HNIL.out HL.out)
      rw [HMB.out] at AS
      obtain ⟨⟨c0, c1⟩, c2, c3⟩ := HC1.out wr hbr
      have HBR := hide hbr
      clear hbg HR hbr hBr
      go_wp2_with fail
      clear c0 c1 c2 c3
      refine AS.out.mono ?_
      rintro e y1 ⟨rfl, ⟨b1, b2, b3, b4, b5, hbg⟩, hy⟩
      have hbr := Below.trans HBR.out hy
      have hBr : B ≤ y1.heap.size := by have := hbr.size; have := HBE.out; omega
      have CS := hide (chosen15 n B B (some ⟨gt, 0, none⟩) p es ct cp pk pn lk ln ck cn y1 hbg hBr (fun V hV => Or.inr ⟨gt, 0, rfl, lies_left (HH1.out V (Below.trans hbr hV))⟩) (fun V hV => HG1.out V (Below.trans hbr hV)) (fun V hV => HK1.out V (Below.trans hbr hV)) (fun V hV => HN1.out V (Below.trans hbr hV)) HK0.out HN0.out ha hb4 HL.out)
      rw [HMB.out] at CS
      obtain ⟨⟨c0, c1⟩, c2, c3⟩ := HC1.out y1 hbr
      have HBY1 := hide hbr
      clear hbg hbr hBr hy AS HBR
      go_wp2_with fail
      clear c0 c1 c2 c3
      refine CS.out.mono ?_
      rintro e y2 ⟨rfl, ⟨b1, b2, b3, b4, b5, hbg⟩, hy⟩
      have hbr := Below.trans HBY1.out hy
      have hBr : B ≤ y2.heap.size := by have := hbr.size; have := HBE.out; omega
      have MG := hide (merged16 n B B (some ⟨gt, 0, none⟩) p es ct cp v e0 y2 hbg hBr (fun V hV => Or.inr ⟨gt, 0, rfl, lies_left (HH1.out V (Below.trans hbr hV))⟩) (fun V hV => HG1.out V (Below.trans hbr hV)) HL.out)
      rw [HMB.out] at MG
      obtain ⟨⟨c0, c1⟩, c2, c3⟩ := HC1.out y2 hbr
      have HBY2 := hide hbr
      clear hbg hbr hBr hy CS HBY1
      go_wp2_with fail
      clear c0 c1 c2 c3
      refine MG.out.mono ?_
      rintro e y3 ⟨rfl, hbag3, hy⟩
      have hbr := Below.trans HBY2.out hy
      have HBG3 := hide hbag3
      have KT := hide (kept17 n gt ct p es cp y3 (by omega) HCT.out (HH1.out y3 hbr) (HG1.out y3 hbr))
      obtain ⟨⟨c0, c1⟩, c2, c3⟩ := HC1.out y3 hbr
      have HBY3 := hide hbr
      clear hbag3 hbr hy MG HBY2
      go_wp2_with fail
      clear c0 c1 c2 c3
      refine KT.out.mono ?_
      rintro e y4 ⟨rfl, hy⟩
      have HF : Hid (Below B Y y4 ∧ ∃ lv n rv L sz, Bag y4 B B lv n rv L sz) := by
        obtain ⟨b1, b2, b3, b4, b5, hbg⟩ := HBG3.out
        exact ⟨Below.trans HBY3.out (hy.mono (by have := HBY3.out.size; have := HBE.out; omega)), b1, b2, b3, b4, b5, hbg.later hy⟩
      clear hy KT HBG3 HBY3
      go_wp2
      go_roundw
      case rel => exact ⟨i + 1, by omega, by go_num, HF.out⟩
      case measure => simp [intOf]; omega
    · have i1 : ¬ (i : Int) < 2 := by omega
      have AP := hide (apart24 B B wr hbg hBr)
      have HBR := hide hbr
      clear hbg HR hbr hBr
      go_wp2_with fail
      refine AP.out.mono ?_
      rintro e y1 ⟨rfl, hy⟩
      have HF := hide (HE1.out y1 (Below.trans HBR.out hy))
      clear hy AP
      go_wp2
      go_ret
      exact ⟨rfl, HF.out⟩
theorem all_walk (n : Int) (p pk pn : Option Addr) (es : List Pt) (lk ln : List Int) (cp ck cn : Nat) (v e0 : Int) (w : World) (h : Has w p es) (hnil : p = none → cp = 0) (hk : IHas w pk lk) (hn : IHas w pn ln) (hk0 : pk = none → ck = 0) (hn0 : pn = none → cn = 0) : Calls Try.prog 3 #[nv n p es.length cp, .int .i64 v, .int .i64 e0, .slice pk lk.length ck, .slice pn ln.length cn] w fun e w' => e = .returned (.bool true) ∧ Below w.heap.size w w' := by
  by_cases hno : lightB n es = true ∧ lk.length ≤ 400 ∧ ln.length ≤ 400
  · exact all_look n p pk pn es lk ln cp ck cn v e0 w h hnil hk hn hk0 hn0 hno.1 hno.2.1 hno.2.2
  · exact all_pass n p pk pn es cp ck cn lk.length ln.length v e0 w h hno
end Go.Proofs.Ytmmbbfmkhbengaa
