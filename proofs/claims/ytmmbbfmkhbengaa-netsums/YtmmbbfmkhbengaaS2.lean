/- NetSums, in every world. -/
import Derived.Test.YtmmbbfmkhbengaaM5
import Derived.Test.YtmmbbfmkhbengaaQ2
import Derived.Test.YtmmbbfmkhbengaaS1
namespace Go.Proofs.Ytmmbbfmkhbengaa
open Go.RowKit Go.Sort
open Go

theorem prod_le (a b : Nat) (ha : a ≤ 201) (hb : b ≤ 200) : (a : Int) * (2 * b) ≤ 80400 := by
  have h1 : a * (2 * b) ≤ 201 * 400 := Nat.mul_le_mul ha (by omega)
  have h2 : ((a * (2 * b) : Nat) : Int) ≤ 80400 := by omega
  rw [Int.natCast_mul, Int.natCast_mul] at h2
  exact h2
set_option maxRecDepth 100000 in
set_option maxHeartbeats 16000000 in
theorem sums_walk (n : Int) (p q1 : Option Addr) (es : List Pt) (to_ : List Int) (cp c1 : Nat) (w : World) (l1 : to_.length ≤ maxLen) (h : Has w p es) (k1 : IHas w q1 to_) :
    Calls Try.prog 5 #[nv n p es.length cp, .slice q1 to_.length c1] w fun e w' => e = .returned (.bool true) ∧ Below w.heap.size w w' := by
  obtain ⟨W, hW, hb, a0⟩ := one_net w n p es.length cp
  have HB := hide hb
  have HA := hide a0
  have HH := hide (h.later hb)
  have K1 := hide (k1.later hb)
  clear h k1 hb a0
  obtain ⟨i0, hi0, hz0, hz1, hz2⟩ := info_parts info3
  go_enter Try.func5, Try.ntmps5
  go_wp2_with fail
  rw [← hW]
  clear hW
  refine (begun8 _).mono ?_
  rintro e w1 ⟨rfl, hb1⟩
  have HB1 := hide (below_step HB.out hb1)
  have HA1 := hide (HA.out.later hb1)
  have HH1 := hide (HH.out.later hb1)
  have J1 := hide (K1.out.later hb1)
  clear hb1 HB HA HH K1
  have M := hide (may13 n p es cp w1 HH1.out)
  obtain ⟨q0, q1', _, _⟩ := HA1.out
  go_wp2_with fail
  refine M.out.mono ?_
  rintro e w2 ⟨rfl, hb2⟩
  have HB2 := hide (below_step HB1.out hb2)
  have HA2 := hide (HA1.out.later hb2)
  have HH2 := hide (HH1.out.later hb2)
  have K1 := hide (J1.out.later hb2)
  clear hb2 q0 q1' HB1 HA1 HH1 J1 M
  cases hm : netB n es
  · go_wp2
    go_ret
    exact ⟨rfl, HB2.out⟩
  obtain ⟨n0, n1, hes, hends⟩ := netB_is hm
  have HE := hide hends
  clear hends
  obtain ⟨q0, q1', _, _⟩ := HA2.out
  by_cases hn2 : 200 < n
  · go_wp2
    go_ret
    exact ⟨rfl, HB2.out⟩
  by_cases he2 : (200 : Int) < es.length
  · go_wp2
    go_ret
    exact ⟨rfl, HB2.out⟩
  obtain ⟨m, rfl⟩ : ∃ m : Nat, n = m := ⟨n.toNat, by omega⟩
  have D := hide (degrees25 m p es cp w2 HH2.out)
  go_wp2_with fail
  refine D.out.mono ?_
  rintro e w3 ⟨hD, hb3⟩
  have HB3 := hide (below_step HB2.out hb3)
  have HA3 := hide (HA2.out.later hb3)
  have HH3 := hide (HH2.out.later hb3)
  have J1 := hide (K1.out.later hb3)
  clear hb3 q0 q1' HB2 HA2 HH2 K1 D
  rcases hD with ⟨_, gD, rfl, hrD⟩ | ⟨hD, _⟩
  rotate_left
  · rw [hm] at hD; cases hD
  rw [Int.toNat_natCast] at hrD ⊢
  have HRD := hide hrD
  have hsum := hide (deg_sum HE.out es.length (Nat.le_refl _))
  have hout := hide (fun (v : Nat) (hv : v < m) => out_deg HE.out hv es.length (Nat.le_refl _))
  have hsin := hide (sumN_in (es := es) (n := m) es.length)
  obtain ⟨DL, hDL⟩ : ∃ DL, degN es m es.length = DL := ⟨_, rfl⟩
  rw [hDL] at HRD hsum hout hsin
  clear hrD hDL
  obtain ⟨q0, q1', _, _⟩ := HA3.out
  go_wp2_with fail
  clear q0 q1'
  go_loopw [7, 8, 10, 11] (fun s sn v t wr => ∃ i : Nat, i ≤ m ∧ s = .int .i64 (sumN DL i) ∧ sn = .int .i64 (sumN DL i) ∧ t = .int .i64 i ∧ Hid (Below w3.heap.size w3 wr) ∧ Hid (IOwns wr w3.heap.size v (rangeI i))) (fun _ _ _ t _ => m - (intOf t).toNat)
  case atStart => exact ⟨0, by omega, rfl, rfl, rfl, Below.refl _ _, IOwns.nil _ _⟩
  case round =>
    obtain ⟨i, hi, rfl, rfl, rfl, HBr, HO⟩ := hrel
    have HAr := hide (HA3.out.later HBr.out)
    obtain ⟨q0, q1', _, _⟩ := HAr.out
    by_cases hlt : i < m
    · have O := hide (out26 m p es cp i wr (HH3.out.later HBr.out))
      have hTl := rangeI_length i
      have hS : Hid (rangeI (i + 1) = rangeI i ++ [(i : Int)]) := rfl
      have hSm : Hid (sumN DL (i + 1) = sumN DL i + iat DL i) := rfl
      have ho1 := hide (hout.out i hlt)
      have hsi := hsin.out i (by omega)
      have hsi2 := hsin.out (i + 1) (by omega)
      rw [hSm.out] at hsi2
      obtain ⟨T, hTT⟩ : ∃ T, rangeI i = T := ⟨_, rfl⟩
      rw [hTT] at hS hTl HO
      obtain ⟨p0, c, rfl, _, _, _, _⟩ := HO.out.form
      have HTL := hide hTl
      clear hTT hTl
      go_wp2_with fail
      refine O.out.mono ?_
      rintro e w4 ⟨hOP, hb4⟩
      rcases hOP with ⟨_, _, s, rfl, hoO⟩ | ⟨_, hB, _⟩ | ⟨hB, _⟩
      rotate_left
      · exact absurd hB (by simp [belowB]; omega)
      · rw [hm] at hB; cases hB
      obtain ⟨pO, cO, rfl, _, _, _, _⟩ := hoO.form
      obtain ⟨OL, hOL⟩ : ∃ OL, outN es i es.length = OL := ⟨_, rfl⟩
      rw [hOL] at ho1 ⊢
      have HB4 := hide (Below.trans HBr.out (hb4.mono HBr.out.size))
      have HO4 := hide (HO.out.later hb4)
      obtain ⟨d0, _⟩ := (HRD.out.later HB4.out).cell hlt
      obtain ⟨dv, hdv⟩ : ∃ dv, iat DL i = dv := ⟨_, rfl⟩
      obtain ⟨S, hSS⟩ : ∃ S, sumN DL i = S := ⟨_, rfl⟩
      rw [hdv] at d0 hSm ho1 hsi2
      rw [hSS] at hSm hsi hsi2 ⊢
      have ho2 : (OL.length : Int) = dv := ho1.out
      have hi1 : (i : Int) < m := by omega
      have hbd := prod_le i es.length (by omega) (by omega)
      have hbd2 := prod_le (i + 1) es.length (by omega) (by omega)
      have hs1 : 0 ≤ S ∧ S ≤ 80400 := by omega
      have hs2 : 0 ≤ S + dv ∧ S + dv ≤ 80400 := by omega
      have hOW : w4.ownsRow w3.heap.size 3 1 (.slice p0 T.length c) T.length (icells T) := HO4.out
      have hsz := HB4.out.size
      clear hb4 hoO hOL hdv hSS hsi hsi2 hbd hbd2 q0 q1'
      go_wp2_with (at_builtin; refine wpList_append_own _ rfl _ _ 25 rfl w3.heap.size 3 i0 (.int .i64 0) 1 8 Try.underlying25 hi0 hz0 hz1 hz2 rfl (by decide) _ _ _ rfl (World.ownsRow.alloc hOW _) ⟨w4.heap.size, 0, none⟩ 1 1 [.int .i64 i] rfl rfl ?a1 ?a2 ?a3 ?a4 ?a5 ?_)
      case a1 =>
        intro j u hj
        match j, hj with
        | 0, hj => simp at hj; subst hj; simp [Addr.add]
      case a2 => intro u hu; simp at hu; subst hu; rfl
      case a3 => have := HTL.out; unfold maxLen; omega
      case a4 => have := HTL.out; omega
      case a5 => simp; omega
      intro v' w5 hown' hgrow _
      have ho := hide (iowns_more hown')
      have hbg : Below w3.heap.size w4 w5 := below_grown (w := w4.alloc (.cells #[.int .i64 i] 3)) (by go_grown) (World.ownsRow.alloc hOW _) (Nat.le_refl _) (by simp; omega) hgrow
      have HBg := hide hbg
      clear hown' hgrow hbg hOW
      go_wp2
      go_roundw
      case rel => exact ⟨i + 1, by omega, by rw [hSm.out], by rw [hSm.out], by go_num, Below.trans HB4.out HBg.out, by rw [hS.out]; exact ho.out⟩
      case measure => simp [intOf]; omega
    · have hin : i = m := by omega
      subst hin
      rw [hsum.out]
      obtain ⟨pN, cN, rfl, _, _, _, _⟩ := HO.out.form
      have HB4 := hide (below_step HB3.out HBr.out)
      have HH4 := hide (HH3.out.later HBr.out)
      have K1 := hide (J1.out.later HBr.out)
      obtain ⟨w4, rfl⟩ : ∃ w4, w4 = wr := ⟨wr, rfl⟩
      go_wp2_with fail
      clear q0 q1'
      go_loopw [9, 14] (fun v t wr => ∃ k : Nat, k ≤ es.length ∧ t = .int .i64 k ∧ Hid (Below w4.heap.size w4 wr) ∧ Hid (IOwns wr w4.heap.size v (rangeI k))) (fun _ t _ => es.length - (intOf t).toNat)
      case atStart => exact ⟨0, by omega, rfl, Below.refl _ _, IOwns.nil _ _⟩
      case round =>
        obtain ⟨k, hk, rfl, HBq, HOq⟩ := hrel
        have HAq := hide (HAr.out.later HBq.out)
        obtain ⟨q0, q1', _, _⟩ := HAq.out
        by_cases hlk : k < es.length
        · have hTl := rangeI_length k
          have hS : Hid (rangeI (k + 1) = rangeI k ++ [(k : Int)]) := rfl
          obtain ⟨T, hTT⟩ : ∃ T, rangeI k = T := ⟨_, rfl⟩
          rw [hTT] at hS hTl HOq
          obtain ⟨p0, c, rfl, _, _, _, _⟩ := HOq.out.form
          have HTL := hide hTl
          clear hTT hTl
          have hOW : wr.ownsRow w4.heap.size 3 1 (.slice p0 T.length c) T.length (icells T) := HOq.out
          have hsz := HBq.out.size
          go_wp2_with (at_builtin; refine wpList_append_own _ rfl _ _ 25 rfl w4.heap.size 3 i0 (.int .i64 0) 1 8 Try.underlying25 hi0 hz0 hz1 hz2 rfl (by decide) _ _ _ rfl (World.ownsRow.alloc hOW _) ⟨wr.heap.size, 0, none⟩ 1 1 [.int .i64 k] rfl rfl ?b1 ?b2 ?b3 ?b4 ?b5 ?_)
          case b1 =>
            intro j u hj
            match j, hj with
            | 0, hj => simp at hj; subst hj; simp [Addr.add]
          case b2 => intro u hu; simp at hu; subst hu; rfl
          case b3 => have := HTL.out; unfold maxLen; omega
          case b4 => have := HTL.out; omega
          case b5 => simp; omega
          intro v' w5 hown' hgrow _
          have ho := hide (iowns_more hown')
          have hbg : Below w4.heap.size wr w5 := below_grown (w := wr.alloc (.cells #[.int .i64 k] 3)) (by go_grown) (World.ownsRow.alloc hOW _) (Nat.le_refl _) (by simp; omega) hgrow
          have HBg := hide hbg
          clear hown' hgrow hbg hOW
          go_wp2
          go_roundw
          case rel => exact ⟨k + 1, by omega, by go_num, Below.trans HBq.out HBg.out, by rw [hS.out]; exact ho.out⟩
          case measure => simp [intOf]; omega
        · have hin : k = es.length := by omega
          subst hin
          obtain ⟨pA, cA, rfl, hiA, _, _, _⟩ := HOq.out.form
          have HB5 := hide (below_step HB4.out HBq.out)
          have HH5 := hide (HH4.out.later HBq.out)
          have J1 := hide (K1.out.later HBq.out)
          have HON := hide (HO.out.later HBq.out)
          obtain ⟨w5, rfl⟩ : ∃ w5, w5 = wr := ⟨wr, rfl⟩
          have hrl := rangeI_length es.length
          have hrm := rangeI_length i
          have U := sub27 i p pA es (rangeI es.length) cp cA w5 (by rw [hrl]; unfold maxLen; omega) HH5.out hiA
          rw [hrl] at U
          have U' := hide U
          clear U
          rw [hrl]
          go_wp2_with fail
          refine U'.out.mono ?_
          rintro e w6 ⟨hSP, hb6⟩
          rcases hSP with ⟨_, gS, rfl, hrS⟩ | ⟨hSP, _⟩
          rotate_left
          · exact absurd (subE_of hm (rangeI_ok es.length)) hSP
          rw [hrl, pick_all] at hrS
          rw [hrl]
          obtain ⟨W6, hW6⟩ : ∃ W6, W6 = w6.alloc (nbx i (some ⟨gS, 0, none⟩) es.length es.length) := ⟨_, rfl⟩
          have hb6' : Below w6.heap.size w6 W6 := by rw [hW6]; go_grown
          have hb6'' := below_step hb6 hb6'
          have HB6 := hide (below_step HB5.out hb6'')
          have HA6 := hide (HAq.out.later hb6'')
          have HH6 := hide (HH5.out.later hb6'')
          have K1 := hide (J1.out.later hb6'')
          have HON6 := HON.out.later hb6''
          have HRS6 := hide (hrS.has.later hb6')
          have NS : NOwn W6 w6.heap.size i (some ⟨gS, 0, none⟩) es.length es.length := by rw [hW6]; exact nown_new _ _ _ _ _
          have HNS := hide NS
          obtain ⟨pN', cN', hvN, hiN, _, _, _⟩ := HON6.form
          obtain ⟨rfl, rfl⟩ : pN = pN' ∧ cN = cN' := by simp at hvN; exact hvN
          have P := part28 i p pN es (rangeI i) cp cN W6 (by rw [hrm]; unfold maxLen; omega) HH6.out hiN
          rw [hrm] at P
          have P' := hide P
          clear q0 q1'
          obtain ⟨q0, q1', _, _⟩ := HAq.out.later hb6
          have zn : w.heap.size < w6.heap.size := block_lt_of_cell q0
          clear hb6 hb6' hb6'' hrS hiN hvN HON6 NS P hiA
          rw [hrm]
          go_wp2_with fail
          rw [show w6.alloc (nbx i (some ⟨gS, 0, none⟩) es.length es.length) = W6 from hW6.symm]
          obtain ⟨gs, hgs⟩ : ∃ gs, gs = w6.heap.size := ⟨_, rfl⟩
          rw [← hgs] at HNS ⊢
          clear hgs hW6 q0 q1' zn
          refine P'.out.mono ?_
          rintro e w7 ⟨hPP, hb7⟩
          rcases hPP with ⟨_, gP, vP, rfl, hrP, hoP⟩ | ⟨hPP, _⟩
          rotate_left
          · exact absurd (partE_of hm (rangeI_ok i)) hPP
          rw [part_all HE.out] at hrP ⊢
          obtain ⟨pW, cW, rfl, _, _, _, _⟩ := hoP.form
          rw [which_all_len HE.out, hrm]
          obtain ⟨W7, hW7⟩ : ∃ W7, W7 = w7.alloc (nbx i (some ⟨gP, 0, none⟩) es.length es.length) := ⟨_, rfl⟩
          have hb7' : Below w7.heap.size w7 W7 := by rw [hW7]; go_grown
          have hb7'' := below_step hb7 hb7'
          have HB7 := hide (below_step HB6.out hb7'')
          have HA7 := hide (HA6.out.later hb7'')
          have HH7 := hide (HH6.out.later hb7'')
          have J1 := hide (K1.out.later hb7'')
          have HRS7 := hide (HRS6.out.later hb7'')
          have HRP7 := hide (hrP.has.later hb7')
          have NP : NOwn W7 w7.heap.size i (some ⟨gP, 0, none⟩) es.length es.length := by rw [hW7]; exact nown_new _ _ _ _ _
          have HNP := hide NP
          have S1 := same21 i i (some ⟨gS, 0, none⟩) p es es es.length cp W7 (by omega) HRS7.out HH7.out
          rw [show sameB (i : Int) (i : Int) es es = true by unfold sameB; simp] at S1
          have S1' := hide S1
          obtain ⟨q0, q1', _, _⟩ := HA6.out.later hb7
          obtain ⟨r0, r1, _, _⟩ := HNS.out.later hb7
          have zn : w.heap.size < w7.heap.size := block_lt_of_cell q0
          have zr : gs < w7.heap.size := block_lt_of_cell r0
          clear hb7 hb7' hb7'' hrP hoP NP S1 hrl hrm
          go_wp2_with fail
          rw [show w7.alloc (nbx i (some ⟨gP, 0, none⟩) es.length es.length) = W7 from hW7.symm]
          obtain ⟨gp, hgp⟩ : ∃ gp, gp = w7.heap.size := ⟨_, rfl⟩
          rw [← hgp] at HNP ⊢
          clear hgp hW7 q0 q1' zn r0 r1 zr
          refine S1'.out.mono ?_
          rintro e w8 ⟨rfl, hb8⟩
          have HB8 := hide (below_step HB7.out hb8)
          have HA8 := hide (HA7.out.later hb8)
          have HH8 := hide (HH7.out.later hb8)
          have K1 := hide (J1.out.later hb8)
          have S2 := same21 i i (some ⟨gP, 0, none⟩) p es es es.length cp w8 (by omega) (HRP7.out.later hb8) HH8.out
          rw [show sameB (i : Int) (i : Int) es es = true by unfold sameB; simp] at S2
          have S2' := hide S2
          obtain ⟨q0, q1', _, _⟩ := HA8.out
          obtain ⟨r0, r1, _, _⟩ := HNP.out.later hb8
          clear hb8 S2
          go_wp2_with fail
          refine S2'.out.mono ?_
          rintro e w9 ⟨rfl, hb9⟩
          have HB9 := hide (below_step HB8.out hb9)
          have HA9 := hide (HA8.out.later hb9)
          have HH9 := hide (HH8.out.later hb9)
          have J1 := hide (K1.out.later hb9)
          clear hb9 q0 q1' r0 r1
          obtain ⟨q0, q1', _, _⟩ := HA9.out
          have V := hide (moved20 i p q1 es to_ cp c1 w9 l1 HH9.out J1.out)
          go_wp2_with fail
          refine V.out.mono ?_
          rintro e wA ⟨hMP, hbA⟩
          have HBA := hide (below_step HB9.out hbA)
          have HAA := hide (HA9.out.later hbA)
          have HHA := hide (HH9.out.later hbA)
          have K1 := hide (J1.out.later hbA)
          clear hbA q0 q1' V
          rcases hMP with ⟨hE, gM, rfl, hrM⟩ | ⟨hE, rfl⟩
          rotate_left
          · obtain ⟨E, hEE⟩ : ∃ E, movE i es to_ = E := ⟨_, rfl⟩
            rw [hEE] at hE ⊢
            have hEb : (E == 0) = false := by simpa using hE
            have hb := HBA.out
            have hbs := hb.size
            go_wp2
            go_ret
            exact ⟨rfl, by go_grown⟩
          obtain ⟨_, htl, heT⟩ := movE_net hE
          have htl' : to_.length = i := by omega
          have hinT := hide (chosen_in heT)
          have HBE : Hid (movE i (rename es to_) (bkN to_ i i) = 0) := movE_of (netB_of (by omega) (by omega) (by rw [rename_length]; omega) (rename_ends HE.out heT htl')) (by rw [bkN_length]) (back_ok heT htl')
          have HBK := hide (rename_back HE.out heT htl')
          obtain ⟨WA, hWA⟩ : ∃ WA, WA = wA.alloc (nbx i (some ⟨gM, 0, none⟩) es.length es.length) := ⟨_, rfl⟩
          have hbA : Below wA.heap.size wA WA := by rw [hWA]; go_grown
          have HBB := hide (below_step HBA.out hbA)
          have HAB := hide (HAA.out.later hbA)
          have HHB := hide (HHA.out.later hbA)
          have J1 := hide (K1.out.later hbA)
          have HRM := hide (hrM.has.later hbA)
          have NM : NOwn WA wA.heap.size i (some ⟨gM, 0, none⟩) es.length es.length := by rw [hWA]; exact nown_new _ _ _ _ _
          have HNM := hide NM
          obtain ⟨q0, q1', _, _⟩ := HAA.out
          have zn : w.heap.size < wA.heap.size := block_lt_of_cell q0
          clear hbA hrM NM hE heT htl
          go_wp2_with (refine wpList_make_full _ rfl (.tmp 153) (.tmp 153) 25 rfl (wA.heap.size + 1) 3 i0 (.int .i64 0) 1 Try.underlying25 hi0 hz0 hz1 .i64 .i64 _ _ i rfl rfl rfl rfl ?m1 ?m2 ?m3 ?_)
          case m1 => rw [hz2]; omega
          case m2 => unfold maxLen; omega
          case m3 => simp
          intro wB hown hgrow
          have hRow : IRow wB (wA.heap.size + 1) (wA.heap.size + 1) i (List.replicate i 0) := irow_made (by simpa using hown)
          have hbB : Below WA.heap.size WA wB := by rw [hWA]; exact below_made hgrow
          have hWs : WA.heap.size = wA.heap.size + 1 := by rw [hWA]; simp
          rw [← hWs] at hRow
          have HRow := hide hRow
          have HBC := hide hbB
          have HAC := hide (HAB.out.later hbB)
          obtain ⟨gm, hgm⟩ : ∃ gm, gm = wA.heap.size := ⟨_, rfl⟩
          rw [← hgm] at HNM ⊢
          clear hown hgrow hRow hbB q0 q1' zn hWA
          rw [show gm + 1 = WA.heap.size by omega]
          clear hWs hgm
          go_wp2_with fail
          go_loopw [22] (fun t wr => ∃ k : Nat, k ≤ i ∧ t = .int .i64 k ∧ Hid (Below WA.heap.size WA wr) ∧ Hid (IRow wr WA.heap.size WA.heap.size i (bkN to_ i k))) (fun t _ => i - (intOf t).toNat)
          case atStart => exact ⟨0, by omega, rfl, HBC.out, HRow.out⟩
          case round =>
            obtain ⟨k, hk, rfl, HBz, HRz⟩ := hrel
            obtain ⟨q0, q1', _, _⟩ := HAB.out.later HBz.out
            by_cases hlk : k < i
            · obtain ⟨x0, x1⟩ := hinT.out k (by omega)
              have hS : Hid (bkN to_ i (k + 1) = (bkN to_ i k).set (iat to_ k).toNat k) := rfl
              obtain ⟨R, hRR⟩ : ∃ R, bkN to_ i k = R := ⟨_, rfl⟩
              rw [hRR] at hS HRz
              rcases J1.out.later HBz.out with h | ⟨b1, o1, rfl, L1⟩
              · rw [h] at htl'; simp at htl'; omega
              have d0 := L1 k (by omega)
              obtain ⟨x, hx⟩ : ∃ x, iat to_ k = x := ⟨_, rfl⟩
              rw [hx] at hS x0 x1 d0
              obtain ⟨xn, rfl⟩ : ∃ xn : Nat, x = xn := ⟨x.toNat, by omega⟩
              rw [Int.toNat_natCast] at hS
              obtain ⟨c0, f0⟩ := HRz.out.cell (j := xn) (by omega)
              have k1 : (k : Int) < i := by omega
              have k2 : (k : Int) < to_.length := by omega
              clear L1 hRR hx
              go_wp2
              go_roundw
              case rel =>
                refine ⟨k + 1, by omega, by go_num, HBz.out.setCell (by simp) _, ?_⟩
                rw [hS.out]
                exact HRz.out.set xn k
              case measure => simp [intOf]; omega
            · have hin : k = i := by omega
              subst hin
              have V2 := moved20 k (some ⟨gM, 0, none⟩) (some ⟨WA.heap.size, 0, none⟩) (rename es to_) (bkN to_ k k) es.length k wr (by rw [bkN_length]; unfold maxLen; omega) (HRM.out.later HBz.out) HRz.out.has
              rw [rename_length, bkN_length] at V2
              have V2' := hide V2
              have HBD := hide (below_step HBB.out HBz.out)
              have HAD := hide (HAB.out.later HBz.out)
              have HHD := hide (HHB.out.later HBz.out)
              obtain ⟨r0, r1, _, _⟩ := HNM.out.later HBz.out
              clear V2
              go_wp2_with fail
              refine V2'.out.mono ?_
              rintro e wC ⟨hMP, hbC⟩
              rcases hMP with ⟨_, gN, rfl, hrN⟩ | ⟨hE, _⟩
              rotate_left
              · exact absurd HBE.out hE
              rw [HBK.out, rename_length] at hrN
              rw [rename_length]
              obtain ⟨WC, hWC⟩ : ∃ WC, WC = wC.alloc (nbx k (some ⟨gN, 0, none⟩) es.length es.length) := ⟨_, rfl⟩
              have hbC' : Below wC.heap.size wC WC := by rw [hWC]; go_grown
              have hbC'' := below_step hbC hbC'
              have HBE2 := hide (below_step HBD.out hbC'')
              have S4 := same21 k k (some ⟨gN, 0, none⟩) p es es es.length cp WC (by omega) (hrN.has.later hbC') (HHD.out.later hbC'')
              rw [show sameB (k : Int) (k : Int) es es = true by unfold sameB; simp] at S4
              have S4' := hide S4
              clear q0 q1' r0 r1
              obtain ⟨q0, q1', _, _⟩ := HAD.out.later hbC
              have zn : w.heap.size < wC.heap.size := block_lt_of_cell q0
              clear hbC hbC' hbC'' hrN S4
              go_wp2_with fail
              rw [show wC.alloc (nbx k (some ⟨gN, 0, none⟩) es.length es.length) = WC from hWC.symm]
              clear hWC
              refine S4'.out.mono ?_
              rintro e wD ⟨rfl, hbD⟩
              have HBF := hide (below_step HBE2.out hbD)
              clear hbD q0 q1' zn
              go_wp2
              go_ret
              exact ⟨rfl, HBF.out⟩
end Go.Proofs.Ytmmbbfmkhbengaa
