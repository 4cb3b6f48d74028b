/- The document's Parts, with nothing left out, in every world. -/
import Derived.Test.YtobkejnlkjieoaaZG01
import Derived.Test.YtobkejnlkjieoaaZH0
import Derived.Test.YtobkejnlkjieoaaZC03
import Derived.Test.YtobkejnlkjieoaaZC13
import Derived.Test.YtobkejnlkjieoaaZC7
import Derived.Deep.LoopGhost
import Derived.WalkSmall
namespace Go.Proofs.Ytobkejnlkjieoaa
open Go.RowKit Go.Sort
open Go
/-- What the document's Parts tells. -/
def PartsX (es : List Pt) (G K : Nat → Bool) (n : Nat) (w : World) (e : Ending) (w' : World) : Prop := ∃ (gc k : Nat) (C : List Int) (r : Nat → Nat), e = .returned (.tuple #[.slice (some ⟨gc, 0, none⟩) n n, .int .i64 (k : Int)]) ∧ IRow w' w.heap.size gc n C ∧ LabX es G K n k n C r NoDue ∧ Below w.heap.size w w'
set_option maxRecDepth 100000 in
set_option maxHeartbeats 8000000 in
theorem parts31nn (n : Nat) (p : Option Addr) (es : List Pt) (cp : Nat) (w : World) (h : Has w p es) (hm : netB n es = true) : Calls Try.prog 31 #[nv n p es.length cp, .slice none 0 0, .slice none 0 0] w fun e w' => PartsX es (fun _ => false) (fun _ => false) n w e w' := by
  obtain ⟨W, hW, hb, a0⟩ := one_net w n p es.length cp
  obtain ⟨n0, n1, hes, _⟩ := netB_is hm
  have HM := hide hm
  have HH := hide (h.later hb)
  have HB := hide hb
  have HA := hide a0
  have BL := hide (blank41 n (-1) W (by omega))
  clear h hb a0 hm
  go_enter Try.func31, Try.ntmps31
  go_wp2_with fail
  rw [← hW]
  refine BL.out.mono ?_
  rintro e w1 ⟨gc, rfl, hc1, hb1⟩
  have HC1 := hide hc1
  have HB1 := hide hb1
  have OU := hide (outs42 n p es cp w1 (HH.out.later hb1) HM.out)
  obtain ⟨q0, q1, _, _⟩ := HA.out.later hb1
  clear hc1 hb1 BL
  go_wp2_with fail
  refine OU.out.mono ?_
  rintro e w2 ⟨g, rv, rfl, hr2, hb2⟩
  have hlt1 := HC1.out.lt
  have HPM : Hid (PMW W w2 gc g n w1.heap.size w2.heap.size rv (outL es (2 * es.length)) (List.replicate n (-1))) := ⟨below_step HB1.out hb2, HC1.out.later hb2, hr2, Nat.le_refl _⟩
  have HPF : Hid (PF W gc g n w1.heap.size w2.heap.size rv) := ⟨hlt1.2, hb2.size, hr2.size.2, hr2.all_lt, hlt1.1⟩
  clear hr2 hb2 OU q0 q1 HC1 HB1 hlt1
  go_wp2_with fail
  obtain ⟨kb, hkb⟩ : ∃ kb, w.heap.size = kb := ⟨_, rfl⟩
  rw [hkb] at HA ⊢
  have HKB := hide hkb
  obtain ⟨Bo, hBo⟩ : ∃ B, w1.heap.size = B := ⟨_, rfl⟩
  obtain ⟨Bt, hBt⟩ : ∃ B, w2.heap.size = B := ⟨_, rfl⟩
  rw [hBo, hBt] at HPM HPF
  clear hkb hBo hBt hW
  have HIN := hide (fun t ht => fromL_in HM.out t ht)
  go_loopw [9, 11] (fun t9 t11 wr => ∃ k s : Nat, k ≤ s ∧ s ≤ n ∧ t9 = .int .i64 k ∧ t11 = .int .i64 s ∧ Hid (∃ C r, PMW W wr gc g n Bo Bt rv (outL es (2 * es.length)) C ∧ LabX es (fun _ => false) (fun _ => false) n k s C r NoDue)) (fun _ t11 _ => n - (intOf t11).toNat)
  case atStart => exact ⟨0, 0, by omega, by omega, rfl, rfl, _, fun _ => 0, HPM.out, labx_start n (fun t ht => (HIN.out t ht).2)⟩
  case round =>
    obtain ⟨k, s, hks, hsn, rfl, rfl, HR⟩ := hrel
    obtain ⟨C, r, hP, hLab⟩ := HR.out
    obtain ⟨q0, q1, _, _⟩ := HA.out.later hP.below
    by_cases hlt : s < n
    · have i1 : (s : Int) < n := by omega
      have i2 : (0 : Int) ≤ s := by omega
      obtain ⟨c0, f0⟩ := hP.lab.cell hlt
      have HP := hide hP
      have HLab := hide hLab
      clear hP hLab HR
      by_cases hcs : 0 ≤ iat C s
      · have HL2 := hide (HLab.out.over (Or.inl hcs))
        obtain ⟨y, hy⟩ : ∃ y, iat C s = y := ⟨_, rfl⟩
        rw [hy] at hcs c0
        clear hy
        go_wp2
        go_roundw
        case rel => exact ⟨k, s + 1, by omega, by omega, rfl, by go_num, C, r, HP.out, HL2.out⟩
        case measure => simp [intOf]; omega
      · have HL2 := hide (HLab.out.begin hlt hcs rfl)
        have HU := hide (unl_set C s k (by rw [HLab.out.len]; exact hlt) hcs (by omega))
        obtain ⟨y, hy⟩ : ∃ y, iat C s = y := ⟨_, rfl⟩
        rw [hy] at hcs c0
        clear hy
        have g1 : gc < wr.heap.size := HP.out.lab.lt.2
        have g2 : gc ≠ wr.heap.size := by omega
        go_wp2_with fail
        obtain ⟨V, hV⟩ : ∃ V, V = (wr.setCell ⟨gc, s, none⟩ (.int .i64 k)).alloc (.cells #[.int .i64 s] 3) := ⟨_, rfl⟩
        have HPV : Hid (PMW W V gc g n Bo Bt rv (outL es (2 * es.length)) (C.set s k)) := by show PMW _ _ _ _ _ _ _ _ _ _; rw [hV]; exact (HP.out.set HPF.out s k).later (by go_grown)
        have HTV : Hid (IOwns V Bt (.slice (some ⟨wr.heap.size, 0, none⟩) 1 1) (nums [s])) := by
          show IOwns _ _ _ _
          rw [hV, show wr.heap.size = (wr.setCell ⟨gc, s, none⟩ (.int .i64 k)).heap.size by simp]
          exact World.ownsRow_lit _ #[.int .i64 s] 1 (by have := HP.out.size; simpa using this) (by unfold maxLen; omega) rfl
        rw [← hV]
        obtain ⟨kt, hkt⟩ : ∃ kt, wr.heap.size = kt := ⟨_, rfl⟩
        rw [hkt] at HTV ⊢
        have hCl := HLab.out.len
        have hul := unl_le (C.set s (k : Int))
        have HTS : Hid (iat (C.set s (k : Int)) s = k) := iat_putW (by omega)
        clear hV hkt c0 f0 q0 q1 g1 g2 HP HLab HU
        obtain ⟨C1, hC1⟩ : ∃ C1, C.set s (k : Int) = C1 := ⟨_, rfl⟩
        rw [hC1] at HPV HL2 HTS hul
        have hul2 : unl C1 ≤ n := by rw [← hC1, List.length_set] at hul; rw [← hC1]; omega
        clear hC1 hul hCl
        obtain ⟨r1, hr1⟩ : ∃ r1, upd r k s = r1 := ⟨_, rfl⟩
        rw [hr1] at HL2
        clear hr1 C
        go_loopg [12] (2 * unl C1 + 1) (fun gk t12 wr => ∃ (T : List Nat) (C : List Int) (pT : Option Addr) (cT : Nat), t12 = .slice pT T.length cT ∧ gk ≤ 2 * n + 1 ∧ Hid (2 * unl C + T.length ≤ gk) ∧ Hid (PMW W wr gc g n Bo Bt rv (outL es (2 * es.length)) C) ∧ Hid (IOwns wr Bt (.slice pT T.length cT) (nums T)) ∧ Hid (LabX es (fun _ => false) (fun _ => false) n (k + 1) (s + 1) C r1 (Due T)) ∧ Hid (∀ t, t ∈ T → t < n ∧ iat C t = k))
        case atStart => exact ⟨[s], C1, _, _, rfl, by omega, Nat.le_refl _, HPV.out, HTV.out, HL2.out, fun t ht => by simp at ht; subst ht; exact ⟨hlt, HTS.out⟩⟩
        case round =>
          obtain ⟨T, C, pT, cT, rfl, hgk, HMe, HP, HO, HL, HT⟩ := hrel
          obtain ⟨q0, q1, _, _⟩ := HA.out.later HP.out.below
          rcases List.eq_nil_or_concat T with hT | ⟨T1, v, hT⟩
          · have HL3 := hide (HL.out.stop hT)
            subst hT
            have hks2 : k < s + 1 := by omega
            clear HL HT HMe HO
            go_wp2
            go_roundw
            case rel => exact ⟨k + 1, s + 1, by omega, by omega, by go_num, by go_num, C, r1, HP.out, HL3.out⟩
            case measure => simp [intOf]; omega
          · rw [List.concat_eq_append] at hT
            subst hT
            obtain ⟨b, c', hbv, hbc, hbB, hbl⟩ := iowns_blockW HO.out (by rw [nums_length]; simp)
            rw [nums_length] at hbv hbc
            simp only [Value.slice.injEq, true_and] at hbv
            obtain ⟨rfl, rfl⟩ := hbv
            have HO1 := hide (pop_int HO.out)
            have HL1 := hide (HL.out.pop)
            have HT1 : Hid (∀ t, t ∈ T1 → t < n ∧ iat C t = k) := fun t ht => HT.out t (by simp [ht])
            obtain ⟨hvn, hvk⟩ := HT.out v (by simp)
            have HVK := hide hvk
            have t0 : wr.cell? ⟨b, T1.length, none⟩ = some (.int .i64 v) := by
              have h1 := HO.out
              unfold IOwns at h1
              rw [nums_length] at h1
              have h2 := World.ownsRow.cellAt h1 T1.length (by simp)
              rw [h2, nums_more]
              simp [icells, nums]
            have HMe1 : Hid (2 * unl C + T1.length + 1 ≤ gk) := by show _ ≤ _; have := HMe.out; simp at this; omega
            obtain ⟨tl, htl⟩ : ∃ tl, T1.length = tl := ⟨_, rfl⟩
            have e1 : ((T1 ++ [v]).length : Int) = tl + 1 := by simp; omega
            have htb : tl + 1 ≤ cT := by simp at hbc; omega
            have htc : tl ≤ 3000 := by have := HMe1.out; omega
            rw [htl] at t0
            have HTL := hide htl
            rw [htl] at HO1
            clear htl HO HL HT HMe hvk hbc
            have e3 : (T1 ++ [v]).length = tl + 1 := by omega
            rw [e3]
            clear e1 e3
            go_wp2_with fail
            have hLl := outL_length es (2 * es.length) v
            obtain ⟨Lv, hLv⟩ : ∃ Lv, outL es (2 * es.length) v = Lv := ⟨_, rfl⟩
            rw [hLv] at hLl HL1
            have HLV := hide hLv
            obtain ⟨pv, cv, hrv, _⟩ := IOwns.form (HP.out.rows.2.2 v hvn)
            rw [hLv] at hrv
            have HRV := hide hrv
            have HTS1 : Hid (2 * unl C + T1.length + 1 ≤ gk) := HMe1.out
            clear hLv hrv q0 q1 t0
            go_loopw [12, 14] (fun t12 t14 wr => ∃ (T : List Nat) (C : List Int) (pT : Option Addr) (cT j : Nat), t12 = .slice pT T.length cT ∧ t14 = .int .i64 j ∧ j ≤ Lv.length ∧ Hid (2 * unl C + T.length + 1 ≤ gk) ∧ Hid (PMW W wr gc g n Bo Bt rv (outL es (2 * es.length)) C) ∧ Hid (IOwns wr Bt (.slice pT T.length cT) (nums T)) ∧ Hid (LabX es (fun _ => false) (fun _ => false) n (k + 1) (s + 1) C r1 (DueI T v Lv j)) ∧ Hid (∀ t, t ∈ T → t < n ∧ iat C t = k) ∧ Hid (iat C v = k)) (fun _ t14 _ => Lv.length - (intOf t14).toNat)
            case atStart => exact ⟨T1, C, _, _, 0, by rw [HTL.out], rfl, by omega, HTS1.out, HP.out, by show IOwns _ _ _ _; rw [HTL.out]; exact HO1.out, HL1.out, HT1.out, HVK.out⟩
            case round =>
              clear HP HO1 HL1 HT1 HVK HTS1 HMe1 hbB hbl htb HTL htc C
              obtain ⟨T, C, pT, cT, j, rfl, rfl, hj, HMe, HP, HO, HL, HT, HVK⟩ := hrel
              obtain ⟨q0, q1, _, _⟩ := HA.out.later HP.out.below
              obtain ⟨d0, _⟩ := HP.out.rows.cell hvn
              rw [HRV.out] at d0
              have i3 : (v : Int) < n := by omega
              have i4 : (0 : Int) ≤ v := by omega
              by_cases hjl : j < Lv.length
              · obtain ⟨t, ht1, ht2, ht3⟩ := outL_at (es := es) (h := 2 * es.length) (v := v) (j := j) (by rw [HLV.out]; exact hjl)
                rw [HLV.out] at ht1
                obtain ⟨x1, x2⟩ := toL_in HM.out t ht2
                obtain ⟨x, hx⟩ : ∃ x : Nat, toL es t = x := ⟨(toL es t).toNat, by omega⟩
                rw [hx] at x1 x2
                have hxn : x < n := by omega
                have hrow := HP.out.rows.2.2 v hvn
                rw [HRV.out, HLV.out] at hrow
                obtain ⟨br, cr, hbr, _, _, _⟩ := iowns_blockW hrow (by omega)
                simp only [Value.slice.injEq, true_and] at hbr
                obtain ⟨rfl, rfl⟩ := hbr
                have r0 := hrow.at_ hjl
                rw [ht1] at r0
                have CT : ∀ dd os, Calls Try.prog 43 #[nv n p es.length cp, .int .i64 t] (grow (redrawn wr dd) os) fun e w'' => e = .returned (.int .i64 x) ∧ ∃ p : Regrown, w'' = grow (redrawn wr p.d) p.os := fun dd os => Calls.regrown_of (by rw [← hx]; exact to43 n p es cp t _ ((HH.out.later HP.out.below).later (below_regrown wr dd os)) ht2 (by omega))
                have Q0 := cell_regrown q0
                have Q1 := cell_regrown q1
                have D0 := cell_regrown d0
                have R0 := cell_regrown r0
                have j1 : (j : Int) < Lv.length := by omega
                have j2 : (0 : Int) ≤ j := by omega
                have HX := hide hx
                have HT3 := hide ht3
                have HJ := hide ht1
                obtain ⟨ln, hln⟩ : ∃ ln, Lv.length = ln := ⟨_, rfl⟩
                have HLN := hide hln
                rw [hln] at d0 D0 j1 hj hjl hLl
                clear hx ht3 ht1 hrow x1 hln
                go_wp2_with fail
                refine wp_region_quiet_below (by kernel_rfl) (by kernel_rfl) ?_
                repeat (go_big_quiet_step (first | with_reducible exact CT _ _))
                refine wpQuiet_nil ?_
                intro w3 hw'
                have hb3 : Below wr.heap.size wr w3 := by
                  obtain ⟨⟨dq, osq⟩, hw''⟩ := hw'
                  rw [hw'']
                  exact below_regrown wr dq osq
                have HP3 := hide (HP.out.later hb3)
                have HO3 := hide (HO.out.later hb3)
                clear hw' hb3 q0 q1 d0 r0 Q0 Q1 D0 R0 CT HP HO
                obtain ⟨c0, f0⟩ := HP3.out.lab.cell hxn
                by_cases hcx : 0 ≤ iat C x
                · have HL4 := hide (HL.out.skip hvn HJ.out ht2 HT3.out HX.out (by rw [HVK.out]; omega) (by rw [HVK.out]; omega) (Or.inl hcx))
                  obtain ⟨y, hy⟩ : ∃ y, iat C x = y := ⟨_, rfl⟩
                  rw [hy] at hcx c0
                  clear hy HL
                  go_wp2
                  go_roundw
                  case rel => exact ⟨T, C, pT, cT, j + 1, rfl, by go_num, by rw [HLN.out]; omega, HMe.out, HP3.out, HO3.out, HL4.out, HT.out, HVK.out⟩
                  case measure => have := HLN.out; simp [intOf]; omega
                · have HL4 := hide (HL.out.label HJ.out ht2 HT3.out HX.out hvn hxn HVK.out hcx rfl rfl)
                  have HU := hide (unl_set C x k (by rw [HL.out.len]; exact hxn) hcx (by omega))
                  have HT4 : Hid (∀ t, t ∈ T ++ [x] → t < n ∧ iat (C.set x (k : Int)) t = k) := by
                    intro t ht
                    by_cases htx : t = x
                    · rw [htx]; exact ⟨hxn, iat_putW (by rw [HL.out.len]; exact hxn)⟩
                    · rw [iat_put_neW htx]
                      rcases List.mem_append.1 ht with h | h
                      · exact HT.out t h
                      · simp at h; exact absurd h htx
                  have HV4 : Hid (iat (C.set x (k : Int)) v = k) := by
                    show _ = _
                    rw [iat_put_neW (fun e => hcx (by rw [← e, HVK.out]; omega))]
                    exact HVK.out
                  obtain ⟨y, hy⟩ : ∃ y, iat C x = y := ⟨_, rfl⟩
                  rw [hy] at hcx c0
                  obtain ⟨Z, hZ⟩ : ∃ Z, Z = w3.setCell ⟨gc, x, none⟩ (.int .i64 k) := ⟨_, rfl⟩
                  have hPZ : PMW W Z gc g n Bo Bt rv (outL es (2 * es.length)) (C.set x k) := by rw [hZ]; exact HP3.out.set HPF.out x k
                  have hOZ : IOwns Z Bt (.slice pT T.length cT) (nums T) := by rw [hZ]; exact ownsRow_setCell_below HO3.out (by have := HPF.out.lo; have := HPF.out.bo; show gc < Bt; omega) _
                  have htl : (nums T).length ≤ 90000 := by rw [nums_length]; have := HMe.out; omega
                  obtain ⟨v1, D, e1, o1, hbD⟩ := push_intW hOZ x hPZ.size htl
                  have HPD := hide (hPZ.under HPF.out hbD)
                  obtain ⟨p1, c1, hv1, _⟩ := IOwns.form o1
                  subst hv1
                  have HOD := hide o1
                  have hzs : Z.heap.size = w3.heap.size := by rw [hZ]; simp
                  rw [hzs, hZ] at e1
                  have g1 : gc < w3.heap.size := HP3.out.lab.lt.2
                  have g2 : gc ≠ w3.heap.size := by omega
                  have HME := hide (And.intro HMe.out HU.out)
                  clear hy HL HT HMe HU hPZ hOZ htl o1 hbD hzs hZ HP3 HO3 HVK HRV
                  go_wp2_with (at_builtin; refine wpList_run_append rfl (.tmp 116) (.tmp 118) 32 rfl 32 rfl _ _ _ D rfl rfl e1 ?_)
                  clear e1 c0 f0 g1 g2
                  go_wp2
                  go_roundw
                  case rel =>
                    refine ⟨T ++ [x], C.set x k, p1, c1, j + 1, ?_, by go_num, by rw [HLN.out]; omega, ?_, HPD.out, ?_, HL4.out, HT4.out, HV4.out⟩
                    · simp [nums]
                    · show _ ≤ _
                      have := HME.out
                      simp
                      omega
                    · show IOwns _ _ _ _
                      have := HOD.out
                      rw [← nums_more, nums_length] at this
                      exact this
                  case measure => have := HLN.out; simp [intOf]; omega
              · have hjn : j = Lv.length := by omega
                have j1 : ¬ (j : Int) < Lv.length := by omega
                have HL4 := hide (HL.out.shut (by omega))
                clear HL hjn
                go_wp2
                go_roundg (gk - 1)
                case measure => have := HMe.out; omega
                case rel => exact ⟨T, C, pT, cT, rfl, by omega, by have := HMe.out; show _ ≤ _; omega, HP.out, HO.out, HL4.out, HT.out⟩
    · have hsn2 : s = n := by omega
      subst hsn2
      have i1 : ¬ (s : Int) < s := by omega
      have HP := hide hP
      have HLab := hide hLab
      clear hP hLab HR
      go_wp2
      go_ret2
      exact ⟨gc, k, C, r, rfl, HP.out.lab.base (by have := HB.out.size; omega), HLab.out, below_step HB.out HP.out.below⟩
end Go.Proofs.Ytobkejnlkjieoaa
