/- NetChanges, in every world. -/
import Derived.Test.YtmmbbfmkhbengaaM5
import Derived.Test.YtmmbbfmkhbengaaQ3
import Derived.Test.YtmmbbfmkhbengaaS1
namespace Go.Proofs.Ytmmbbfmkhbengaa
open Go.RowKit Go.Sort
open Go

theorem ihas_take {w : World} {b off : Nat} {l : List Int} (h : ILies w b off l) (k : Nat) : ILies w b off (l.take k) := by
  intro j hj
  rw [List.length_take] at hj
  have e1 : iat (l.take k) j = iat l j := by
    unfold iat
    rw [List.getD_eq_getElem?_getD, List.getD_eq_getElem?_getD, List.getElem?_take_of_lt (by omega)]
  rw [e1]
  exact h j (by omega)

set_option maxRecDepth 100000 in
set_option maxHeartbeats 32000000 in
theorem changes_walk (n : Int) (p : Option Addr) (es : List Pt) (cp : Nat) (e0 u0 v0 : Int) (w : World) (h : Has w p es) :
    Calls Try.prog 6 #[nv n p es.length cp, .int .i64 e0, .int .i64 u0, .int .i64 v0] w fun e w' => e = .returned (.bool true) ∧ Below w.heap.size w w' := by
  obtain ⟨W, hW, hb, a0⟩ := one_net w n p es.length cp
  have HB := hide hb
  have HA := hide a0
  have HH := hide (h.later hb)
  clear h hb a0
  go_enter Try.func6, Try.ntmps6
  go_wp2_with fail
  rw [← hW]
  clear hW
  refine (begun8 _).mono ?_
  rintro e w1 ⟨rfl, hb1⟩
  have HB1 := hide (below_step HB.out hb1)
  have HA1 := hide (HA.out.later hb1)
  have HH1 := hide (HH.out.later hb1)
  clear hb1 HB HA HH
  have M := hide (may12 n p es cp w1 HH1.out)
  obtain ⟨q0, q1', _, _⟩ := HA1.out
  go_wp2_with fail
  refine M.out.mono ?_
  rintro e w2 ⟨rfl, hb2⟩
  have HB2 := hide (below_step HB1.out hb2)
  have HA2 := hide (HA1.out.later hb2)
  have HH2 := hide (HH1.out.later hb2)
  clear hb2 q0 q1' HB1 HA1 HH1 M
  cases hm : netB n es
  · go_wp2
    go_ret
    exact ⟨rfl, HB2.out⟩
  obtain ⟨n0, n1, hes, hends⟩ := netB_is hm
  have HE := hide hends
  clear hends
  obtain ⟨q0, q1', _, _⟩ := HA2.out
  by_cases hn2 : 200 < n
  · go_wp2
    go_ret
    exact ⟨rfl, HB2.out⟩
  by_cases he2 : (200 : Int) < es.length
  · go_wp2
    go_ret
    exact ⟨rfl, HB2.out⟩
  obtain ⟨m, rfl⟩ : ∃ m : Nat, n = m := ⟨n.toNat, by omega⟩
  have D := hide (degrees25 m p es cp w2 HH2.out)
  go_wp2_with fail
  refine D.out.mono ?_
  rintro e w3 ⟨hD, hb3⟩
  have HB3 := hide (below_step HB2.out hb3)
  have HA3 := hide (HA2.out.later hb3)
  have HH3 := hide (HH2.out.later hb3)
  clear hb3 q0 q1' HB2 HA2 HH2 D
  rcases hD with ⟨_, gD, rfl, hrD⟩ | ⟨hD, _⟩
  rotate_left
  · rw [hm] at hD; cases hD
  rw [Int.toNat_natCast] at hrD ⊢
  have HRD := hide hrD
  clear hrD
  have SP := hide (split29 m p es cp e0 w3 HH3.out)
  obtain ⟨q0, q1', _, _⟩ := HA3.out
  go_wp2_with fail
  refine SP.out.mono ?_
  rintro e w4 ⟨hSP, hb4⟩
  have HB4 := hide (below_step HB3.out hb4)
  have HA4 := hide (HA3.out.later hb4)
  have HH4 := hide (HH3.out.later hb4)
  have HRD4 := hide (HRD.out.later hb4)
  clear hb4 q0 q1' HB3 HA3 HH3 HRD SP
  obtain ⟨q0, q1', _, _⟩ := HA4.out
  have zn : w.heap.size < w4.heap.size := block_lt_of_cell q0
  rcases hSP with ⟨hE, gS, rfl, hrS⟩ | ⟨hE, rfl⟩
  · obtain ⟨_, ⟨x0, x1⟩, x2, x3⟩ := splitE_is hE
    obtain ⟨en, rfl⟩ : ∃ en : Nat, e0 = en := ⟨e0.toNat, by omega⟩
    rw [Int.toNat_natCast] at hrS
    have hen : en < es.length := by omega
    obtain ⟨sd1, sd2⟩ := split_deg HE.out hen
    have hsn : netB ((m : Int) + 1) (splitL m es en) = true := netB_of (by omega) x2 (by rw [splitL_length]; omega) (by have := split_ends HE.out hen; rw [Int.natCast_add] at this; exact this)
    have hsl := splitL_length m es en
    obtain ⟨SL, hSL⟩ : ∃ SL, splitL m es en = SL := ⟨_, rfl⟩
    rw [hSL] at hrS sd1 sd2 hsn hsl
    obtain ⟨W4, hW4⟩ : ∃ W4, W4 = w4.alloc (nbx ((m : Int) + 1) (some ⟨gS, 0, none⟩) (es.length + 1) (es.length + 1)) := ⟨_, rfl⟩
    have hb4 : Below w4.heap.size w4 W4 := by rw [hW4]; go_grown
    have HB5 := hide (below_step HB4.out hb4)
    have HA5 := hide (HA4.out.later hb4)
    have HH5 := hide (HH4.out.later hb4)
    have HRD5 := hide (HRD4.out.later hb4)
    have D2 := degrees25 ((m : Int) + 1) (some ⟨gS, 0, none⟩) SL (es.length + 1) W4 (hrS.has.later hb4)
    rw [hsl] at D2
    have D2' := hide D2
    clear hb4 hrS D2 HB4 HA4 HH4 HRD4
    go_wp2_with fail
    rw [show w4.alloc (nbx ((m : Int) + 1) (some ⟨gS, 0, none⟩) (es.length + 1) (es.length + 1)) = W4 from hW4.symm]
    clear hW4 q0 q1' zn
    refine D2'.out.mono ?_
    rintro e w5 ⟨hD, hb5⟩
    have HB6 := hide (below_step HB5.out hb5)
    have HA6 := hide (HA5.out.later hb5)
    have HH6 := hide (HH5.out.later hb5)
    have HRD6 := hide (HRD5.out.later hb5)
    clear hb5 D2' HB5 HA5 HH5 HRD5
    rcases hD with ⟨_, gA, rfl, hrA⟩ | ⟨hD, _⟩
    rotate_left
    · rw [hsn] at hD; cases hD
    rw [show ((m : Int) + 1).toNat = m + 1 by omega] at hrA ⊢
    rw [hsl] at hrA
    obtain ⟨AL, hAL⟩ : ∃ AL, degN SL (m + 1) (es.length + 1) = AL := ⟨_, rfl⟩
    rw [hAL] at hrA sd1 sd2
    obtain ⟨ac, _⟩ := hrA.cell (j := m) (by omega)
    rw [sd1] at ac
    have I := ints30 (some ⟨gA, 0, none⟩) (some ⟨gD, 0, none⟩) (AL.take m) (degN es m es.length) (m + 1) m w5 (by rw [List.length_take]; unfold maxLen; omega) (Or.inr ⟨gA, 0, rfl, ihas_take hrA.2.lies m⟩) HRD6.out.has
    have hal : (AL.take m).length = m := by rw [sd2, degN_length]
    rw [decide_eq_true sd2, hal, degN_length] at I
    have I' := hide I
    obtain ⟨q0, q1', _, _⟩ := HA6.out
    have e1 : (m : Int) < (m : Int) + 1 := by omega
    have e2 : (m : Int) ≤ (m : Int) + 1 := by omega
    clear I hal hrA sd1 sd2 hsn hsl hSL hAL
    go_wp2_with fail
    refine I'.out.mono ?_
    rintro e wS ⟨rfl, hb⟩
    have HBS := hide (below_step HB6.out hb)
    have HAS := hide (HA6.out.later hb)
    have HHS := hide (HH6.out.later hb)
    have HRS := hide (HRD6.out.later hb)
    clear hb HB6 HA6 HH6 HRD6 I' q0 q1' ac e1 e2
    obtain ⟨q0, q1', _, _⟩ := HAS.out
    go_wp2_with fail
    clear q0 q1'
    have MG := hide (merge31 m p es cp u0 v0 wS HHS.out)
    refine MG.out.mono ?_
    rintro e w7 ⟨hMP, hb7⟩
    have HB7 := hide (below_step HBS.out hb7)
    have HA7 := hide (HAS.out.later hb7)
    have HH7 := hide (HHS.out.later hb7)
    have HR7 := hide (HRS.out.later hb7)
    clear hb7 HBS HAS HHS HRS MG
    obtain ⟨q0, q1', _, _⟩ := HA7.out
    have zn : w.heap.size < w7.heap.size := block_lt_of_cell q0
    rcases hMP with ⟨hE', gM, gT, rfl, hrM, hrT⟩ | ⟨hE', rfl⟩
    · obtain ⟨_, ⟨x0, x1⟩, ⟨y0, y1⟩, hne⟩ := mergE_is hE'
      obtain ⟨u, rfl⟩ : ∃ u : Nat, u0 = u := ⟨u0.toNat, by omega⟩
      obtain ⟨v, rfl⟩ : ∃ v : Nat, v0 = v := ⟨v0.toNat, by omega⟩
      simp only [Int.toNat_natCast] at hrM hrT ⊢
      have hu : u < m := by omega
      have hv : v < m := by omega
      have huv : u ≠ v := by omega
      have HMD : Hid (∀ j, j < m → iat (degN (rename es (mergeL m u v)) (m - 1) es.length) (iat (mergeL m u v) j).toNat = if j = u ∨ j = v then iat (degN es m es.length) u + iat (degN es m es.length) v else iat (degN es m es.length) j) := fun j hj => merge_deg HE.out hu hv hj huv
      have HMI : Hid (∀ j, j < m → 0 ≤ iat (mergeL m u v) j ∧ iat (mergeL m u v) j < (m : Int) - 1) := fun j hj => merge_in hu hv huv hj
      have HMU : Hid (iat (mergeL m u v) u = iat (mergeL m u v) v) := (merge_eq hu hv huv).2 (Or.inr (Or.inl ⟨rfl, rfl⟩))
      have hmn : netB ((m : Int) - 1) (rename es (mergeL m u v)) = true := netB_of (by omega) (by omega) (by rw [rename_length]; omega) (by have := merge_ends HE.out hu hv huv; rw [show ((m - 1 : Nat) : Int) = (m : Int) - 1 by omega] at this; exact this)
      have hml := mergeL_length m u v
      have hrl := rename_length es (mergeL m u v)
      have hdi := hide (degN_in es m es.length)
      obtain ⟨ML, hML⟩ : ∃ ML, mergeL m u v = ML := ⟨_, rfl⟩
      rw [hML] at hrM hrT HMD HMI HMU hmn hml hrl
      obtain ⟨RE, hRE⟩ : ∃ RE, rename es ML = RE := ⟨_, rfl⟩
      rw [hRE] at hrM HMD hmn hrl
      obtain ⟨DL, hDL⟩ : ∃ DL, degN es m es.length = DL := ⟨_, rfl⟩
      rw [hDL] at HMD HR7 hdi
      clear hML hRE hDL
      obtain ⟨W7, hW7⟩ : ∃ W7, W7 = w7.alloc (nbx ((m : Int) - 1) (some ⟨gM, 0, none⟩) es.length es.length) := ⟨_, rfl⟩
      have hb7 : Below w7.heap.size w7 W7 := by rw [hW7]; go_grown
      have HB8 := hide (below_step HB7.out hb7)
      have HA8 := hide (HA7.out.later hb7)
      have HH8 := hide (HH7.out.later hb7)
      have HR8 := hide (HR7.out.later hb7)
      have HT8 := hide (hrT.later hb7)
      have NM : NOwn W7 w7.heap.size ((m : Int) - 1) (some ⟨gM, 0, none⟩) es.length es.length := by rw [hW7]; exact nown_new _ _ _ _ _
      have HNM := hide NM
      have D3 := degrees25 ((m : Int) - 1) (some ⟨gM, 0, none⟩) RE es.length W7 (hrM.has.later hb7)
      rw [hrl] at D3
      have D3' := hide D3
      clear hb7 hrM hrT NM D3 HB7 HA7 HH7 HR7
      go_wp2_with fail
      rw [show w7.alloc (nbx ((m : Int) - 1) (some ⟨gM, 0, none⟩) es.length es.length) = W7 from hW7.symm]
      obtain ⟨gm, hgm⟩ : ∃ gm, gm = w7.heap.size := ⟨_, rfl⟩
      rw [← hgm] at HNM ⊢
      clear hgm hW7 q0 q1' zn
      refine D3'.out.mono ?_
      rintro e w8 ⟨hD3, hb8⟩
      have HB9 := hide (below_step HB8.out hb8)
      have HA9 := hide (HA8.out.later hb8)
      have HH9 := hide (HH8.out.later hb8)
      have HR9 := hide (HR8.out.later hb8)
      have HT9 := hide (HT8.out.later hb8)
      have HN9 := hide (HNM.out.later hb8)
      clear hb8 D3' HB8 HA8 HH8 HR8 HT8 HNM
      rcases hD3 with ⟨_, gA, rfl, hrA⟩ | ⟨hD3, _⟩
      rotate_left
      · rw [hmn] at hD3; cases hD3
      rw [show ((m : Int) - 1).toNat = m - 1 by omega] at hrA ⊢
      rw [hrl] at hrA
      have HRA := hide hrA
      obtain ⟨AL, hAL⟩ : ∃ AL, degN RE (m - 1) es.length = AL := ⟨_, rfl⟩
      rw [hAL] at HRA HMD
      clear hrA hmn hml hrl hAL
      have cu := (HT9.out.cell hu).1
      have cv := (HT9.out.cell hv).1
      have iu := HMI.out u hu
      have HMDu := HMD.out u hu
      rw [if_pos (Or.inl rfl)] at HMDu
      rw [HMU.out] at cu iu HMDu
      obtain ⟨X, hX⟩ : ∃ X, iat ML v = X := ⟨_, rfl⟩
      rw [hX] at cu cv iu HMDu
      obtain ⟨xn, rfl⟩ : ∃ xn : Nat, X = xn := ⟨X.toNat, by omega⟩
      rw [Int.toNat_natCast] at HMDu
      have ca := (HRA.out.cell (j := xn) (by omega)).1
      rw [HMDu] at ca
      have cdu := (HR9.out.cell hu).1
      have cdv := (HR9.out.cell hv).1
      have bu := hdi.out u hu
      have bv := hdi.out v hv
      obtain ⟨du, hdu⟩ : ∃ du, iat DL u = du := ⟨_, rfl⟩
      obtain ⟨dv, hdv⟩ : ∃ dv, iat DL v = dv := ⟨_, rfl⟩
      rw [hdu] at ca cdu bu
      rw [hdv] at ca cdv bv
      obtain ⟨q0, q1', _, _⟩ := HA9.out
      obtain ⟨t0, t1, _, _⟩ := HN9.out
      have k1 : (u : Int) < m := by omega
      have k2 : (v : Int) < m := by omega
      have k3 : (0 : Int) ≤ u := by omega
      have k4 : (0 : Int) ≤ v := by omega
      have k5 : (0 : Int) ≤ xn := by omega
      have k6 : (xn : Int) < (m - 1 : Nat) := by omega
      clear HMDu hX hdu hdv
      go_wp2_with fail
      go_quiet (fail)
      go_wp2_with fail
      clear cu cv ca cdu cdv q0 q1' t0 t1 k5 k6 iu bu bv
      go_loopw [19] (fun t wr => ∃ i : Nat, i ≤ m ∧ t = .int .i64 i ∧ Hid (Below w8.heap.size w8 wr)) (fun t _ => m - (intOf t).toNat)
      case atStart => exact ⟨0, by omega, rfl, below_drewN (Below.refl _ _)⟩
      case round =>
        obtain ⟨i, hi, rfl, HBr⟩ := hrel
        have HAr := hide (HA9.out.later HBr.out)
        obtain ⟨q0, q1', _, _⟩ := HAr.out
        by_cases hlt : i < m
        · have j1 : (i : Int) < m := by omega
          have j2 : (0 : Int) ≤ i := by omega
          by_cases hiu : i = u
          · have g1 : ((i : Int) == (u : Int)) = true := by simp; omega
            have g1' : ((i : Int) != (u : Int)) = false := by simp; omega
            go_wp2_with fail
            go_quiet (fail)
            go_wp2_with fail
            go_roundw
            case rel => exact ⟨i + 1, by omega, by go_num, below_drewN HBr.out⟩
            case measure => simp [intOf]; omega
          · have g1 : ((i : Int) == (u : Int)) = false := by simp; omega
            have g1' : ((i : Int) != (u : Int)) = true := by simp; omega
            by_cases hiv : i = v
            · subst hiv
              go_wp2_with fail
              go_quiet (fail)
              go_wp2_with fail
              go_roundw
              case rel => exact ⟨i + 1, by omega, by go_num, below_drewN HBr.out⟩
              case measure => simp [intOf]; omega
            · have g2 : ((i : Int) == (v : Int)) = false := by simp; omega
              have g2' : ((i : Int) != (v : Int)) = true := by simp; omega
              have ct := ((HT9.out.later HBr.out).cell hlt).1
              have it := HMI.out i hlt
              have md := HMD.out i hlt
              rw [if_neg (by omega)] at md
              obtain ⟨X, hX⟩ : ∃ X, iat ML i = X := ⟨_, rfl⟩
              rw [hX] at ct it md
              obtain ⟨yn, rfl⟩ : ∃ yn : Nat, X = yn := ⟨X.toNat, by omega⟩
              rw [Int.toNat_natCast] at md
              have ca := ((HRA.out.later HBr.out).cell (j := yn) (by omega)).1
              have cd := ((HR9.out.later HBr.out).cell hlt).1
              rw [md] at ca
              obtain ⟨di, hdi2⟩ : ∃ di, iat DL i = di := ⟨_, rfl⟩
              rw [hdi2] at ca cd
              have j3 : (yn : Int) < (m - 1 : Nat) := by omega
              have j4 : (0 : Int) ≤ yn := by omega
              clear md hX hdi2
              go_wp2_with fail
              go_quiet (fail)
              go_wp2_with fail
              go_roundw
              case rel => exact ⟨i + 1, by omega, by go_num, below_drewN HBr.out⟩
              case measure => simp [intOf]; omega
        · have hin : i = m := by omega
          subst hin
          obtain ⟨wT, rfl⟩ : ∃ wT, wT = wr := ⟨wr, rfl⟩
          have HBT := hide (below_step HB9.out HBr.out)
          have HHT := hide (HH9.out.later HBr.out)
          have HAT := hide HAr.out
          go_wp2_with fail
          clear q0 q1'
          have hE1 := HE
          have BR := hide (bare32 i p es cp wT HHT.out)
          refine BR.out.mono ?_
          rintro e wU ⟨hBP, hbU⟩
          rcases hBP with ⟨_, gB, vK, rfl, hrB, hoK⟩ | ⟨hBP, _⟩
          rotate_left
          · rw [hm] at hBP; cases hBP
          obtain ⟨pK, cK, rfl, _, _, _, _⟩ := hoK.form
          have hbn : netB i (pick es (bareL es)) = true := netB_of (by omega) (by omega) (by rw [pick_length]; have := takeN_length (bareB es) es.length; unfold bareL; omega) (bare_ends HE.out)
          have hba := bare_again es
          have hbs := bare_simple es
          have hkl : (bareL es).length ≤ 200 := by have := takeN_length (bareB es) es.length; unfold bareL; omega
          have hpl := pick_length es (bareL es)
          obtain ⟨BL, hBL⟩ : ∃ BL, pick es (bareL es) = BL := ⟨_, rfl⟩
          rw [hBL] at hrB hbn hba hbs hpl
          have hpa := pick_all BL
          rw [hpl, ← hba] at hpa
          have hbal : (bareL BL).length = (bareL es).length := by rw [hba, rangeI_length]
          obtain ⟨K, hK⟩ : ∃ K, (bareL es).length = K := ⟨_, rfl⟩
          rw [hK] at hrB hkl hpl hbal ⊢
          obtain ⟨WU, hWU⟩ : ∃ WU, WU = wU.alloc (nbx i (some ⟨gB, 0, none⟩) K K) := ⟨_, rfl⟩
          have hbU' : Below wU.heap.size wU WU := by rw [hWU]; go_grown
          have HBU := hide (below_step HBT.out (below_step hbU hbU'))
          have HRB := hide (hrB.has.later hbU')
          have NB : NOwn WU wU.heap.size i (some ⟨gB, 0, none⟩) K K := by rw [hWU]; exact nown_new _ _ _ _ _
          have HNB := hide NB
          have BR2 := bare32 i (some ⟨gB, 0, none⟩) BL K WU HRB.out
          rw [hpl] at BR2
          have BR2' := hide BR2
          clear hbU hbU' hrB hoK NB BR2 BR hba hBL hK
          go_wp2_with fail
          rw [show wU.alloc (nbx i (some ⟨gB, 0, none⟩) K K) = WU from hWU.symm]
          obtain ⟨gb, hgb⟩ : ∃ gb, gb = wU.heap.size := ⟨_, rfl⟩
          rw [← hgb] at HNB ⊢
          clear hgb hWU
          refine BR2'.out.mono ?_
          rintro e wV ⟨hBP, hbV⟩
          rcases hBP with ⟨_, gC, vA, rfl, hrC, hoA⟩ | ⟨hBP, _⟩
          rotate_left
          · rw [hbn] at hBP; cases hBP
          obtain ⟨pA, cA, rfl, _, _, _, _⟩ := hoA.form
          rw [hpa, hbal] at hrC
          rw [hbal]
          obtain ⟨WV, hWV⟩ : ∃ WV, WV = wV.alloc (nbx i (some ⟨gC, 0, none⟩) K K) := ⟨_, rfl⟩
          have hbV' : Below wV.heap.size wV WV := by rw [hWV]; go_grown
          have hbV'' := below_step hbV hbV'
          have HBV := hide (below_step HBU.out hbV'')
          have HRB2 := hide (HRB.out.later hbV'')
          have HRC2 := hide (hrC.has.later hbV')
          have HNB2 := hide (HNB.out.later hbV'')
          have NC : NOwn WV wV.heap.size i (some ⟨gC, 0, none⟩) K K := by rw [hWV]; exact nown_new _ _ _ _ _
          have HNC := hide NC
          have LK := look33 i (some ⟨gB, 0, none⟩) BL K WV HRB2.out
          rw [hpl] at LK
          have LK' := hide LK
          obtain ⟨r0, r1, _, _⟩ := HNB.out.later hbV
          have zr : gb < wV.heap.size := block_lt_of_cell r0
          clear hbV hbV' hbV'' hrC hoA NC LK BR2' hpa hbal
          go_wp2_with fail
          rw [show wV.alloc (nbx i (some ⟨gC, 0, none⟩) K K) = WV from hWV.symm]
          obtain ⟨gc, hgc⟩ : ∃ gc, gc = wV.heap.size := ⟨_, rfl⟩
          rw [← hgc] at HNC ⊢
          clear hgc hWV r0 r1 zr
          refine LK'.out.mono ?_
          rintro e wX ⟨hLP, hbX⟩
          rcases hLP with ⟨_, rfl⟩ | ⟨hLP, _⟩
          rotate_left
          · rw [hbn] at hLP; cases hLP
          rw [hbs]
          obtain ⟨lA, hlA⟩ : ∃ a, loopsI BL = a := ⟨_, rfl⟩
          obtain ⟨lB, hlB⟩ : ∃ a, parI BL = a := ⟨_, rfl⟩
          obtain ⟨lC, hlC⟩ : ∃ a, leastI (i : Int).toNat BL = a := ⟨_, rfl⟩
          obtain ⟨lD, hlD⟩ : ∃ a, mostI (i : Int).toNat BL = a := ⟨_, rfl⟩
          rw [hlA, hlB, hlC, hlD]
          obtain ⟨WX, hWX⟩ : ∃ WX, WX = wX.alloc (lbx lA lB lC lD true) := ⟨_, rfl⟩
          have hbX' : Below wX.heap.size wX WX := by rw [hWX]; go_grown
          have hbX'' := below_step hbX hbX'
          have HBX := hide (below_step HBV.out hbX'')
          have SX := same21 i i (some ⟨gB, 0, none⟩) (some ⟨gC, 0, none⟩) BL BL K K WX (by omega) (HRB2.out.later hbX'') (HRC2.out.later hbX'')
          rw [show sameB (i : Int) (i : Int) BL BL = true by unfold sameB; simp, hpl] at SX
          have SX' := hide SX
          obtain ⟨r0, r1, _, _⟩ := HNB2.out.later hbX
          obtain ⟨s0, s1, _, _⟩ := HNC.out.later hbX
          have zr : gb < wX.heap.size := block_lt_of_cell r0
          have zs : gc < wX.heap.size := block_lt_of_cell s0
          clear hbX hbX' hbX'' SX LK' hlA hlB hlC hlD hbs hbn hpl
          go_wp2_with fail
          rw [show wX.alloc (lbx lA lB lC lD true) = WX from hWX.symm]
          clear hWX r0 r1 s0 s1 zr zs
          refine SX'.out.mono ?_
          rintro e wY ⟨rfl, hbY⟩
          have HBY := hide (below_step HBX.out hbY)
          clear hbY
          go_wp2
          go_ret
          exact ⟨rfl, HBY.out⟩
    · obtain ⟨E', hEE'⟩ : ∃ E, mergE m es u0 v0 = E := ⟨_, rfl⟩
      rw [hEE'] at hE' ⊢
      have hEb' : (E' == 0) = false := by simpa using hE'
      obtain ⟨wT, hwT⟩ : ∃ wT, wT = w7.alloc (nbx 0 none 0 0) := ⟨_, rfl⟩
      have hbT : Below w7.heap.size w7 wT := by rw [hwT]; go_grown
      have HBT := hide (below_step HB7.out hbT)
      have HAT := hide (HA7.out.later hbT)
      have HHT := hide (HH7.out.later hbT)
      clear hbT HB7 HA7 HH7 HR7
      go_wp2_with fail
      rw [show w7.alloc (nbx 0 none 0 0) = wT from hwT.symm]
      clear hwT zn q0 q1'
      have hE1 := HE
      have BR := hide (bare32 m p es cp wT HHT.out)
      refine BR.out.mono ?_
      rintro e wU ⟨hBP, hbU⟩
      rcases hBP with ⟨_, gB, vK, rfl, hrB, hoK⟩ | ⟨hBP, _⟩
      rotate_left
      · rw [hm] at hBP; cases hBP
      obtain ⟨pK, cK, rfl, _, _, _, _⟩ := hoK.form
      have hbn : netB m (pick es (bareL es)) = true := netB_of (by omega) (by omega) (by rw [pick_length]; have := takeN_length (bareB es) es.length; unfold bareL; omega) (bare_ends HE.out)
      have hba := bare_again es
      have hbs := bare_simple es
      have hkl : (bareL es).length ≤ 200 := by have := takeN_length (bareB es) es.length; unfold bareL; omega
      have hpl := pick_length es (bareL es)
      obtain ⟨BL, hBL⟩ : ∃ BL, pick es (bareL es) = BL := ⟨_, rfl⟩
      rw [hBL] at hrB hbn hba hbs hpl
      have hpa := pick_all BL
      rw [hpl, ← hba] at hpa
      have hbal : (bareL BL).length = (bareL es).length := by rw [hba, rangeI_length]
      obtain ⟨K, hK⟩ : ∃ K, (bareL es).length = K := ⟨_, rfl⟩
      rw [hK] at hrB hkl hpl hbal ⊢
      obtain ⟨WU, hWU⟩ : ∃ WU, WU = wU.alloc (nbx m (some ⟨gB, 0, none⟩) K K) := ⟨_, rfl⟩
      have hbU' : Below wU.heap.size wU WU := by rw [hWU]; go_grown
      have HBU := hide (below_step HBT.out (below_step hbU hbU'))
      have HRB := hide (hrB.has.later hbU')
      have NB : NOwn WU wU.heap.size m (some ⟨gB, 0, none⟩) K K := by rw [hWU]; exact nown_new _ _ _ _ _
      have HNB := hide NB
      have BR2 := bare32 m (some ⟨gB, 0, none⟩) BL K WU HRB.out
      rw [hpl] at BR2
      have BR2' := hide BR2
      clear hbU hbU' hrB hoK NB BR2 BR hba hBL hK
      go_wp2_with fail
      rw [show wU.alloc (nbx m (some ⟨gB, 0, none⟩) K K) = WU from hWU.symm]
      obtain ⟨gb, hgb⟩ : ∃ gb, gb = wU.heap.size := ⟨_, rfl⟩
      rw [← hgb] at HNB ⊢
      clear hgb hWU
      refine BR2'.out.mono ?_
      rintro e wV ⟨hBP, hbV⟩
      rcases hBP with ⟨_, gC, vA, rfl, hrC, hoA⟩ | ⟨hBP, _⟩
      rotate_left
      · rw [hbn] at hBP; cases hBP
      obtain ⟨pA, cA, rfl, _, _, _, _⟩ := hoA.form
      rw [hpa, hbal] at hrC
      rw [hbal]
      obtain ⟨WV, hWV⟩ : ∃ WV, WV = wV.alloc (nbx m (some ⟨gC, 0, none⟩) K K) := ⟨_, rfl⟩
      have hbV' : Below wV.heap.size wV WV := by rw [hWV]; go_grown
      have hbV'' := below_step hbV hbV'
      have HBV := hide (below_step HBU.out hbV'')
      have HRB2 := hide (HRB.out.later hbV'')
      have HRC2 := hide (hrC.has.later hbV')
      have HNB2 := hide (HNB.out.later hbV'')
      have NC : NOwn WV wV.heap.size m (some ⟨gC, 0, none⟩) K K := by rw [hWV]; exact nown_new _ _ _ _ _
      have HNC := hide NC
      have LK := look33 m (some ⟨gB, 0, none⟩) BL K WV HRB2.out
      rw [hpl] at LK
      have LK' := hide LK
      obtain ⟨r0, r1, _, _⟩ := HNB.out.later hbV
      have zr : gb < wV.heap.size := block_lt_of_cell r0
      clear hbV hbV' hbV'' hrC hoA NC LK BR2' hpa hbal
      go_wp2_with fail
      rw [show wV.alloc (nbx m (some ⟨gC, 0, none⟩) K K) = WV from hWV.symm]
      obtain ⟨gc, hgc⟩ : ∃ gc, gc = wV.heap.size := ⟨_, rfl⟩
      rw [← hgc] at HNC ⊢
      clear hgc hWV r0 r1 zr
      refine LK'.out.mono ?_
      rintro e wX ⟨hLP, hbX⟩
      rcases hLP with ⟨_, rfl⟩ | ⟨hLP, _⟩
      rotate_left
      · rw [hbn] at hLP; cases hLP
      rw [hbs]
      obtain ⟨lA, hlA⟩ : ∃ a, loopsI BL = a := ⟨_, rfl⟩
      obtain ⟨lB, hlB⟩ : ∃ a, parI BL = a := ⟨_, rfl⟩
      obtain ⟨lC, hlC⟩ : ∃ a, leastI (m : Int).toNat BL = a := ⟨_, rfl⟩
      obtain ⟨lD, hlD⟩ : ∃ a, mostI (m : Int).toNat BL = a := ⟨_, rfl⟩
      rw [hlA, hlB, hlC, hlD]
      obtain ⟨WX, hWX⟩ : ∃ WX, WX = wX.alloc (lbx lA lB lC lD true) := ⟨_, rfl⟩
      have hbX' : Below wX.heap.size wX WX := by rw [hWX]; go_grown
      have hbX'' := below_step hbX hbX'
      have HBX := hide (below_step HBV.out hbX'')
      have SX := same21 m m (some ⟨gB, 0, none⟩) (some ⟨gC, 0, none⟩) BL BL K K WX (by omega) (HRB2.out.later hbX'') (HRC2.out.later hbX'')
      rw [show sameB (m : Int) (m : Int) BL BL = true by unfold sameB; simp, hpl] at SX
      have SX' := hide SX
      obtain ⟨r0, r1, _, _⟩ := HNB2.out.later hbX
      obtain ⟨s0, s1, _, _⟩ := HNC.out.later hbX
      have zr : gb < wX.heap.size := block_lt_of_cell r0
      have zs : gc < wX.heap.size := block_lt_of_cell s0
      clear hbX hbX' hbX'' SX LK' hlA hlB hlC hlD hbs hbn hpl
      go_wp2_with fail
      rw [show wX.alloc (lbx lA lB lC lD true) = WX from hWX.symm]
      clear hWX r0 r1 s0 s1 zr zs
      refine SX'.out.mono ?_
      rintro e wY ⟨rfl, hbY⟩
      have HBY := hide (below_step HBX.out hbY)
      clear hbY
      go_wp2
      go_ret
      exact ⟨rfl, HBY.out⟩
  · obtain ⟨E, hEE⟩ : ∃ E, splitE m es e0 = E := ⟨_, rfl⟩
    rw [hEE] at hE ⊢
    have hEb : (E == 0) = false := by simpa using hE
    obtain ⟨wS, hwS⟩ : ∃ wS, wS = w4.alloc (nbx 0 none 0 0) := ⟨_, rfl⟩
    have hbS : Below w4.heap.size w4 wS := by rw [hwS]; go_grown
    have HBS := hide (below_step HB4.out hbS)
    have HAS := hide (HA4.out.later hbS)
    have HHS := hide (HH4.out.later hbS)
    have HRS := hide (HRD4.out.later hbS)
    clear hbS HB4 HA4 HH4 HRD4
    go_wp2_with fail
    rw [show w4.alloc (nbx 0 none 0 0) = wS from hwS.symm]
    clear hwS zn q0 q1'
    have MG := hide (merge31 m p es cp u0 v0 wS HHS.out)
    refine MG.out.mono ?_
    rintro e w7 ⟨hMP, hb7⟩
    have HB7 := hide (below_step HBS.out hb7)
    have HA7 := hide (HAS.out.later hb7)
    have HH7 := hide (HHS.out.later hb7)
    have HR7 := hide (HRS.out.later hb7)
    clear hb7 HBS HAS HHS HRS MG
    obtain ⟨q0, q1', _, _⟩ := HA7.out
    have zn : w.heap.size < w7.heap.size := block_lt_of_cell q0
    rcases hMP with ⟨hE', gM, gT, rfl, hrM, hrT⟩ | ⟨hE', rfl⟩
    · obtain ⟨_, ⟨x0, x1⟩, ⟨y0, y1⟩, hne⟩ := mergE_is hE'
      obtain ⟨u, rfl⟩ : ∃ u : Nat, u0 = u := ⟨u0.toNat, by omega⟩
      obtain ⟨v, rfl⟩ : ∃ v : Nat, v0 = v := ⟨v0.toNat, by omega⟩
      simp only [Int.toNat_natCast] at hrM hrT ⊢
      have hu : u < m := by omega
      have hv : v < m := by omega
      have huv : u ≠ v := by omega
      have HMD : Hid (∀ j, j < m → iat (degN (rename es (mergeL m u v)) (m - 1) es.length) (iat (mergeL m u v) j).toNat = if j = u ∨ j = v then iat (degN es m es.length) u + iat (degN es m es.length) v else iat (degN es m es.length) j) := fun j hj => merge_deg HE.out hu hv hj huv
      have HMI : Hid (∀ j, j < m → 0 ≤ iat (mergeL m u v) j ∧ iat (mergeL m u v) j < (m : Int) - 1) := fun j hj => merge_in hu hv huv hj
      have HMU : Hid (iat (mergeL m u v) u = iat (mergeL m u v) v) := (merge_eq hu hv huv).2 (Or.inr (Or.inl ⟨rfl, rfl⟩))
      have hmn : netB ((m : Int) - 1) (rename es (mergeL m u v)) = true := netB_of (by omega) (by omega) (by rw [rename_length]; omega) (by have := merge_ends HE.out hu hv huv; rw [show ((m - 1 : Nat) : Int) = (m : Int) - 1 by omega] at this; exact this)
      have hml := mergeL_length m u v
      have hrl := rename_length es (mergeL m u v)
      have hdi := hide (degN_in es m es.length)
      obtain ⟨ML, hML⟩ : ∃ ML, mergeL m u v = ML := ⟨_, rfl⟩
      rw [hML] at hrM hrT HMD HMI HMU hmn hml hrl
      obtain ⟨RE, hRE⟩ : ∃ RE, rename es ML = RE := ⟨_, rfl⟩
      rw [hRE] at hrM HMD hmn hrl
      obtain ⟨DL, hDL⟩ : ∃ DL, degN es m es.length = DL := ⟨_, rfl⟩
      rw [hDL] at HMD HR7 hdi
      clear hML hRE hDL
      obtain ⟨W7, hW7⟩ : ∃ W7, W7 = w7.alloc (nbx ((m : Int) - 1) (some ⟨gM, 0, none⟩) es.length es.length) := ⟨_, rfl⟩
      have hb7 : Below w7.heap.size w7 W7 := by rw [hW7]; go_grown
      have HB8 := hide (below_step HB7.out hb7)
      have HA8 := hide (HA7.out.later hb7)
      have HH8 := hide (HH7.out.later hb7)
      have HR8 := hide (HR7.out.later hb7)
      have HT8 := hide (hrT.later hb7)
      have NM : NOwn W7 w7.heap.size ((m : Int) - 1) (some ⟨gM, 0, none⟩) es.length es.length := by rw [hW7]; exact nown_new _ _ _ _ _
      have HNM := hide NM
      have D3 := degrees25 ((m : Int) - 1) (some ⟨gM, 0, none⟩) RE es.length W7 (hrM.has.later hb7)
      rw [hrl] at D3
      have D3' := hide D3
      clear hb7 hrM hrT NM D3 HB7 HA7 HH7 HR7
      go_wp2_with fail
      rw [show w7.alloc (nbx ((m : Int) - 1) (some ⟨gM, 0, none⟩) es.length es.length) = W7 from hW7.symm]
      obtain ⟨gm, hgm⟩ : ∃ gm, gm = w7.heap.size := ⟨_, rfl⟩
      rw [← hgm] at HNM ⊢
      clear hgm hW7 q0 q1' zn
      refine D3'.out.mono ?_
      rintro e w8 ⟨hD3, hb8⟩
      have HB9 := hide (below_step HB8.out hb8)
      have HA9 := hide (HA8.out.later hb8)
      have HH9 := hide (HH8.out.later hb8)
      have HR9 := hide (HR8.out.later hb8)
      have HT9 := hide (HT8.out.later hb8)
      have HN9 := hide (HNM.out.later hb8)
      clear hb8 D3' HB8 HA8 HH8 HR8 HT8 HNM
      rcases hD3 with ⟨_, gA, rfl, hrA⟩ | ⟨hD3, _⟩
      rotate_left
      · rw [hmn] at hD3; cases hD3
      rw [show ((m : Int) - 1).toNat = m - 1 by omega] at hrA ⊢
      rw [hrl] at hrA
      have HRA := hide hrA
      obtain ⟨AL, hAL⟩ : ∃ AL, degN RE (m - 1) es.length = AL := ⟨_, rfl⟩
      rw [hAL] at HRA HMD
      clear hrA hmn hml hrl hAL
      have cu := (HT9.out.cell hu).1
      have cv := (HT9.out.cell hv).1
      have iu := HMI.out u hu
      have HMDu := HMD.out u hu
      rw [if_pos (Or.inl rfl)] at HMDu
      rw [HMU.out] at cu iu HMDu
      obtain ⟨X, hX⟩ : ∃ X, iat ML v = X := ⟨_, rfl⟩
      rw [hX] at cu cv iu HMDu
      obtain ⟨xn, rfl⟩ : ∃ xn : Nat, X = xn := ⟨X.toNat, by omega⟩
      rw [Int.toNat_natCast] at HMDu
      have ca := (HRA.out.cell (j := xn) (by omega)).1
      rw [HMDu] at ca
      have cdu := (HR9.out.cell hu).1
      have cdv := (HR9.out.cell hv).1
      have bu := hdi.out u hu
      have bv := hdi.out v hv
      obtain ⟨du, hdu⟩ : ∃ du, iat DL u = du := ⟨_, rfl⟩
      obtain ⟨dv, hdv⟩ : ∃ dv, iat DL v = dv := ⟨_, rfl⟩
      rw [hdu] at ca cdu bu
      rw [hdv] at ca cdv bv
      obtain ⟨q0, q1', _, _⟩ := HA9.out
      obtain ⟨t0, t1, _, _⟩ := HN9.out
      have k1 : (u : Int) < m := by omega
      have k2 : (v : Int) < m := by omega
      have k3 : (0 : Int) ≤ u := by omega
      have k4 : (0 : Int) ≤ v := by omega
      have k5 : (0 : Int) ≤ xn := by omega
      have k6 : (xn : Int) < (m - 1 : Nat) := by omega
      clear HMDu hX hdu hdv
      go_wp2_with fail
      go_quiet (fail)
      go_wp2_with fail
      clear cu cv ca cdu cdv q0 q1' t0 t1 k5 k6 iu bu bv
      go_loopw [19] (fun t wr => ∃ i : Nat, i ≤ m ∧ t = .int .i64 i ∧ Hid (Below w8.heap.size w8 wr)) (fun t _ => m - (intOf t).toNat)
      case atStart => exact ⟨0, by omega, rfl, below_drewN (Below.refl _ _)⟩
      case round =>
        obtain ⟨i, hi, rfl, HBr⟩ := hrel
        have HAr := hide (HA9.out.later HBr.out)
        obtain ⟨q0, q1', _, _⟩ := HAr.out
        by_cases hlt : i < m
        · have j1 : (i : Int) < m := by omega
          have j2 : (0 : Int) ≤ i := by omega
          by_cases hiu : i = u
          · have g1 : ((i : Int) == (u : Int)) = true := by simp; omega
            have g1' : ((i : Int) != (u : Int)) = false := by simp; omega
            go_wp2_with fail
            go_quiet (fail)
            go_wp2_with fail
            go_roundw
            case rel => exact ⟨i + 1, by omega, by go_num, below_drewN HBr.out⟩
            case measure => simp [intOf]; omega
          · have g1 : ((i : Int) == (u : Int)) = false := by simp; omega
            have g1' : ((i : Int) != (u : Int)) = true := by simp; omega
            by_cases hiv : i = v
            · subst hiv
              go_wp2_with fail
              go_quiet (fail)
              go_wp2_with fail
              go_roundw
              case rel => exact ⟨i + 1, by omega, by go_num, below_drewN HBr.out⟩
              case measure => simp [intOf]; omega
            · have g2 : ((i : Int) == (v : Int)) = false := by simp; omega
              have g2' : ((i : Int) != (v : Int)) = true := by simp; omega
              have ct := ((HT9.out.later HBr.out).cell hlt).1
              have it := HMI.out i hlt
              have md := HMD.out i hlt
              rw [if_neg (by omega)] at md
              obtain ⟨X, hX⟩ : ∃ X, iat ML i = X := ⟨_, rfl⟩
              rw [hX] at ct it md
              obtain ⟨yn, rfl⟩ : ∃ yn : Nat, X = yn := ⟨X.toNat, by omega⟩
              rw [Int.toNat_natCast] at md
              have ca := ((HRA.out.later HBr.out).cell (j := yn) (by omega)).1
              have cd := ((HR9.out.later HBr.out).cell hlt).1
              rw [md] at ca
              obtain ⟨di, hdi2⟩ : ∃ di, iat DL i = di := ⟨_, rfl⟩
              rw [hdi2] at ca cd
              have j3 : (yn : Int) < (m - 1 : Nat) := by omega
              have j4 : (0 : Int) ≤ yn := by omega
              clear md hX hdi2
              go_wp2_with fail
              go_quiet (fail)
              go_wp2_with fail
              go_roundw
              case rel => exact ⟨i + 1, by omega, by go_num, below_drewN HBr.out⟩
              case measure => simp [intOf]; omega
        · have hin : i = m := by omega
          subst hin
          obtain ⟨wT, rfl⟩ : ∃ wT, wT = wr := ⟨wr, rfl⟩
          have HBT := hide (below_step HB9.out HBr.out)
          have HHT := hide (HH9.out.later HBr.out)
          have HAT := hide HAr.out
          go_wp2_with fail
          clear q0 q1'
          have hE1 := HE
          have BR := hide (bare32 i p es cp wT HHT.out)
          refine BR.out.mono ?_
          rintro e wU ⟨hBP, hbU⟩
          rcases hBP with ⟨_, gB, vK, rfl, hrB, hoK⟩ | ⟨hBP, _⟩
          rotate_left
          · rw [hm] at hBP; cases hBP
          obtain ⟨pK, cK, rfl, _, _, _, _⟩ := hoK.form
          have hbn : netB i (pick es (bareL es)) = true := netB_of (by omega) (by omega) (by rw [pick_length]; have := takeN_length (bareB es) es.length; unfold bareL; omega) (bare_ends HE.out)
          have hba := bare_again es
          have hbs := bare_simple es
          have hkl : (bareL es).length ≤ 200 := by have := takeN_length (bareB es) es.length; unfold bareL; omega
          have hpl := pick_length es (bareL es)
          obtain ⟨BL, hBL⟩ : ∃ BL, pick es (bareL es) = BL := ⟨_, rfl⟩
          rw [hBL] at hrB hbn hba hbs hpl
          have hpa := pick_all BL
          rw [hpl, ← hba] at hpa
          have hbal : (bareL BL).length = (bareL es).length := by rw [hba, rangeI_length]
          obtain ⟨K, hK⟩ : ∃ K, (bareL es).length = K := ⟨_, rfl⟩
          rw [hK] at hrB hkl hpl hbal ⊢
          obtain ⟨WU, hWU⟩ : ∃ WU, WU = wU.alloc (nbx i (some ⟨gB, 0, none⟩) K K) := ⟨_, rfl⟩
          have hbU' : Below wU.heap.size wU WU := by rw [hWU]; go_grown
          have HBU := hide (below_step HBT.out (below_step hbU hbU'))
          have HRB := hide (hrB.has.later hbU')
          have NB : NOwn WU wU.heap.size i (some ⟨gB, 0, none⟩) K K := by rw [hWU]; exact nown_new _ _ _ _ _
          have HNB := hide NB
          have BR2 := bare32 i (some ⟨gB, 0, none⟩) BL K WU HRB.out
          rw [hpl] at BR2
          have BR2' := hide BR2
          clear hbU hbU' hrB hoK NB BR2 BR hba hBL hK
          go_wp2_with fail
          rw [show wU.alloc (nbx i (some ⟨gB, 0, none⟩) K K) = WU from hWU.symm]
          obtain ⟨gb, hgb⟩ : ∃ gb, gb = wU.heap.size := ⟨_, rfl⟩
          rw [← hgb] at HNB ⊢
          clear hgb hWU
          refine BR2'.out.mono ?_
          rintro e wV ⟨hBP, hbV⟩
          rcases hBP with ⟨_, gC, vA, rfl, hrC, hoA⟩ | ⟨hBP, _⟩
          rotate_left
          · rw [hbn] at hBP; cases hBP
          obtain ⟨pA, cA, rfl, _, _, _, _⟩ := hoA.form
          rw [hpa, hbal] at hrC
          rw [hbal]
          obtain ⟨WV, hWV⟩ : ∃ WV, WV = wV.alloc (nbx i (some ⟨gC, 0, none⟩) K K) := ⟨_, rfl⟩
          have hbV' : Below wV.heap.size wV WV := by rw [hWV]; go_grown
          have hbV'' := below_step hbV hbV'
          have HBV := hide (below_step HBU.out hbV'')
          have HRB2 := hide (HRB.out.later hbV'')
          have HRC2 := hide (hrC.has.later hbV')
          have HNB2 := hide (HNB.out.later hbV'')
          have NC : NOwn WV wV.heap.size i (some ⟨gC, 0, none⟩) K K := by rw [hWV]; exact nown_new _ _ _ _ _
          have HNC := hide NC
          have LK := look33 i (some ⟨gB, 0, none⟩) BL K WV HRB2.out
          rw [hpl] at LK
          have LK' := hide LK
          obtain ⟨r0, r1, _, _⟩ := HNB.out.later hbV
          have zr : gb < wV.heap.size := block_lt_of_cell r0
          clear hbV hbV' hbV'' hrC hoA NC LK BR2' hpa hbal
          go_wp2_with fail
          rw [show wV.alloc (nbx i (some ⟨gC, 0, none⟩) K K) = WV from hWV.symm]
          obtain ⟨gc, hgc⟩ : ∃ gc, gc = wV.heap.size := ⟨_, rfl⟩
          rw [← hgc] at HNC ⊢
          clear hgc hWV r0 r1 zr
          refine LK'.out.mono ?_
          rintro e wX ⟨hLP, hbX⟩
          rcases hLP with ⟨_, rfl⟩ | ⟨hLP, _⟩
          rotate_left
          · rw [hbn] at hLP; cases hLP
          rw [hbs]
          obtain ⟨lA, hlA⟩ : ∃ a, loopsI BL = a := ⟨_, rfl⟩
          obtain ⟨lB, hlB⟩ : ∃ a, parI BL = a := ⟨_, rfl⟩
          obtain ⟨lC, hlC⟩ : ∃ a, leastI (i : Int).toNat BL = a := ⟨_, rfl⟩
          obtain ⟨lD, hlD⟩ : ∃ a, mostI (i : Int).toNat BL = a := ⟨_, rfl⟩
          rw [hlA, hlB, hlC, hlD]
          obtain ⟨WX, hWX⟩ : ∃ WX, WX = wX.alloc (lbx lA lB lC lD true) := ⟨_, rfl⟩
          have hbX' : Below wX.heap.size wX WX := by rw [hWX]; go_grown
          have hbX'' := below_step hbX hbX'
          have HBX := hide (below_step HBV.out hbX'')
          have SX := same21 i i (some ⟨gB, 0, none⟩) (some ⟨gC, 0, none⟩) BL BL K K WX (by omega) (HRB2.out.later hbX'') (HRC2.out.later hbX'')
          rw [show sameB (i : Int) (i : Int) BL BL = true by unfold sameB; simp, hpl] at SX
          have SX' := hide SX
          obtain ⟨r0, r1, _, _⟩ := HNB2.out.later hbX
          obtain ⟨s0, s1, _, _⟩ := HNC.out.later hbX
          have zr : gb < wX.heap.size := block_lt_of_cell r0
          have zs : gc < wX.heap.size := block_lt_of_cell s0
          clear hbX hbX' hbX'' SX LK' hlA hlB hlC hlD hbs hbn hpl
          go_wp2_with fail
          rw [show wX.alloc (lbx lA lB lC lD true) = WX from hWX.symm]
          clear hWX r0 r1 s0 s1 zr zs
          refine SX'.out.mono ?_
          rintro e wY ⟨rfl, hbY⟩
          have HBY := hide (below_step HBX.out hbY)
          clear hbY
          go_wp2
          go_ret
          exact ⟨rfl, HBY.out⟩
    · obtain ⟨E', hEE'⟩ : ∃ E, mergE m es u0 v0 = E := ⟨_, rfl⟩
      rw [hEE'] at hE' ⊢
      have hEb' : (E' == 0) = false := by simpa using hE'
      obtain ⟨wT, hwT⟩ : ∃ wT, wT = w7.alloc (nbx 0 none 0 0) := ⟨_, rfl⟩
      have hbT : Below w7.heap.size w7 wT := by rw [hwT]; go_grown
      have HBT := hide (below_step HB7.out hbT)
      have HAT := hide (HA7.out.later hbT)
      have HHT := hide (HH7.out.later hbT)
      clear hbT HB7 HA7 HH7 HR7
      go_wp2_with fail
      rw [show w7.alloc (nbx 0 none 0 0) = wT from hwT.symm]
      clear hwT zn q0 q1'
      have hE1 := HE
      have BR := hide (bare32 m p es cp wT HHT.out)
      refine BR.out.mono ?_
      rintro e wU ⟨hBP, hbU⟩
      rcases hBP with ⟨_, gB, vK, rfl, hrB, hoK⟩ | ⟨hBP, _⟩
      rotate_left
      · rw [hm] at hBP; cases hBP
      obtain ⟨pK, cK, rfl, _, _, _, _⟩ := hoK.form
      have hbn : netB m (pick es (bareL es)) = true := netB_of (by omega) (by omega) (by rw [pick_length]; have := takeN_length (bareB es) es.length; unfold bareL; omega) (bare_ends HE.out)
      have hba := bare_again es
      have hbs := bare_simple es
      have hkl : (bareL es).length ≤ 200 := by have := takeN_length (bareB es) es.length; unfold bareL; omega
      have hpl := pick_length es (bareL es)
      obtain ⟨BL, hBL⟩ : ∃ BL, pick es (bareL es) = BL := ⟨_, rfl⟩
      rw [hBL] at hrB hbn hba hbs hpl
      have hpa := pick_all BL
      rw [hpl, ← hba] at hpa
      have hbal : (bareL BL).length = (bareL es).length := by rw [hba, rangeI_length]
      obtain ⟨K, hK⟩ : ∃ K, (bareL es).length = K := ⟨_, rfl⟩
      rw [hK] at hrB hkl hpl hbal ⊢
      obtain ⟨WU, hWU⟩ : ∃ WU, WU = wU.alloc (nbx m (some ⟨gB, 0, none⟩) K K) := ⟨_, rfl⟩
      have hbU' : Below wU.heap.size wU WU := by rw [hWU]; go_grown
      have HBU := hide (below_step HBT.out (below_step hbU hbU'))
      have HRB := hide (hrB.has.later hbU')
      have NB : NOwn WU wU.heap.size m (some ⟨gB, 0, none⟩) K K := by rw [hWU]; exact nown_new _ _ _ _ _
      have HNB := hide NB
      have BR2 := bare32 m (some ⟨gB, 0, none⟩) BL K WU HRB.out
      rw [hpl] at BR2
      have BR2' := hide BR2
      clear hbU hbU' hrB hoK NB BR2 BR hba hBL hK
      go_wp2_with fail
      rw [show wU.alloc (nbx m (some ⟨gB, 0, none⟩) K K) = WU from hWU.symm]
      obtain ⟨gb, hgb⟩ : ∃ gb, gb = wU.heap.size := ⟨_, rfl⟩
      rw [← hgb] at HNB ⊢
      clear hgb hWU
      refine BR2'.out.mono ?_
      rintro e wV ⟨hBP, hbV⟩
      rcases hBP with ⟨_, gC, vA, rfl, hrC, hoA⟩ | ⟨hBP, _⟩
      rotate_left
      · rw [hbn] at hBP; cases hBP
      obtain ⟨pA, cA, rfl, _, _, _, _⟩ := hoA.form
      rw [hpa, hbal] at hrC
      rw [hbal]
      obtain ⟨WV, hWV⟩ : ∃ WV, WV = wV.alloc (nbx m (some ⟨gC, 0, none⟩) K K) := ⟨_, rfl⟩
      have hbV' : Below wV.heap.size wV WV := by rw [hWV]; go_grown
      have hbV'' := below_step hbV hbV'
      have HBV := hide (below_step HBU.out hbV'')
      have HRB2 := hide (HRB.out.later hbV'')
      have HRC2 := hide (hrC.has.later hbV')
      have HNB2 := hide (HNB.out.later hbV'')
      have NC : NOwn WV wV.heap.size m (some ⟨gC, 0, none⟩) K K := by rw [hWV]; exact nown_new _ _ _ _ _
      have HNC := hide NC
      have LK := look33 m (some ⟨gB, 0, none⟩) BL K WV HRB2.out
      rw [hpl] at LK
      have LK' := hide LK
      obtain ⟨r0, r1, _, _⟩ := HNB.out.later hbV
      have zr : gb < wV.heap.size := block_lt_of_cell r0
      clear hbV hbV' hbV'' hrC hoA NC LK BR2' hpa hbal
      go_wp2_with fail
      rw [show wV.alloc (nbx m (some ⟨gC, 0, none⟩) K K) = WV from hWV.symm]
      obtain ⟨gc, hgc⟩ : ∃ gc, gc = wV.heap.size := ⟨_, rfl⟩
      rw [← hgc] at HNC ⊢
      clear hgc hWV r0 r1 zr
      refine LK'.out.mono ?_
      rintro e wX ⟨hLP, hbX⟩
      rcases hLP with ⟨_, rfl⟩ | ⟨hLP, _⟩
      rotate_left
      · rw [hbn] at hLP; cases hLP
      rw [hbs]
      obtain ⟨lA, hlA⟩ : ∃ a, loopsI BL = a := ⟨_, rfl⟩
      obtain ⟨lB, hlB⟩ : ∃ a, parI BL = a := ⟨_, rfl⟩
      obtain ⟨lC, hlC⟩ : ∃ a, leastI (m : Int).toNat BL = a := ⟨_, rfl⟩
      obtain ⟨lD, hlD⟩ : ∃ a, mostI (m : Int).toNat BL = a := ⟨_, rfl⟩
      rw [hlA, hlB, hlC, hlD]
      obtain ⟨WX, hWX⟩ : ∃ WX, WX = wX.alloc (lbx lA lB lC lD true) := ⟨_, rfl⟩
      have hbX' : Below wX.heap.size wX WX := by rw [hWX]; go_grown
      have hbX'' := below_step hbX hbX'
      have HBX := hide (below_step HBV.out hbX'')
      have SX := same21 m m (some ⟨gB, 0, none⟩) (some ⟨gC, 0, none⟩) BL BL K K WX (by omega) (HRB2.out.later hbX'') (HRC2.out.later hbX'')
      rw [show sameB (m : Int) (m : Int) BL BL = true by unfold sameB; simp, hpl] at SX
      have SX' := hide SX
      obtain ⟨r0, r1, _, _⟩ := HNB2.out.later hbX
      obtain ⟨s0, s1, _, _⟩ := HNC.out.later hbX
      have zr : gb < wX.heap.size := block_lt_of_cell r0
      have zs : gc < wX.heap.size := block_lt_of_cell s0
      clear hbX hbX' hbX'' SX LK' hlA hlB hlC hlD hbs hbn hpl
      go_wp2_with fail
      rw [show wX.alloc (lbx lA lB lC lD true) = WX from hWX.symm]
      clear hWX r0 r1 s0 s1 zr zs
      refine SX'.out.mono ?_
      rintro e wY ⟨rfl, hbY⟩
      have HBY := hide (below_step HBX.out hbY)
      clear hbY
      go_wp2
      go_ret
      exact ⟨rfl, HBY.out⟩
end Go.Proofs.Ytmmbbfmkhbengaa
