/- RotMoved: its walk. -/
import Derived.Test.YtllkadgpkbaghaaY32
import Derived.Test.YtllkadgpkbaghaaY15
import Derived.Deep.DeepCutAuto
namespace Go.Proofs.Ytllkadgpkbaghaa
open Go.RowKit Go.Sort
open Go
set_option maxRecDepth 100000 in
set_option maxHeartbeats 16000000 in
theorem moved_walk (n : Int) (p : Option Addr) (es : List Pt) (cp : Nat) (q t : Option Addr) (rs : List (List Int)) (l : List Int) (cq ct : Nat) (w : World) (h : Has w p es) (hr : RHas w q rs) (ht : IHas w t l) (lr : rs.length ≤ maxLen) (ll : l.length ≤ maxLen) : Calls Try.prog 7 #[nv n p es.length cp, .slice q rs.length cq, .slice t l.length ct] w fun e w' => e = .returned (.bool true) ∧ Below w.heap.size w w' := by
  obtain ⟨W0, hW, hb0, a0⟩ := one_net w n p es.length cp
  have BG := hide (begun8 W0)
  have HB0 := hide hb0
  have HA0 := hide a0
  have HH0 := hide (h.later hb0)
  have HR0 := hide (hr.later hb0)
  have HT0 := hide (ht.later hb0)
  have HLr := hide lr
  have HLl := hide ll
  unfold maxLen at lr ll
  clear h hr ht hb0 a0
  go_enter Try.func7, Try.ntmps7
  go_wp2_with fail
  rw [← hW]
  clear hW
  obtain ⟨kg, hkg⟩ : ∃ k, w.heap.size = k := ⟨_, rfl⟩
  have HKG := hide hkg
  rw [hkg] at HA0
  try rw [hkg]
  clear hkg
  refine BG.out.mono ?_
  rintro e w1 ⟨rfl, hb1⟩
  have HB1 := hide hb1
  have L1 := hide (light9r n p es cp q rs cq w1 (HH0.out.later hb1) (HR0.out.later hb1) HLr.out)
  obtain ⟨g0, g1, _, _⟩ := HA0.out.later hb1
  clear hb1 BG
  go_wp2_with fail
  refine L1.out.mono ?_
  rintro e w2 ⟨⟨x1, rfl⟩, hb2⟩
  have HB2 := hide (below_step HB1.out hb2)
  clear hb2 L1 g0 g1
  cases x1
  · go_wp2
    go_ret
    exact ⟨rfl, below_step HB0.out HB2.out⟩
  have M1 := hide (mayR13 n p es cp q rs cq w2 (HH0.out.later HB2.out) (HR0.out.later HB2.out))
  obtain ⟨g0, g1, _, _⟩ := HA0.out.later HB2.out
  go_wp2_with fail
  refine M1.out.mono ?_
  rintro e w3 ⟨rfl, hb3⟩
  have HB3 := hide (below_step HB2.out hb3)
  clear hb3 M1 g0 g1
  by_cases r0 : ¬ rotI n es rs = 0
  · obtain ⟨x, hx⟩ : ∃ x, rotI n es rs = x := ⟨_, rfl⟩
    rw [hx] at r0 ⊢
    have t1 : (x == 0) = false := by simp [r0]
    clear hx
    go_wp2
    go_ret
    exact ⟨rfl, below_step HB0.out HB3.out⟩
  have r0 : rotI n es rs = 0 := Decidable.not_not.1 r0
  have HRT := hide r0
  obtain ⟨z1, z2⟩ := rot_bounds r0
  obtain ⟨n0, n1, hes, _⟩ := netB_is (rot_is r0).1
  obtain ⟨N, rfl⟩ : ∃ N : Nat, n = N := ⟨n.toNat, by omega⟩
  have hN : N ≤ 1024 := by omega
  rw [r0]
  clear r0 z2 n0 n1
  have O0 : Hid (IOwns w3 W0.heap.size (.slice none (upN 0).length 0) (upN 0)) := IOwns.nil _ _
  obtain ⟨g0, g1, _, _⟩ := HA0.out.later HB3.out
  go_wp2_with fail
  clear g0 g1
  go_loopw [7, 9] (fun t7 t9 wr => ∃ (i : Nat) (p7 : Option Addr) (c7 : Nat), i ≤ es.length ∧ t7 = .slice p7 i c7 ∧ t9 = .int .i64 i ∧ Hid (Below W0.heap.size W0 wr) ∧ Hid (IOwns wr W0.heap.size (.slice p7 i c7) (upN i))) (fun _ t9 _ => es.length - (intOf t9).toNat)
  case atStart => exact ⟨0, none, 0, by omega, rfl, rfl, HB3.out, O0.out⟩
  case round =>
    clear HB3 O0
    obtain ⟨i, p7, c7, hi, rfl, rfl, HBr, HOr⟩ := hrel
    obtain ⟨g0, g1, _, _⟩ := HA0.out.later HBr.out
    by_cases hlt : i < es.length
    · have e1 : (i : Int) < es.length := by omega
      obtain ⟨U, hU⟩ : ∃ U, U = wr.alloc (.cells #[.int .i64 i] 3) := ⟨_, rfl⟩
      have hbU : Below wr.heap.size wr U := by rw [hU]; go_grown
      have hlit : U.cell? ⟨wr.heap.size, 0, none⟩ = some (.int .i64 i) := by rw [hU]; exact one_int _ _
      obtain ⟨v1, D, ea, o1, gr, at1⟩ := append_int (HOr.out.later hbU) hlit (by have := HBr.out.size; have := hbU.size; omega) (by rw [upN_length]; omega)
      rw [← upN_more] at o1
      have HBD : Hid (Below W0.heap.size W0 D) := below_grown (below_step HBr.out hbU) (HOr.out.later hbU) (Nat.le_refl _) (by have := HBr.out.size; have := hbU.size; omega) gr
      obtain ⟨p8, c8, h8, _⟩ := o1.form
      rw [upN_length] at h8
      subst h8
      have HOD := hide o1
      rw [hU] at ea
      clear hU hbU hlit o1 gr at1
      go_wp2_with (at_builtin; refine wpList_run_append rfl (.tmp 48) (.tmp 50) 27 rfl 27 rfl _ _ _ D rfl rfl ea ?_)
      go_roundw
      case rel => exact ⟨i + 1, p8, c8, by omega, rfl, by go_num, HBD.out, HOD.out⟩
      case measure => simp [intOf]; omega
    have hie : i = es.length := by omega
    subst hie
    have e1 : ¬ (es.length : Int) < es.length := by omega
    obtain ⟨Wa, hWa⟩ : ∃ x, x = wr := ⟨_, rfl⟩
    subst hWa
    have HBA := HBr
    have HALL := HOr
    clear HBr HOr hlt
    go_wp2_with fail
    clear g0 g1
    go_loopw [8, 10] (fun t8 t10 wr => ∃ (i : Nat) (p8 : Option Addr) (c8 : Nat), i ≤ N ∧ t8 = .slice p8 i c8 ∧ t10 = .int .i64 i ∧ Hid (Below Wa.heap.size Wa wr) ∧ Hid (IOwns wr Wa.heap.size (.slice p8 i c8) (upN i))) (fun _ t10 _ => N - (intOf t10).toNat)
    case atStart => exact ⟨0, none, 0, by omega, rfl, rfl, Below.refl _ _, IOwns.nil _ _⟩
    case round =>
      obtain ⟨i, p8, c8, hi, rfl, rfl, HBq, HOq⟩ := hrel
      obtain ⟨g0, g1, _, _⟩ := HA0.out.later (below_step HBA.out HBq.out)
      by_cases hlt : i < N
      · have e2 : (i : Int) < N := by omega
        obtain ⟨U, hU⟩ : ∃ U, U = wr.alloc (.cells #[.int .i64 i] 3) := ⟨_, rfl⟩
        have hbU : Below wr.heap.size wr U := by rw [hU]; go_grown
        have hlit : U.cell? ⟨wr.heap.size, 0, none⟩ = some (.int .i64 i) := by rw [hU]; exact one_int _ _
        obtain ⟨v1, D, ea, o1, gr, at1⟩ := append_int (HOq.out.later hbU) hlit (by have := HBq.out.size; have := hbU.size; omega) (by rw [upN_length]; omega)
        rw [← upN_more] at o1
        have HBD : Hid (Below Wa.heap.size Wa D) := below_grown (below_step HBq.out hbU) (HOq.out.later hbU) (Nat.le_refl _) (by have := HBq.out.size; have := hbU.size; omega) gr
        obtain ⟨p9, c9, h9, _⟩ := o1.form
        rw [upN_length] at h9
        subst h9
        have HOD := hide o1
        rw [hU] at ea
        clear hU hbU hlit o1 gr at1
        go_wp2_with (at_builtin; refine wpList_run_append rfl (.tmp 58) (.tmp 60) 27 rfl 27 rfl _ _ _ D rfl rfl ea ?_)
        go_roundw
        case rel => exact ⟨i + 1, p9, c9, by omega, rfl, by go_num, HBD.out, HOD.out⟩
        case measure => simp [intOf]; omega
      have hie : i = N := by omega
      subst hie
      have e2 : ¬ (i : Int) < i := by omega
      obtain ⟨pa, ca, ea, ma, _⟩ := HALL.out.form
      rw [upN_length] at ea
      obtain ⟨pb, cb, eb, mb, _⟩ := HOq.out.form
      rw [upN_length] at eb
      injection ea with ea1 _ ea3
      injection eb with eb1 _ eb3
      rw [← ea1] at ma
      rw [← eb1] at mb
      have HMA := hide (ma.later HBq.out)
      have HMB := hide mb
      have HB4 := hide (below_step HBA.out HBq.out)
      clear ea1 ea3 eb1 eb3 ma mb hlt hi HALL HOq
      obtain ⟨V0, hV0⟩ : ∃ x, x = wr := ⟨_, rfl⟩
      subst hV0
      have SB := hide (sub_all i p es cp q rs cq p7 c7 V0 (HH0.out.later HB4.out) (HR0.out.later HB4.out) HMA.out HRT.out)
      go_wp2_with fail
      refine SB.out.mono ?_
      rintro e w4 ⟨ga, gb, rvb, rfl, hpa, hrb, hb4⟩
      clear SB g0 g1
      go_upto_region 15 with fail
      obtain ⟨U4, hU4⟩ : ∃ U, U = w4.alloc (nbx i (some ⟨ga, 0, none⟩) es.length es.length) := ⟨_, rfl⟩
      have hbU4 : Below w4.heap.size w4 U4 := by rw [hU4]; go_grown
      have HK4 : Hid (NOwn U4 w4.heap.size i (some ⟨ga, 0, none⟩) es.length es.length) := by show NOwn _ _ _ _ _ _; rw [hU4]; exact ⟨by go_cell, by go_cell, by simp [go_sem], by simp [go_sem]⟩
      rw [← hU4]
      have HV4 := hide (below_step hb4 hbU4)
      have HPA := hide (hpa.has.later hbU4)
      have HRB := hide (hrb.later hbU4)
      have HB5 := hide (below_step HB4.out HV4.out)
      clear hU4 hbU4 hb4 hpa hrb
      obtain ⟨k4, hk4⟩ : ∃ k, w4.heap.size = k := ⟨_, rfl⟩
      rw [hk4] at HK4 ⊢
      clear hk4
      have MS := hide (moved_stay i p es cp q rs cq p8 c8 U4 (HH0.out.later HB5.out) (HR0.out.later HB5.out) (HMB.out.later HV4.out) HRT.out)
      obtain ⟨g0, g1, _, _⟩ := HA0.out.later HB5.out
      go_wp2_with fail
      refine MS.out.mono ?_
      rintro e w5 ⟨gc, gd, rvd, rfl, hpc, hrd, hb5⟩
      clear MS g0 g1
      go_upto_region 16 with fail
      obtain ⟨U5, hU5⟩ : ∃ U, U = w5.alloc (nbx i (some ⟨gc, 0, none⟩) es.length es.length) := ⟨_, rfl⟩
      have hbU5 : Below w5.heap.size w5 U5 := by rw [hU5]; go_grown
      have HK5 : Hid (NOwn U5 w5.heap.size i (some ⟨gc, 0, none⟩) es.length es.length) := by show NOwn _ _ _ _ _ _; rw [hU5]; exact ⟨by go_cell, by go_cell, by simp [go_sem], by simp [go_sem]⟩
      rw [← hU5]
      have HV5 := hide (below_step hb5 hbU5)
      have HPC := hide (hpc.has.later hbU5)
      have HRD := hide (hrd.later hbU5)
      have HB6 := hide (below_step HB5.out HV5.out)
      clear hU5 hbU5 hb5 hpc hrd
      obtain ⟨k5, hk5⟩ : ∃ k, w5.heap.size = k := ⟨_, rfl⟩
      rw [hk5] at HK5 ⊢
      clear hk5
      have CN := hide (canon28 i p es cp q rs cq U5 (HH0.out.later HB6.out) (HR0.out.later HB6.out) HRT.out)
      obtain ⟨g0, g1, _, _⟩ := HA0.out.later HB6.out
      go_wp2_with fail
      refine CN.out.mono ?_
      rintro e w6 ⟨ge, rve, rfl, hre, hb6⟩
      have HRE := hide hre
      have HV6 := hide hb6
      have HB7 := hide (below_step HB6.out hb6)
      clear CN g0 g1 hre hb6
      have hcl : (canonL rs).length = rs.length := canonL_length _
      have hcle : ∀ v, v < rs.length → (lat (canonL rs) v).length ≤ maxLen := fun v hv => by rw [lat_canon hv, turnL_length]; have := (rot_bounds HRT.out).2 v hv; unfold maxLen; omega
      have HGB := hide ((HRB.out.later HV5.out).later HV6.out |>.has hcl (fun _ _ => rfl) hcle)
      have HGD := hide ((HRD.out.later HV6.out).has hcl (fun _ _ => rfl) hcle)
      have HGE := hide (HRE.out.has hcl (fun _ _ => rfl) hcle)
      clear HRB HRD HRE hcle
      obtain ⟨a0, a1, _, _⟩ := (HK4.out.later HV5.out).later HV6.out
      obtain ⟨b0, b1, _, _⟩ := HK5.out.later HV6.out
      obtain ⟨g0, g1, _, _⟩ := HA0.out.later HB7.out
      have S1 := hide (same22 i i (some ⟨ga, 0, none⟩) p es es es.length cp w6 (by omega) ((HPA.out.later HV5.out).later HV6.out) (HH0.out.later HB7.out))
      rw [show sameB (i : Int) i es es = true by unfold sameB; simp] at S1
      go_wp2_with fail
      refine S1.out.mono ?_
      rintro e w7 ⟨rfl, hb7⟩
      have HV7 := hide hb7
      have HB8 := hide (below_step HB7.out hb7)
      clear hb7 S1 a0 a1 b0 b1 g0 g1
      obtain ⟨b0, b1, _, _⟩ := (HK5.out.later HV6.out).later HV7.out
      obtain ⟨g0, g1, _, _⟩ := HA0.out.later HB8.out
      have S2 := hide (same22 i i (some ⟨gc, 0, none⟩) p es es es.length cp w7 (by omega) ((HPC.out.later HV6.out).later HV7.out) (HH0.out.later HB8.out))
      rw [show sameB (i : Int) i es es = true by unfold sameB; simp] at S2
      go_wp2_with fail
      refine S2.out.mono ?_
      rintro e w8 ⟨rfl, hb8⟩
      have HV8 := hide hb8
      have HB9 := hide (below_step HB8.out hb8)
      clear hb8 S2 b0 b1 g0 g1
      have T1 := hide (lists29 (some ⟨gb, 0, none⟩) (some ⟨ge, 0, none⟩) (canonL rs) (canonL rs) rs.length rs.length w8 (by rw [hcl]; exact HLr.out) ((HGB.out.later HV7.out).later HV8.out) ((HGE.out.later HV7.out).later HV8.out))
      rw [hcl, decide_eq_true rfl] at T1
      go_wp2_with fail
      refine T1.out.mono ?_
      rintro e w9 ⟨rfl, hb9⟩
      have HV9 := hide hb9
      have HB10 := hide (below_step HB9.out hb9)
      clear hb9 T1
      have T2 := hide (lists29 (some ⟨gd, 0, none⟩) (some ⟨ge, 0, none⟩) (canonL rs) (canonL rs) rs.length rs.length w9 (by rw [hcl]; exact HLr.out) (((HGD.out.later HV7.out).later HV8.out).later HV9.out) (((HGE.out.later HV7.out).later HV8.out).later HV9.out))
      rw [hcl, decide_eq_true rfl] at T2
      go_wp2_with fail
      refine T2.out.mono ?_
      rintro e w10 ⟨rfl, hb10⟩
      have HB11 := hide (below_step HB10.out hb10)
      clear hb10 T2 hcl HGB HGD HGE HPA HPC HK4 HK5 HV4 HV5 HV6 HV7 HV8 HV9 HMA HMB HBq
      obtain ⟨g0, g1, _, _⟩ := HA0.out.later HB11.out
      by_cases hmv : ¬ movE i es l = 0
      · have ME := hide (moved31err i p es cp q rs cq t l ct w10 (HH0.out.later HB11.out) (HR0.out.later HB11.out) HLl.out (HT0.out.later HB11.out) HRT.out hmv)
        obtain ⟨x, hx⟩ : ∃ x, movE i es l = x := ⟨_, rfl⟩
        rw [hx] at ME hmv
        have t1 : (x == 0) = false := by simp [hmv]
        clear hx
        go_wp2_with fail
        refine ME.out.mono ?_
        rintro e w11 ⟨rfl, hb11⟩
        have HB12 := hide (below_step HB0.out (below_step HB11.out hb11))
        clear hb11 ME g0 g1
        go_upto_region 20 with fail
        obtain ⟨U6, hU6⟩ : ∃ U, U = w11.alloc (nbx 0 none 0 0) := ⟨_, rfl⟩
        have HBU : Hid (Below w.heap.size w U6) := by show Below _ _ _; rw [hU6]; exact below_step HB12.out (by go_grown)
        have hK6 : NOwn U6 w11.heap.size 0 none 0 0 := by rw [hU6]; exact ⟨by go_cell, by go_cell, by simp [go_sem], by simp [go_sem]⟩
        rw [← hU6]
        obtain ⟨c0, c1, _, _⟩ := hK6
        clear hU6
        go_wp2
        go_ret
        exact ⟨rfl, HBU.out⟩
      have hmv : movE i es l = 0 := Decidable.not_not.1 hmv
      obtain ⟨hnet, hli, herr⟩ := movE_net hmv
      have hli : l.length = i := by omega
      have HFM := hide (faces_moved HRT.out herr hli)
      have HGM := hide (genus_moved HRT.out herr hli)
      have HCM := hide (comp_moved hnet herr hli)
      have hcomp : compN i es ≤ 10000 := by have := comp_le hnet; omega
      have MV := hide (moved31 i p es cp q rs cq t l ct w10 (HH0.out.later HB11.out) (HR0.out.later HB11.out) HLl.out (HT0.out.later HB11.out) HRT.out hmv)
      clear hnet hli herr hmv
      go_wp2_with fail
      refine MV.out.mono ?_
      rintro e w11 ⟨gx, gy, rvy, rfl, hpx, hry, hb11⟩
      clear MV g0 g1
      obtain ⟨rs', hrs'⟩ : ∃ x, canonL (mvN rs l rs.length) = x := ⟨_, rfl⟩
      have hml : (mvN rs l rs.length).length = rs.length := mvN_length _ _ _
      have hrl : rs'.length = rs.length := by rw [← hrs', canonL_length]; exact hml
      rw [hrs'] at HFM HGM
      have hy' : RHas w11 (some ⟨gy, 0, none⟩) rs' := hry.has hrl (fun v hv => by rw [← hrs', lat_canon (by rw [hml]; exact hv)]) (fun v hv => by have := (rot_bounds HFM.out.1).2 v (by omega); unfold maxLen; omega)
      go_upto_region 20 with fail
      obtain ⟨U6, hU6⟩ : ∃ U, U = w11.alloc (nbx i (some ⟨gx, 0, none⟩) es.length es.length) := ⟨_, rfl⟩
      have hbU6 : Below w11.heap.size w11 U6 := by rw [hU6]; go_grown
      have HK6 : Hid (NOwn U6 w11.heap.size i (some ⟨gx, 0, none⟩) es.length es.length) := by show NOwn _ _ _ _ _ _; rw [hU6]; exact ⟨by go_cell, by go_cell, by simp [go_sem], by simp [go_sem]⟩
      rw [← hU6]
      have HX := hide (hpx.has.later hbU6)
      have HY := hide (hy'.later hbU6)
      have HB12 := hide (below_step HB11.out (below_step hb11 hbU6))
      clear hU6 hbU6 hb11 hpx hry hy' hrs' hml
      obtain ⟨k6, hk6⟩ : ∃ k, w11.heap.size = k := ⟨_, rfl⟩
      rw [hk6] at HK6 ⊢
      clear hk6
      have G1 := hide (genus22 i p es cp q rs cq U6 (HH0.out.later HB12.out) (HR0.out.later HB12.out) HRT.out hcomp)
      obtain ⟨g0, g1, _, _⟩ := HA0.out.later HB12.out
      go_wp2_with fail
      refine G1.out.mono ?_
      rintro e w12 ⟨rfl, hb12⟩
      have HV12 := hide hb12
      have HB13 := hide (below_step HB12.out hb12)
      clear hb12 G1 g0 g1
      have G2 := genus22 i (some ⟨gx, 0, none⟩) (rename es l) es.length (some ⟨gy, 0, none⟩) rs' rs.length w12 (HX.out.later HV12.out) (HY.out.later HV12.out) HFM.out.1 (by rw [HCM.out]; exact hcomp)
      rw [rename_length, hrl, HGM.out] at G2
      have G2 := hide G2
      obtain ⟨c0, c1, _, _⟩ := HK6.out.later HV12.out
      go_wp2_with fail
      refine G2.out.mono ?_
      rintro e w13 ⟨rfl, hb13⟩
      have HV13 := hide (below_step HV12.out hb13)
      have HB14 := hide (below_step HB13.out hb13)
      clear hb13 G2 c0 c1
      have F1 := hide (faces21 i p es cp q rs cq w13 (HH0.out.later HB14.out) (HR0.out.later HB14.out) HRT.out)
      obtain ⟨g0, g1, _, _⟩ := HA0.out.later HB14.out
      go_wp2_with fail
      refine F1.out.mono ?_
      rintro e w14 ⟨p1, d1, rv1, rfl, hf1, hb14⟩
      have hle := fun v hv => Nat.le_trans (face_le es rs (v := v) hv) (show 2 * es.length + 1 ≤ maxLen by unfold maxLen; omega)
      have HF1 := hide (hf1.has hle)
      have HV14 := hide (below_step HV13.out hb14)
      have HB15 := hide (below_step HB14.out hb14)
      clear hb14 F1 g0 g1 hf1
      have F2 := faces21 i (some ⟨gx, 0, none⟩) (rename es l) es.length (some ⟨gy, 0, none⟩) rs' rs.length w14 (HX.out.later HV14.out) (HY.out.later HV14.out) HFM.out.1
      rw [rename_length, hrl, HFM.out.2] at F2
      have F2 := hide F2
      obtain ⟨c0, c1, _, _⟩ := HK6.out.later HV14.out
      go_wp2_with fail
      refine F2.out.mono ?_
      rintro e w15 ⟨p2, d2, rv2, rfl, hf2, hb15⟩
      have HF2 := hide (hf2.has hle)
      have HF1' := hide (HF1.out.later hb15)
      have HB16 := hide (below_step HB15.out hb15)
      have hfl := facesL_le HRT.out
      have HLE := hide hle
      obtain ⟨F, hF⟩ : ∃ F, facesL es rs = F := ⟨_, rfl⟩
      rw [hF] at HF2 HF1' HLE hfl ⊢
      obtain ⟨G, hG⟩ : ∃ G, genusI i es rs = G := ⟨_, rfl⟩
      rw [hG]
      clear hb15 F2 c0 c1 hf2 hle hF hG HF1
      go_wp2_with fail
      go_loopw [28] (fun t28 wr => ∃ j : Nat, j ≤ F.length ∧ t28 = .int .i64 j ∧ Hid (Below w15.heap.size w15 wr)) (fun t28 _ => F.length - (intOf t28).toNat)
      case atStart => exact ⟨0, by omega, rfl, Below.refl _ _⟩
      case round =>
        obtain ⟨j, hj, rfl, HBj⟩ := hrel
        by_cases hjl : j < F.length
        · obtain ⟨b1, o1, a1, k1, rfl, c0, m1, z1⟩ := (HF1'.out.later HBj.out).at_ hjl
          obtain ⟨b2, o2, a2, k2, rfl, d0, m2, z2⟩ := (HF2.out.later HBj.out).at_ hjl
          have e3 : (j : Int) < F.length := by omega
          have CI : ∀ dd os, Calls Try.prog 33 #[.slice a1 (lat F j).length k1, .slice a2 (lat F j).length k2] (grow (redrawn wr dd) os) fun e w'' => e = .returned (.bool true) ∧ ∃ p : Regrown, w'' = grow (redrawn wr p.d) p.os := fun dd os => Calls.regrown_of (by
            have := ints30 a1 a2 (lat F j) (lat F j) k1 k2 (grow (redrawn wr dd) os) z1.1 (m1.later (below_regrown wr dd os)) (m2.later (below_regrown wr dd os))
            rw [decide_eq_true rfl] at this
            exact this)
          have F0 := cell_regrown c0
          have G0 := cell_regrown d0
          clear m1 m2 z1 z2
          go_upto_region 31 with fail
          refine wp_region_quiet_below (by kernel_rfl) (by kernel_rfl) ?_
          repeat (go_big_quiet_step (first | with_reducible exact CI _ _))
          refine wpQuiet_nil ?_
          intro w3 hw'
          have hb3 : Below wr.heap.size wr w3 := by
            obtain ⟨⟨dq, osq⟩, hw''⟩ := hw'
            rw [hw'']
            exact below_regrown wr dq osq
          have HBn := hide (below_step HBj.out hb3)
          clear hw' hb3 F0 G0 c0 d0 CI
          go_wp2
          go_roundw
          case rel => exact ⟨j + 1, by omega, by go_num, HBn.out⟩
          case measure => simp [intOf]; omega
        · have e3 : ¬ (j : Int) < F.length := by omega
          go_wp2
          go_ret
          exact ⟨rfl, below_step HB0.out (below_step HB16.out HBj.out)⟩
end Go.Proofs.Ytllkadgpkbaghaa
