/- kura's followed, in every world. -/
import Derived.Test.YtaebbfilgfkckaaKBD
namespace Go.Proofs.Ytaebbfilgfkckaa
open Go.RowKit Go.Sort
open Go
variable {es : List Pt}
theorem Rows.has {w : World} {B g n : Nat} {rv : Nat → Value} {L : Nat → List Int} {rs : List (List Int)} (h : Rows w B g n rv L) (hn : rs.length = n) (hL : ∀ v, v < n → L v = lat rs v) (hl : ∀ v, v < n → (lat rs v).length ≤ maxLen) : RHas w (some ⟨g, 0, none⟩) rs := by
  refine Or.inr ⟨g, 0, rfl, fun v hv => ?_⟩
  have hv' : v < n := by omega
  obtain ⟨p, c, e, m, hcap, hnil, _⟩ := (h.2.2 v hv').form
  rw [hL v hv'] at e m
  refine ⟨p, c, ?_, m, hl v hv', by rw [← hL v hv']; exact hcap, hnil⟩
  rw [Nat.zero_add, (h.cell hv').1, e]
/-- Where a path comes to. -/
def endI (es : List Pt) (h : Nat) : Int := toL es (itN es h (fin es (2 * es.length) h))
/-- The paths that leave a node, as far as they were followed. -/
def lyR (es : List Pt) (v : Nat) (P : Pt → List Int) : Nat → Pt → List Int
  | 0 => P
  | k + 1 => updL (lyR es v P k) ⟨(v : Int), endI es (iat (ow es v) k).toNat⟩ (folL es (iat (ow es v) k).toNat)
/-- The paths that leave the first nodes of a list. -/
def lyB (es : List Pt) (br : List Int) : Nat → Pt → List Int
  | 0 => fun _ => []
  | i + 1 => lyR es (iat br i).toNat (lyB es br i) (ow es (iat br i).toNat).length
theorem fin_le (es : List Pt) : ∀ k h, fin es k h ≤ k
  | 0, h => by unfold fin; omega
  | k + 1, h => by
    have := fin_le es k (nx es h)
    unfold fin
    split <;> omega
theorem fin_runs (es : List Pt) : ∀ k h, Runs es h (fin es k h)
  | 0, h => fun j hj => by unfold fin at hj; omega
  | k + 1, h => fun j hj => by
    unfold fin at hj
    by_cases hg : Goes es h
    · rw [if_pos hg] at hj
      cases j with
      | zero => exact hg
      | succ j =>
        rw [← it_next]
        exact fin_runs es k (nx es h) j (by omega)
    · rw [if_neg hg] at hj; omega
theorem fol_length (es : List Pt) (h : Nat) : (folL es h).length = fin es (2 * es.length) h + 1 := by simp [folL, pthN]
theorem fol_at (es : List Pt) (h : Nat) {j : Nat} (hj : j ≤ fin es (2 * es.length) h) : iat (folL es h) j = (itN es h j : Nat) := by
  unfold folL pthN
  rw [List.map_map]
  exact iat_range (f := fun i => ((itN es h i : Nat) : Int)) (by omega)
theorem run_mk93 (w : World) : (Instr.makeMap 93 none).run Try.prog w = .ok (.map (some w.heap.size)) (w.alloc (.map #[] 0)) := by kernel_rfl
theorem WM.none (w : World) (B : Nat) (hB : B ≤ w.heap.size) : WM (w.alloc (.map #[] 0)) B (w.heap.size + 1) w.heap.size (fun _ => []) :=
  ⟨hB, #[], 0, _, heap_alloc_new _ _, MapV.none, fun _ _ _ => rfl, fun _ _ h => absurd rfl h, fun p q j _ _ h => by simp [Value.ownBlock] at h⟩
theorem ow_fits (es : List Pt) (v : Nat) : (ow es v).length ≤ 2 * es.length := outL_length es _ v
set_option maxRecDepth 100000 in
set_option maxHeartbeats 16000000 in
theorem followed59 (n : Nat) (p : Option Addr) (cp : Nat) (pb : Option Addr) (br : List Int) (cb : Nat) (w : World) (hh : Has w p es) (hbr : IHas w pb br) (hm : netB n es = true) (hl : br.length ≤ 4096) (hin : ∀ j, j < br.length → ∃ v : Nat, iat br j = v ∧ v < n ∧ (ow es v).length ≠ 2) : Calls Try.prog 59 #[nv n p es.length cp, .slice pb br.length cb] w fun e w' => ∃ b, e = .returned (.map (some b)) ∧ (∃ T, WM w' w.heap.size T b (lyB es br br.length) ∧ T ≤ w'.heap.size) ∧ Below w.heap.size w w' := by
  obtain ⟨W, hW, hb0, a0⟩ := one_net w n p es.length cp
  obtain ⟨_, n1, hes, _⟩ := netB_is hm
  have C1 := hide (outs39 n p es cp W (hh.later hb0) hm)
  have HOL : Hid (∀ v j, v < n → j < (ow es v).length → ∃ h : Nat, iat (ow es v) j = h ∧ h < 2 * es.length ∧ fromL es h = v) := fun v j _ hj => by
    obtain ⟨k, k1, k2, k3⟩ := outL_at hj
    exact ⟨k, k1, k2, k3⟩
  have HFW : Hid (∀ V (q : Option Addr) (cq h : Nat), Below W.heap.size W V → RHas V q (owsL es n) → h < 2 * es.length → (ow es (fromL es h).toNat).length ≠ 2 → Calls Try.prog 70 #[nv n p es.length cp, .slice q n cq, .int .i64 h] V fun e w' => ∃ g c, e = .returned (.slice (some ⟨g, 0, none⟩) (folL es h).length c) ∧ IOwns w' V.heap.size (.slice (some ⟨g, 0, none⟩) (folL es h).length c) (folL es h) ∧ 0 < (folL es h).length ∧ Below V.heap.size V w') := fun V q cq h hV hq h1 h2 => by
    refine (follow70 n p cp q cq h V ((hh.later hb0).later hV) hq hm h1 h2).mono ?_
    rintro e w' ⟨p', c, rfl, o, hpos, hb⟩
    obtain ⟨p8, c8, h8, k1, _, _, k2⟩ := o.form
    cases p' with
    | none =>
      injection h8 with h81
      rw [← h81] at k1
      rcases k1 with k1 | ⟨_, _, k1, _⟩
      · rw [k1] at hpos; simp at hpos
      · cases k1
    | some a =>
      injection h8 with h81
      obtain ⟨a1, a2, _⟩ := k2 a h81.symm
      obtain ⟨ab, ao, asp⟩ := a
      simp only at a1 a2
      subst a1 a2
      exact ⟨ab, c, rfl, o, hpos, hb⟩
  have HTO : Hid (∀ V (h : Nat), Below W.heap.size W V → h < 2 * es.length → Calls Try.prog 71 #[nv n p es.length cp, .int .i64 ((itN es h (fin es (2 * es.length) h) : Nat) : Int)] V fun e w' => e = .returned (.int .i64 (endI es h)) ∧ Below V.heap.size V w') := fun V h hV hl => comes54 n p es cp _ V ((hh.later hb0).later hV) (it_lt hm hl (fin_runs es _ h)) (by omega)
  have HEN : Hid (∀ h, h < 2 * es.length → 0 ≤ endI es h ∧ endI es h ≤ 4096) := fun h hl => by
    have := toL_in hm _ (it_lt hm hl (fin_runs es (2 * es.length) h))
    unfold endI
    omega
  have HBR := hide (hbr.later hb0)
  have HB := hide hb0
  have HA := hide a0
  have HIN := hide hin
  have HWS : Hid (w.heap.size ≤ W.heap.size) := hb0.size
  clear hh hbr hm hb0 a0 hin
  go_enter Try.func59, Try.ntmps59
  go_upto_region 1 with fail
  rw [← hW]
  clear hW
  obtain ⟨q0, q1, _, _⟩ := HA.out.later (Below.refl _ _)
  go_wp2_with fail
  refine C1.out.mono ?_
  rintro r w2 ⟨g, rv, rfl, hR, hb2⟩
  have HB2 := hide hb2
  have HRO : Hid (RHas w2 (some ⟨g, 0, none⟩) (owsL es n)) := hR.has (owsL_length n) (fun v hv => by rw [owsL_at hv]) (fun v hv => by rw [owsL_at hv]; have := ow_fits es v; unfold maxLen; omega)
  have HNW : Hid (∀ v, v < n → ∃ a c, ∀ V, Below w2.heap.size w2 V → V.cell? ⟨g, v, none⟩ = some (.slice a (ow es v).length c) ∧ IHas V a (ow es v)) := fun v hv => by
    obtain ⟨b, off, a, c, h1, h2, h3, _⟩ := HRO.out.at_ (v := v) (by rw [owsL_length]; exact hv)
    injection h1 with h1
    injection h1 with h11 h12
    rw [owsL_at hv] at h2 h3
    subst h11 h12
    rw [Nat.zero_add] at h2
    exact ⟨a, c, fun V hV => ⟨later hV h2, h3.later hV⟩⟩
  have hmm := run_mk93 w2
  clear C1 hR q0 q1
  go_upto_region 3 with fail
  obtain ⟨gm, hgm⟩ : ∃ k, w2.heap.size = k := ⟨_, rfl⟩
  have HGM := hide hgm
  obtain ⟨U, hU⟩ : ∃ U, U = w2.alloc (.map #[] 0) := ⟨_, rfl⟩
  have HBU : Hid (Below w2.heap.size w2 U) := by show Below _ _ _; rw [hU]; go_grown
  have HM0 : Hid (∃ T, w.heap.size ≤ T ∧ T ≤ U.heap.size ∧ WM U w.heap.size T gm (lyB es br 0)) := by
    have h1 := HWS.out
    have h2 := HB2.out.size
    refine ⟨w2.heap.size + 1, by omega, by rw [hU]; simp, ?_⟩
    rw [hU, ← hgm]
    exact WM.none w2 w.heap.size (by omega)
  rw [← hU, hgm]
  clear hU hmm hgm
  go_wp2_with fail
  go_loopw [17] (fun t17 wr => ∃ i : Nat, i ≤ br.length ∧ t17 = .int .i64 i ∧ Hid (Below w2.heap.size w2 wr) ∧ Hid (∃ T, w.heap.size ≤ T ∧ T ≤ wr.heap.size ∧ WM wr w.heap.size T gm (lyB es br i))) (fun t17 _ => br.length - (intOf t17).toNat)
  case atStart => exact ⟨0, by omega, rfl, HBU.out, HM0.out⟩
  case round =>
    obtain ⟨i, hi, rfl, HBr, HMr⟩ := hrel
    clear HM0 HBU
    by_cases hlt : i < br.length
    · have j1 : (i : Int) < br.length := by omega
      have j0 : (0 : Int) ≤ i := by omega
      obtain ⟨v, hv, hvn, hv2⟩ := HIN.out i hlt
      have HV2 := hide hv2
      obtain ⟨b1, off, rfl, hL⟩ : ∃ b1 off, pb = some ⟨b1, off, none⟩ ∧ ILies W b1 off br := by
        rcases HBR.out with e | e
        · rw [e] at hlt; simp at hlt
        · exact e
      have c0 := later (below_step HB2.out HBr.out) (hL i hlt)
      obtain ⟨a, c, hrow⟩ := HNW.out v hvn
      have c1 := (hrow wr HBr.out).1
      have HIA : Hid (∀ V, Below w2.heap.size w2 V → IHas V a (ow es v)) := fun V hV => (hrow V hV).2
      have HLY : Hid (lyB es br (i + 1) = lyR es v (lyB es br i) (ow es v).length) := by show lyR es (iat br i).toNat (lyB es br i) (ow es (iat br i).toNat).length = _; rw [hv, Int.toNat_natCast]
      rw [hv] at c0
      have k1 : (v : Int) < n := by omega
      have k0 : (0 : Int) ≤ v := by omega
      have how := ow_fits es v
      clear hL hv hv2 hrow
      obtain ⟨m, hm'⟩ : ∃ m, (ow es v).length = m := ⟨_, rfl⟩
      have HM' := hide hm'
      rw [hm'] at c1 how
      clear hm'
      go_wp2_with fail
      go_loopw [26] (fun t26 wj => ∃ k : Nat, k ≤ m ∧ t26 = .int .i64 k ∧ Hid (Below w2.heap.size w2 wj) ∧ Hid (∃ T, w.heap.size ≤ T ∧ T ≤ wj.heap.size ∧ WM wj w.heap.size T gm (lyR es v (lyB es br i) k))) (fun t26 _ => m - (intOf t26).toNat)
      case atStart => exact ⟨0, by omega, rfl, HBr.out, HMr.out⟩
      case round =>
        obtain ⟨k, hk, rfl, HBj, HMj⟩ := hrel
        clear HMr
        by_cases hkl : k < m
        · obtain ⟨h, hh, hhl, hhf⟩ := HOL.out v k hvn (by rw [HM'.out]; exact hkl)
          have C2 := hide (HFW.out wr (some ⟨g, 0, none⟩) n h (below_step HB2.out HBj.out) (HRO.out.later HBj.out) hhl (by rw [hhf, Int.toNat_natCast]; exact HV2.out))
          obtain ⟨b2, off2, rfl, hL2⟩ : ∃ b1 off, a = some ⟨b1, off, none⟩ ∧ ILies wr b1 off (ow es v) := by
            rcases HIA.out wr HBj.out with e | e
            · have := HM'.out; rw [e] at this; simp at this; omega
            · exact e
          have d0 := hL2 k (by rw [HM'.out]; exact hkl)
          rw [hh] at d0
          have HSTEP : Hid (lyR es v (lyB es br i) (k + 1) = updL (lyR es v (lyB es br i) k) ⟨(v : Int), endI es h⟩ (folL es h)) := by
            show updL _ ⟨(v : Int), endI es (iat (ow es v) k).toNat⟩ (folL es (iat (ow es v) k).toNat) = _
            rw [hh, Int.toNat_natCast]
          obtain ⟨q0, q1, _, _⟩ := HA.out.later (below_step HB2.out HBj.out)
          have j2 : (k : Int) < m := by omega
          have j3 : (0 : Int) ≤ k := by omega
          obtain ⟨e0, e1⟩ := HEN.out h hhl
          obtain ⟨en, hen⟩ : ∃ x, endI es h = x := ⟨_, rfl⟩
          have CT : Hid (∀ V, Below W.heap.size W V → Calls Try.prog 71 #[nv n p es.length cp, .int .i64 (iat (folL es h) ((folL es h).length - 1))] V fun e w' => e = .returned (.int .i64 en) ∧ Below V.heap.size V w') := fun V hV => by
            rw [fol_length, Nat.add_sub_cancel, fol_at es h (Nat.le_refl _), ← hen]
            exact HTO.out V h hV hhl
          have hfl : (folL es h).length ≤ 6145 := by have := fin_le es (2 * es.length) h; rw [fol_length]; omega
          rw [hen] at HSTEP e0 e1
          clear hL2 hh hhf hen
          go_wp2_with fail
          refine C2.out.mono ?_
          rintro r w3 ⟨gp, cq, rfl, o, hpos, hb3⟩
          have HB3 := hide (below_step HBj.out hb3)
          have HBW := hide (below_step HB2.out HB3.out)
          have HO := hide o
          have HHB := hide hb3
          obtain ⟨q0, q1, _, _⟩ := HA.out.later HBW.out
          have d1 := o.at_ (j := (folL es h).length - 1) (by omega)
          obtain ⟨F, hF⟩ : ∃ F, folL es h = F := ⟨_, rfl⟩
          rw [hF] at HSTEP HO CT hfl hpos d1 ⊢
          obtain ⟨l, hl'⟩ : ∃ l, F.length = l + 1 := ⟨F.length - 1, by omega⟩
          rw [hl', Nat.add_sub_cancel] at d1 CT
          obtain ⟨z, hz⟩ : ∃ z, iat F l = z := ⟨_, rfl⟩
          rw [hz] at d1 CT
          have HFL := hide hl'
          rw [hl'] at hfl ⊢
          clear C2 o hb3 hF hl' hz hpos
          go_upto_region 10 with fail
          have HS : Hid (∀ V, Below w3.heap.size w3 V → (V.cell? ⟨w.heap.size, 0, none⟩ = some (.int .i64 n) ∧ V.cell? ⟨w.heap.size, 1, none⟩ = some (.slice p es.length cp)) ∧ V.cell? ⟨gp, l, none⟩ = some (.int .i64 z)) := fun V hV => ⟨⟨later hV q0, later hV q1⟩, later hV d1⟩
          have hgl : gm < wr.heap.size := by
            obtain ⟨T, _, _, _, ms, clock, f, h1, _⟩ := HMj.out
            exact (Array.getElem?_eq_some_iff.1 h1).1
          have hne2 : gp ≠ gm := by have := (World.ownsRow.lt HO.out gp rfl).1; omega
          have hne1 : w.heap.size ≠ gm := by
            have h1 : w.heap.size < W.heap.size := block_lt_of_cell HA.out.1
            have h2 := HB2.out.size
            have h3 := HGM.out
            omega
          have PUT : Hid (∀ V, Below w3.heap.size w3 V → ∃ D, (Instr.mapUpdate 93 (.map (some gm)) (.agg #[.int .i64 (v : Int), .int .i64 en]) (.slice (some ⟨gp, 0, none⟩) (l + 1) cq)).run Try.prog V = .ok () D ∧ Below w2.heap.size w2 D ∧ ((D.cell? ⟨w.heap.size, 0, none⟩ = some (.int .i64 n) ∧ D.cell? ⟨w.heap.size, 1, none⟩ = some (.slice p es.length cp)) ∧ D.cell? ⟨gp, l, none⟩ = some (.int .i64 z)) ∧ ∃ T, w.heap.size ≤ T ∧ T ≤ D.heap.size ∧ WM D w.heap.size T gm (lyR es v (lyB es br i) (k + 1))) := fun V hV => by
            obtain ⟨T, hT0, hT1, hM⟩ := HMj.out
            have hb1 := below_step HHB.out hV
            have hs1 := hb1.size
            have o1 : IOwns V T (.slice (some ⟨gp, 0, none⟩) F.length cq) F := (HO.out.later hV).base hT1
            obtain ⟨D, k1, k2, k3, k4⟩ := (hM.later hb1).put (p := ⟨(v : Int), en⟩) ⟨k0, (show (v : Int) ≤ 4096 by omega), e0, e1⟩ (l := F) (fun e => by have := HFL.out; rw [e] at this; simp at this) hT0 o1
            rw [← HSTEP.out] at k2
            rw [HFL.out] at k1
            refine ⟨D, k1, ?_, ?_, _, ?_, k3.size, k2⟩
            · have b1 := below_step HB3.out hV
              exact b1.grown k3 b1.size (fun x hx => by cases hx; have := HGM.out; omega)
            · obtain ⟨⟨z0, z1⟩, z2⟩ := HS.out V hV
              exact ⟨⟨grown_keeps k3 z0 hne1, grown_keeps k3 z1 hne1⟩, grown_keeps k3 z2 hne2⟩
            · omega
          clear HMj HSTEP HO
          have jl0 : (0 : Int) ≤ (l : Int) := by omega
          have jl1 : (l : Int) < (l : Int) + 1 := by omega
          have jw : IntKind.i64.wrap (l : Int) = l := by rw [IntKind.wrap_i64]; omega
          go_region_held3 (fun V => (V.cell? ⟨w.heap.size, 0, none⟩ = some (.int .i64 n) ∧ V.cell? ⟨w.heap.size, 1, none⟩ = some (.slice p es.length cp)) ∧ V.cell? ⟨gp, l, none⟩ = some (.int .i64 z))
            (first | exact HS.out _ (below_drew w3) | exact HS.out _ (Below.refl _ _) | exact HS.out _ HW4.out | exact HDS.out)
            ((go_at_call 71; refine (CT.out _ (below_step HBW.out (below_drew w3))).mono ?_; rintro e w4 ⟨rfl, hb4⟩; obtain ⟨D, hput, hDb, hDS, hDM⟩ := PUT.out w4 (below_step (below_drew w3) hb4); have HDB := hide hDb; have HDM := hide hDM; have HDS := hide hDS; have HW4 := hide (below_step (below_drew w3) hb4); clear hb4 hDb hDM hDS q0 q1 d1))
          rename_i hHeld
          clear hHeld
          go_wp2
          go_roundw
          case rel => exact ⟨k + 1, by omega, by go_num, HDB.out, HDM.out⟩
          case measure => simp [intOf]; omega
        · have hke : k = m := by omega
          have j2 : ¬ (k : Int) < m := by omega
          have HFIN : Hid (∃ T, w.heap.size ≤ T ∧ T ≤ wr.heap.size ∧ WM wr w.heap.size T gm (lyB es br (i + 1))) := by
            show ∃ T, _
            rw [HLY.out, HM'.out, ← hke]
            exact HMj.out
          clear hke HMj
          go_wp2
          go_roundw
          case rel => exact ⟨i + 1, by omega, by go_num, HBj.out, HFIN.out⟩
          case measure => simp [intOf]; omega
    · have j1 : ¬ (i : Int) < br.length := by omega
      have hie : i = br.length := by omega
      subst hie
      obtain ⟨T, hT0, hT1, hM⟩ := HMr.out
      go_wp2
      go_ret
      exact ⟨gm, rfl, ⟨T, hM, hT1⟩, below_step HB.out (below_step HB2.out HBr.out)⟩
end Go.Proofs.Ytaebbfilgfkckaa
