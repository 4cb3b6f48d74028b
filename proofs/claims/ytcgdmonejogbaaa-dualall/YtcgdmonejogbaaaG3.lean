/- The document's Lay. -/
import Derived.Test.YtcgdmonejogbaaaG5
import Derived.Deep.DeepCutAuto
import Derived.Deep.QuietTactic
open List renaming getElem_toArray → lA, getElem_cons_zero → lB, getElem_cons_succ → lC, setIfInBounds_toArray → lD, set_cons_zero → lE, set_cons_succ → lF
namespace Go.Proofs.Ytcgdmonejogbaaa
open Go.RowKit Go.Sort
open Go
set_option maxRecDepth 100000 in
set_option maxHeartbeats 32000000 in
theorem lay26 (n : Nat) (p : Option Addr) (es : List Pt) (cp : Nat) (q : Option Addr) (rs : List (List Int)) (cq va vb : Nat) (aa ab : Int) (w : World) (h : Has w p es) (hpn : p = none → cp = 0) (hr : RHas w q rs) (h0 : rotI n es rs = 0) (hca : corB rs va aa = true) (hcb : corB rs vb ab = true) (hva : va < n) (hvb : vb < n) (hlim : es.length + 1 ≤ 3072) : Calls Try.prog 26 #[nv n p es.length cp, .slice q rs.length cq, cv va aa, cv vb ab] w fun r w' => LayPost n es rs va aa vb ab w r w' ∧ Below w.heap.size w w' := by
  obtain ⟨W, hW, hb0, a0, ⟨s2, s2'⟩, ⟨s3, s3'⟩, z0⟩ := lay_boxes w n p es.length cp va aa vb ab
  obtain ⟨n0, n1, hes, _⟩ := netB_is (rot_is h0).1
  obtain ⟨_, z2⟩ := rot_bounds h0
  have hrn0 : rs.length = n := by have := (rot_is h0).2.1; omega
  subst hrn0
  have HWS : Hid (W.heap.size = w.heap.size + 4) := by show _ = _; rw [hW]; simp
  have C1 := hide (face25 rs.length p es cp q rs cq va aa W (hr.later hb0) h0 hca)
  obtain ⟨fa, hfa⟩ : ∃ f, faceI rs (ofL es rs) va aa = f := ⟨_, rfl⟩
  obtain ⟨fb, hfb⟩ : ∃ f, faceI rs (ofL es rs) vb ab = f := ⟨_, rfl⟩
  rw [hfa] at C1
  have HFA := hide hfa
  have HFB := hide hfb
  have HR := hide (hr.later hb0)
  have HH := hide (h.later hb0)
  have H0 := hide h0
  have HB := hide hb0
  have HZ := hide z0
  have HA := hide a0
  have HZ2 := hide z2
  have HSA := hide (And.intro s2 s2')
  have HSB := hide (And.intro s3 s3')
  have HCA := hide hca
  have HCB := hide hcb
  obtain ⟨g0, g1, _, _⟩ := a0
  clear h hr hb0 z0 h0 z2 hca hcb hfa hfb
  go_enter Try.func26, Try.ntmps26
  go_upto_region 1 with fail
  rw [← hW]
  clear hW
  go_wp2_with fail
  refine C1.out.mono ?_
  rintro r w2 ⟨rfl, hb2⟩
  have HB2 := hide hb2
  have C2 := face25 rs.length p es cp q rs cq vb ab w2 (HR.out.later HB2.out) H0.out HCB.out
  rw [HFB.out] at C2
  have C2 := hide C2
  clear C1 hb2 s2 s2' s3 s3' g0 g1
  obtain ⟨s3, s3'⟩ := HSB.out
  have s3 := later HB2.out s3
  have s3' := later HB2.out s3'
  obtain ⟨g0, g1, _, _⟩ := HA.out.later HB2.out
  go_wp2_with fail
  refine C2.out.mono ?_
  rintro r w3 ⟨rfl, hb3⟩
  have HB3 := hide (below_step HB2.out hb3)
  clear C2 hb3 s3 s3' g0 g1
  obtain ⟨g0, g1, _, _⟩ := HA.out.later HB3.out
  have CP := hide (copy53 rs.length p es cp w3 hpn (by omega) (HH.out.later HB3.out))
  go_wp2_with fail
  refine CP.out.mono ?_
  rintro r w4 ⟨qc, cc, rfl, hoc, hb4⟩
  have HC4 := hide hb4
  have HO4 := hide hoc
  clear g0 g1 CP hb4 hoc
  go_upto_region 8 with fail
  obtain ⟨kd, hkd⟩ : ∃ k, w4.heap.size = k := ⟨_, rfl⟩
  obtain ⟨U, hU⟩ : ∃ U, U = w4.alloc (nbx rs.length qc es.length cc) := ⟨_, rfl⟩
  have hbU : Below w4.heap.size w4 U := by rw [hU]; go_grown
  have HKD : Hid (NOwn U kd rs.length qc es.length cc) := by show NOwn _ _ _ _ _ _; rw [hU, ← hkd]; exact ⟨by go_cell, by go_cell, by simp [go_sem], by simp [go_sem]⟩
  have hkk : U.heap[kd]? = some (.cells #[.int .i64 rs.length, .slice qc es.length cc] 24 (0, 0)) := by rw [hU, ← hkd]; exact heap_alloc_new w4 _
  rw [← hU]
  try rw [hkd]
  have hd3 : w3.heap.size ≤ kd := by rw [← hkd]; exact HC4.out.size
  have HCU := hide (below_step HC4.out hbU)
  have oU := HO4.out.later hbU
  clear hU HO4
  obtain ⟨v', D, e1, o1, gr1, hbD⟩ := app1 oU (va : Int) (vb : Int) HCU.out.size (by omega)
  have hne : some kd ≠ (Value.slice qc es.length cc).ownBlock := fun e => row_apart hkk oU (by decide) e.symm
  have hbU2 : Below U.heap.size U (U.alloc (.cells #[.int .i64 va, .int .i64 vb] 64)) := by go_grown
  have HND := hide ((HKD.out.later hbU2).grown gr1 hne)
  have hkD : D.heap[kd]? = some (.cells #[.int .i64 rs.length, .slice qc es.length cc] 24 (0, 0)) := by
    rw [gr1.block kd (Nat.lt_of_lt_of_le (block_of hkk) hbU2.size) hne, hbU2.block kd (block_of hkk)]
    exact hkk
  have hne2 : v'.ownBlock ≠ some kd := row_apart hkD o1 (by decide)
  obtain ⟨q2, c2, hv', _, _, hq2, _⟩ := o1.form
  rw [List.length_append, List.length_singleton] at hv'
  subst hv'
  have HQ2 := hide hq2
  have HCD := hide (HCU.out.trans hbD)
  have HOD := hide o1
  have HNE := hide hne2
  obtain ⟨u0, u1, u2, u3⟩ := HKD.out
  obtain ⟨d0, d1, d2, d3⟩ := HND.out
  have s2 := later (below_step HB3.out HCU.out) HSA.out.1
  have s3 := later (below_step HB3.out HCU.out) HSB.out.1
  clear hbU hkk oU hne hbU2 gr1 hbD hkD hne2 o1 hq2
  go_upto_region 9 with (at_builtin; refine wpList_run_append rfl (.tmp 45) (.tmp 51) 22 rfl 22 rfl _ _ _ D rfl rfl e1 ?_)
  obtain ⟨E, hE⟩ : ∃ E, E = D.setCell ⟨kd, 1, none⟩ (.slice q2 (es.length + 1) c2) := ⟨_, rfl⟩
  have HKE : Hid (NOwn E kd rs.length q2 (es.length + 1) c2) := by show NOwn _ _ _ _ _ _; rw [hE]; exact nown_set1 HND.out _ _ _
  have HOE : Hid (Owns E w3.heap.size (.slice q2 (es.length + 1) c2) (layN es va vb)) := by
    show Owns _ _ _ _
    rw [hE]
    have := HOD.out
    exact ownsRow_setCell_other (a := ⟨kd, 1, none⟩) this HNE.out _
  have HCE : Hid (Below w3.heap.size w3 E) := by show Below _ _ _; rw [hE]; exact HCD.out.setCell (p := ⟨kd, 1, none⟩) hd3 _
  rw [← hE]
  clear hE e1 u0 u1 u2 u3 d0 d1 d2 d3 s2 s3 HOD HND HCD HKD HCU HC4 hkd
  have HBE := hide (below_step HB3.out HCE.out)
  have HPE : Hid (Has E q2 (layN es va vb)) := by
    obtain ⟨p', c', e', hh, _⟩ := HOE.out.form
    injection e' with e1 _ _
    subst e1
    exact hh
  have HPB : Hid (∀ a, q2 = some a → w3.heap.size ≤ a.block) := fun a ha => by
    subst ha
    exact (World.ownsRow.lt HOE.out a.block rfl).1
  have MY := may12 rs.length q2 (layN es va vb) c2 E HPE.out
  rw [layN_length, lay_net (rot_is H0.out).1 hva hvb, decide_eq_true hlim] at MY
  have MY := hide MY
  obtain ⟨u0, u1, _, _⟩ := HKE.out
  go_wp2_with fail
  refine MY.out.mono ?_
  rintro r w5 ⟨rfl, hb5⟩
  have HC5 := hide hb5
  have HB5 := hide (below_step HBE.out hb5)
  clear MY hb5 u0 u1
  obtain ⟨g0, g1, _, _⟩ := HA.out.later HB5.out
  have PT := hide (parts26 rs.length p es cp w5 (HH.out.later HB5.out) (rot_is H0.out).1)
  go_wp2_with fail
  refine PT.out.mono ?_
  rintro r w6 ⟨gp, C, rr, rfl, hC, hLab, hb6⟩
  have HC6 := hide (below_step HC5.out hb6)
  have HB6 := hide (below_step HB5.out hb6)
  clear PT hb6 g0 g1
  obtain ⟨x, hx⟩ : ∃ x, iat C va = x := ⟨_, rfl⟩
  obtain ⟨y, hy⟩ : ∃ y, iat C vb = y := ⟨_, rfl⟩
  have HG : Hid (layG rs.length es rs va aa vb ab ↔ x = y ∧ fa ≠ fb) := by
    show _ ↔ _
    unfold layG
    obtain ⟨r', L'⟩ := parts_lab (n := rs.length) (es := es) (rot_is H0.out).1
    have k1 := hLab.conn (rot_is H0.out).1 hva hvb
    have k2 := L'.conn (rot_is H0.out).1 hva hvb
    rw [← hx, ← hy, HFA.out, HFB.out]
    unfold ptL
    rw [k1, k2]
  obtain ⟨cx, _⟩ := hC.cell (j := va) hva
  obtain ⟨cy, _⟩ := hC.cell (j := vb) hvb
  rw [hx] at cx
  rw [hy] at cy
  have s2 := later HB6.out HSA.out.1
  have s3 := later HB6.out HSB.out.1
  have CX := cell_regrown cx
  have CY := cell_regrown cy
  have S2 := cell_regrown s2
  have S3 := cell_regrown s3
  have k1 : (va : Int) < rs.length := by omega
  have k2 : (vb : Int) < rs.length := by omega
  clear hLab hC hx hy HFA HFB
  go_upto_region 12 with fail
  go_cut [78] (fun s78 wx => s78 = .bool (decide (x = y ∧ fa ≠ fb)) ∧ Below w6.heap.size w6 wx)
  case first =>
    refine wp_region_quiet_below (by kernel_rfl) (by kernel_rfl) ?_
    by_cases hxy : x = y
    · subst hxy
      repeat (go_big_quiet_step (fail))
      refine wpQuiet_nil ?_
      intro w7 hw'
      have hb7 : Below w6.heap.size w6 w7 := by
        obtain ⟨⟨dq, osq⟩, hw''⟩ := hw'
        rw [hw'']
        exact below_regrown w6 dq osq
      clear hw'
      go_wp2_with fail
      go_meet
      refine ⟨?_, hb7⟩
      by_cases hf : fa = fb
      · simp [hf]
      · simp [hf]
    · have hne : (x == y) = false := by simpa using hxy
      repeat (go_big_quiet_step (fail))
      refine wpQuiet_nil ?_
      intro w7 hw'
      have hb7 : Below w6.heap.size w6 w7 := by
        obtain ⟨⟨dq, osq⟩, hw''⟩ := hw'
        rw [hw'']
        exact below_regrown w6 dq osq
      clear hw'
      go_wp2_with fail
      go_meet
      refine ⟨?_, hb7⟩
      simp [hxy]
  case rest =>
    obtain ⟨rfl, hb7⟩ := hcut
    obtain ⟨w7, hw7⟩ : ∃ z, z = wc := ⟨_, rfl⟩
    subst hw7
    have HC7 := hide (below_step HC6.out hb7)
    have HB7 := hide (below_step HB6.out hb7)
    clear CX CY S2 S3 cx cy s2 s3 hb7
    by_cases hG : x = y ∧ fa ≠ fb
    · rw [decide_eq_true hG]
      have HZ7 := hide (HZ.out.later HB7.out)
      obtain ⟨r0, r1, r2, r3⟩ := HZ7.out
      go_wp2
      obtain ⟨V, hV⟩ : ∃ V, V = (w7.setCell ⟨w.heap.size + 3, 0, none⟩ (.int .i64 0)).setCell ⟨w.heap.size + 3, 1, none⟩ (.slice none 0 0) := ⟨_, rfl⟩
      have kV : NOwn V (w.heap.size + 3) 0 none 0 0 := by rw [hV]; exact HZ7.out.set 0 none 0 0
      have bV : Below w.heap.size w V := by rw [hV]; exact ((below_step HB.out HB7.out).setCell (by simp) _).setCell (by simp) _
      rw [← hV]
      exact bodyPost_ret (ret_net3 Try.results26 rfl rfl rfl kV) rfl ⟨Or.inr (Or.inl ⟨hlim, HG.out.2 hG, rfl⟩), bV⟩
    rw [decide_eq_false hG]
    have HNG : Hid (¬ layG rs.length es rs va aa vb ab) := fun h => hG (HG.out.1 h)
    clear hG HG
    obtain ⟨i0, hi0, hz0, hz1, hz2⟩ := info_parts info41
    obtain ⟨g0, g1, _, _⟩ := HA.out.later HB7.out
    go_wp2_with (refine wpList_make_full _ rfl (.tmp 84) (.tmp 84) 26 rfl w7.heap.size 44 i0 (.slice none 0 0) 1 Try.underlying26 hi0 hz0 hz1 .i64 .i64 _ _ rs.length rfl rfl rfl rfl ?c1 ?c2 ?c3 ?_)
    all_goals first | (intro w8 hown hgrow) | omega | (unfold maxLen; omega) | exact Nat.le_refl _ | (rw [hz2]; omega)
    have hb8 := below_made hgrow
    obtain ⟨gw, hgw⟩ : ∃ gw, w7.heap.size = gw := ⟨_, rfl⟩
    have hqr := qrow_made hown
    rw [hgw] at hqr
    have HQ8 : Hid (∃ rv, QRow w8 gw gw rs.length rv (cpL rs 0)) := ⟨_, hqr.congr fun x hx => by unfold cpL; rw [if_neg (by omega)]⟩
    have HB8 := hide hb8
    have HGW := hide hgw
    try rw [hgw]
    clear hown hgrow hb8 hqr hi0 hz0 hz1 hz2 i0 hgw g0 g1
    go_wp2_with fail
    go_loopw [19] (fun t19 wr => ∃ v : Nat, v ≤ rs.length ∧ t19 = .int .i64 v ∧ Hid (Below w7.heap.size w7 wr) ∧ Hid (∃ rv, QRow wr gw gw rs.length rv (cpL rs v))) (fun t19 _ => rs.length - (intOf t19).toNat)
    case atStart => exact ⟨0, by omega, rfl, HB8.out, HQ8.out⟩
    case round =>
      clear HB8 HQ8
      obtain ⟨v, hv, rfl, HBr, HQr⟩ := hrel
      have HWr := hide (below_step HB7.out HBr.out)
      obtain ⟨rv, hqr⟩ := HQr.out
      obtain ⟨g0, g1, _, _⟩ := HA.out.later HWr.out
      by_cases hlt : v < rs.length
      · obtain ⟨b1, o1, a1, k1, hq1, c0, m1, z3, z4, z5⟩ := (HR.out.later HWr.out).at_ hlt
        subst hq1
        have e1 : (v : Int) < rs.length := by omega
        obtain ⟨d0, f0⟩ := hqr.cell hlt
        have HST := hide (cpL_step rs v)
        have HSN : Hid (∃ rv, QRow (wr.setCell ⟨gw, v, none⟩ (.slice a1 (lat rs v).length k1)) gw gw rs.length rv (cpL rs (v + 1))) := ⟨_, by rw [← HST.out]; exact hqr.set (k := v) m1 z3 z4 z5 (fun hne ad had => by
          have h1 := ihas_lt (m1) hne ad had
          obtain ⟨b2, o2, a2, k2, hq2, c2, m2, _⟩ := (HR.out.later HB7.out).at_ hlt
          cases hq2
          have h3 := later HBr.out c2
          rw [c0] at h3
          injection h3 with h3
          injection h3 with h4 _ _
          subst h4
          have h5 := ihas_lt m2 hne ad had
          have := HGW.out
          omega)⟩
        have HBN : Hid (Below w7.heap.size w7 (wr.setCell ⟨gw, v, none⟩ (.slice a1 (lat rs v).length k1))) := HBr.out.setCell (p := ⟨gw, v, none⟩) (by show _ ≤ gw; have := HGW.out; omega) _
        clear hqr m1 z3 z4 z5 HQr HST
        go_wp2
        go_roundw
        case rel => exact ⟨v + 1, by omega, by go_num, HBN.out, HSN.out⟩
        case measure => simp [intOf]; omega
      · have e1 : ¬ (v : Int) < rs.length := by omega
        have hve : v = rs.length := by omega
        rw [hve] at hqr e1 ⊢
        have HQ9 : Hid (∃ rv, QRow wr gw gw rs.length rv (fun x => lat rs x)) := ⟨_, hqr.congr fun x hx => by unfold cpL; rw [if_pos hx]⟩
        clear hve hlt hv hqr HQr
        go_upto_region 20 with fail
        have d1 : IntKind.i64.wrap (2 * (es.length : Int)) = 2 * es.length := by rw [IntKind.wrap_i64]; omega
        have d2 : IntKind.i64.wrap (2 * (es.length : Int) + 1) = 2 * es.length + 1 := by rw [IntKind.wrap_i64]; omega
        have k1 : (va : Int) < rs.length := by omega
        have k2 : (vb : Int) < rs.length := by omega
        have HKN : Hid (kd ≠ w.heap.size + 3) := by show _ ≠ _; have h1 := HB3.out.size; have h2 := HWS.out; omega
        have HLE : Hid (∀ v, v < rs.length → (lat (betR rs va aa vb ab (2 * es.length : Nat)) v).length ≤ 6146) := fun v hv => bet_le HZ2.out hva hvb hv
        by_cases heq : va = vb ∧ aa = ab
        · obtain ⟨rfl, rfl⟩ := heq
          have s2 := later HWr.out HSA.out.1
          have s2' := later HWr.out HSA.out.2
          have s3 := later HWr.out HSB.out.1
          have s3' := later HWr.out HSB.out.2
          go_upto_region 21 with fail
          clear s2 s2' s3 s3' g0 g1 e1
          obtain ⟨br, or, ar, cr, hq1, c0, m1, z3, z4, z5⟩ := (HR.out.later HB7.out).at_ hva
          subst hq1
          have HS : Hid (∀ V, Below w7.heap.size w7 V → V.cell? ⟨w.heap.size + 1, 0, none⟩ = some (.int .i64 va) ∧ V.cell? ⟨w.heap.size + 1, 1, none⟩ = some (.int .i64 aa) ∧ V.cell? ⟨br, or + va, none⟩ = some (.slice ar (lat rs va).length cr)) := fun V hV => ⟨later (below_step HB7.out hV) HSA.out.1, later (below_step HB7.out hV) HSA.out.2, later hV c0⟩
          have HLR : Hid ((lat rs va).length ≤ 20000) := by show _ ≤ _; have := HZ2.out va hva; omega
          obtain ⟨rv, hqx⟩ := HQ9.out
          have HBx := hide HBr.out
          have HM1 := hide m1
          obtain ⟨V0, hV0⟩ : ∃ V, V = wr.drew := ⟨_, rfl⟩
          have bd : Below wr.heap.size wr V0 := by rw [hV0]; exact below_drew _
          have HBV0 : Hid (Below w7.heap.size w7 V0) := below_step HBx.out bd
          have HQV0 := hide (hqx.later bd)
          clear hqx
          have HIV0 := hide (HM1.out.later HBV0.out)
          have HLN : Hid (∀ v, v < rs.length → upd (fun x => lat rs x) va (ptR (lat rs va) aa [2 * (es.length : Int), 2 * (es.length : Int) + 1]) v = betL rs va aa va aa (2 * es.length : Nat) v) := fun v hv => bet_same (rs := rs) H0.out hva HCA.out v
          clear c0 m1 z3 z4 z5 HQ9
          refine wp_region_held_drew (S := (fun V => V.cell? ⟨w.heap.size + 1, 0, none⟩ = some (.int .i64 va) ∧ V.cell? ⟨w.heap.size + 1, 1, none⟩ = some (.int .i64 aa) ∧ V.cell? ⟨br, or + va, none⟩ = some (.slice ar (lat rs va).length cr))) (by kernel_rfl) (by rw [← hV0]; exact HS.out _ HBV0.out) (fun hHeld => ?_)
          rw [← hV0] at hHeld ⊢
          clear hV0 bd
          obtain ⟨s0, s1, s2⟩ := HS.out _ HBV0.out
          refine wpAnyH_take (i := 0) (v := ?v1) rfl (by kernel_rfl) (by kernel_rfl) (by kernel_rfl) (fun _ _ _ h => h) (Or.inl ⟨by rfl, ?hy1⟩) (by assumption) ?rest1
          case hy1 => (intro w hSw; (try dsimp only at hSw); go_simp; try with_reducible rfl)
          try simp only [Act.put, lA, lB, lD, lE, lF]
          refine wpAnyH_take (i := 1) (v := ?v2) rfl (by kernel_rfl) (by kernel_rfl) (by kernel_rfl) (fun _ _ _ h => h) (Or.inl ⟨by rfl, ?hy2⟩) (by assumption) ?rest2
          case hy2 => (intro w hSw; (try dsimp only at hSw); go_simp; try with_reducible rfl)
          try simp only [Act.put, lA, lB, lC, lD, lE, lF]
          refine wpAnyH_take (i := 2) (v := ?v3) rfl (by kernel_rfl) (by kernel_rfl) (by kernel_rfl) (fun _ _ _ h => h) (Or.inl ⟨by rfl, ?hy3⟩) (by assumption) ?rest3
          case hy3 => (intro w hSw; (try dsimp only at hSw); go_simp; try with_reducible rfl)
          try simp only [Act.put, lA, lB, lC, lD, lE, lF]
          refine wpAnyH_take (i := 3) (v := ?v4) rfl (by kernel_rfl) (by kernel_rfl) (by kernel_rfl) (fun _ _ _ h => h) (Or.inl ⟨by rfl, ?hy4⟩) (by assumption) ?rest4
          case hy4 => (intro w hSw; (try dsimp only at hSw); go_simp; try with_reducible rfl)
          try simp only [Act.put, lA, lB, lC, lD, lE, lF]
          refine wpAnyH_take (i := 4) (v := ?v5) rfl (by kernel_rfl) (by kernel_rfl) (by kernel_rfl) (fun _ _ _ h => h) (Or.inl ⟨by rfl, ?hy5⟩) (by assumption) ?rest5
          case hy5 => (intro w hSw; (try dsimp only at hSw); go_simp; try with_reducible rfl)
          try simp only [Act.put, lA, lB, lC, lD, lE, lF]
          refine wpAnyH_take (i := 5) (v := ?v6) rfl (by kernel_rfl) (by kernel_rfl) (by kernel_rfl) (fun _ _ _ h => h) (Or.inl ⟨by rfl, ?hy6⟩) (by assumption) ?rest6
          case hy6 => (intro w hSw; (try dsimp only at hSw); go_simp; try with_reducible rfl)
          try simp only [Act.put, lA, lB, lC, lD, lE, lF]
          refine wpAnyH_take (i := 6) (v := ?v7) rfl (by kernel_rfl) (by kernel_rfl) (by kernel_rfl) (fun _ _ _ h => h) (Or.inl ⟨by rfl, ?hy7⟩) (by assumption) ?rest7
          case hy7 => (intro w hSw; (try dsimp only at hSw); go_simp; try with_reducible rfl)
          try simp only [Act.put, lA, lB, lC, lD, lE, lF]
          refine wpAnyH_take (i := 7) (v := ?v8) rfl (by kernel_rfl) (by kernel_rfl) (by kernel_rfl) (fun _ _ _ h => h) (Or.inl ⟨by rfl, ?hy8⟩) (by assumption) ?rest8
          case hy8 => (intro w hSw; (try dsimp only at hSw); go_simp; try with_reducible rfl)
          try simp only [Act.put, lA, lB, lC, lD, lE, lF]
          refine wpAnyH_take (i := 8) (v := ?v9) rfl (by kernel_rfl) (by kernel_rfl) (by kernel_rfl) (fun _ _ _ h => h) (Or.inl ⟨by rfl, ?hy9⟩) (by assumption) ?rest9
          case hy9 => (intro w hSw; (try dsimp only at hSw); go_simp; try with_reducible rfl)
          try simp only [Act.put, lA, lB, lC, lD, lE, lF]
          refine wpAnyH_take (i := 9) (v := ?v10) rfl (by kernel_rfl) (by kernel_rfl) (by kernel_rfl) (fun _ _ _ h => h) (Or.inl ⟨by rfl, ?hy10⟩) (by assumption) ?rest10
          case hy10 => (intro w hSw; (try dsimp only at hSw); go_simp; try with_reducible rfl)
          try simp only [Act.put, lA, lB, lC, lD, lE, lF]
          refine wpAnyH_take (i := 10) (v := ?v11) rfl (by kernel_rfl) (by kernel_rfl) (by kernel_rfl) (fun _ _ _ h => h) (Or.inl ⟨by rfl, ?hy11⟩) (by assumption) ?rest11
          case hy11 => (intro w hSw; (try dsimp only at hSw); go_simp; try with_reducible rfl)
          try simp only [Act.put, lA, lB, lC, lD, lE, lF]
          refine wpAnyH_take (i := 11) (v := ?v12) rfl (by kernel_rfl) (by kernel_rfl) (by kernel_rfl) (fun _ _ _ h => h) (Or.inl ⟨by rfl, ?hy12⟩) (by assumption) ?rest12
          case hy12 => (intro w hSw; (try dsimp only at hSw); go_simp; try with_reducible rfl)
          try simp only [Act.put, lA, lB, lC, lD, lE, lF]
          refine wpAnyH_take (i := 12) (v := ?v13) rfl (by kernel_rfl) (by kernel_rfl) (by kernel_rfl) (fun _ _ _ h => h) (Or.inl ⟨by rfl, ?hy13⟩) (by assumption) ?rest13
          case hy13 => (intro w hSw; (try dsimp only at hSw); go_simp; try with_reducible rfl)
          try simp only [Act.put, lA, lB, lC, lD, lE, lF]
          refine wpAnyH_take (i := 13) (v := ?v14) rfl (by kernel_rfl) (by kernel_rfl) (by kernel_rfl) (fun _ _ _ h => h) (Or.inl ⟨by rfl, ?hy14⟩) (by assumption) ?rest14
          case hy14 => (intro w hSw; (try dsimp only at hSw); go_simp; try with_reducible rfl)
          try simp only [Act.put, lA, lB, lC, lD, lE, lF]
          refine wpAnyH_take (i := 14) (v := ?v15) rfl (by kernel_rfl) (by kernel_rfl) (by kernel_rfl) (fun _ _ _ h => h) (Or.inl ⟨by rfl, ?hy15⟩) (by assumption) ?rest15
          case hy15 => (intro w hSw; (try dsimp only at hSw); go_simp; try with_reducible rfl)
          try simp only [Act.put, lA, lB, lC, lD, lE, lF]
          refine wpAnyH_ready (rs := [15]) (by kernel_rfl) (by simp) ?_
          refine ready_cons ({ dst := some 117, op := Op.buildSlice 44 2 #[(0, Operand.tmp 113), (1, Operand.tmp 116)], type := 44, pos := "ref.go:103", after := #[{ on := 11, ground := Ground.data }, { on := 14, ground := Ground.data }], guard := none }) rfl rfl (fun K hK => ?_) ?_
          · clear hHeld
            go_simp
            obtain ⟨V1, hV⟩ : ∃ V, V = V0.alloc (.cells #[.int .i64 (2 * (es.length : Int)), .int .i64 (2 * (es.length : Int) + 1)] 3) := ⟨_, rfl⟩
            obtain ⟨kl, hkl⟩ : ∃ k, V0.heap.size = k := ⟨_, rfl⟩
            have hb2 : Below V0.heap.size V0 V1 := by rw [hV]; go_grown
            have HL1 : Hid (IHas V1 (some ⟨kl, 0, none⟩) [2 * (es.length : Int), 2 * (es.length : Int) + 1]) := by show IHas _ _ _; rw [hV, ← hkl]; exact lit2 V0 _ _
            rw [← hV, hkl]
            have HBV1 := hide (HBV0.out.trans (hb2.mono HBV0.out.size))
            have HQV1 := hide (HQV0.out.later hb2)
            have HIV1 := hide (HIV0.out.later hb2)
            clear hV hb2 hkl
            clear s0 s1 s2
            obtain ⟨s0, s1, s2⟩ := HS.out _ HBV1.out
            refine hK.out _ _ (by first | with_reducible exact ⟨s0, s1, s2⟩ | (dsimp only; with_reducible exact ⟨s0, s1, s2⟩)) (fun hHeld => ?_)
            clear hK K
            try simp only [Act.put, lA, lB, lC, lD, lE, lF]
            refine wpAnyH_ready (rs := [16]) (by kernel_rfl) (by simp) ?_
            refine ready_cons ({ dst := some 118, op := Op.call { callee := Callee.value (Operand.func 66), args := #[Operand.tmp 109, Operand.tmp 111, Operand.tmp 117], argTypes := #[44, 3, 44] }, type := 44, pos := "ref.go:103", after := #[{ on := 7, ground := Ground.data }, { on := 9, ground := Ground.data }, { on := 15, ground := Ground.data }], guard := none }) rfl rfl (fun K hK => ?_) ?_
            · clear hHeld
              go_simp
              refine (put66 ar (lat rs va) cr aa (some ⟨kl, 0, none⟩) [2 * (es.length : Int), 2 * (es.length : Int) + 1] 2 V1 HIV1.out HL1.out (by intro h; cases h) HLR.out (by simp)).mono ?_
              rintro e V2 ⟨p9, c9, rfl, ho, hb2⟩
              have HBV2 := hide (HBV1.out.trans (hb2.mono HBV1.out.size))
              have HQV2 := hide (HQV1.out.later hb2)
              have HO2 := hide ho
              have HVV : Hid (V1.heap.size ≤ V2.heap.size) := hb2.size
              have HGV : Hid (gw < V1.heap.size) := HQV1.out.lt.2
              clear hb2 ho
              clear s0 s1 s2
              obtain ⟨s0, s1, s2⟩ := HS.out _ HBV2.out
              refine hK.out _ _ (by first | with_reducible exact ⟨s0, s1, s2⟩ | (dsimp only; with_reducible exact ⟨s0, s1, s2⟩)) (fun hHeld => ?_)
              clear hK K
              try simp only [Act.put, lA, lB, lC, lD, lE, lF]
              refine wpAnyH_take (i := 17) (v := ?v16) rfl (by kernel_rfl) (by kernel_rfl) (by kernel_rfl) (fun _ _ _ h => h) (Or.inl ⟨by rfl, ?hy16⟩) (by assumption) ?rest16
              case hy16 => (intro w hSw; (try dsimp only at hSw); go_simp; try with_reducible rfl)
              try simp only [Act.put, lA, lB, lC, lD, lE, lF]
              refine wpAnyH_ready (rs := [18]) (by kernel_rfl) (by simp) ?_
              refine ready_cons ({ dst := none, op := Op.store 44 (Operand.tmp 119) (Operand.tmp 118), type := 0, pos := "ref.go:103", after := #[{ on := 17, ground := Ground.data }, { on := 16, ground := Ground.data }, { on := 16, ground := Ground.chain }, { on := 0, ground := Ground.phase }, { on := 1, ground := Ground.phase }, { on := 2, ground := Ground.phase }, { on := 3, ground := Ground.phase }, { on := 4, ground := Ground.phase }, { on := 5, ground := Ground.phase }, { on := 6, ground := Ground.phase }, { on := 7, ground := Ground.phase }, { on := 8, ground := Ground.phase }, { on := 9, ground := Ground.phase }, { on := 10, ground := Ground.phase }, { on := 11, ground := Ground.phase }, { on := 12, ground := Ground.phase }, { on := 13, ground := Ground.phase }, { on := 14, ground := Ground.phase }, { on := 15, ground := Ground.phase }, { on := 16, ground := Ground.phase }], guard := none }) rfl rfl (fun K hK => ?_) ?_
              · clear hHeld
                obtain ⟨d0, d1⟩ := HQV2.out.cell hva
                go_simp
                clear d0 d1
                obtain ⟨V3, hV⟩ : ∃ V, V = V2.setCell ⟨gw, va, none⟩ (.slice p9 (ptR (lat rs va) aa [2 * (es.length : Int), 2 * (es.length : Int) + 1]).length c9) := ⟨_, rfl⟩
                have HBV3 : Hid (Below w7.heap.size w7 V3) := by show Below _ _ _; rw [hV]; exact HBV2.out.setCell (p := ⟨gw, va, none⟩) (by show _ ≤ gw; have := HGW.out; omega) _
                have HQV3 : Hid (∃ rv, QRow V3 gw gw rs.length rv (upd (fun x => lat rs x) va (ptR (lat rs va) aa [2 * (es.length : Int), 2 * (es.length : Int) + 1]))) := by
                  obtain ⟨p8, c8, e8, h8, h9, h10, h11⟩ := HO2.out.form
                  injection e8 with e81 _ e83
                  subst e81 e83
                  exact ⟨_, by rw [hV]; exact HQV2.out.set (k := va) h8 (by have := ptR_le (lat rs va) aa [2 * (es.length : Int), 2 * (es.length : Int) + 1] HLR.out (by simp); unfold maxLen; omega) h9 h10 (fun _ ad had => by have := (h11 ad had).2.2.1; have := HGV.out; omega)⟩
                rw [← hV]
                clear hV
                clear s0 s1 s2
                obtain ⟨s0, s1, s2⟩ := HS.out _ HBV3.out
                refine hK.out _ _ (by first | with_reducible exact ⟨s0, s1, s2⟩ | (dsimp only; with_reducible exact ⟨s0, s1, s2⟩)) (fun hHeld => ?_)
                clear hK K
                try simp only [Act.put, lA, lB, lC, lD, lE, lF]
                refine wpAnyH_done (by kernel_rfl) ?_ _
                clear hHeld
                obtain ⟨rvn, hqn⟩ := HQV3.out
                have HRN9 : Hid (RHas V3 (some ⟨gw, 0, none⟩) (betR rs va aa va aa (2 * es.length : Nat))) := hqn.has (betR_length _ _ _ _ _ _) (fun v hv => by rw [betR_at hv]; exact HLN.out v hv)
                have HLB : Hid (∀ v, v < rs.length → (lat (betR rs va aa va aa (2 * es.length : Nat)) v).length ≤ 6146) := HLE.out
                have CN : Hid (∀ V, Below V3.heap.size V3 V → Calls Try.prog 63 #[.slice (some ⟨gw, 0, none⟩) rs.length rs.length] V fun e w' => ∃ g9 rv9, e = .returned (.slice (some ⟨g9, 0, none⟩) rs.length rs.length) ∧ Rows w' V.heap.size g9 rs.length rv9 (fun v => lat (canonL (betR rs va aa va aa (2 * es.length : Nat))) v) ∧ Below V.heap.size V w') := fun V hV => by
                  have := canon49 (some ⟨gw, 0, none⟩) (betR rs va aa va aa (2 * es.length : Nat)) rs.length V (HRN9.out.later hV) (by rw [betR_length]; omega) (fun u hu => by rw [betR_length] at hu; have := HLB.out u hu; omega)
                  rw [betR_length] at this
                  refine this.mono ?_
                  rintro e w' ⟨g9, rv9, he, hr9, hb9⟩
                  exact ⟨g9, rv9, he, hr9.congr fun v hv => (lat_canon (by rw [betR_length]; exact hv)).symm, hb9⟩
                have HSK : Hid (∀ V, Below V3.heap.size V3 V → V.cell? ⟨kd, 0, none⟩ = some (.int .i64 rs.length) ∧ V.cell? ⟨kd, 1, none⟩ = some (.slice q2 (es.length + 1) c2)) := fun V hV => by obtain ⟨x0, x1, _, _⟩ := HKE.out.later (below_step HC7.out (below_step HBV3.out hV)); exact ⟨x0, x1⟩
                have HV3 := hide (below_step HB7.out HBV3.out)
                clear hqn HQV3
                obtain ⟨k0, k1⟩ := HSK.out _ (Below.refl _ _)
                go_upto_region 24 with fail
                go_region_held3 (fun V => V.cell? ⟨kd, 0, none⟩ = some (.int .i64 rs.length) ∧ V.cell? ⟨kd, 1, none⟩ = some (.slice q2 (es.length + 1) c2))
                  (first | exact HSK.out _ (below_drew V3) | exact HSK.out _ (Below.refl _ _) | exact HSK.out _ HV9.out | exact ⟨other2 (HSK.out _ HV9.out).1 HKN.out, other2 (HSK.out _ HV9.out).2 HKN.out⟩)
                  (first | (go_at_call 63; refine (CN.out _ (below_drew V3)).mono ?_; rintro e w9 ⟨g9, rv9, rfl, hr9, hb9⟩; have HV9 := hide (below_step (below_drew V3) hb9); have HR9 := hide hr9; clear hb9 hr9 k0 k1; obtain ⟨k0, k1⟩ := HSK.out _ HV9.out; obtain ⟨r0, r1, r2, r3⟩ := HZ.out.later (below_step HV3.out HV9.out)))
                rename_i hHeld
                clear hHeld
                repeat (first | go_values | go_skip | go_guarded | go_step | go_upon)
                obtain ⟨Z, hZ⟩ : ∃ Z, Z = (w9.setCell ⟨w.heap.size + 3, 0, none⟩ (.int .i64 rs.length)).setCell ⟨w.heap.size + 3, 1, none⟩ (.slice q2 (es.length + 1) c2) := ⟨_, rfl⟩
                have kZ : NOwn Z (w.heap.size + 3) rs.length q2 (es.length + 1) c2 := by rw [hZ]; exact (HZ.out.later (below_step HV3.out HV9.out)).set _ _ _ _
                have bZ : Below w.heap.size w Z := by rw [hZ]; exact ((below_step HB.out (below_step HV3.out HV9.out)).setCell (by simp) _).setCell (by simp) _
                have hsz : w.heap.size + 3 < w3.heap.size := by have h1 := HB3.out.size; have h2 := HWS.out; omega
                have hs9 : w3.heap.size ≤ V3.heap.size := by have h1 := HCE.out.size; have h2 := HC7.out.size; have h3 := HBV3.out.size; omega
                have hH : Has Z q2 (layN es va va) := by
                  rw [hZ]
                  exact ((HPE.out.later (below_step HC7.out (below_step HBV3.out HV9.out))).other (fun a ha => by have := HPB.out a ha; omega) _).other (fun a ha => by have := HPB.out a ha; omega) _
                have rZ : Rows Z w.heap.size g9 rs.length rv9 (fun v => lat (canonL (betR rs va aa va aa (2 * es.length : Nat))) v) := by
                  rw [hZ]
                  have hd : V3.drew.heap.size = V3.heap.size := rfl
                  exact ((HR9.out.other (by rw [hd]; omega) _).other (by rw [hd]; omega) _).base (by rw [hd]; omega)
                rw [← hZ]
                exact bodyPost_ret (ret_net3 Try.results26 rfl rfl rfl kZ) rfl ⟨Or.inr (Or.inr ⟨hlim, HNG.out, q2, c2, g9, rv9, rfl, hH, ⟨HQ2.out, fun a ha => by have := HPB.out a ha; omega⟩, rZ⟩), bZ⟩
              exact AllReadyH.nil
            exact AllReadyH.nil
          exact AllReadyH.nil
        · have s2 := later HWr.out HSA.out.1
          have s2' := later HWr.out HSA.out.2
          have s3 := later HWr.out HSB.out.1
          have s3' := later HWr.out HSB.out.2
          have HNQ := hide heq
          go_cut [101] (fun s101 wx => s101 = .bool false ∧ wx = wr)
          case first =>
            by_cases h1 : va = vb
            · subst h1
              have h2 : (aa == ab) = false := by rw [beq_eq_false_iff_ne]; exact fun e => heq ⟨rfl, e⟩
              go_wp2_with fail
              go_meet
              exact ⟨rfl, rfl⟩
            · have h2 : ((va : Int) == vb) = false := by rw [beq_eq_false_iff_ne]; omega
              go_wp2_with fail
              go_meet
              exact ⟨rfl, rfl⟩
          case rest =>
            obtain ⟨rfl, hwc⟩ := hcut
            have hwd := hwc.symm
            clear hwc
            subst hwd
            go_upto_region 22 with fail
            clear s2 s2' s3 s3' g0 g1 e1 heq
            have HS : Hid (∀ V, Below w7.heap.size w7 V → V.cell? ⟨w.heap.size + 1, 0, none⟩ = some (.int .i64 va) ∧ V.cell? ⟨w.heap.size + 1, 1, none⟩ = some (.int .i64 aa) ∧ True) := fun V hV => ⟨later (below_step HB7.out hV) HSA.out.1, later (below_step HB7.out hV) HSA.out.2, trivial⟩
            have HLR : Hid ((lat rs va).length ≤ 20000) := by show _ ≤ _; have := HZ2.out va hva; omega
            obtain ⟨rv, hqx⟩ := HQ9.out
            have HBx := hide HBr.out
            obtain ⟨ar, cr, hrv, hia, _⟩ := hqx.row va hva
            have hcl := (hqx.cell hva).1
            rw [hrv] at hcl
            have HI_ := hide hia
            have HCL_ := hide hcl
            obtain ⟨V0, hV0⟩ : ∃ V, V = wr.drew := ⟨_, rfl⟩
            have bd : Below wr.heap.size wr V0 := by rw [hV0]; exact below_drew _
            have HBV0 : Hid (Below w7.heap.size w7 V0) := below_step HBx.out bd
            have HQV0 := hide (hqx.later bd)
            clear hqx
            have HIV0 := hide (HI_.out.later bd)
            have HCLV0 := hide (later bd HCL_.out)
            clear hrv hia hcl HI_ HCL_ HQ9
            go_cut [133] (fun s133 wx => Below w7.heap.size w7 wx ∧ ∃ rv, QRow wx gw gw rs.length rv (upd (fun x => lat rs x) va (ptR (lat rs va) aa [2 * (es.length : Int)])))
            case first =>
              refine wp_region_held_drew (S := (fun V => V.cell? ⟨w.heap.size + 1, 0, none⟩ = some (.int .i64 va) ∧ V.cell? ⟨w.heap.size + 1, 1, none⟩ = some (.int .i64 aa) ∧ True)) (by kernel_rfl) (by rw [← hV0]; exact HS.out _ HBV0.out) (fun hHeld => ?_)
              rw [← hV0] at hHeld ⊢
              clear hV0 bd
              obtain ⟨s0, s1, s2⟩ := HS.out _ HBV0.out
              refine wpAnyH_take (i := 0) (v := ?v17) rfl (by kernel_rfl) (by kernel_rfl) (by kernel_rfl) (fun _ _ _ h => h) (Or.inl ⟨by rfl, ?hy17⟩) (by assumption) ?rest17
              case hy17 => (intro w hSw; (try dsimp only at hSw); go_simp; try with_reducible rfl)
              try simp only [Act.put, lA, lB, lD, lE, lF]
              refine wpAnyH_take (i := 1) (v := ?v18) rfl (by kernel_rfl) (by kernel_rfl) (by kernel_rfl) (fun _ _ _ h => h) (Or.inl ⟨by rfl, ?hy18⟩) (by assumption) ?rest18
              case hy18 => (intro w hSw; (try dsimp only at hSw); go_simp; try with_reducible rfl)
              try simp only [Act.put, lA, lB, lC, lD, lE, lF]
              refine wpAnyH_take (i := 2) (v := ?v19) rfl (by kernel_rfl) (by kernel_rfl) (by kernel_rfl) (fun _ _ _ h => h) (Or.inl ⟨by rfl, ?hy19⟩) (by assumption) ?rest19
              case hy19 => (intro w hSw; (try dsimp only at hSw); go_simp; try with_reducible rfl)
              try simp only [Act.put, lA, lB, lC, lD, lE, lF]
              refine wpAnyH_take (i := 3) (v := ?v20) rfl (by kernel_rfl) (by kernel_rfl) (by kernel_rfl) (fun _ _ _ h => h) (Or.inl ⟨by rfl, ?hy20⟩) (by assumption) ?rest20
              case hy20 => (intro w hSw; (try dsimp only at hSw); go_simp; try with_reducible rfl)
              try simp only [Act.put, lA, lB, lC, lD, lE, lF]
              refine wpAnyH_take (i := 4) (v := ?v21) rfl (by kernel_rfl) (by kernel_rfl) (by kernel_rfl) (fun _ _ _ h => h) (Or.inl ⟨by rfl, ?hy21⟩) (by assumption) ?rest21
              case hy21 => (intro w hSw; (try dsimp only at hSw); go_simp; try with_reducible rfl)
              try simp only [Act.put, lA, lB, lC, lD, lE, lF]
              refine wpAnyH_take (i := 5) (v := ?v22) rfl (by kernel_rfl) (by kernel_rfl) (by kernel_rfl) (fun _ _ _ h => h) (Or.inl ⟨by rfl, ?hy22⟩) (by assumption) ?rest22
              case hy22 => (intro w hSw; (try dsimp only at hSw); go_simp; try with_reducible rfl)
              try simp only [Act.put, lA, lB, lC, lD, lE, lF]
              refine wpAnyH_take (i := 6) (v := ?v23) rfl (by kernel_rfl) (by kernel_rfl) (by kernel_rfl) (fun _ _ _ h => h) (Or.inl ⟨by rfl, ?hy23⟩) (by assumption) ?rest23
              case hy23 => (intro w hSw; (try dsimp only at hSw); go_simp; try with_reducible rfl)
              try simp only [Act.put, lA, lB, lC, lD, lE, lF]
              refine wpAnyH_take (i := 8) (v := ?v24) rfl (by kernel_rfl) (by kernel_rfl) (by kernel_rfl) (fun _ _ _ h => h) (Or.inl ⟨by rfl, ?hy24⟩) (by assumption) ?rest24
              case hy24 => (intro w hSw; (try dsimp only at hSw); go_simp; try with_reducible rfl)
              try simp only [Act.put, lA, lB, lC, lD, lE, lF]
              refine wpAnyH_take (i := 9) (v := ?v25) rfl (by kernel_rfl) (by kernel_rfl) (by kernel_rfl) (fun _ _ _ h => h) (Or.inl ⟨by rfl, ?hy25⟩) (by assumption) ?rest25
              case hy25 => (intro w hSw; (try dsimp only at hSw); go_simp; try with_reducible rfl)
              try simp only [Act.put, lA, lB, lC, lD, lE, lF]
              refine wpAnyH_take (i := 10) (v := ?v26) rfl (by kernel_rfl) (by kernel_rfl) (by kernel_rfl) (fun _ _ _ h => h) (Or.inl ⟨by rfl, ?hy26⟩) (by assumption) ?rest26
              case hy26 => (intro w hSw; (try dsimp only at hSw); go_simp; try with_reducible rfl)
              try simp only [Act.put, lA, lB, lC, lD, lE, lF]
              refine wpAnyH_take (i := 11) (v := ?v27) rfl (by kernel_rfl) (by kernel_rfl) (by kernel_rfl) (fun _ _ _ h => h) (Or.inl ⟨by rfl, ?hy27⟩) (by assumption) ?rest27
              case hy27 => (intro w hSw; (try dsimp only at hSw); go_simp; try with_reducible rfl)
              try simp only [Act.put, lA, lB, lC, lD, lE, lF]
              refine wpAnyH_ready (rs := [7, 12]) (by kernel_rfl) (by simp) ?_
              refine ready_cons ({ dst := some 127, op := Op.load 44 (Operand.tmp 126), type := 44, pos := "ref.go:105", after := #[{ on := 6, ground := Ground.data }], guard := none }) rfl rfl (fun K hK => ?_) ?_
              · clear hHeld
                have d0 := HCLV0.out
                refine wp_val (v := .slice ar (lat rs va).length cr) (w2 := V0) ?hl1027 ?_
                case hl1027 => (go_simp; try with_reducible rfl)
                clear d0
                refine hK.out _ _ (by first | with_reducible exact ⟨s0, s1, s2⟩ | (dsimp only; with_reducible exact ⟨s0, s1, s2⟩)) (fun hHeld => ?_)
                clear hK K
                try simp only [Act.put, lD, lE, lF]
                refine wpAnyH_ready (rs := [12]) (by kernel_rfl) (by simp) ?_
                refine ready_cons ({ dst := some 132, op := Op.buildSlice 44 1 #[(0, Operand.tmp 131)], type := 44, pos := "ref.go:105", after := #[{ on := 11, ground := Ground.data }], guard := none }) rfl rfl (fun K hK => ?_) ?_
                · clear hHeld
                  go_simp
                  obtain ⟨V1, hV⟩ : ∃ V, V = V0.alloc (.cells #[.int .i64 (2 * (es.length : Int))] 3) := ⟨_, rfl⟩
                  obtain ⟨kl, hkl⟩ : ∃ k, V0.heap.size = k := ⟨_, rfl⟩
                  have hb2 : Below V0.heap.size V0 V1 := by rw [hV]; go_grown
                  have HL1 : Hid (IHas V1 (some ⟨kl, 0, none⟩) [2 * (es.length : Int)]) := by show IHas _ _ _; rw [hV, ← hkl]; exact lit1 V0 _
                  rw [← hV, hkl]
                  have HBV1 := hide (HBV0.out.trans (hb2.mono HBV0.out.size))
                  have HQV1 := hide (HQV0.out.later hb2)
                  have HIV1 := hide (HIV0.out.later hb2)
                  have HCLV1 := hide (later hb2 HCLV0.out)
                  clear hV hb2 hkl
                  clear s0 s1 s2
                  obtain ⟨s0, s1, s2⟩ := HS.out _ HBV1.out
                  refine hK.out _ _ (by first | with_reducible exact ⟨s0, s1, s2⟩ | (dsimp only; with_reducible exact ⟨s0, s1, s2⟩)) (fun hHeld => ?_)
                  clear hK K
                  try simp only [Act.put, lA, lB, lC, lD, lE, lF]
                  refine wpAnyH_ready (rs := [13]) (by kernel_rfl) (by simp) ?_
                  refine ready_cons ({ dst := some 133, op := Op.call { callee := Callee.value (Operand.func 66), args := #[Operand.tmp 127, Operand.tmp 129, Operand.tmp 132], argTypes := #[44, 3, 44] }, type := 44, pos := "ref.go:105", after := #[{ on := 7, ground := Ground.data }, { on := 9, ground := Ground.data }, { on := 12, ground := Ground.data }], guard := none }) rfl rfl (fun K hK => ?_) ?_
                  · clear hHeld
                    go_simp
                    refine (put66 ar (lat rs va) cr aa (some ⟨kl, 0, none⟩) [2 * (es.length : Int)] 1 V1 HIV1.out HL1.out (by intro h; cases h) HLR.out (by simp)).mono ?_
                    rintro e V2 ⟨p9, c9, rfl, ho, hb2⟩
                    have HBV2 := hide (HBV1.out.trans (hb2.mono HBV1.out.size))
                    have HQV2 := hide (HQV1.out.later hb2)
                    have HO2 := hide ho
                    have HVV : Hid (V1.heap.size ≤ V2.heap.size) := hb2.size
                    have HGV : Hid (gw < V1.heap.size) := HQV1.out.lt.2
                    clear hb2 ho
                    clear s0 s1 s2
                    obtain ⟨s0, s1, s2⟩ := HS.out _ HBV2.out
                    refine hK.out _ _ (by first | with_reducible exact ⟨s0, s1, s2⟩ | (dsimp only; with_reducible exact ⟨s0, s1, s2⟩)) (fun hHeld => ?_)
                    clear hK K
                    try simp only [Act.put, lA, lB, lC, lD, lE, lF]
                    refine wpAnyH_take (i := 14) (v := ?v28) rfl (by kernel_rfl) (by kernel_rfl) (by kernel_rfl) (fun _ _ _ h => h) (Or.inl ⟨by rfl, ?hy28⟩) (by assumption) ?rest28
                    case hy28 => (intro w hSw; (try dsimp only at hSw); go_simp; try with_reducible rfl)
                    try simp only [Act.put, lA, lB, lC, lD, lE, lF]
                    refine wpAnyH_ready (rs := [15]) (by kernel_rfl) (by simp) ?_
                    refine ready_cons ({ dst := none, op := Op.store 44 (Operand.tmp 134) (Operand.tmp 133), type := 0, pos := "ref.go:105", after := #[{ on := 14, ground := Ground.data }, { on := 13, ground := Ground.data }, { on := 13, ground := Ground.chain }, { on := 0, ground := Ground.phase }, { on := 1, ground := Ground.phase }, { on := 2, ground := Ground.phase }, { on := 3, ground := Ground.phase }, { on := 4, ground := Ground.phase }, { on := 5, ground := Ground.phase }, { on := 6, ground := Ground.phase }, { on := 7, ground := Ground.phase }, { on := 8, ground := Ground.phase }, { on := 9, ground := Ground.phase }, { on := 10, ground := Ground.phase }, { on := 11, ground := Ground.phase }, { on := 12, ground := Ground.phase }, { on := 13, ground := Ground.phase }], guard := none }) rfl rfl (fun K hK => ?_) ?_
                    · clear hHeld
                      obtain ⟨d0, d1⟩ := HQV2.out.cell hva
                      go_simp
                      clear d0 d1
                      obtain ⟨V3, hV⟩ : ∃ V, V = V2.setCell ⟨gw, va, none⟩ (.slice p9 (ptR (lat rs va) aa [2 * (es.length : Int)]).length c9) := ⟨_, rfl⟩
                      have HBV3 : Hid (Below w7.heap.size w7 V3) := by show Below _ _ _; rw [hV]; exact HBV2.out.setCell (p := ⟨gw, va, none⟩) (by show _ ≤ gw; have := HGW.out; omega) _
                      have HQV3 : Hid (∃ rv, QRow V3 gw gw rs.length rv (upd (fun x => lat rs x) va (ptR (lat rs va) aa [2 * (es.length : Int)]))) := by
                        obtain ⟨p8, c8, e8, h8, h9, h10, h11⟩ := HO2.out.form
                        injection e8 with e81 _ e83
                        subst e81 e83
                        exact ⟨_, by rw [hV]; exact HQV2.out.set (k := va) h8 (by have := ptR_le (lat rs va) aa [2 * (es.length : Int)] HLR.out (by simp); unfold maxLen; omega) h9 h10 (fun _ ad had => by have := (h11 ad had).2.2.1; have := HGV.out; omega)⟩
                      rw [← hV]
                      clear hV
                      clear s0 s1 s2
                      obtain ⟨s0, s1, s2⟩ := HS.out _ HBV3.out
                      refine hK.out _ _ (by first | with_reducible exact ⟨s0, s1, s2⟩ | (dsimp only; with_reducible exact ⟨s0, s1, s2⟩)) (fun hHeld => ?_)
                      clear hK K
                      try simp only [Act.put, lA, lB, lC, lD, lE, lF]
                      refine wpAnyH_done (by kernel_rfl) ?_ _
                      clear hHeld
                      go_wp2_with fail
                      go_meet
                      exact ⟨HBV3.out, HQV3.out⟩
                    exact AllReadyH.nil
                  exact AllReadyH.nil
                exact AllReadyH.nil
              refine ready_cons ({ dst := some 132, op := Op.buildSlice 44 1 #[(0, Operand.tmp 131)], type := 44, pos := "ref.go:105", after := #[{ on := 11, ground := Ground.data }], guard := none }) rfl rfl (fun K hK => ?_) ?_
              · clear hHeld
                go_simp
                obtain ⟨V1, hV⟩ : ∃ V, V = V0.alloc (.cells #[.int .i64 (2 * (es.length : Int))] 3) := ⟨_, rfl⟩
                obtain ⟨kl, hkl⟩ : ∃ k, V0.heap.size = k := ⟨_, rfl⟩
                have hb2 : Below V0.heap.size V0 V1 := by rw [hV]; go_grown
                have HL1 : Hid (IHas V1 (some ⟨kl, 0, none⟩) [2 * (es.length : Int)]) := by show IHas _ _ _; rw [hV, ← hkl]; exact lit1 V0 _
                rw [← hV, hkl]
                have HBV1 := hide (HBV0.out.trans (hb2.mono HBV0.out.size))
                have HQV1 := hide (HQV0.out.later hb2)
                have HIV1 := hide (HIV0.out.later hb2)
                have HCLV1 := hide (later hb2 HCLV0.out)
                clear hV hb2 hkl
                clear s0 s1 s2
                obtain ⟨s0, s1, s2⟩ := HS.out _ HBV1.out
                refine hK.out _ _ (by first | with_reducible exact ⟨s0, s1, s2⟩ | (dsimp only; with_reducible exact ⟨s0, s1, s2⟩)) (fun hHeld => ?_)
                clear hK K
                try simp only [Act.put, lA, lB, lC, lD, lE, lF]
                refine wpAnyH_ready (rs := [7]) (by kernel_rfl) (by simp) ?_
                refine ready_cons ({ dst := some 127, op := Op.load 44 (Operand.tmp 126), type := 44, pos := "ref.go:105", after := #[{ on := 6, ground := Ground.data }], guard := none }) rfl rfl (fun K hK => ?_) ?_
                · clear hHeld
                  have d0 := HCLV1.out
                  refine wp_val (v := .slice ar (lat rs va).length cr) (w2 := V1) ?hl1029 ?_
                  case hl1029 => (go_simp; try with_reducible rfl)
                  clear d0
                  refine hK.out _ _ (by first | with_reducible exact ⟨s0, s1, s2⟩ | (dsimp only; with_reducible exact ⟨s0, s1, s2⟩)) (fun hHeld => ?_)
                  clear hK K
                  try simp only [Act.put, lD, lE, lF]
                  refine wpAnyH_ready (rs := [13]) (by kernel_rfl) (by simp) ?_
                  refine ready_cons ({ dst := some 133, op := Op.call { callee := Callee.value (Operand.func 66), args := #[Operand.tmp 127, Operand.tmp 129, Operand.tmp 132], argTypes := #[44, 3, 44] }, type := 44, pos := "ref.go:105", after := #[{ on := 7, ground := Ground.data }, { on := 9, ground := Ground.data }, { on := 12, ground := Ground.data }], guard := none }) rfl rfl (fun K hK => ?_) ?_
                  · clear hHeld
                    go_simp
                    refine (put66 ar (lat rs va) cr aa (some ⟨kl, 0, none⟩) [2 * (es.length : Int)] 1 V1 HIV1.out HL1.out (by intro h; cases h) HLR.out (by simp)).mono ?_
                    rintro e V2 ⟨p9, c9, rfl, ho, hb2⟩
                    have HBV2 := hide (HBV1.out.trans (hb2.mono HBV1.out.size))
                    have HQV2 := hide (HQV1.out.later hb2)
                    have HO2 := hide ho
                    have HVV : Hid (V1.heap.size ≤ V2.heap.size) := hb2.size
                    have HGV : Hid (gw < V1.heap.size) := HQV1.out.lt.2
                    clear hb2 ho
                    clear s0 s1 s2
                    obtain ⟨s0, s1, s2⟩ := HS.out _ HBV2.out
                    refine hK.out _ _ (by first | with_reducible exact ⟨s0, s1, s2⟩ | (dsimp only; with_reducible exact ⟨s0, s1, s2⟩)) (fun hHeld => ?_)
                    clear hK K
                    try simp only [Act.put, lA, lB, lC, lD, lE, lF]
                    refine wpAnyH_take (i := 14) (v := ?v29) rfl (by kernel_rfl) (by kernel_rfl) (by kernel_rfl) (fun _ _ _ h => h) (Or.inl ⟨by rfl, ?hy29⟩) (by assumption) ?rest29
                    case hy29 => (intro w hSw; (try dsimp only at hSw); go_simp; try with_reducible rfl)
                    try simp only [Act.put, lA, lB, lC, lD, lE, lF]
                    refine wpAnyH_ready (rs := [15]) (by kernel_rfl) (by simp) ?_
                    refine ready_cons ({ dst := none, op := Op.store 44 (Operand.tmp 134) (Operand.tmp 133), type := 0, pos := "ref.go:105", after := #[{ on := 14, ground := Ground.data }, { on := 13, ground := Ground.data }, { on := 13, ground := Ground.chain }, { on := 0, ground := Ground.phase }, { on := 1, ground := Ground.phase }, { on := 2, ground := Ground.phase }, { on := 3, ground := Ground.phase }, { on := 4, ground := Ground.phase }, { on := 5, ground := Ground.phase }, { on := 6, ground := Ground.phase }, { on := 7, ground := Ground.phase }, { on := 8, ground := Ground.phase }, { on := 9, ground := Ground.phase }, { on := 10, ground := Ground.phase }, { on := 11, ground := Ground.phase }, { on := 12, ground := Ground.phase }, { on := 13, ground := Ground.phase }], guard := none }) rfl rfl (fun K hK => ?_) ?_
                    · clear hHeld
                      obtain ⟨d0, d1⟩ := HQV2.out.cell hva
                      go_simp
                      clear d0 d1
                      obtain ⟨V3, hV⟩ : ∃ V, V = V2.setCell ⟨gw, va, none⟩ (.slice p9 (ptR (lat rs va) aa [2 * (es.length : Int)]).length c9) := ⟨_, rfl⟩
                      have HBV3 : Hid (Below w7.heap.size w7 V3) := by show Below _ _ _; rw [hV]; exact HBV2.out.setCell (p := ⟨gw, va, none⟩) (by show _ ≤ gw; have := HGW.out; omega) _
                      have HQV3 : Hid (∃ rv, QRow V3 gw gw rs.length rv (upd (fun x => lat rs x) va (ptR (lat rs va) aa [2 * (es.length : Int)]))) := by
                        obtain ⟨p8, c8, e8, h8, h9, h10, h11⟩ := HO2.out.form
                        injection e8 with e81 _ e83
                        subst e81 e83
                        exact ⟨_, by rw [hV]; exact HQV2.out.set (k := va) h8 (by have := ptR_le (lat rs va) aa [2 * (es.length : Int)] HLR.out (by simp); unfold maxLen; omega) h9 h10 (fun _ ad had => by have := (h11 ad had).2.2.1; have := HGV.out; omega)⟩
                      rw [← hV]
                      clear hV
                      clear s0 s1 s2
                      obtain ⟨s0, s1, s2⟩ := HS.out _ HBV3.out
                      refine hK.out _ _ (by first | with_reducible exact ⟨s0, s1, s2⟩ | (dsimp only; with_reducible exact ⟨s0, s1, s2⟩)) (fun hHeld => ?_)
                      clear hK K
                      try simp only [Act.put, lA, lB, lC, lD, lE, lF]
                      refine wpAnyH_done (by kernel_rfl) ?_ _
                      clear hHeld
                      go_wp2_with fail
                      go_meet
                      exact ⟨HBV3.out, HQV3.out⟩
                    exact AllReadyH.nil
                  exact AllReadyH.nil
                exact AllReadyH.nil
              exact AllReadyH.nil
            case rest =>
              obtain ⟨hbx, rv6, hqx⟩ := hcut
              obtain ⟨Wx, hWx⟩ : ∃ z, z = wc := ⟨_, rfl⟩
              subst hWx
              have HBx2 := hide hbx
              have HLQ := hide (bet_two (rs := rs) (ab := ab) H0.out hva hvb HCA.out HCB.out HNQ.out)
              obtain ⟨M, hM⟩ : ∃ M : Nat → List Int, M = (upd (fun x => lat rs x) va (ptR (lat rs va) aa [2 * (es.length : Int)])) := ⟨_, rfl⟩
              rw [← hM] at hqx HLQ
              have HLR2 : Hid ((M vb).length ≤ 20000) := by show _ ≤ _; rw [hM]; exact bet_row HZ2.out hva hvb
              clear hM HS HLR HIV0 HCLV0 HBV0 HQV0 hbx HBx bd hV0
              have HBx := hide HBx2.out
              have HLR := hide HLR2.out
              have HS : Hid (∀ V, Below w7.heap.size w7 V → V.cell? ⟨w.heap.size + 2, 0, none⟩ = some (.int .i64 vb) ∧ V.cell? ⟨w.heap.size + 2, 1, none⟩ = some (.int .i64 ab) ∧ True) := fun V hV => ⟨later (below_step HB7.out hV) HSB.out.1, later (below_step HB7.out hV) HSB.out.2, trivial⟩
              obtain ⟨ar, cr, hrv, hia, _⟩ := hqx.row vb hvb
              have hcl := (hqx.cell hvb).1
              rw [hrv] at hcl
              have HI_ := hide hia
              have HCL_ := hide hcl
              go_upto_region 23 with fail
              obtain ⟨V0, hV0⟩ : ∃ V, V = Wx.drew := ⟨_, rfl⟩
              have bd : Below Wx.heap.size Wx V0 := by rw [hV0]; exact below_drew _
              have HBV0 : Hid (Below w7.heap.size w7 V0) := below_step HBx.out bd
              have HQV0 := hide (hqx.later bd)
              clear hqx
              have HIV0 := hide (HI_.out.later bd)
              have HCLV0 := hide (later bd HCL_.out)
              have HLN : Hid (∀ v, v < rs.length → upd M vb (ptR (M vb) ab [2 * (es.length : Int) + 1]) v = betL rs va aa vb ab (2 * es.length : Nat) v) := fun v hv => HLQ.out v
              clear hrv hia hcl HI_ HCL_
              go_cut [149] (fun s149 wx => Below w7.heap.size w7 wx ∧ ∃ rv, QRow wx gw gw rs.length rv (upd M vb (ptR (M vb) ab [2 * (es.length : Int) + 1])))
              case first =>
                refine wp_region_held_drew (S := (fun V => V.cell? ⟨w.heap.size + 2, 0, none⟩ = some (.int .i64 vb) ∧ V.cell? ⟨w.heap.size + 2, 1, none⟩ = some (.int .i64 ab) ∧ True)) (by kernel_rfl) (by rw [← hV0]; exact HS.out _ HBV0.out) (fun hHeld => ?_)
                rw [← hV0] at hHeld ⊢
                clear hV0 bd
                obtain ⟨s0, s1, s2⟩ := HS.out _ HBV0.out
                refine wpAnyH_take (i := 0) (v := ?v30) rfl (by kernel_rfl) (by kernel_rfl) (by kernel_rfl) (fun _ _ _ h => h) (Or.inl ⟨by rfl, ?hy30⟩) (by assumption) ?rest30
                case hy30 => (intro w hSw; (try dsimp only at hSw); go_simp; try with_reducible rfl)
                try simp only [Act.put, lA, lB, lD, lE, lF]
                refine wpAnyH_take (i := 1) (v := ?v31) rfl (by kernel_rfl) (by kernel_rfl) (by kernel_rfl) (fun _ _ _ h => h) (Or.inl ⟨by rfl, ?hy31⟩) (by assumption) ?rest31
                case hy31 => (intro w hSw; (try dsimp only at hSw); go_simp; try with_reducible rfl)
                try simp only [Act.put, lA, lB, lC, lD, lE, lF]
                refine wpAnyH_take (i := 2) (v := ?v32) rfl (by kernel_rfl) (by kernel_rfl) (by kernel_rfl) (fun _ _ _ h => h) (Or.inl ⟨by rfl, ?hy32⟩) (by assumption) ?rest32
                case hy32 => (intro w hSw; (try dsimp only at hSw); go_simp; try with_reducible rfl)
                try simp only [Act.put, lA, lB, lC, lD, lE, lF]
                refine wpAnyH_take (i := 3) (v := ?v33) rfl (by kernel_rfl) (by kernel_rfl) (by kernel_rfl) (fun _ _ _ h => h) (Or.inl ⟨by rfl, ?hy33⟩) (by assumption) ?rest33
                case hy33 => (intro w hSw; (try dsimp only at hSw); go_simp; try with_reducible rfl)
                try simp only [Act.put, lA, lB, lC, lD, lE, lF]
                refine wpAnyH_take (i := 4) (v := ?v34) rfl (by kernel_rfl) (by kernel_rfl) (by kernel_rfl) (fun _ _ _ h => h) (Or.inl ⟨by rfl, ?hy34⟩) (by assumption) ?rest34
                case hy34 => (intro w hSw; (try dsimp only at hSw); go_simp; try with_reducible rfl)
                try simp only [Act.put, lA, lB, lC, lD, lE, lF]
                refine wpAnyH_take (i := 5) (v := ?v35) rfl (by kernel_rfl) (by kernel_rfl) (by kernel_rfl) (fun _ _ _ h => h) (Or.inl ⟨by rfl, ?hy35⟩) (by assumption) ?rest35
                case hy35 => (intro w hSw; (try dsimp only at hSw); go_simp; try with_reducible rfl)
                try simp only [Act.put, lA, lB, lC, lD, lE, lF]
                refine wpAnyH_take (i := 6) (v := ?v36) rfl (by kernel_rfl) (by kernel_rfl) (by kernel_rfl) (fun _ _ _ h => h) (Or.inl ⟨by rfl, ?hy36⟩) (by assumption) ?rest36
                case hy36 => (intro w hSw; (try dsimp only at hSw); go_simp; try with_reducible rfl)
                try simp only [Act.put, lA, lB, lC, lD, lE, lF]
                refine wpAnyH_take (i := 8) (v := ?v37) rfl (by kernel_rfl) (by kernel_rfl) (by kernel_rfl) (fun _ _ _ h => h) (Or.inl ⟨by rfl, ?hy37⟩) (by assumption) ?rest37
                case hy37 => (intro w hSw; (try dsimp only at hSw); go_simp; try with_reducible rfl)
                try simp only [Act.put, lA, lB, lC, lD, lE, lF]
                refine wpAnyH_take (i := 9) (v := ?v38) rfl (by kernel_rfl) (by kernel_rfl) (by kernel_rfl) (fun _ _ _ h => h) (Or.inl ⟨by rfl, ?hy38⟩) (by assumption) ?rest38
                case hy38 => (intro w hSw; (try dsimp only at hSw); go_simp; try with_reducible rfl)
                try simp only [Act.put, lA, lB, lC, lD, lE, lF]
                refine wpAnyH_take (i := 10) (v := ?v39) rfl (by kernel_rfl) (by kernel_rfl) (by kernel_rfl) (fun _ _ _ h => h) (Or.inl ⟨by rfl, ?hy39⟩) (by assumption) ?rest39
                case hy39 => (intro w hSw; (try dsimp only at hSw); go_simp; try with_reducible rfl)
                try simp only [Act.put, lA, lB, lC, lD, lE, lF]
                refine wpAnyH_take (i := 11) (v := ?v40) rfl (by kernel_rfl) (by kernel_rfl) (by kernel_rfl) (fun _ _ _ h => h) (Or.inl ⟨by rfl, ?hy40⟩) (by assumption) ?rest40
                case hy40 => (intro w hSw; (try dsimp only at hSw); go_simp; try with_reducible rfl)
                try simp only [Act.put, lA, lB, lC, lD, lE, lF]
                refine wpAnyH_take (i := 12) (v := ?v41) rfl (by kernel_rfl) (by kernel_rfl) (by kernel_rfl) (fun _ _ _ h => h) (Or.inl ⟨by rfl, ?hy41⟩) (by assumption) ?rest41
                case hy41 => (intro w hSw; (try dsimp only at hSw); go_simp; try with_reducible rfl)
                try simp only [Act.put, lA, lB, lC, lD, lE, lF]
                refine wpAnyH_ready (rs := [7, 13]) (by kernel_rfl) (by simp) ?_
                refine ready_cons ({ dst := some 142, op := Op.load 44 (Operand.tmp 141), type := 44, pos := "ref.go:106", after := #[{ on := 6, ground := Ground.data }], guard := none }) rfl rfl (fun K hK => ?_) ?_
                · clear hHeld
                  have d0 := HCLV0.out
                  refine wp_val (v := .slice ar (M vb).length cr) (w2 := V0) ?hl1041 ?_
                  case hl1041 => (go_simp; try with_reducible rfl)
                  clear d0
                  refine hK.out _ _ (by first | with_reducible exact ⟨s0, s1, s2⟩ | (dsimp only; with_reducible exact ⟨s0, s1, s2⟩)) (fun hHeld => ?_)
                  clear hK K
                  try simp only [Act.put, lD, lE, lF]
                  refine wpAnyH_ready (rs := [13]) (by kernel_rfl) (by simp) ?_
                  refine ready_cons ({ dst := some 148, op := Op.buildSlice 44 1 #[(0, Operand.tmp 147)], type := 44, pos := "ref.go:106", after := #[{ on := 12, ground := Ground.data }], guard := none }) rfl rfl (fun K hK => ?_) ?_
                  · clear hHeld
                    go_simp
                    obtain ⟨V1, hV⟩ : ∃ V, V = V0.alloc (.cells #[.int .i64 (2 * (es.length : Int) + 1)] 3) := ⟨_, rfl⟩
                    obtain ⟨kl, hkl⟩ : ∃ k, V0.heap.size = k := ⟨_, rfl⟩
                    have hb2 : Below V0.heap.size V0 V1 := by rw [hV]; go_grown
                    have HL1 : Hid (IHas V1 (some ⟨kl, 0, none⟩) [2 * (es.length : Int) + 1]) := by show IHas _ _ _; rw [hV, ← hkl]; exact lit1 V0 _
                    rw [← hV, hkl]
                    have HBV1 := hide (HBV0.out.trans (hb2.mono HBV0.out.size))
                    have HQV1 := hide (HQV0.out.later hb2)
                    have HIV1 := hide (HIV0.out.later hb2)
                    have HCLV1 := hide (later hb2 HCLV0.out)
                    clear hV hb2 hkl
                    clear s0 s1 s2
                    obtain ⟨s0, s1, s2⟩ := HS.out _ HBV1.out
                    refine hK.out _ _ (by first | with_reducible exact ⟨s0, s1, s2⟩ | (dsimp only; with_reducible exact ⟨s0, s1, s2⟩)) (fun hHeld => ?_)
                    clear hK K
                    try simp only [Act.put, lA, lB, lC, lD, lE, lF]
                    refine wpAnyH_ready (rs := [14]) (by kernel_rfl) (by simp) ?_
                    refine ready_cons ({ dst := some 149, op := Op.call { callee := Callee.value (Operand.func 66), args := #[Operand.tmp 142, Operand.tmp 144, Operand.tmp 148], argTypes := #[44, 3, 44] }, type := 44, pos := "ref.go:106", after := #[{ on := 7, ground := Ground.data }, { on := 9, ground := Ground.data }, { on := 13, ground := Ground.data }], guard := none }) rfl rfl (fun K hK => ?_) ?_
                    · clear hHeld
                      go_simp
                      refine (put66 ar (M vb) cr ab (some ⟨kl, 0, none⟩) [2 * (es.length : Int) + 1] 1 V1 HIV1.out HL1.out (by intro h; cases h) HLR.out (by simp)).mono ?_
                      rintro e V2 ⟨p9, c9, rfl, ho, hb2⟩
                      have HBV2 := hide (HBV1.out.trans (hb2.mono HBV1.out.size))
                      have HQV2 := hide (HQV1.out.later hb2)
                      have HO2 := hide ho
                      have HVV : Hid (V1.heap.size ≤ V2.heap.size) := hb2.size
                      have HGV : Hid (gw < V1.heap.size) := HQV1.out.lt.2
                      clear hb2 ho
                      clear s0 s1 s2
                      obtain ⟨s0, s1, s2⟩ := HS.out _ HBV2.out
                      refine hK.out _ _ (by first | with_reducible exact ⟨s0, s1, s2⟩ | (dsimp only; with_reducible exact ⟨s0, s1, s2⟩)) (fun hHeld => ?_)
                      clear hK K
                      try simp only [Act.put, lA, lB, lC, lD, lE, lF]
                      refine wpAnyH_take (i := 15) (v := ?v42) rfl (by kernel_rfl) (by kernel_rfl) (by kernel_rfl) (fun _ _ _ h => h) (Or.inl ⟨by rfl, ?hy42⟩) (by assumption) ?rest42
                      case hy42 => (intro w hSw; (try dsimp only at hSw); go_simp; try with_reducible rfl)
                      try simp only [Act.put, lA, lB, lC, lD, lE, lF]
                      refine wpAnyH_ready (rs := [16]) (by kernel_rfl) (by simp) ?_
                      refine ready_cons ({ dst := none, op := Op.store 44 (Operand.tmp 150) (Operand.tmp 149), type := 0, pos := "ref.go:106", after := #[{ on := 15, ground := Ground.data }, { on := 14, ground := Ground.data }, { on := 14, ground := Ground.chain }, { on := 0, ground := Ground.phase }, { on := 1, ground := Ground.phase }, { on := 2, ground := Ground.phase }, { on := 3, ground := Ground.phase }, { on := 4, ground := Ground.phase }, { on := 5, ground := Ground.phase }, { on := 6, ground := Ground.phase }, { on := 7, ground := Ground.phase }, { on := 8, ground := Ground.phase }, { on := 9, ground := Ground.phase }, { on := 10, ground := Ground.phase }, { on := 11, ground := Ground.phase }, { on := 12, ground := Ground.phase }, { on := 13, ground := Ground.phase }, { on := 14, ground := Ground.phase }], guard := none }) rfl rfl (fun K hK => ?_) ?_
                      · clear hHeld
                        obtain ⟨d0, d1⟩ := HQV2.out.cell hvb
                        go_simp
                        clear d0 d1
                        obtain ⟨V3, hV⟩ : ∃ V, V = V2.setCell ⟨gw, vb, none⟩ (.slice p9 (ptR (M vb) ab [2 * (es.length : Int) + 1]).length c9) := ⟨_, rfl⟩
                        have HBV3 : Hid (Below w7.heap.size w7 V3) := by show Below _ _ _; rw [hV]; exact HBV2.out.setCell (p := ⟨gw, vb, none⟩) (by show _ ≤ gw; have := HGW.out; omega) _
                        have HQV3 : Hid (∃ rv, QRow V3 gw gw rs.length rv (upd M vb (ptR (M vb) ab [2 * (es.length : Int) + 1]))) := by
                          obtain ⟨p8, c8, e8, h8, h9, h10, h11⟩ := HO2.out.form
                          injection e8 with e81 _ e83
                          subst e81 e83
                          exact ⟨_, by rw [hV]; exact HQV2.out.set (k := vb) h8 (by have := ptR_le (M vb) ab [2 * (es.length : Int) + 1] HLR.out (by simp); unfold maxLen; omega) h9 h10 (fun _ ad had => by have := (h11 ad had).2.2.1; have := HGV.out; omega)⟩
                        rw [← hV]
                        clear hV
                        clear s0 s1 s2
                        obtain ⟨s0, s1, s2⟩ := HS.out _ HBV3.out
                        refine hK.out _ _ (by first | with_reducible exact ⟨s0, s1, s2⟩ | (dsimp only; with_reducible exact ⟨s0, s1, s2⟩)) (fun hHeld => ?_)
                        clear hK K
                        try simp only [Act.put, lA, lB, lC, lD, lE, lF]
                        refine wpAnyH_done (by kernel_rfl) ?_ _
                        clear hHeld
                        go_wp2_with fail
                        go_meet
                        exact ⟨HBV3.out, HQV3.out⟩
                      exact AllReadyH.nil
                    exact AllReadyH.nil
                  exact AllReadyH.nil
                refine ready_cons ({ dst := some 148, op := Op.buildSlice 44 1 #[(0, Operand.tmp 147)], type := 44, pos := "ref.go:106", after := #[{ on := 12, ground := Ground.data }], guard := none }) rfl rfl (fun K hK => ?_) ?_
                · clear hHeld
                  go_simp
                  obtain ⟨V1, hV⟩ : ∃ V, V = V0.alloc (.cells #[.int .i64 (2 * (es.length : Int) + 1)] 3) := ⟨_, rfl⟩
                  obtain ⟨kl, hkl⟩ : ∃ k, V0.heap.size = k := ⟨_, rfl⟩
                  have hb2 : Below V0.heap.size V0 V1 := by rw [hV]; go_grown
                  have HL1 : Hid (IHas V1 (some ⟨kl, 0, none⟩) [2 * (es.length : Int) + 1]) := by show IHas _ _ _; rw [hV, ← hkl]; exact lit1 V0 _
                  rw [← hV, hkl]
                  have HBV1 := hide (HBV0.out.trans (hb2.mono HBV0.out.size))
                  have HQV1 := hide (HQV0.out.later hb2)
                  have HIV1 := hide (HIV0.out.later hb2)
                  have HCLV1 := hide (later hb2 HCLV0.out)
                  clear hV hb2 hkl
                  clear s0 s1 s2
                  obtain ⟨s0, s1, s2⟩ := HS.out _ HBV1.out
                  refine hK.out _ _ (by first | with_reducible exact ⟨s0, s1, s2⟩ | (dsimp only; with_reducible exact ⟨s0, s1, s2⟩)) (fun hHeld => ?_)
                  clear hK K
                  try simp only [Act.put, lA, lB, lC, lD, lE, lF]
                  refine wpAnyH_ready (rs := [7]) (by kernel_rfl) (by simp) ?_
                  refine ready_cons ({ dst := some 142, op := Op.load 44 (Operand.tmp 141), type := 44, pos := "ref.go:106", after := #[{ on := 6, ground := Ground.data }], guard := none }) rfl rfl (fun K hK => ?_) ?_
                  · clear hHeld
                    have d0 := HCLV1.out
                    refine wp_val (v := .slice ar (M vb).length cr) (w2 := V1) ?hl1043 ?_
                    case hl1043 => (go_simp; try with_reducible rfl)
                    clear d0
                    refine hK.out _ _ (by first | with_reducible exact ⟨s0, s1, s2⟩ | (dsimp only; with_reducible exact ⟨s0, s1, s2⟩)) (fun hHeld => ?_)
                    clear hK K
                    try simp only [Act.put, lD, lE, lF]
                    refine wpAnyH_ready (rs := [14]) (by kernel_rfl) (by simp) ?_
                    refine ready_cons ({ dst := some 149, op := Op.call { callee := Callee.value (Operand.func 66), args := #[Operand.tmp 142, Operand.tmp 144, Operand.tmp 148], argTypes := #[44, 3, 44] }, type := 44, pos := "ref.go:106", after := #[{ on := 7, ground := Ground.data }, { on := 9, ground := Ground.data }, { on := 13, ground := Ground.data }], guard := none }) rfl rfl (fun K hK => ?_) ?_
                    · clear hHeld
                      go_simp
                      refine (put66 ar (M vb) cr ab (some ⟨kl, 0, none⟩) [2 * (es.length : Int) + 1] 1 V1 HIV1.out HL1.out (by intro h; cases h) HLR.out (by simp)).mono ?_
                      rintro e V2 ⟨p9, c9, rfl, ho, hb2⟩
                      have HBV2 := hide (HBV1.out.trans (hb2.mono HBV1.out.size))
                      have HQV2 := hide (HQV1.out.later hb2)
                      have HO2 := hide ho
                      have HVV : Hid (V1.heap.size ≤ V2.heap.size) := hb2.size
                      have HGV : Hid (gw < V1.heap.size) := HQV1.out.lt.2
                      clear hb2 ho
                      clear s0 s1 s2
                      obtain ⟨s0, s1, s2⟩ := HS.out _ HBV2.out
                      refine hK.out _ _ (by first | with_reducible exact ⟨s0, s1, s2⟩ | (dsimp only; with_reducible exact ⟨s0, s1, s2⟩)) (fun hHeld => ?_)
                      clear hK K
                      try simp only [Act.put, lA, lB, lC, lD, lE, lF]
                      refine wpAnyH_take (i := 15) (v := ?v43) rfl (by kernel_rfl) (by kernel_rfl) (by kernel_rfl) (fun _ _ _ h => h) (Or.inl ⟨by rfl, ?hy43⟩) (by assumption) ?rest43
                      case hy43 => (intro w hSw; (try dsimp only at hSw); go_simp; try with_reducible rfl)
                      try simp only [Act.put, lA, lB, lC, lD, lE, lF]
                      refine wpAnyH_ready (rs := [16]) (by kernel_rfl) (by simp) ?_
                      refine ready_cons ({ dst := none, op := Op.store 44 (Operand.tmp 150) (Operand.tmp 149), type := 0, pos := "ref.go:106", after := #[{ on := 15, ground := Ground.data }, { on := 14, ground := Ground.data }, { on := 14, ground := Ground.chain }, { on := 0, ground := Ground.phase }, { on := 1, ground := Ground.phase }, { on := 2, ground := Ground.phase }, { on := 3, ground := Ground.phase }, { on := 4, ground := Ground.phase }, { on := 5, ground := Ground.phase }, { on := 6, ground := Ground.phase }, { on := 7, ground := Ground.phase }, { on := 8, ground := Ground.phase }, { on := 9, ground := Ground.phase }, { on := 10, ground := Ground.phase }, { on := 11, ground := Ground.phase }, { on := 12, ground := Ground.phase }, { on := 13, ground := Ground.phase }, { on := 14, ground := Ground.phase }], guard := none }) rfl rfl (fun K hK => ?_) ?_
                      · clear hHeld
                        obtain ⟨d0, d1⟩ := HQV2.out.cell hvb
                        go_simp
                        clear d0 d1
                        obtain ⟨V3, hV⟩ : ∃ V, V = V2.setCell ⟨gw, vb, none⟩ (.slice p9 (ptR (M vb) ab [2 * (es.length : Int) + 1]).length c9) := ⟨_, rfl⟩
                        have HBV3 : Hid (Below w7.heap.size w7 V3) := by show Below _ _ _; rw [hV]; exact HBV2.out.setCell (p := ⟨gw, vb, none⟩) (by show _ ≤ gw; have := HGW.out; omega) _
                        have HQV3 : Hid (∃ rv, QRow V3 gw gw rs.length rv (upd M vb (ptR (M vb) ab [2 * (es.length : Int) + 1]))) := by
                          obtain ⟨p8, c8, e8, h8, h9, h10, h11⟩ := HO2.out.form
                          injection e8 with e81 _ e83
                          subst e81 e83
                          exact ⟨_, by rw [hV]; exact HQV2.out.set (k := vb) h8 (by have := ptR_le (M vb) ab [2 * (es.length : Int) + 1] HLR.out (by simp); unfold maxLen; omega) h9 h10 (fun _ ad had => by have := (h11 ad had).2.2.1; have := HGV.out; omega)⟩
                        rw [← hV]
                        clear hV
                        clear s0 s1 s2
                        obtain ⟨s0, s1, s2⟩ := HS.out _ HBV3.out
                        refine hK.out _ _ (by first | with_reducible exact ⟨s0, s1, s2⟩ | (dsimp only; with_reducible exact ⟨s0, s1, s2⟩)) (fun hHeld => ?_)
                        clear hK K
                        try simp only [Act.put, lA, lB, lC, lD, lE, lF]
                        refine wpAnyH_done (by kernel_rfl) ?_ _
                        clear hHeld
                        go_wp2_with fail
                        go_meet
                        exact ⟨HBV3.out, HQV3.out⟩
                      exact AllReadyH.nil
                    exact AllReadyH.nil
                  exact AllReadyH.nil
                exact AllReadyH.nil
              case rest =>
                obtain ⟨hbx, hqy⟩ := hcut
                obtain ⟨V3, hWx⟩ : ∃ z, z = wc := ⟨_, rfl⟩
                subst hWx
                have HBV3 := hide hbx
                have HQV3 := hide hqy
                clear hbx hqy hV0 bd
                obtain ⟨rvn, hqn⟩ := HQV3.out
                have HRN9 : Hid (RHas V3 (some ⟨gw, 0, none⟩) (betR rs va aa vb ab (2 * es.length : Nat))) := hqn.has (betR_length _ _ _ _ _ _) (fun v hv => by rw [betR_at hv]; exact HLN.out v hv)
                have HLB : Hid (∀ v, v < rs.length → (lat (betR rs va aa vb ab (2 * es.length : Nat)) v).length ≤ 6146) := HLE.out
                have CN : Hid (∀ V, Below V3.heap.size V3 V → Calls Try.prog 63 #[.slice (some ⟨gw, 0, none⟩) rs.length rs.length] V fun e w' => ∃ g9 rv9, e = .returned (.slice (some ⟨g9, 0, none⟩) rs.length rs.length) ∧ Rows w' V.heap.size g9 rs.length rv9 (fun v => lat (canonL (betR rs va aa vb ab (2 * es.length : Nat))) v) ∧ Below V.heap.size V w') := fun V hV => by
                  have := canon49 (some ⟨gw, 0, none⟩) (betR rs va aa vb ab (2 * es.length : Nat)) rs.length V (HRN9.out.later hV) (by rw [betR_length]; omega) (fun u hu => by rw [betR_length] at hu; have := HLB.out u hu; omega)
                  rw [betR_length] at this
                  refine this.mono ?_
                  rintro e w' ⟨g9, rv9, he, hr9, hb9⟩
                  exact ⟨g9, rv9, he, hr9.congr fun v hv => (lat_canon (by rw [betR_length]; exact hv)).symm, hb9⟩
                have HSK : Hid (∀ V, Below V3.heap.size V3 V → V.cell? ⟨kd, 0, none⟩ = some (.int .i64 rs.length) ∧ V.cell? ⟨kd, 1, none⟩ = some (.slice q2 (es.length + 1) c2)) := fun V hV => by obtain ⟨x0, x1, _, _⟩ := HKE.out.later (below_step HC7.out (below_step HBV3.out hV)); exact ⟨x0, x1⟩
                have HV3 := hide (below_step HB7.out HBV3.out)
                clear hqn HQV3
                obtain ⟨k0, k1⟩ := HSK.out _ (Below.refl _ _)
                go_upto_region 24 with fail
                go_region_held3 (fun V => V.cell? ⟨kd, 0, none⟩ = some (.int .i64 rs.length) ∧ V.cell? ⟨kd, 1, none⟩ = some (.slice q2 (es.length + 1) c2))
                  (first | exact HSK.out _ (below_drew V3) | exact HSK.out _ (Below.refl _ _) | exact HSK.out _ HV9.out | exact ⟨other2 (HSK.out _ HV9.out).1 HKN.out, other2 (HSK.out _ HV9.out).2 HKN.out⟩)
                  (first | (go_at_call 63; refine (CN.out _ (below_drew V3)).mono ?_; rintro e w9 ⟨g9, rv9, rfl, hr9, hb9⟩; have HV9 := hide (below_step (below_drew V3) hb9); have HR9 := hide hr9; clear hb9 hr9 k0 k1; obtain ⟨k0, k1⟩ := HSK.out _ HV9.out; obtain ⟨r0, r1, r2, r3⟩ := HZ.out.later (below_step HV3.out HV9.out)))
                rename_i hHeld
                clear hHeld
                repeat (first | go_values | go_skip | go_guarded | go_step | go_upon)
                obtain ⟨Z, hZ⟩ : ∃ Z, Z = (w9.setCell ⟨w.heap.size + 3, 0, none⟩ (.int .i64 rs.length)).setCell ⟨w.heap.size + 3, 1, none⟩ (.slice q2 (es.length + 1) c2) := ⟨_, rfl⟩
                have kZ : NOwn Z (w.heap.size + 3) rs.length q2 (es.length + 1) c2 := by rw [hZ]; exact (HZ.out.later (below_step HV3.out HV9.out)).set _ _ _ _
                have bZ : Below w.heap.size w Z := by rw [hZ]; exact ((below_step HB.out (below_step HV3.out HV9.out)).setCell (by simp) _).setCell (by simp) _
                have hsz : w.heap.size + 3 < w3.heap.size := by have h1 := HB3.out.size; have h2 := HWS.out; omega
                have hs9 : w3.heap.size ≤ V3.heap.size := by have h1 := HCE.out.size; have h2 := HC7.out.size; have h3 := HBV3.out.size; omega
                have hH : Has Z q2 (layN es va vb) := by
                  rw [hZ]
                  exact ((HPE.out.later (below_step HC7.out (below_step HBV3.out HV9.out))).other (fun a ha => by have := HPB.out a ha; omega) _).other (fun a ha => by have := HPB.out a ha; omega) _
                have rZ : Rows Z w.heap.size g9 rs.length rv9 (fun v => lat (canonL (betR rs va aa vb ab (2 * es.length : Nat))) v) := by
                  rw [hZ]
                  have hd : V3.drew.heap.size = V3.heap.size := rfl
                  exact ((HR9.out.other (by rw [hd]; omega) _).other (by rw [hd]; omega) _).base (by rw [hd]; omega)
                rw [← hZ]
                exact bodyPost_ret (ret_net3 Try.results26 rfl rfl rfl kZ) rfl ⟨Or.inr (Or.inr ⟨hlim, HNG.out, q2, c2, g9, rv9, rfl, hH, ⟨HQ2.out, fun a ha => by have := HPB.out a ha; omega⟩, rZ⟩), bZ⟩
end Go.Proofs.Ytcgdmonejogbaaa
