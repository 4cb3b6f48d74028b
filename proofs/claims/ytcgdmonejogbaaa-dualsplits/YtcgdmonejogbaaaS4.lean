/- DualSplits: its walk. -/
import Derived.Test.YtcgdmonejogbaaaS3
import Derived.Test.YtcgdmonejogbaaaD3
namespace Go.Proofs.Ytcgdmonejogbaaa
open Go.RowKit Go.Sort
open Go
/-- What Split answers, refused. -/
theorem split18u (n : Int) (p : Option Addr) (es : List Pt) (cp : Nat) (q : Option Addr) (rs : List (List Int)) (cq : Nat) (e : Int) (w : World) (h : Has w p es) (hr : RHas w q rs) (hbad : ¬ (rotI n es rs = 0 ∧ splitE n es e = 0)) : ∃ x : Int, x ≠ 0 ∧ Calls Try.prog 18 #[nv n p es.length cp, .slice q rs.length cq, .int .i64 e] w fun r w' => r = .returned (.tuple #[nv 0 none 0 0, .slice none 0 0, .int .i64 x]) ∧ Below w.heap.size w w' := by
  by_cases h0 : rotI n es rs = 0
  · exact ⟨_, fun h1 => hbad ⟨h0, h1⟩, split18off n p es cp q rs cq e w h hr h0 fun h1 => hbad ⟨h0, h1⟩⟩
  · exact ⟨_, h0, split18no n p es cp q rs cq e w h hr h0⟩
/-- What the loop asks at a half-edge. -/
def SpAt (O O' : List Int) (A A' : List (List Int)) (m e x : Nat) : Prop := ∃ i j c : Nat, iat O x = i ∧ i < A.length ∧ iat O' (spV m e x) = j ∧ j < A'.length ∧ (lat A i).length ≤ 7000 ∧ (lat A' j).length = (lat A i).length + c ∧ c = (if iat O x = iat O (2 * e) then 1 else 0) + (if iat O x = iat O (2 * e + 1) then 1 else 0)
set_option maxRecDepth 100000 in
set_option maxHeartbeats 16000000 in
theorem splits_walk (n : Int) (p : Option Addr) (es : List Pt) (cp : Nat) (q : Option Addr) (rs : List (List Int)) (cq : Nat) (z : Int) (w : World) (h : Has w p es) (hr : RHas w q rs) (lr : rs.length ≤ maxLen) : Calls Try.prog 7 #[nv n p es.length cp, .slice q rs.length cq, .int .i64 z] w fun e w' => e = .returned (.bool true) ∧ Below w.heap.size w w' := by
  obtain ⟨W0, hW, hb0, a0⟩ := one_net w n p es.length cp
  have BG := hide (begun9 W0)
  have HB0 := hide hb0
  have HA0 := hide a0
  have HH0 := hide (h.later hb0)
  have HR0 := hide (hr.later hb0)
  have HLr := hide lr
  clear h hr hb0 a0 lr
  go_enter Try.func7, Try.ntmps7
  go_wp2_with fail
  rw [← hW]
  clear hW
  obtain ⟨kg, hkg⟩ : ∃ k, w.heap.size = k := ⟨_, rfl⟩
  have HKG := hide hkg
  rw [hkg] at HA0
  try rw [hkg]
  clear hkg
  refine BG.out.mono ?_
  rintro r w1 ⟨rfl, hb1⟩
  have HB1 := hide hb1
  have L1 := hide (light9r n p es cp q rs cq w1 (HH0.out.later hb1) (HR0.out.later hb1) HLr.out)
  obtain ⟨g0, g1, _, _⟩ := HA0.out.later hb1
  clear hb1 BG
  go_wp2_with fail
  refine L1.out.mono ?_
  rintro r w2 ⟨⟨x1, rfl⟩, hb2⟩
  have HB2 := hide (below_step HB1.out hb2)
  clear hb2 L1 g0 g1
  cases x1
  · go_wp2
    go_ret
    exact ⟨rfl, below_step HB0.out HB2.out⟩
  obtain ⟨g0, g1, _, _⟩ := HA0.out.later HB2.out
  by_cases hbad : ¬ (rotI n es rs = 0 ∧ splitE n es z = 0)
  · obtain ⟨x, hx0, SE0⟩ := split18u n p es cp q rs cq z w2 (HH0.out.later HB2.out) (HR0.out.later HB2.out) hbad
    have SE := hide SE0
    clear SE0
    have t1 : (x == 0) = false := by simp [hx0]
    go_wp2_with fail
    refine SE.out.mono ?_
    rintro r w11 ⟨rfl, hb11⟩
    have HB12 := hide (below_step HB0.out (below_step HB2.out hb11))
    clear hb11 SE g0 g1
    go_upto_region 6 with fail
    obtain ⟨U6, hU6⟩ : ∃ U, U = w11.alloc (nbx 0 none 0 0) := ⟨_, rfl⟩
    have HBU : Hid (Below w.heap.size w U6) := by show Below _ _ _; rw [hU6]; exact below_step HB12.out (by go_grown)
    have hK6 : NOwn U6 w11.heap.size 0 none 0 0 := by rw [hU6]; exact ⟨by go_cell, by go_cell, by simp [go_sem], by simp [go_sem]⟩
    rw [← hU6]
    obtain ⟨c0, c1, _, _⟩ := hK6
    clear hU6
    go_wp2
    go_ret
    exact ⟨rfl, HBU.out⟩
  obtain ⟨r0, he0⟩ := Decidable.not_not.1 hbad
  have HRT := hide r0
  obtain ⟨n0, n1, hes, hE⟩ := netB_is (rot_is r0).1
  have hrn : (rs.length : Int) = n := (rot_is r0).2.1
  obtain ⟨N, rfl⟩ : ∃ N : Nat, n = N := ⟨n.toNat, by omega⟩
  obtain ⟨_, hz, _, _⟩ := splitE_is he0
  obtain ⟨k, rfl⟩ : ∃ k : Nat, z = k := ⟨z.toNat, by omega⟩
  have hk : k < es.length := by omega
  obtain ⟨s1, s2, s3, s4⟩ := split_all r0 he0
  have SP := hide (split18 N p es cp q rs cq k w2 (HH0.out.later HB2.out) (HR0.out.later HB2.out) r0 he0)
  have HL2 : Hid ((splitL N es k).length = es.length + 1) := splitL_length _ _ _
  have HLQ : Hid ((canonL (spR es rs k)).length = rs.length + 1) := by show _ = _; rw [canonL_length, spR_length]
  obtain ⟨es', hes'⟩ : ∃ x, splitL N es k = x := ⟨_, rfl⟩
  obtain ⟨Q, hQ⟩ : ∃ x, canonL (spR es rs k) = x := ⟨_, rfl⟩
  rw [hes'] at s1 s2 s3 s4 SP HL2
  rw [hQ] at s1 s2 s3 s4 SP HLQ
  have hA1 := facesL_le r0
  have hA2 : ∀ i, i < (facesL es rs).length → (lat (facesL es rs) i).length ≤ 7000 := fun i hi => by have := face_le es rs hi; omega
  have hA3 : ∀ i, i < (facesL es' Q).length → (lat (facesL es' Q) i).length ≤ maxLen := fun i hi => by have := face_le es' Q hi; have := HL2.out; unfold maxLen; omega
  have HAT : Hid (∀ x, x < 2 * es.length → SpAt (ofL es rs) (ofL es' Q) (facesL es rs) (facesL es' Q) es.length k x) := fun x hx => by
    obtain ⟨i, j, a1, a2, a3, a4, a5⟩ := s4 x hx
    exact ⟨i, j, _, a1, a2, a3, by rw [s3]; exact a4, hA2 i a2, by rw [a5, Nat.add_assoc], rfl⟩
  have F1 : Hid (∀ V, Below w2.heap.size w2 V → Calls Try.prog 36 #[nv N p es.length cp, .slice q rs.length cq] V fun e w' => ∃ p1 c1, e = .returned (.slice p1 (facesL es rs).length c1) ∧ RHas w' p1 (facesL es rs) ∧ Below V.heap.size V w') := fun V hV => (faces45 N p es cp q rs cq V ((HR0.out.later HB2.out).later hV) r0).mono fun e w' ⟨p1, c1, rv, he, hf, hb⟩ => ⟨p1, c1, he, hf.has fun v hv => by have := hA2 v hv; unfold maxLen; omega, hb⟩
  have O1 : Hid (∀ V, Below w2.heap.size w2 V → Calls Try.prog 39 #[nv N p es.length cp, .slice q rs.length cq] V fun e w' => ∃ g, e = .returned (.slice (some ⟨g, 0, none⟩) (2 * es.length) (2 * es.length)) ∧ IRow w' V.heap.size g (2 * es.length) (ofL es rs) ∧ Below V.heap.size V w') := fun V hV => of46 N p es cp q rs cq V ((HR0.out.later HB2.out).later hV) r0
  have F2 : Hid (∀ V gx gy, RHas V (some ⟨gy, 0, none⟩) Q → Calls Try.prog 36 #[nv ((N : Int) + 1) (some ⟨gx, 0, none⟩) (es.length + 1) (es.length + 1), .slice (some ⟨gy, 0, none⟩) (rs.length + 1) (rs.length + 1)] V fun e w' => ∃ p1 c1, e = .returned (.slice p1 (facesL es' Q).length c1) ∧ RHas w' p1 (facesL es' Q) ∧ Below V.heap.size V w') := fun V gx gy hV => by
    have := faces45 (N + 1 : Nat) (some ⟨gx, 0, none⟩) es' (es.length + 1) (some ⟨gy, 0, none⟩) Q (rs.length + 1) V hV s1
    rw [HL2.out, HLQ.out, show ((N + 1 : Nat) : Int) = (N : Int) + 1 from by omega] at this
    exact this.mono fun e w' ⟨p1, c1, rv, he, hf, hb⟩ => ⟨p1, c1, he, hf.has hA3, hb⟩
  have O2 : Hid (∀ V gx gy, RHas V (some ⟨gy, 0, none⟩) Q → Calls Try.prog 39 #[nv ((N : Int) + 1) (some ⟨gx, 0, none⟩) (es.length + 1) (es.length + 1), .slice (some ⟨gy, 0, none⟩) (rs.length + 1) (rs.length + 1)] V fun e w' => ∃ g, e = .returned (.slice (some ⟨g, 0, none⟩) (2 * (es.length + 1)) (2 * (es.length + 1))) ∧ IRow w' V.heap.size g (2 * (es.length + 1)) (ofL es' Q) ∧ Below V.heap.size V w') := fun V gx gy hV => by
    have := of46 (N + 1 : Nat) (some ⟨gx, 0, none⟩) es' (es.length + 1) (some ⟨gy, 0, none⟩) Q (rs.length + 1) V hV s1
    rw [HL2.out, HLQ.out, show ((N + 1 : Nat) : Int) = (N : Int) + 1 from by omega] at this
    exact this
  obtain ⟨G, hG⟩ : ∃ G, genusI N es rs = G := ⟨_, rfl⟩
  have U1 : Hid (∀ V, Below w2.heap.size w2 V → Calls Try.prog 33 #[nv N p es.length cp, .slice q rs.length cq] V fun e w' => e = .returned (.int .i64 G) ∧ Below V.heap.size V w') := fun V hV => by
    have := genus47 N p es cp q rs cq V ((HH0.out.later HB2.out).later hV) ((HR0.out.later HB2.out).later hV) r0
    rw [hG] at this
    exact this
  have U2 : Hid (∀ V gx gy, Has V (some ⟨gx, 0, none⟩) es' → RHas V (some ⟨gy, 0, none⟩) Q → Calls Try.prog 33 #[nv ((N : Int) + 1) (some ⟨gx, 0, none⟩) (es.length + 1) (es.length + 1), .slice (some ⟨gy, 0, none⟩) (rs.length + 1) (rs.length + 1)] V fun e w' => e = .returned (.int .i64 G) ∧ Below V.heap.size V w') := fun V gx gy hx hV => by
    have := genus47 (N + 1) (some ⟨gx, 0, none⟩) es' (es.length + 1) (some ⟨gy, 0, none⟩) Q (rs.length + 1) V hx hV s1
    rw [HL2.out, HLQ.out, s2, hG, show ((N + 1 : Nat) : Int) = (N : Int) + 1 from by omega] at this
    exact this
  have HQB : Hid (∀ v, v < rs.length + 1 → (lat Q v).length ≤ maxLen) := fun v hv => by have := (rot_bounds s1).2 v (by rw [HLQ.out]; exact hv); unfold maxLen; omega
  obtain ⟨A, hA⟩ : ∃ A, facesL es rs = A := ⟨_, rfl⟩
  obtain ⟨A', hA'⟩ : ∃ A, facesL es' Q = A := ⟨_, rfl⟩
  obtain ⟨O, hO⟩ : ∃ O, ofL es rs = O := ⟨_, rfl⟩
  obtain ⟨O', hO'⟩ : ∃ O, ofL es' Q = O := ⟨_, rfl⟩
  rw [hA] at s3 HAT F1 hA1
  rw [hA'] at s3 HAT F2
  rw [hO] at HAT O1
  rw [hO'] at HAT O2
  rw [s3] at F2
  have HS3 := hide s3
  clear r0 hbad hrn he0 hz s1 s2 s3 s4 hes' hQ hE hA hA' hO hO' hA2 hA3 hG
  go_wp2_with fail
  refine SP.out.mono ?_
  rintro r w3 ⟨gx, gy, rvy, rfl, hpx, hry, hb3⟩
  clear SP g0 g1
  have hy' : RHas w3 (some ⟨gy, 0, none⟩) Q := hry.has HLQ.out (fun v hv => rfl) HQB.out
  go_upto_region 6 with fail
  obtain ⟨U6, hU6⟩ : ∃ U, U = w3.alloc (nbx ((N : Int) + 1) (some ⟨gx, 0, none⟩) (es.length + 1) (es.length + 1)) := ⟨_, rfl⟩
  have hbU6 : Below w3.heap.size w3 U6 := by rw [hU6]; go_grown
  have HK6 : Hid (NOwn U6 w3.heap.size ((N : Int) + 1) (some ⟨gx, 0, none⟩) (es.length + 1) (es.length + 1)) := by show NOwn _ _ _ _ _ _; rw [hU6]; exact ⟨by go_cell, by go_cell, by simp [go_sem], by simp [go_sem]⟩
  rw [← hU6]
  obtain ⟨kh, hkh⟩ : ∃ k, w3.heap.size = k := ⟨_, rfl⟩
  rw [hkh] at HK6
  try rw [hkh]
  have HX6 : Hid (Has U6 (some ⟨gx, 0, none⟩) es') := hpx.has.later hbU6
  have HY6 := hide (hy'.later hbU6)
  have HB6 := hide (below_step HB2.out (below_step hb3 hbU6))
  have HV6 := hide (below_step hb3 hbU6)
  clear hU6 hbU6 hkh hpx hy' hry hb3
  have HS : Hid (∀ V, Below U6.heap.size U6 V → (V.cell? ⟨kg, 0, none⟩ = some (.int .i64 N) ∧ V.cell? ⟨kg, 1, none⟩ = some (.slice p es.length cp)) ∧ V.cell? ⟨kh, 0, none⟩ = some (.int .i64 ((N : Int) + 1)) ∧ V.cell? ⟨kh, 1, none⟩ = some (.slice (some ⟨gx, 0, none⟩) (es.length + 1) (es.length + 1))) := fun V hV => by
    obtain ⟨x0, x1, _, _⟩ := (HA0.out.later HB6.out).later hV
    obtain ⟨y0, y1, _, _⟩ := HK6.out.later hV
    exact ⟨⟨x0, x1⟩, y0, y1⟩
  obtain ⟨⟨g0, g1⟩, c0, c1⟩ := HS.out U6 (Below.refl _ _)
  go_upto_region 8 with fail
  go_region_held3 (fun V => (V.cell? ⟨kg, 0, none⟩ = some (.int .i64 N) ∧ V.cell? ⟨kg, 1, none⟩ = some (.slice p es.length cp)) ∧ V.cell? ⟨kh, 0, none⟩ = some (.int .i64 ((N : Int) + 1)) ∧ V.cell? ⟨kh, 1, none⟩ = some (.slice (some ⟨gx, 0, none⟩) (es.length + 1) (es.length + 1)))
    (first | exact HS.out _ (below_drew U6) | exact HS.out _ (Below.refl _ _) | exact HS.out _ HV8.out | exact HS.out _ HV9.out)
    (first | (go_at_call 36; have hv8 := HV8.out; refine (F2.out _ gx gy (HY6.out.later hv8)).mono ?_; rintro e w9 ⟨pb, cb, rfl, hhb, hb9'⟩; have HV9 := hide (below_step hv8 hb9'); have HA9 := hide (HA8.out.later hb9'); have HC9 := hide hhb; clear hb9' hv8 hhb g0 g1 c0 c1; obtain ⟨⟨g0, g1⟩, c0, c1⟩ := HS.out w9 HV9.out) | (go_at_call 36; refine (F1.out _ (below_step HV6.out (below_drew U6))).mono ?_; rintro e w8 ⟨pa, ca, rfl, hha, hb8'⟩; have HV8 := hide (below_step (below_drew U6) hb8'); have HA8 := hide hha; clear hb8' hha g0 g1 c0 c1; obtain ⟨⟨g0, g1⟩, c0, c1⟩ := HS.out w8 HV8.out))
  rename_i hHeld
  clear hHeld HA8 HV8
  go_upto_region 9 with fail
  go_region_held3 (fun V => (V.cell? ⟨kg, 0, none⟩ = some (.int .i64 N) ∧ V.cell? ⟨kg, 1, none⟩ = some (.slice p es.length cp)) ∧ V.cell? ⟨kh, 0, none⟩ = some (.int .i64 ((N : Int) + 1)) ∧ V.cell? ⟨kh, 1, none⟩ = some (.slice (some ⟨gx, 0, none⟩) (es.length + 1) (es.length + 1)))
    (first | exact HS.out _ (below_step HV9.out (below_drew w9)) | exact HS.out _ HV9.out | exact HS.out _ HV10.out | exact HS.out _ HV11.out)
    (first | (go_at_call 39; have hv8 := HV10.out; refine (O2.out _ gx gy (HY6.out.later hv8)).mono ?_; rintro e w11 ⟨gt, rfl, hrt, hb11⟩; have HV11 := hide (below_step hv8 hb11); have HA11 := hide (HA10.out.later hb11); have HC11 := hide (HC10.out.later hb11); have HD11 := hide (HD10.out.later hb11); have HT11 := hide (hrt.base (Nat.le_trans hv8.size (Nat.le_refl _))); clear hb11 hv8 hrt g0 g1 c0 c1; obtain ⟨⟨g0, g1⟩, c0, c1⟩ := HS.out w11 HV11.out) | (go_at_call 39; have hv9 := below_step HV9.out (below_drew w9); refine (O1.out _ (below_step HV6.out hv9)).mono ?_; rintro e w10 ⟨go, rfl, hro, hb10⟩; have HV10 := hide (below_step hv9 hb10); have HA10 := hide (HA9.out.later (below_step (below_drew w9) hb10)); have HC10 := hide (HC9.out.later (below_step (below_drew w9) hb10)); have HD10 := hide (hro.base hv9.size); clear hb10 hv9 hro g0 g1 c0 c1; obtain ⟨⟨g0, g1⟩, c0, c1⟩ := HS.out w10 HV10.out))
  rename_i hHeld
  clear hHeld HA10 HV10 HC10 HD10 HA9 HC9 HV9
  have HX11 := hide (HX6.out.later HV11.out)
  have HY11 := hide (HY6.out.later HV11.out)
  have C1 : ∀ dd os, Calls Try.prog 33 #[nv N p es.length cp, .slice q rs.length cq] (grow (redrawn w11 dd) os) fun e w'' => e = .returned (.int .i64 G) ∧ ∃ p : Regrown, w'' = grow (redrawn w11 p.d) p.os := fun dd os => Calls.regrown_of (U1.out _ (below_step (below_step HV6.out HV11.out) (below_regrown w11 dd os)))
  have C2 : ∀ dd os, Calls Try.prog 33 #[nv ((N : Int) + 1) (some ⟨gx, 0, none⟩) (es.length + 1) (es.length + 1), .slice (some ⟨gy, 0, none⟩) (rs.length + 1) (rs.length + 1)] (grow (redrawn w11 dd) os) fun e w'' => e = .returned (.int .i64 G) ∧ ∃ p : Regrown, w'' = grow (redrawn w11 p.d) p.os := fun dd os => Calls.regrown_of (U2.out _ gx gy (HX11.out.later (below_regrown w11 dd os)) (HY11.out.later (below_regrown w11 dd os)))
  have G0 := cell_regrown g0
  have G1 := cell_regrown g1
  have E0 := cell_regrown c0
  have E1 := cell_regrown c1
  have t9 : ((A.length : Int) != A.length) = false := by simp
  go_upto_region 10 with fail
  refine wp_region_quiet_below (by kernel_rfl) (by kernel_rfl) ?_
  repeat (go_big_quiet_step (first | with_reducible exact C1 _ _ | with_reducible exact C2 _ _))
  refine wpQuiet_nil ?_
  intro w12 hw'
  have hb12 : Below w11.heap.size w11 w12 := by
    obtain ⟨⟨dq, osq⟩, hw''⟩ := hw'
    rw [hw'']
    exact below_regrown w11 dq osq
  have HV12 := hide (below_step HV11.out hb12)
  have HA12 := hide (HA11.out.later hb12)
  have HC12 := hide (HC11.out.later hb12)
  have HD12 := hide (HD11.out.later hb12)
  have HT12 := hide (HT11.out.later hb12)
  clear hw' hb12 C1 C2 G0 G1 E0 E1 g0 g1 c0 c1 t9 HA11 HC11 HD11 HT11 HX11 HY11 HV11
  go_wp2_with fail
  go_loopw [14] (fun t14 wr => ∃ x : Nat, x ≤ 2 * es.length ∧ t14 = .int .i64 x ∧ Hid (Below w12.heap.size w12 wr)) (fun t14 _ => 2 * es.length - (intOf t14).toNat)
  case atStart => exact ⟨0, by omega, rfl, Below.refl _ _⟩
  case round =>
    obtain ⟨x, hxl, rfl, HBr⟩ := hrel
    by_cases hlt : x < 2 * es.length
    · obtain ⟨i, j, c, a1, a2, a3, a4, a5, a6, a7⟩ := HAT.out x hlt
      obtain ⟨y, hy⟩ : ∃ y, spV es.length k x = y := ⟨_, rfl⟩
      have hyl : y < 2 * (es.length + 1) := by rw [← hy]; exact spV_lt hlt
      obtain ⟨o1, ho1⟩ : ∃ o, iat O (2 * k) = o := ⟨_, rfl⟩
      obtain ⟨o2, ho2⟩ : ∃ o, iat O (2 * k + 1) = o := ⟨_, rfl⟩
      obtain ⟨la, hla⟩ : ∃ l, (lat A i).length = l := ⟨_, rfl⟩
      obtain ⟨lb, hlb⟩ : ∃ l, (lat A' j).length = l := ⟨_, rfl⟩
      have HCL : Hid (∃ ba oa bb ob sa ca' sb cb', pa = some ⟨ba, oa, none⟩ ∧ pb = some ⟨bb, ob, none⟩ ∧ ∀ V, Below w12.heap.size w12 V → (V.cell? ⟨go, x, none⟩ = some (.int .i64 i) ∧ V.cell? ⟨go, 2 * k, none⟩ = some (.int .i64 o1) ∧ V.cell? ⟨go, 2 * k + 1, none⟩ = some (.int .i64 o2) ∧ V.cell? ⟨gt, y, none⟩ = some (.int .i64 j)) ∧ V.cell? ⟨ba, oa + i, none⟩ = some (.slice sa la ca') ∧ V.cell? ⟨bb, ob + j, none⟩ = some (.slice sb lb cb') ∧ V.cell? ⟨kg, 1, none⟩ = some (.slice p es.length cp)) := by
        obtain ⟨ba, oa, sa, ca', e1, e2, _⟩ := HA12.out.at_ a2
        obtain ⟨bb, ob, sb, cb', e3, e4, _⟩ := HC12.out.at_ a4
        refine ⟨ba, oa, bb, ob, sa, ca', sb, cb', e1, e3, fun V hV => ⟨⟨?_, ?_, ?_, ?_⟩, ?_, ?_, ?_⟩⟩
        · have := (HD12.out.cell hlt).1; rw [a1] at this; exact later hV this
        · have := (HD12.out.cell (show 2 * k < 2 * es.length by omega)).1; rw [ho1] at this; exact later hV this
        · have := (HD12.out.cell (show 2 * k + 1 < 2 * es.length by omega)).1; rw [ho2] at this; exact later hV this
        · have := (HT12.out.cell hyl).1; rw [← hy, a3] at this; rw [← hy]; exact later hV this
        · rw [← hla]; exact later hV e2
        · rw [← hlb]; exact later hV e4
        · exact (HS.out V (below_step HV12.out hV)).1.2
      rw [a1, ho1, ho2] at a7
      rw [hla] at a5 a6
      rw [hlb] at a6
      obtain ⟨ba, oa, bb, ob, sa, ca', sb, cb', hpa, hpb, hcl⟩ := HCL.out
      subst hpa
      subst hpb
      have HCELL := hide hcl
      have HYV := hide hy
      clear HCL hcl a1 a3 ho1 ho2 hla hlb hy
      have e1 : (x : Int) < 2 * es.length := by omega
      have e2 : (i : Int) < A.length := by omega
      have e3 : (j : Int) < A.length := by have := HS3.out; omega
      have d1 : IntKind.i64.wrap (2 * (k : Int)) = 2 * k := by rw [IntKind.wrap_i64]; omega
      have d2 : IntKind.i64.wrap (2 * (k : Int) + 1) = 2 * k + 1 := by rw [IntKind.wrap_i64]; omega
      have d3 : IntKind.i64.wrap (2 * (es.length : Int)) = 2 * es.length := by rw [IntKind.wrap_i64]; omega
      have d4 : IntKind.i64.wrap (2 * (es.length : Int) + 1) = 2 * es.length + 1 := by rw [IntKind.wrap_i64]; omega
      have l1 : (2 * (k : Int)) < 2 * es.length := by omega
      have l2 : (2 * (k : Int) + 1) < 2 * es.length := by omega
      have l3 : (0 : Int) ≤ 2 * (k : Int) := by omega
      have l4 : (0 : Int) ≤ 2 * (k : Int) + 1 := by omega
      obtain ⟨⟨q1, q2, q3, q4⟩, q5, q6, q7⟩ := HCELL.out wr HBr.out
      obtain ⟨b1, hb1⟩ : ∃ b, ((i : Int) == o1) = b := ⟨_, rfl⟩
      obtain ⟨b2, hb2⟩ : ∃ b, ((i : Int) == o2) = b := ⟨_, rfl⟩
      have HC : Hid (c = (if b1 then 1 else 0) + (if b2 then 1 else 0)) := by
        show _ = _
        rw [a7, ← hb1, ← hb2]
        simp
      clear a7
      by_cases hxk : x = 2 * k + 1
      focus
        have hy2 : y = 2 * es.length + 1 := by rw [← HYV.out]; unfold spV; rw [if_pos hxk]
        have t1 : ((x : Int) == 2 * (k : Int) + 1) = true := by simp; omega
        subst hy2
        have e4 : (2 * (es.length : Int) + 1) < 2 * ((es.length : Int) + 1) := by omega
        have e5 : (0 : Int) ≤ (2 * (es.length : Int) + 1) := by omega
      rotate_left
      focus
        have hy2 : x = y := by rw [← HYV.out]; unfold spV; rw [if_neg hxk]
        have t1 : ((x : Int) == 2 * (k : Int) + 1) = false := by simp; omega
        subst hy2
        have e4 : (x : Int) < 2 * ((es.length : Int) + 1) := by omega
        have e5 : (0 : Int) ≤ (x : Int) := by omega
      all_goals
        clear HYV hxk
        go_upto_region 19 with fail
        clear q1 q2 q3 q4 q5 q6 q7
        obtain ⟨⟨q1, q2, _, _⟩, _, _, _⟩ := HCELL.out wr HBr.out
        have Q1 := cell_regrown q1
        have Q2 := cell_regrown q2
        clear q1 q2
        refine wp_region_quiet_below (by kernel_rfl) (by kernel_rfl) ?_
        repeat (go_big_quiet_step (fail))
        refine wpQuiet_nil ?_
        intro v1 hw'
        have hbv1 : Below wr.heap.size wr v1 := by
          obtain ⟨⟨dq, osq⟩, hw''⟩ := hw'
          rw [hw'']
          exact below_regrown wr dq osq
        have HB1' := hide (below_step HBr.out hbv1)
        clear hw' hbv1 Q1 Q2
        obtain ⟨⟨q1, _, q3, _⟩, _, _, _⟩ := HCELL.out v1 HB1'.out
        have Q1 := cell_regrown q1
        have Q3 := cell_regrown q3
        clear q1 q3
        try rw [hb1]
        cases b1
        all_goals
          clear hb1
          go_upto_region 21 with fail
          refine wp_region_quiet_below (by kernel_rfl) (by kernel_rfl) ?_
          repeat (go_big_quiet_step (fail))
          refine wpQuiet_nil ?_
          intro v2 hw'
          have hbv2 : Below v1.heap.size v1 v2 := by
            obtain ⟨⟨dq, osq⟩, hw''⟩ := hw'
            rw [hw'']
            exact below_regrown v1 dq osq
          have HB2' := hide (below_step HB1'.out hbv2)
          clear hw' hbv2 Q1 Q3
          obtain ⟨⟨q1, _, _, q4⟩, q5, q6, _⟩ := HCELL.out v2 HB2'.out
          have Q1 := cell_regrown q1
          have Q4 := cell_regrown q4
          have Q5 := cell_regrown q5
          have Q6 := cell_regrown q6
          clear q1 q4 q5 q6
          try rw [hb2]
          cases b2
          all_goals
            clear hb2
            go_upto_region 23 with fail
            have hc := HC.out
            simp only [if_true, if_false, Bool.false_eq_true, Nat.reduceAdd] at hc
            have W0 : IntKind.i64.wrap (la : Int) = la := by rw [IntKind.wrap_i64]; omega
            have W1 : IntKind.i64.wrap ((la : Int) + 1) = la + 1 := by rw [IntKind.wrap_i64]; omega
            have W2 : IntKind.i64.wrap ((la : Int) + 2) = la + 2 := by rw [IntKind.wrap_i64]; omega
            first | have T : ((lb : Int) != (la : Int)) = false := by simp; omega
                  | have T : ((lb : Int) != (la : Int) + 1) = false := by simp; omega
                  | have T : ((lb : Int) != (la : Int) + 2) = false := by simp; omega
            clear hc HC a6
            refine wp_region_quiet_below (by kernel_rfl) (by kernel_rfl) ?_
            repeat (go_big_quiet_step (fail))
            refine wpQuiet_nil ?_
            intro v3 hw'
            have hbv3 : Below v2.heap.size v2 v3 := by
              obtain ⟨⟨dq, osq⟩, hw''⟩ := hw'
              rw [hw'']
              exact below_regrown v2 dq osq
            have HB3' := hide (below_step HB2'.out hbv3)
            clear hw' hbv3 Q1 Q4 Q5 Q6
            go_wp2
            go_roundw
            case rel => exact ⟨x + 1, by omega, by go_num, HB3'.out⟩
            case measure => simp [intOf]; omega
    · have hxe : ¬ (x : Int) < 2 * es.length := by omega
      go_wp2
      go_ret
      exact ⟨rfl, below_step HB0.out (below_step HB6.out (below_step HV12.out HBr.out))⟩
end Go.Proofs.Ytcgdmonejogbaaa
