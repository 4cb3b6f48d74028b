/- RotFaces: its walk. -/
import Derived.Test.YtllkadgpkbaghaaZ2
import Derived.Deep.DeepCutAuto
import Derived.Deep.QuietTactic
namespace Go.Proofs.Ytllkadgpkbaghaa
open Go.RowKit Go.Sort
open Go
set_option maxRecDepth 100000 in
set_option maxHeartbeats 16000000 in
theorem faces_no (n : Int) (p : Option Addr) (es : List Pt) (cp : Nat) (q : Option Addr) (rs : List (List Int)) (cq : Nat) (w : World) (h : Has w p es) (hr : RHas w q rs) (h0 : ¬ rotI n es rs = 0) : Calls Try.prog 5 #[nv n p es.length cp, .slice q rs.length cq] w fun e w' => e = .returned (.bool true) ∧ Below w.heap.size w w' := by
  obtain ⟨W0, hW, hb0, a0⟩ := one_net w n p es.length cp
  have BG := hide (begun8 W0)
  have HB0 := hide hb0
  have HA0 := hide a0
  have HH0 := hide (h.later hb0)
  have HR0 := hide (hr.later hb0)
  have H00 := hide h0
  clear h hr hb0 a0
  go_enter Try.func5, Try.ntmps5
  go_wp2_with fail
  rw [← hW]
  clear hW
  obtain ⟨kg, hkg⟩ : ∃ k, w.heap.size = k := ⟨_, rfl⟩
  have HKG := hide hkg
  rw [hkg] at HA0
  try rw [hkg]
  clear hkg
  refine BG.out.mono ?_
  rintro e w1 ⟨rfl, hb1⟩
  have HB1 := hide hb1
  have F1 := hide (faces21no n p es cp q rs cq w1 (HH0.out.later hb1) (HR0.out.later hb1) H00.out)
  obtain ⟨g0, g1, _, _⟩ := HA0.out.later hb1
  clear hb1 BG
  go_wp2_with fail
  refine F1.out.mono ?_
  rintro e w2 ⟨rfl, hb2⟩
  have HB2 := hide (below_step HB1.out hb2)
  clear hb2 F1 g0 g1
  have G1 := hide (genus22no n p es cp q rs cq w2 (HH0.out.later HB2.out) (HR0.out.later HB2.out) H00.out)
  obtain ⟨g0, g1, _, _⟩ := HA0.out.later HB2.out
  obtain ⟨x, hx⟩ : ∃ x, rotI n es rs = x := ⟨_, rfl⟩
  rw [hx] at G1 h0 ⊢
  have t1 : (x == 0) = false := by simp [h0]
  clear hx
  go_wp2_with fail
  refine G1.out.mono ?_
  rintro e w3 ⟨rfl, hb3⟩
  have HB3 := hide (below_step HB0.out (below_step HB2.out hb3))
  clear hb3 G1 g0 g1
  go_wp2
  go_ret
  exact ⟨rfl, HB3.out⟩
set_option maxRecDepth 100000 in
set_option maxHeartbeats 32000000 in
theorem faces_yes (N : Nat) (p : Option Addr) (es : List Pt) (cp : Nat) (q : Option Addr) (rs : List (List Int)) (cq : Nat) (w : World) (h : Has w p es) (hr : RHas w q rs) (lr : rs.length ≤ maxLen) (h0 : rotI N es rs = 0) : Calls Try.prog 5 #[nv N p es.length cp, .slice q rs.length cq] w fun e w' => e = .returned (.bool true) ∧ Below w.heap.size w w' := by
  obtain ⟨W0, hW, hb0, a0⟩ := one_net w N p es.length cp
  have BG := hide (begun8 W0)
  have HB0 := hide hb0
  have HA0 := hide a0
  have HH0 := hide (h.later hb0)
  have HR0 := hide (hr.later hb0)
  have HRT := hide h0
  have HLr := hide lr
  obtain ⟨n0, n1, hes, _⟩ := netB_is (rot_is h0).1
  have hcomp : compN N es ≤ 10000 := by have := comp_le (rot_is h0).1; omega
  obtain ⟨ge, _, heu, hge⟩ := genus_self h0
  have HFF := hide (faces_flat (rot_is h0).2.2)
  have HMI := hide (mirror_all h0)
  have hrn : (rs.length : Int) = N := (rot_is h0).2.1
  have HEU := hide heu
  have HGE := hide hge
  have hfl := facesL_le h0
  clear h hr hb0 a0 h0 heu hge n0
  go_enter Try.func5, Try.ntmps5
  go_wp2_with fail
  rw [← hW]
  clear hW
  obtain ⟨kg, hkg⟩ : ∃ k, w.heap.size = k := ⟨_, rfl⟩
  have HKG := hide hkg
  rw [hkg] at HA0
  try rw [hkg]
  clear hkg
  refine BG.out.mono ?_
  rintro e w1 ⟨rfl, hb1⟩
  have HB1 := hide hb1
  have F1 := hide (faces21 N p es cp q rs cq w1 (HH0.out.later hb1) (HR0.out.later hb1) HRT.out)
  obtain ⟨g0, g1, _, _⟩ := HA0.out.later hb1
  clear hb1 BG
  go_wp2_with fail
  refine F1.out.mono ?_
  rintro e w2 ⟨p1, d1, rv1, rfl, hf1, hb2⟩
  have HLE : Hid (∀ v, v < (facesL es rs).length → (lat (facesL es rs) v).length ≤ 2 * es.length + 1) := fun v hv => face_le es rs hv
  have HF1 := hide (hf1.has fun v hv => Nat.le_trans (HLE.out v hv) (show 2 * es.length + 1 ≤ maxLen by unfold maxLen; omega))
  have HB2 := hide (below_step HB1.out hb2)
  clear hb2 F1 g0 g1 hf1
  have G1 := genus22 N p es cp q rs cq w2 (HH0.out.later HB2.out) (HR0.out.later HB2.out) HRT.out hcomp
  rw [HGE.out] at G1
  have G1 := hide G1
  obtain ⟨g0, g1, _, _⟩ := HA0.out.later HB2.out
  go_wp2_with fail
  refine G1.out.mono ?_
  rintro e w3 ⟨rfl, hb3⟩
  have HB3 := hide (below_step HB2.out hb3)
  have HF3 := hide (HF1.out.later hb3)
  clear hb3 G1 g0 g1 HF1
  have L1 := hide (light9r N p es cp q rs cq w3 (HH0.out.later HB3.out) (HR0.out.later HB3.out) HLr.out)
  obtain ⟨g0, g1, _, _⟩ := HA0.out.later HB3.out
  go_wp2_with fail
  refine L1.out.mono ?_
  rintro e w4 ⟨⟨x1, rfl⟩, hb4⟩
  have HB4 := hide (below_step HB3.out hb4)
  have HF4 := hide (HF3.out.later hb4)
  clear hb4 L1 g0 g1 HF3
  cases x1
  · go_wp2
    go_ret
    exact ⟨rfl, below_step HB0.out HB4.out⟩
  obtain ⟨i0, hi0, hz0, hz1, hz2⟩ := info_parts info4
  obtain ⟨g0, g1, _, _⟩ := HA0.out.later HB4.out
  go_wp2_with (refine wpList_make_full _ rfl (.tmp 62) (.tmp 62) 49 rfl w4.heap.size 4 i0 (.bool false) 1 Try.underlying49 hi0 hz0 hz1 .i64 .i64 _ _ (2 * es.length) rfl rfl rfl rfl ?c1 ?c2 ?c3 ?_)
  case c1 => rw [hz2]; omega
  case c2 => unfold maxLen; omega
  case c3 => exact Nat.le_refl _
  intro w5 hown hgrow
  have hb5 := below_made hgrow
  have hgp := brow_made hown
  obtain ⟨F, hF⟩ : ∃ F, facesL es rs = F := ⟨_, rfl⟩
  obtain ⟨g, hg⟩ : ∃ g, w4.heap.size = g := ⟨_, rfl⟩
  have HG0 : Hid (BRow w5 w4.heap.size g (2 * es.length) (fun x => decide ((x : Int) ∈ ahead F 0 0))) := by
    show BRow _ _ _ _ _
    rw [hg] at hgp ⊢
    exact hgp.congr (fun i _ => by rw [ahead_zero]; simp)
  have HB5 := hide hb5
  have HON : Hid (∀ f k, f < F.length → k < (lat F f).length → ∃ x u i : Nat, iat (lat F f) k = (x : Int) ∧ x < 2 * es.length ∧ iat (lat F f) 0 ≤ (x : Int) ∧ toL es x = (u : Int) ∧ u < rs.length ∧ i < (lat rs u).length ∧ iat (lat rs u) i = (tw x : Nat) ∧ iat (lat F f) ((k + 1) % (lat F f).length) = iat (lat rs u) ((i + 1) % (lat rs u).length)) := fun f k hf hk => by
    subst hF
    exact on_face (rot_is HRT.out).2.2 hf hk
  rw [hF] at HFF HLE HF4 hfl ⊢
  try rw [hg]
  have HFE := hide hF
  clear hown hgrow hgp hb5 hg g0 g1 hi0 hz0 hz1 hz2 i0 hF
  have HFN := hide HFF.out.1
  have HND : Hid (∀ u, u < rs.length → (lat rs u).Nodup ∧ (lat rs u).length ≤ 100000) := fun u hu => ⟨lat_nodup (holds_iff.1 (rot_is HRT.out).2.2).2.1 hu, by have := (rot_bounds HRT.out).2 u hu; omega⟩
  go_wp2_with fail
  go_loopw [10, 11] (fun t10 t11 wr => ∃ f : Nat, f ≤ F.length ∧ t10 = .int .i64 ((ahead F f 0).length : Nat) ∧ t11 = .int .i64 f ∧ Hid (Below w4.heap.size w4 wr) ∧ Hid (BRow wr w4.heap.size g (2 * es.length) (fun x => decide ((x : Int) ∈ ahead F f 0)))) (fun _ t11 _ => F.length - (intOf t11).toNat)
  case atStart => exact ⟨0, by omega, by rw [ahead_zero]; rfl, rfl, HB5.out, HG0.out⟩
  case round =>
    obtain ⟨f, hf, rfl, rfl, HBr, HGr⟩ := hrel
    clear HB5 HG0
    by_cases hlt : f < F.length
    · obtain ⟨bF, oF, aF, kF, rfl, cF, mF, zF, _⟩ := HF4.out.at_ hlt
      have e1 : (f : Int) < F.length := by omega
      have hlf := HLE.out f hlt
      have HMF := hide mF
      have HCF := hide cF
      clear mF zF cF
      go_wp2_with fail
      go_loopw [10, 12] (fun t10 t12 wj => ∃ k : Nat, k ≤ (lat F f).length ∧ t10 = .int .i64 ((ahead F f k).length : Nat) ∧ t12 = .int .i64 k ∧ Hid (Below w4.heap.size w4 wj) ∧ Hid (BRow wj w4.heap.size g (2 * es.length) (fun x => decide ((x : Int) ∈ ahead F f k)))) (fun _ t12 _ => (lat F f).length - (intOf t12).toNat)
      case atStart => exact ⟨0, by omega, rfl, rfl, HBr.out, HGr.out⟩
      case round =>
        obtain ⟨k, hk, rfl, rfl, HBj, HGj⟩ := hrel
        clear HBr HGr
        have c0 := later HBj.out HCF.out
        by_cases hkl : k < (lat F f).length
        · rcases HMF.out.later HBj.out with hn | ⟨b2, o2, rfl, l2⟩
          · rw [hn] at hkl; simp at hkl
          obtain ⟨x, u, i, ex, hx, hmin, hto, hu, hi, eti, enx⟩ := HON.out f k hlt hkl
          have c1 := l2 k hkl
          have hmod : (k + 1) % (lat F f).length < (lat F f).length := Nat.mod_lt _ (by omega)
          have c2 := l2 _ hmod
          have c3 := l2 0 (by omega)
          rw [Nat.add_zero] at c3
          have hnew := new_on HFN.out hlt hkl
          have HAS : Hid (ahead F f (k + 1) = ahead F f k ++ [iat (lat F f) k]) := ahead_succ hkl
          obtain ⟨y0, hy0⟩ : ∃ y, iat (lat F f) 0 = y := ⟨_, rfl⟩
          obtain ⟨z, hz⟩ : ∃ z, iat (lat rs u) ((i + 1) % (lat rs u).length) = z := ⟨_, rfl⟩
          rw [ex] at c1 hnew HAS
          rw [enx, hz] at c2
          rw [hy0] at c3 hmin
          obtain ⟨r, hr⟩ : ∃ r, (k + 1) % (lat F f).length = r := ⟨_, rfl⟩
          have hrem : Int.tmod ((k : Int) + 1) (lat F f).length = (r : Int) := by
            rw [Int.tmod_eq_emod_of_nonneg (by omega), ← hr]
            have := Int.natCast_emod (k + 1) (lat F f).length
            rw [this]; rfl
          rw [hr] at c2 hmod
          obtain ⟨s0, s1⟩ := HGj.out.cell hx
          have s2 : decide ((x : Int) ∈ ahead F f k) = false := decide_eq_false hnew
          rw [s2] at s0
          have j1 : (k : Int) < (lat F f).length := by omega
          have j0 : (0 : Int) ≤ k := by omega
          have j2 : (r : Int) < (lat F f).length := by omega
          have j3 : (0 : Int) ≤ r := by omega
          have j4 : ¬ ((lat F f).length : Int) = 0 := by omega
          have j5 : (0 : Int) < (lat F f).length := by omega
          have j6 : (0 : Int) ≤ f := by omega
          have HZ := hide hz
          have HETI := hide eti
          have HTO := hide hto
          have HHI := hide hi
          have HAHD := hide (show (ahead F f k).length ≤ 100000 by
            have e9 := HFF.out.2
            have := (List.take_sublist (k) (lat F f)).length_le
            have h9 : (ahead F f k).length ≤ F.flatten.length := by
              have e : F = F.take f ++ lat F f :: F.drop (f + 1) := by rw [lat_get hlt]; simp
              conv => rhs; rw [e]
              rw [List.flatten_append, List.flatten_cons]
              unfold ahead
              simp only [List.length_append]
              omega
            omega)
          obtain ⟨A, hA⟩ : ∃ A, (ahead F f k).length = A := ⟨_, rfl⟩
          have HAL : Hid ((ahead F f (k + 1)).length = A + 1) := by show _ = _; rw [HAS.out, List.length_append, hA]; rfl
          rw [hA] at HAHD ⊢
          have hA1 := HAHD.out
          clear l2 ex enx hz hy0 hr hA s2 hnew hto eti hi
          go_upto_region 15 with fail
          go_quiet (fail)
          obtain ⟨U, hU⟩ : ∃ U, U = wr.drewN nq := ⟨_, rfl⟩
          have hbU : Below wr.heap.size wr U := by rw [hU]; exact below_drewN (Below.refl _ _)
          have HBU := hide (below_step HBj.out hbU)
          have HGU := hide (HGj.out.later hbU)
          have c0' := later hbU c0
          have c3' := later hbU c3
          have s0' := later hbU s0
          rw [← hU]
          clear hU hbU c0 c1 c2 c3 s0 s1 HBj HGj
          have HBX := hide (below_step HB4.out HBU.out)
          obtain ⟨bR, oR, aR, kR, rfl, cR, mR, zR, _⟩ := (HR0.out.later HBX.out).at_ hu
          obtain ⟨g0, g1, _, _⟩ := HA0.out.later HBX.out
          obtain ⟨hnd, hln⟩ := HND.out u hu
          have CT : ∀ dd os, Calls Try.prog 24 #[nv N p es.length cp, .int .i64 x] (grow (redrawn U dd) os) fun e w'' => e = .returned (.int .i64 u) ∧ ∃ p : Regrown, w'' = grow (redrawn U p.d) p.os := fun dd os => Calls.regrown_of (by rw [← HTO.out]; exact to43 N p es cp x _ ((HH0.out.later HBX.out).later (below_regrown U dd os)) hx (by omega))
          have CW : ∀ dd os, Calls Try.prog 25 #[.int .i64 x] (grow (redrawn U dd) os) fun e w'' => e = .returned (.int .i64 (tw x : Nat)) ∧ ∃ p : Regrown, w'' = grow (redrawn U p.d) p.os := fun dd os => Calls.regrown_of (twin25 x _ (by omega))
          have CB : ∀ dd os, Calls Try.prog 23 #[.slice aR (lat rs u).length kR, .int .i64 (tw x : Nat)] (grow (redrawn U dd) os) fun e w'' => e = .returned (.int .i64 z) ∧ ∃ p : Regrown, w'' = grow (redrawn U p.d) p.os := fun dd os => Calls.regrown_of (by
            rw [← HZ.out]
            exact behind23 aR (lat rs u) kR i (tw x : Nat) _ (mR.later (below_regrown U dd os)) (by omega) HHI.out HETI.out (fun j hj e => by
              have h1 := HHI.out
              have h2 := HETI.out
              rw [← h2] at e
              have := iat_inj hnd (by omega) h1 e
              omega))
          obtain ⟨tx, htx⟩ : ∃ t, tw x = t := ⟨_, rfl⟩
          rw [htx] at CW CB
          have C0 := cell_regrown c0'
          have C3 := cell_regrown c3'
          have S0 := cell_regrown s0'
          have CR := cell_regrown cR
          have G0 := cell_regrown g0
          have G1 := cell_regrown g1
          have k1 : (u : Int) < rs.length := by omega
          have k2 : (0 : Int) ≤ u := by omega
          have k3 : ¬ (x : Int) < y0 := by omega
          have k4 : decide ((x : Int) < y0) = false := decide_eq_false k3
          have k5 : (z != z) = false := by simp
          have k6 : (0 : Int) ≤ x := by omega
          have k7 : (x : Int) < 2 * es.length := by omega
          have k8 : ((2 * es.length : Nat) : Int) = 2 * es.length := by omega
          clear htx hnd hln mR zR
          go_upto_region 16 with fail
          refine wp_region_quiet_below (by kernel_rfl) (by kernel_rfl) ?_
          repeat (go_big_quiet_step (first | with_reducible exact CT _ _ | with_reducible exact CW _ _ | with_reducible exact CB _ _))
          refine wpQuiet_nil ?_
          intro w6 hw'
          have hb6 : Below U.heap.size U w6 := by
            obtain ⟨⟨dq, osq⟩, hw''⟩ := hw'
            rw [hw'']
            exact below_regrown U dq osq
          have HBq := hide (below_step HBU.out hb6)
          have HGq := hide (HGU.out.later hb6)
          clear hw' hb6 c0' c3' s0' cR g0 g1 C0 C3 S0 CR G0 G1 CT CW CB HGU HBU HBX k5 k3 k4
          obtain ⟨s0, s1⟩ := HGq.out.cell hx
          have HSET := hide (HGq.out.set hx)
          have HSE2 : Hid (BRow (w6.setCell ⟨g, x, none⟩ (.bool true)) w4.heap.size g (2 * es.length) (fun y => decide ((y : Int) ∈ ahead F f (k + 1)))) := HSET.out.congr (fun y _ => by
            rw [HAS.out]
            by_cases e : y = x
            · simp [e]
            · have : ¬ (y : Int) = x := by omega
              simp [e, this])
          have HBS : Hid (Below w4.heap.size w4 (w6.setCell ⟨g, x, none⟩ (.bool true))) := HBq.out.setCell (p := ⟨g, x, none⟩) HGq.out.lt.1 _
          clear HSET
          go_wp2
          go_roundw
          case rel => exact ⟨k + 1, by omega, by rw [HAL.out]; go_num, by go_num, HBS.out, HSE2.out⟩
          case measure => simp [intOf]; omega
        · have hke : k = (lat F f).length := by omega
          have j1 : ¬ (k : Int) < (lat F f).length := by omega
          have HA9 : Hid (ahead F (f + 1) 0 = ahead F f (lat F f).length) := ahead_next hlt
          rw [← hke] at HA9
          rw [← HA9.out] at HGj ⊢
          clear hke hkl
          go_wp2
          go_roundw
          case rel => exact ⟨f + 1, by omega, rfl, by go_num, HBj.out, HGj.out⟩
          case measure => simp [intOf]; omega
    · have hfe : f = F.length := by omega
      have e1 : ¬ (f : Int) < F.length := by omega
      subst hfe
      have hcnt : (ahead F F.length 0).length = 2 * es.length := by rw [ahead_all]; exact HFF.out.2
      rw [hcnt]
      have HB6 := hide (below_step HB4.out HBr.out)
      have HF6 := hide (HF4.out.later HBr.out)
      clear hcnt HGr HBr HF4
      have PA := hide (parts19 N p es cp wr (HH0.out.later HB6.out) (rot_is HRT.out).1)
      obtain ⟨g0, g1, _, _⟩ := HA0.out.later HB6.out
      go_wp2_with fail
      refine PA.out.mono ?_
      rintro e w7 ⟨gc, kc, C, rc, rfl, _, hlab, hb7⟩
      have hkc : kc = compN N es := by
        obtain ⟨r0, L0⟩ := parts_lab (n := N) (es := es) (rot_is HRT.out).1
        have := (hlab.uniq (rot_is HRT.out).1 L0).1
        rw [this]
        unfold compN
        rw [Int.toNat_natCast]
      have HB7 := hide (below_step HB6.out hb7)
      have HF7 := hide (HF6.out.later hb7)
      have heu := HEU.out
      have HFE2 := HFE.out
      rw [← hkc, HFE2] at heu
      rw [← hkc] at hcomp
      have hgeb : ge ≤ 20000 := by omega
      clear PA hb7 hlab hkc g0 g1 HF6 HB6 HFE2
      obtain ⟨g0, g1, _, _⟩ := HA0.out.later HB7.out
      have t0 : ((2 * es.length : Nat) : Int) = 2 * es.length := by omega
      have t1 : ((2 * (es.length : Int)) != 2 * es.length) = false := by simp
      have t2 : (N : Int) - es.length + F.length = 2 * kc - 2 * ge := by omega
      have t3 : (((N : Int) - es.length + F.length) != (2 * (kc : Int) - 2 * ge)) = false := by rw [t2]; simp
      have t4 : ¬ (ge : Int) < 0 := by omega
      have t5 : decide ((ge : Int) < 0) = false := decide_eq_false t4
      clear heu
      have MI := hide (mirror27 N p es cp q rs cq w7 (HH0.out.later HB7.out) (HR0.out.later HB7.out) HRT.out)
      go_wp2_with fail
      refine MI.out.mono ?_
      rintro e w8 ⟨gm, rvm, rfl, hrm, hb8⟩
      have HB8 := hide (below_step HB7.out hb8)
      have HF8 := hide (HF7.out.later hb8)
      obtain ⟨rm, hrme⟩ : ∃ x, mirrorL rs = x := ⟨_, rfl⟩
      have hml : rm.length = rs.length := by rw [← hrme]; exact mirrorL_length rs
      rw [hrme] at HMI hrm
      have HMM := hide hrme
      have HM8 := hide (hrm.has hml (fun _ _ => rfl) (fun v hv => by have := (rot_bounds HMI.out.1).2 v (by omega); unfold maxLen; omega))
      have HML := hide hml
      have t6 : (rm.length : Int) = rs.length := by omega
      clear MI g0 g1 hrm hb8 hrme hml HF7 t0 t1 t2 t3 t4 t5
      -- the mirror's faces
      have F2 := faces21 N p es cp (some ⟨gm, 0, none⟩) rm rs.length w8 (HH0.out.later HB8.out) HM8.out HMI.out.1
      rw [HML.out] at F2
      have F2 := hide F2
      obtain ⟨g0, g1, _, _⟩ := HA0.out.later HB8.out
      go_wp2_with fail
      refine F2.out.mono ?_
      rintro e w9 ⟨p2, d2, rv2, rfl, hf2, hb9⟩
      have hle2 : ∀ v, v < (facesL es rm).length → (lat (facesL es rm) v).length ≤ 2 * es.length + 1 := fun v hv => face_le es rm hv
      have HP9 := hide (hf2.has fun v hv => Nat.le_trans (hle2 v hv) (show 2 * es.length + 1 ≤ maxLen by unfold maxLen; omega))
      have HLP := hide hle2
      have HB9 := hide (below_step HB8.out hb9)
      have HF9 := hide (HF8.out.later hb9)
      have HM9 := hide (HM8.out.later hb9)
      clear F2 g0 g1 hf2 hb9 HF8 HM8 hle2
      have hpl : (facesL es rm).length = F.length := by rw [HMI.out.2.1]; exact congrArg List.length HFE.out
      have HPM : Hid (((facesL es rm).map List.length).Perm (F.map List.length)) := by
        show List.Perm _ _
        rw [← HFE.out]; exact HMI.out.2.2.2.1
      obtain ⟨P, hP⟩ : ∃ P, facesL es rm = P := ⟨_, rfl⟩
      rw [hP] at HPM HP9 HLP hpl ⊢
      have HPL := hide hpl
      have HPF : Hid (P.flatten.length = 2 * es.length) := by
        show _ = _
        rw [← hP]; exact (faces_flat (rot_is HMI.out.1).2.2).2
      rw [hpl]
      clear hP hpl
      -- its genus
      have G2 := genus22 N p es cp (some ⟨gm, 0, none⟩) rm rs.length w9 (HH0.out.later HB9.out) HM9.out HMI.out.1 (by have := comp_le (rot_is HRT.out).1; omega)
      rw [HML.out, HMI.out.2.2.1, HGE.out] at G2
      have G2 := hide G2
      obtain ⟨g0, g1, _, _⟩ := HA0.out.later HB9.out
      go_wp2_with fail
      refine G2.out.mono ?_
      rintro e w10 ⟨rfl, hb10⟩
      have HB10 := hide (below_step HB9.out hb10)
      have HF10 := hide (HF9.out.later hb10)
      have HM10 := hide (HM9.out.later hb10)
      have HP10 := hide (HP9.out.later hb10)
      clear G2 g0 g1 hb10 HF9 HM9 HP9
      -- the mirror of the mirror
      have M2 := mirror27 N p es cp (some ⟨gm, 0, none⟩) rm rs.length w10 (HH0.out.later HB10.out) HM10.out HMI.out.1
      rw [HML.out, show mirrorL rm = canonL rs from HMI.out.2.2.2.2] at M2
      have M2 := hide M2
      obtain ⟨g0, g1, _, _⟩ := HA0.out.later HB10.out
      go_wp2_with fail
      refine M2.out.mono ?_
      rintro e w11 ⟨gb, rvb, rfl, hrb, hb11⟩
      have hcl : (canonL rs).length = rs.length := canonL_length _
      have hcle : ∀ v, v < rs.length → (lat (canonL rs) v).length ≤ maxLen := fun v hv => by rw [lat_canon hv, turnL_length]; have := (rot_bounds HRT.out).2 v hv; unfold maxLen; omega
      have HGB := hide (hrb.has hcl (fun _ _ => rfl) hcle)
      have HB11 := hide (below_step HB10.out hb11)
      have HF11 := hide (HF10.out.later hb11)
      have HP11 := hide (HP10.out.later hb11)
      have HCLE := hide hcle
      have HCL := hide hcl
      clear M2 g0 g1 hrb hb11 HF10 HM10 HP10 hcle hcl
      have CN := hide (canon28 N p es cp q rs cq w11 (HH0.out.later HB11.out) (HR0.out.later HB11.out) HRT.out)
      obtain ⟨g0, g1, _, _⟩ := HA0.out.later HB11.out
      go_wp2_with fail
      refine CN.out.mono ?_
      rintro e w12 ⟨gd, rvd, rfl, hrd, hb12⟩
      have HGD := hide (hrd.has HCL.out (fun _ _ => rfl) HCLE.out)
      have HB12 := hide (below_step HB11.out hb12)
      have HF12 := hide (HF11.out.later hb12)
      have HP12 := hide (HP11.out.later hb12)
      have HGB2 := hide (HGB.out.later hb12)
      clear CN g0 g1 hrd hb12 HF11 HP11 HGB
      have TL := lists29 (some ⟨gb, 0, none⟩) (some ⟨gd, 0, none⟩) (canonL rs) (canonL rs) rs.length rs.length w12 (by rw [HCL.out]; exact HLr.out) HGB2.out HGD.out
      rw [HCL.out, decide_eq_true rfl] at TL
      have TL := hide TL
      have u1 : ((F.length : Int) != F.length) = false := by simp
      have u2 : ((ge : Int) != ge) = false := by simp
      go_wp2_with fail
      refine TL.out.mono ?_
      rintro e w13 ⟨rfl, hb13⟩
      have HB13 := hide (below_step HB12.out hb13)
      have HF13 := hide (HF12.out.later hb13)
      have HP13 := hide (HP12.out.later hb13)
      clear TL hb13 HF12 HP12 HGB2 HGD
      obtain ⟨i0, hi0, hz0, hz1, hz2⟩ := info_parts info3
      obtain ⟨g0, g1, _, _⟩ := HA0.out.later HB13.out
      clear u1 u2 t6
      go_wp2_with (refine wpList_make_full _ rfl (.tmp 212) (.tmp 212) 27 rfl w13.heap.size 3 i0 (.int .i64 0) 1 Try.underlying27 hi0 hz0 hz1 .i64 .i64 _ _ (2 * es.length + 1) rfl rfl rfl rfl ?c1 ?c2 ?c3 ?_)
      case c1 => rw [hz2]; omega
      case c2 => unfold maxLen; omega
      case c3 => exact Nat.le_refl _
      intro w14 hown hgrow
      have hb14 := below_made hgrow
      have hgp := irow_made hown
      obtain ⟨gl, hgl⟩ : ∃ g, w13.heap.size = g := ⟨_, rfl⟩
      obtain ⟨M, hM⟩ : ∃ M, 2 * es.length + 1 = M := ⟨_, rfl⟩
      have HT0 : Hid (IRow w14 w13.heap.size gl M (ltab F P M 0)) := by
        show IRow _ _ _ _ _
        rw [ltab_zero, ← hM]
        rw [hgl] at hgp ⊢
        exact hgp
      have HB14 := hide hb14
      try rw [hgl]
      rw [hM]
      have HMe := hide hM
      have hM1 : M ≤ 10000 := by omega
      clear hown hgrow hgp hb14 hgl g0 g1 hi0 hz0 hz1 hz2 i0 hM
      go_wp2_with fail
      go_loopw [28] (fun t28 wr => ∃ j : Nat, j ≤ F.length ∧ t28 = .int .i64 j ∧ Hid (Below w13.heap.size w13 wr) ∧ Hid (IRow wr w13.heap.size gl M (ltab F P M j))) (fun t28 _ => F.length - (intOf t28).toNat)
      case atStart => exact ⟨0, by omega, rfl, HB14.out, HT0.out⟩
      case round =>
        obtain ⟨j, hj, rfl, HBj, HTj⟩ := hrel
        clear HB14 HT0
        by_cases hlt : j < F.length
        · obtain ⟨bF, oF, aF, kF, rfl, cF, _⟩ := (HF13.out.later HBj.out).at_ hlt
          have e1 : (j : Int) < F.length := by omega
          have la := lat_le_flat hlt
          have lb := lat_le_flat (rs := P) (v := j) (by rw [HPL.out]; exact hlt)
          rw [HFF.out.2] at la
          rw [HPF.out] at lb
          have hMM := HMe.out
          obtain ⟨a, ha⟩ : ∃ a, (lat F j).length = a := ⟨_, rfl⟩
          obtain ⟨b, hb⟩ : ∃ b, (lat P j).length = b := ⟨_, rfl⟩
          rw [ha] at cF la
          rw [hb] at lb
          have haM : a < M := by omega
          have hbM : b < M := by omega
          obtain ⟨y, y1, y2, y3, y4⟩ := ltab_step hlt (show j < P.length by rw [HPL.out]; exact hlt) ha hb haM hbM
          obtain ⟨x, hx⟩ : ∃ x, iat (ltab F P M j) a = x := ⟨_, rfl⟩
          have hxb : -100000 ≤ x ∧ x ≤ 100000 := by
            have h1 := lc_le F j a
            have h2 := lc_le P j a
            rw [ltab_at haM] at hx
            omega
          obtain ⟨s0, s1⟩ := HTj.out.cell haM
          rw [hx] at s0 y1 y4
          have HS1 := hide (HTj.out.set a (x + 1))
          have HBS1 : Hid (Below w13.heap.size w13 (wr.setCell ⟨gl, a, none⟩ (.int .i64 (x + 1)))) := HBj.out.setCell (p := ⟨gl, a, none⟩) HTj.out.lt.1 _
          have HY1 := hide y1
          have HY4 := hide y4
          have HHB := hide hb
          have f1 : (a : Int) < M := by omega
          have f2 : (b : Int) < M := by omega
          clear la lb hMM ha hb y1 y4 hx
          go_upto_region 35 with fail
          obtain ⟨V1, hV1⟩ : ∃ V, V = wr.setCell ⟨gl, a, none⟩ (.int .i64 (x + 1)) := ⟨_, rfl⟩
          rw [← hV1] at HS1 HBS1 ⊢
          clear hV1 HTj HBj cF s0 s1
          obtain ⟨bP, oP, aP, kP, rfl, cP, _⟩ := (HP13.out.later HBS1.out).at_ (v := j) (by rw [HPL.out]; exact hlt)
          rw [HHB.out] at cP
          obtain ⟨s0, s1⟩ := HS1.out.cell hbM
          rw [HY1.out] at s0
          have HS2 := hide (HS1.out.set b (y - 1))
          rw [← HY4.out] at HS2
          have HBS2 : Hid (Below w13.heap.size w13 (V1.setCell ⟨gl, b, none⟩ (.int .i64 (y - 1)))) := HBS1.out.setCell (p := ⟨gl, b, none⟩) HS1.out.lt.1 _
          clear HS1
          go_wp2
          go_roundw
          case rel => exact ⟨j + 1, by omega, by go_num, HBS2.out, HS2.out⟩
          case measure => simp [intOf]; omega
        · have hje : j = F.length := by omega
          have e1 : ¬ (j : Int) < F.length := by omega
          rw [hje] at HTj
          have HZ : Hid (∀ i, i < M → iat (ltab F P M F.length) i = 0) := fun i hi => ltab_end HPM.out HPL.out hi
          clear hje hlt
          go_wp2_with fail
          go_loopw [29] (fun t29 wq => ∃ k : Nat, k ≤ M ∧ t29 = .int .i64 k ∧ Hid (Below w13.heap.size w13 wq) ∧ Hid (IRow wq w13.heap.size gl M (ltab F P M F.length))) (fun t29 _ => M - (intOf t29).toNat)
          case atStart => exact ⟨0, by omega, rfl, HBj.out, HTj.out⟩
          case round =>
            obtain ⟨k, hk, rfl, HBk, HTk⟩ := hrel
            clear HBj HTj
            by_cases hkM : k < M
            · have e2 : (k : Int) < M := by omega
              obtain ⟨s0, s1⟩ := HTk.out.cell hkM
              rw [HZ.out k hkM] at s0
              go_wp2
              go_roundw
              case rel => exact ⟨k + 1, by omega, by go_num, HBk.out, HTk.out⟩
              case measure => simp [intOf]; omega
            · have e2 : ¬ (k : Int) < M := by omega
              go_wp2
              go_ret
              exact ⟨rfl, below_step HB0.out (below_step HB13.out HBk.out)⟩
theorem faces_walk (n : Int) (p : Option Addr) (es : List Pt) (cp : Nat) (q : Option Addr) (rs : List (List Int)) (cq : Nat) (w : World) (h : Has w p es) (hr : RHas w q rs) (lr : rs.length ≤ maxLen) : Calls Try.prog 5 #[nv n p es.length cp, .slice q rs.length cq] w fun e w' => e = .returned (.bool true) ∧ Below w.heap.size w w' := by
  by_cases h0 : rotI n es rs = 0
  · obtain ⟨n0, _⟩ := netB_is (rot_is h0).1
    obtain ⟨N, rfl⟩ : ∃ N : Nat, n = N := ⟨n.toNat, by omega⟩
    exact faces_yes N p es cp q rs cq w h hr lr h0
  · exact faces_no n p es cp q rs cq w h hr h0
end Go.Proofs.Ytllkadgpkbaghaa
