/- DualTakes: its walk. -/
import Derived.Test.YtcgdmonejogbaaaW1
import Derived.Test.YtcgdmonejogbaaaWD
import Derived.Deep.DeepCutAuto
import Derived.Deep.QuietTactic
/- Pure: an edge taken away, and the genus. -/
namespace Go.Proofs.Ytcgdmonejogbaaa
open Go.RowKit Go.Sort
open Go
variable {n : Nat} {es : List Pt} {rs : List (List Int)}
theorem of_orb (h : holdsP es rs) {x y : Nat} (hx : x < 2 * es.length) (hy : y < 2 * es.length) : iat (ofL es rs) x = iat (ofL es rs) y ↔ Orb (fT es rs) x y :=
  tr_of (fun _ hx => real_nn h hx) (real_prm h) hx hy
theorem keep_kpE (e : Nat) {x : Nat} (hx : x < es.length) : keepK es (kpE e es.length) x = decide (x ≠ e) := by
  have he := kpE_err e es.length
  unfold keepK
  by_cases h : x = e
  · subst h
    rw [decide_eq_false (by simp : ¬ x ≠ x), decide_eq_false]
    intro h0
    obtain ⟨k, hk, _, e2⟩ := kept_at he hx h0
    have := (kpE_mem x es.length _).1 (iat_mem hk)
    omega
  · rw [decide_eq_true h, decide_eq_true]
    obtain ⟨k, hk, ek⟩ := mem_iat ((kpE_mem e es.length (x : Int)).2 ⟨by omega, by omega, by omega⟩)
    obtain ⟨_, _, h3⟩ := at_kept he hk
    rw [ek, Int.toNat_natCast] at h3
    omega
theorem ndR_ends {e : Nat} (he : e < es.length) : ndR es (2 * e) = (at' es e).x.toNat ∧ ndR es (2 * e + 1) = (at' es e).y.toNat := by
  refine ⟨?_, ?_⟩
  · rw [ndR_half (by omega)]
    unfold fromL
    rw [if_pos (by omega), show 2 * e / 2 = e by omega]
  · rw [ndR_half (by omega)]
    unfold fromL
    rw [if_neg (by omega), show (2 * e + 1) / 2 = e by omega]
theorem take_genus (h : rotI n es rs = 0) {e : Nat} (he : e < es.length) : rotI n (pick es (kpE e es.length)) (canonL (subL es rs (kpE e es.length))) = 0 ∧ ∃ a b : Nat, genusI n es rs = a ∧ genusI n (pick es (kpE e es.length)) (canonL (subL es rs (kpE e es.length))) = b ∧ ((iat (ofL es rs) (2 * e) = iat (ofL es rs) (2 * e + 1) ∧ Conn (pick es (kpE e es.length)) (at' es e).x.toNat (at' es e).y.toNat) → a = b + 1) ∧ (¬ (iat (ofL es rs) (2 * e) = iat (ofL es rs) (2 * e + 1) ∧ Conn (pick es (kpE e es.length)) (at' es e).x.toNat (at' es e).y.toNat) → a = b) := by
  have hk := kpE_err e es.length
  have hs := sub_rot hk h
  obtain ⟨c1, _, c3⟩ := faces_canon hs
  obtain ⟨h1, h2, h3⟩ := rot_is h
  have hl : rs.length = n := by omega
  obtain ⟨S, hst⟩ := sys_of h3 hl
  obtain ⟨a, ga, _, ea⟩ := genus_self h
  have ES := emb_sub hk h3 hl
  obtain ⟨b, gb, _, eb⟩ := ES.gen S (st := fun v => 2 * es.length + v) hst (net_pick hk h1) (by rw [cn_keep hk, pick_length])
  have H := S.rt (st := fun v => 2 * es.length + v) hst
  have hKe : keepK es (kpE e es.length) e = false := by rw [keep_kpE e he]; simp
  have hmor : ∀ x, x < es.length → mor (keepK es (kpE e es.length)) e x = true := fun x hx => by
    by_cases hxe : x = e
    · subst hxe; exact mor_e _ _
    · rw [mor_o hxe, keep_kpE e hx]; simp [hxe]
  obtain ⟨g', hg, m1, m2⟩ := gb.more H he hKe
  have hga := (hg.congr (K' := fun _ => true) hmor).uniq H ga
  have hor : Orb (ph (nxt (nlR es rs) (ndR es)) es.length (mor (keepK es (kpE e es.length)) e)) (2 * e) (2 * e + 1) ↔ iat (ofL es rs) (2 * e) = iat (ofL es rs) (2 * e + 1) := by
    rw [ph_congr (K' := fun _ => true) hmor, of_orb h3 (by omega) (by omega)]
    exact (emb_self h3 hl).orb S (by omega) (by omega)
  have hck : CK es.length (ndR es) (keepK es (kpE e es.length)) (ndR es (2 * e)) (ndR es (2 * e + 1)) ↔ Conn (pick es (kpE e es.length)) (at' es e).x.toNat (at' es e).y.toNat := by
    rw [(ndR_ends he).1, (ndR_ends he).2]
    exact ES.conn S
  rw [hor, hck, hga] at m1 m2
  exact ⟨c1, a, b, ea, by rw [c3, eb], m1, m2⟩
end Go.Proofs.Ytcgdmonejogbaaa

namespace Go.Proofs.Ytcgdmonejogbaaa
open Go.RowKit Go.Sort
open Go
/-- What Take answers, refused. -/
theorem take17u (n : Int) (p : Option Addr) (es : List Pt) (cp : Nat) (q : Option Addr) (rs : List (List Int)) (cq : Nat) (e : Int) (w : World) (h : Has w p es) (hr : RHas w q rs) (hbad : ¬ (rotI n es rs = 0 ∧ 0 ≤ e ∧ e < es.length)) : ∃ x : Int, x ≠ 0 ∧ Calls Try.prog 17 #[nv n p es.length cp, .slice q rs.length cq, .int .i64 e] w fun r w' => r = .returned (.tuple #[nv 0 none 0 0, .slice none 0 0, .int .i64 x]) ∧ Below w.heap.size w w' := by
  by_cases h0 : rotI n es rs = 0
  · exact ⟨2, by decide, take17off n p es cp q rs cq e w h hr h0 fun h1 => hbad ⟨h0, h1⟩⟩
  · exact ⟨_, h0, take17no n p es cp q rs cq e w h hr h0⟩
set_option maxRecDepth 100000 in
set_option maxHeartbeats 16000000 in
theorem take_walk (n : Int) (p : Option Addr) (es : List Pt) (cp : Nat) (q : Option Addr) (rs : List (List Int)) (cq : Nat) (z : Int) (w : World) (h : Has w p es) (hr : RHas w q rs) (lr : rs.length ≤ maxLen) : Calls Try.prog 8 #[nv n p es.length cp, .slice q rs.length cq, .int .i64 z] w fun e w' => e = .returned (.bool true) ∧ Below w.heap.size w w' := by
  obtain ⟨W0, hW, hb0, a0⟩ := one_net w n p es.length cp
  have BG := hide (begun9 W0)
  have HB0 := hide hb0
  have HA0 := hide a0
  have HH0 := hide (h.later hb0)
  have HR0 := hide (hr.later hb0)
  have HLr := hide lr
  clear h hr hb0 a0 lr
  go_enter Try.func8, Try.ntmps8
  go_wp2_with fail
  rw [← hW]
  clear hW
  obtain ⟨kg, hkg⟩ : ∃ k, w.heap.size = k := ⟨_, rfl⟩
  have HKG := hide hkg
  rw [hkg] at HA0
  try rw [hkg]
  clear hkg
  refine BG.out.mono ?_
  rintro r w1 ⟨rfl, hb1⟩
  have HB1 := hide hb1
  have L1 := hide (light9r n p es cp q rs cq w1 (HH0.out.later hb1) (HR0.out.later hb1) HLr.out)
  obtain ⟨g0, g1, _, _⟩ := HA0.out.later hb1
  clear hb1 BG
  go_wp2_with fail
  refine L1.out.mono ?_
  rintro r w2 ⟨⟨x1, rfl⟩, hb2⟩
  have HB2 := hide (below_step HB1.out hb2)
  clear hb2 L1 g0 g1
  cases x1
  · go_wp2
    go_ret
    exact ⟨rfl, below_step HB0.out HB2.out⟩
  obtain ⟨g0, g1, _, _⟩ := HA0.out.later HB2.out
  by_cases hbad : ¬ (rotI n es rs = 0 ∧ 0 ≤ z ∧ z < es.length)
  · obtain ⟨x, hx0, SE0⟩ := take17u n p es cp q rs cq z w2 (HH0.out.later HB2.out) (HR0.out.later HB2.out) hbad
    have SE := hide SE0
    clear SE0
    have t1 : (x == 0) = false := by simp [hx0]
    go_wp2_with fail
    refine SE.out.mono ?_
    rintro r w11 ⟨rfl, hb11⟩
    have HB12 := hide (below_step HB0.out (below_step HB2.out hb11))
    clear hb11 SE g0 g1
    go_upto_region 6 with fail
    obtain ⟨U6, hU6⟩ : ∃ U, U = w11.alloc (nbx 0 none 0 0) := ⟨_, rfl⟩
    have HBU : Hid (Below w.heap.size w U6) := by show Below _ _ _; rw [hU6]; exact below_step HB12.out (by go_grown)
    have hK6 : NOwn U6 w11.heap.size 0 none 0 0 := by rw [hU6]; exact ⟨by go_cell, by go_cell, by simp [go_sem], by simp [go_sem]⟩
    rw [← hU6]
    obtain ⟨c0, c1, _, _⟩ := hK6
    clear hU6
    go_wp2
    go_ret
    exact ⟨rfl, HBU.out⟩
  obtain ⟨r0, he0, he1⟩ := Decidable.not_not.1 hbad
  have HRT := hide r0
  obtain ⟨n0, n1, hes, hE⟩ := netB_is (rot_is r0).1
  have hrn : (rs.length : Int) = n := (rot_is r0).2.1
  obtain ⟨N, rfl⟩ : ∃ N : Nat, n = N := ⟨n.toNat, by omega⟩
  obtain ⟨k, rfl⟩ : ∃ k : Nat, z = k := ⟨z.toNat, by omega⟩
  have hk : k < es.length := by omega
  obtain ⟨s1, a, b, ea, eb, hab, hac⟩ := take_genus r0 hk
  have hxy := hE k hk
  obtain ⟨l, hl⟩ : ∃ l, kpE k es.length = l := ⟨_, rfl⟩
  have TK := hide (take17 N p es cp q rs cq k w2 (HH0.out.later HB2.out) (HR0.out.later HB2.out) r0 hk)
  have hll : l.length ≤ es.length := by rw [← hl]; exact kpE_le _ _
  have hlen2 : (pick es l).length = l.length := pick_length _ _
  rw [hl] at TK s1 eb hab hac
  obtain ⟨rs', hrs'⟩ : ∃ x, canonL (subL es rs l) = x := ⟨_, rfl⟩
  have hrl : rs'.length = rs.length := by rw [← hrs', canonL_length, subL_length]
  rw [hrs'] at s1 eb TK
  obtain ⟨es', hes'⟩ : ∃ x, pick es l = x := ⟨_, rfl⟩
  rw [hes'] at s1 eb TK hlen2 hab hac
  obtain ⟨vx, hvx⟩ : ∃ z : Nat, (at' es k).x = z := ⟨(at' es k).x.toNat, by omega⟩
  obtain ⟨vy, hvy⟩ : ∃ z : Nat, (at' es k).y = z := ⟨(at' es k).y.toNat, by omega⟩
  rw [hvx, hvy] at hxy hab hac
  rw [Int.toNat_natCast, Int.toNat_natCast] at hab hac
  have hm2 := (rot_is s1).1
  have HS1 := hide s1
  have HEA := hide ea
  have HEB := hide eb
  have HAB := hide hab
  have HAC := hide hac
  have HRL := hide hrl
  have HL2 := hide hlen2
  have HVX := hide hvx
  have HVY := hide hvy
  have HM2 := hide hm2
  have HXY := hide hxy
  clear r0 hbad hrn s1 ea eb hab hac hrs' hes' hrl hlen2 hl hE hvx hvy hm2 hxy
  go_wp2_with fail
  refine TK.out.mono ?_
  rintro r w3 ⟨gx, gy, rvy, rfl, hpx, hry, hb3⟩
  clear TK g0 g1
  have hy' : RHas w3 (some ⟨gy, 0, none⟩) rs' := hry.has HRL.out (fun v hv => rfl) (fun v hv => by have := (rot_bounds HS1.out).2 v (by rw [HRL.out]; exact hv); unfold maxLen; omega)
  go_upto_region 6 with fail
  obtain ⟨U6, hU6⟩ : ∃ U, U = w3.alloc (nbx N (some ⟨gx, 0, none⟩) l.length l.length) := ⟨_, rfl⟩
  have hbU6 : Below w3.heap.size w3 U6 := by rw [hU6]; go_grown
  have HK6 : Hid (NOwn U6 w3.heap.size N (some ⟨gx, 0, none⟩) l.length l.length) := by show NOwn _ _ _ _ _ _; rw [hU6]; exact ⟨by go_cell, by go_cell, by simp [go_sem], by simp [go_sem]⟩
  rw [← hU6]
  obtain ⟨kh, hkh⟩ : ∃ k, w3.heap.size = k := ⟨_, rfl⟩
  rw [hkh] at HK6
  try rw [hkh]
  have HX6 : Hid (Has U6 (some ⟨gx, 0, none⟩) es') := hpx.has.later hbU6
  have HY6 := hide (hy'.later hbU6)
  have HB6 := hide (below_step HB2.out (below_step hb3 hbU6))
  clear hU6 hbU6 hkh hpx hy' hry hb3
  have OF := hide (of46 N p es cp q rs cq U6 (HR0.out.later HB6.out) HRT.out)
  obtain ⟨g0, g1, _, _⟩ := HA0.out.later HB6.out
  go_wp2_with fail
  refine OF.out.mono ?_
  rintro r w7 ⟨go, rfl, hro, hb7⟩
  have HO7 := hide hro
  have HV7 := hide hb7
  have PT := hide (parts26 N (some ⟨gx, 0, none⟩) es' l.length w7 (HX6.out.later hb7) HM2.out)
  rw [HL2.out] at PT
  obtain ⟨c0, c1, _, _⟩ := HK6.out.later hb7
  clear OF hro hb7 g0 g1
  go_wp2_with fail
  refine PT.out.mono ?_
  rintro r w8 ⟨gp, C, rr, rfl, hrp, hlab, hb8⟩
  have HV8 := hide (below_step HV7.out hb8)
  have HO8 := hide (HO7.out.later hb8)
  have HP8 := hide hrp
  have HJ : Hid (iat C vx = iat C vy ↔ Conn es' vx vy) := hlab.conn HM2.out (by have := HXY.out; omega) (by have := HXY.out; omega)
  clear PT hrp hlab hb8 c0 c1 HO7
  obtain ⟨cx, hcx⟩ : ∃ z, iat C vx = z := ⟨_, rfl⟩
  obtain ⟨cy, hcy⟩ : ∃ z, iat C vy = z := ⟨_, rfl⟩
  obtain ⟨ox, hox⟩ : ∃ z, iat (ofL es rs) (2 * k) = z := ⟨_, rfl⟩
  obtain ⟨oy, hoy⟩ : ∃ z, iat (ofL es rs) (2 * k + 1) = z := ⟨_, rfl⟩
  have HB8 := hide (below_step HB6.out HV8.out)
  obtain ⟨g0, g1, _, _⟩ := HA0.out.later HB8.out
  obtain ⟨q1, _⟩ := HP8.out.cell (j := vx) (by have := HXY.out; omega)
  obtain ⟨q2, _⟩ := HP8.out.cell (j := vy) (by have := HXY.out; omega)
  obtain ⟨q3, _⟩ := HO8.out.cell (j := 2 * k) (by omega)
  obtain ⟨q4, _⟩ := HO8.out.cell (j := 2 * k + 1) (by omega)
  rw [hcx] at q1
  rw [hcy] at q2
  rw [hox] at q3
  rw [hoy] at q4
  rcases (HH0.out.later HB8.out) with hn | ⟨be, oe, rfl, le⟩
  · rw [hn] at hk; simp at hk
  obtain ⟨q5, q6⟩ := le k hk
  rw [HVX.out] at q5
  rw [HVY.out] at q6
  have hxy := HXY.out
  have k1 : (vx : Int) < N := by omega
  have k2 : (vy : Int) < N := by omega
  have k3 : (k : Int) < es.length := by omega
  have hol : (2 * (k : Int) + 1) < 2 * es.length := by omega
  have d1 : IntKind.i64.wrap (2 * (k : Int)) = 2 * k := by rw [IntKind.wrap_i64]; omega
  have d2 : IntKind.i64.wrap (2 * (k : Int) + 1) = 2 * k + 1 := by rw [IntKind.wrap_i64]; omega
  have G1 := cell_regrown g1
  have Q1 := cell_regrown q1
  have Q2 := cell_regrown q2
  have Q5 := cell_regrown q5
  have Q6 := cell_regrown q6
  go_upto_region 10 with fail
  refine wp_region_quiet_below (by kernel_rfl) (by kernel_rfl) ?_
  repeat (go_big_quiet_step (fail))
  refine wpQuiet_nil ?_
  intro w9 hw'
  have hb9 : Below w8.heap.size w8 w9 := by
    obtain ⟨⟨dq, osq⟩, hw''⟩ := hw'
    rw [hw'']
    exact below_regrown w8 dq osq
  have HV9 := hide hb9
  have q3 := later hb9 q3
  have q4 := later hb9 q4
  clear hw' G1 Q1 Q2 Q5 Q6 q1 q2 q5 q6 g0 g1 hb9
  have Q3 := cell_regrown q3
  have Q4 := cell_regrown q4
  go_upto_region 11 with fail
  go_cut [14] (fun s14 wx => s14 = .bool (decide (ox = oy ∧ cx = cy)) ∧ Below w9.heap.size w9 wx)
  case first =>
    refine wp_region_quiet_below (by kernel_rfl) (by kernel_rfl) ?_
    by_cases hxo : ox = oy
    · subst hxo
      repeat (go_big_quiet_step (fail))
      refine wpQuiet_nil ?_
      intro w10 hw'
      have hb10 : Below w9.heap.size w9 w10 := by
        obtain ⟨⟨dq, osq⟩, hw''⟩ := hw'
        rw [hw'']
        exact below_regrown w9 dq osq
      clear hw'
      go_wp2_with fail
      go_meet
      refine ⟨?_, hb10⟩
      by_cases hf : cx = cy
      · simp [hf]
      · simp [hf]
    · have hne : (ox == oy) = false := by simpa using hxo
      repeat (go_big_quiet_step (fail))
      refine wpQuiet_nil ?_
      intro w10 hw'
      have hb10 : Below w9.heap.size w9 w10 := by
        obtain ⟨⟨dq, osq⟩, hw''⟩ := hw'
        rw [hw'']
        exact below_regrown w9 dq osq
      clear hw'
      go_wp2_with fail
      go_meet
      refine ⟨?_, hb10⟩
      simp [hxo]
  case rest =>
    obtain ⟨rfl, hb10⟩ := hcut
    obtain ⟨w10, hw10⟩ : ∃ z, z = wc := ⟨_, rfl⟩
    subst hw10
    have HV10 := hide (below_step HV8.out (below_step HV9.out hb10))
    clear q3 q4 Q3 Q4 hb10 HV9 HO8 HP8
    have HB10 := hide (below_step HB6.out HV10.out)
    have HX10 := hide (HX6.out.later HV10.out)
    have HY10 := hide (HY6.out.later HV10.out)
    have HH10 := hide (HH0.out.later HB10.out)
    have HR10 := hide (HR0.out.later HB10.out)
    have C1 : ∀ dd os, Calls Try.prog 33 #[nv N (some ⟨be, oe, none⟩) es.length cp, .slice q rs.length cq] (grow (redrawn w10 dd) os) fun e w'' => e = .returned (.int .i64 a) ∧ ∃ p : Regrown, w'' = grow (redrawn w10 p.d) p.os := fun dd os => by
      have := genus47 N (some ⟨be, oe, none⟩) es cp q rs cq (grow (redrawn w10 dd) os) (HH10.out.later (below_regrown w10 dd os)) (HR10.out.later (below_regrown w10 dd os)) HRT.out
      rw [HEA.out] at this
      exact Calls.regrown_of this
    have C2 : ∀ dd os, Calls Try.prog 33 #[nv N (some ⟨gx, 0, none⟩) l.length l.length, .slice (some ⟨gy, 0, none⟩) rs.length rs.length] (grow (redrawn w10 dd) os) fun e w'' => e = .returned (.int .i64 b) ∧ ∃ p : Regrown, w'' = grow (redrawn w10 p.d) p.os := fun dd os => by
      have := genus47 N (some ⟨gx, 0, none⟩) es' l.length (some ⟨gy, 0, none⟩) rs' rs.length (grow (redrawn w10 dd) os) (HX10.out.later (below_regrown w10 dd os)) (HY10.out.later (below_regrown w10 dd os)) HS1.out
      rw [HEB.out, HL2.out, HRL.out] at this
      exact Calls.regrown_of this
    obtain ⟨g0, g1, _, _⟩ := HA0.out.later HB10.out
    obtain ⟨c0, c1, _, _⟩ := HK6.out.later HV10.out
    have G0 := cell_regrown g0
    have G1 := cell_regrown g1
    have E0 := cell_regrown c0
    have E1 := cell_regrown c1
    go_upto_region 12 with fail
    refine wp_region_quiet_below (by kernel_rfl) (by kernel_rfl) ?_
    repeat (go_big_quiet_step (first | with_reducible exact C1 _ _ | with_reducible exact C2 _ _))
    refine wpQuiet_nil ?_
    intro w11 hw'
    have hb11 : Below w10.heap.size w10 w11 := by
      obtain ⟨⟨dq, osq⟩, hw''⟩ := hw'
      rw [hw'']
      exact below_regrown w10 dq osq
    have HB11 := hide (below_step HB10.out hb11)
    have c0 := later hb11 c0
    have c1 := later hb11 c1
    have MY := may12 N (some ⟨gx, 0, none⟩) es' l.length w11 (HX10.out.later hb11)
    rw [HL2.out, HM2.out] at MY
    have MY := hide MY
    clear hw' hb11 C1 C2 G0 G1 E0 E1 g0 g1
    have hgb : b ≤ 100000 := by
      obtain ⟨g, _, hg, eg⟩ := genus_self HS1.out
      have h1 := comp_le HM2.out
      have h2 := HEB.out
      have h3 := HL2.out
      omega
    by_cases hless : ox = oy ∧ cx = cy
    · rw [decide_eq_true hless]
      have hab : a = b + 1 := HAB.out ⟨by rw [hox, hoy]; exact hless.1, HJ.out.1 (by rw [hcx, hcy]; exact hless.2)⟩
      subst hab
      have d3 : IntKind.i64.wrap (((b + 1 : Nat) : Int) - 1) = b := by rw [IntKind.wrap_i64]; omega
      go_wp2_with fail
      refine MY.out.mono ?_
      rintro r w12 ⟨rfl, hb12⟩
      have HBE := hide (below_step HB0.out (below_step HB11.out hb12))
      clear hb12 MY
      go_wp2
      go_ret
      exact ⟨by simp, HBE.out⟩
    · rw [decide_eq_false hless]
      have hab : a = b := HAC.out fun hc => hless ⟨by rw [← hox, ← hoy]; exact hc.1, by rw [← hcx, ← hcy]; exact HJ.out.2 hc.2⟩
      subst hab
      go_wp2_with fail
      refine MY.out.mono ?_
      rintro r w12 ⟨rfl, hb12⟩
      have HBE := hide (below_step HB0.out (below_step HB11.out hb12))
      clear hb12 MY
      go_wp2
      go_ret
      exact ⟨by simp, HBE.out⟩
end Go.Proofs.Ytcgdmonejogbaaa
