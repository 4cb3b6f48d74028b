/- DualHops: its walk. -/
import Derived.Test.YtcgdmonejogbaaaH5
import Derived.Test.YtcgdmonejogbaaaWD
import Derived.Deep.DeepCutAuto
namespace Go.Proofs.Ytcgdmonejogbaaa
open Go.RowKit Go.Sort
open Go
/-- There is a way. -/
def HopsOk (n : Int) (es : List Pt) (rs : List (List Int)) (a b : Int) : Prop := rotI n es rs = 0 ∧ ((0 ≤ a ∧ a < (facesL es rs).length) ∧ 0 ≤ b ∧ b < (facesL es rs).length) ∧ 0 ≤ iat (dist (facesL es rs) (ofL es rs) b.toNat) a.toNat
def hopR (es : List Pt) (rs : List (List Int)) (a b : Nat) : List Int := hopL (facesL es rs) (ofL es rs) (dist (facesL es rs) (ofL es rs) b) b ((facesL es rs).length + 1) a
theorem hop19u (n : Int) (p : Option Addr) (es : List Pt) (cp : Nat) (q : Option Addr) (rs : List (List Int)) (cq : Nat) (a b : Int) (w : World) (h : Has w p es) (hr : RHas w q rs) (hbad : ¬ HopsOk n es rs a b) : ∃ x : Int, x ≠ 0 ∧ Calls Try.prog 19 #[nv n p es.length cp, .slice q rs.length cq, .int .i64 a, .int .i64 b] w fun r w' => r = .returned (.tuple #[.slice none 0 0, .int .i64 x]) ∧ Below w.heap.size w w' := by
  by_cases h0 : rotI n es rs = 0
  · by_cases h1 : (0 ≤ a ∧ a < (facesL es rs).length) ∧ 0 ≤ b ∧ b < (facesL es rs).length
    · obtain ⟨A, rfl⟩ : ∃ A : Nat, a = A := ⟨a.toNat, by omega⟩
      obtain ⟨B, rfl⟩ : ∃ B : Nat, b = B := ⟨b.toNat, by omega⟩
      refine ⟨14, by decide, (hop19 n p es cp q rs cq A B w h hr h0 (by omega) (by omega)).mono ?_⟩
      rintro e w' ⟨hp, hb⟩
      refine ⟨?_, hb⟩
      rcases hp with ⟨_, he⟩ | ⟨h2, _⟩
      · exact he
      · exact absurd ⟨h0, h1, by rw [Int.toNat_natCast, Int.toNat_natCast]; exact h2⟩ hbad
    · exact ⟨2, by decide, hop19off n p es cp q rs cq a b w h hr h0 h1⟩
  · exact ⟨_, h0, hop19no n p es cp q rs cq a b w h hr h0⟩
theorem hop19y (n : Int) (p : Option Addr) (es : List Pt) (cp : Nat) (q : Option Addr) (rs : List (List Int)) (cq : Nat) (a b : Nat) (w : World) (h : Has w p es) (hr : RHas w q rs) (ok : HopsOk n es rs a b) : Calls Try.prog 19 #[nv n p es.length cp, .slice q rs.length cq, .int .i64 a, .int .i64 b] w fun r w' => ∃ p1 c1, r = .returned (.tuple #[.slice p1 (hopR es rs a b).length c1, .int .i64 0]) ∧ IOwns w' w.heap.size (.slice p1 (hopR es rs a b).length c1) (hopR es rs a b) ∧ Below w.heap.size w w' := by
  obtain ⟨h0, h1, h2⟩ := ok
  rw [Int.toNat_natCast, Int.toNat_natCast] at h2
  refine (hop19 n p es cp q rs cq a b w h hr h0 (by omega) (by omega)).mono ?_
  rintro e w' ⟨hp, hb⟩
  rcases hp with ⟨h3, _⟩ | ⟨_, p1, c1, he, ho⟩
  · omega
  · exact ⟨p1, c1, he, ho, hb⟩
theorem hopR_len {n : Int} {es : List Pt} {rs : List (List Int)} {a b : Nat} (ok : HopsOk n es rs a b) : ((hopR es rs a b).length : Int) = iat (dist (facesL es rs) (ofL es rs) b) a ∧ (hopR es rs a b).length ≤ (facesL es rs).length := by
  obtain ⟨h0, h1, h2⟩ := ok
  rw [Int.toNat_natCast, Int.toNat_natCast] at h2
  have fc := fc_of (rot_is h0).2.2
  obtain ⟨D, hb⟩ := dist_ok fc (too := b) (by omega)
  have := (hb a (by omega)).2
  have := hop_len fc D ((facesL es rs).length + 1) a (by omega) h2 (by omega)
  unfold hopR
  omega
/-- Beside the target. -/
theorem hop_beside {n : Int} {es : List Pt} {rs : List (List Int)} {a b x : Nat} (ok : HopsOk n es rs a b) (hx : x < 2 * es.length) (e : iat (ofL es rs) x = b) : ∃ c : Nat, iat (ofL es rs) (tw x) = c ∧ HopsOk n es rs a c ∧ (hopR es rs a c).length ≤ (hopR es rs a b).length + 1 ∧ (hopR es rs a b).length ≤ (hopR es rs a c).length + 1 := by
  have ok' := ok
  obtain ⟨h0, h1, h2⟩ := ok
  rw [Int.toNat_natCast, Int.toNat_natCast] at h2
  have fc := fc_of (rot_is h0).2.2
  have hol : (ofL es rs).length = 2 * es.length := (edge_ok (rot_is h0).2.2).len
  obtain ⟨f, k, hf, hk, ek, ef⟩ := fc.on x (by omega)
  have hfb : f = b := by omega
  subst hfb
  obtain ⟨q1, q2, q3⟩ := fc.acr hf hk
  obtain ⟨k2, hk2, e2⟩ := other_side fc hf hk
  rw [ek, Int.toNat_natCast] at q2
  obtain ⟨c, hc⟩ : ∃ c, acr (ofL es rs) (iat (lat (facesL es rs) f) k) = c := ⟨_, rfl⟩
  rw [hc] at q1 hk2 e2
  rw [← ek, hc] at q2
  have d1 := dist_beside fc (a := a) (b := f) (c := c) (by omega) hf q1 hk2 e2 h2
  have d2 := dist_beside fc (a := a) (b := c) (c := f) (by omega) q1 hf hk hc d1.1
  have okc : HopsOk n es rs a c := ⟨h0, by omega, by rw [Int.toNat_natCast, Int.toNat_natCast]; exact d1.1⟩
  have l1 := (hopR_len ok').1
  have l2 := (hopR_len okc).1
  exact ⟨c, q2, okc, by omega, by omega⟩
/-- Where the way stands. -/
def HopAt (F : List (List Int)) (O : List Int) (b : Nat) (R : List Int) (i c : Nat) : Prop := ∃ k pre, R = pre ++ hopL F O (dist F O b) b k c ∧ pre.length = i ∧ c < F.length ∧ 0 ≤ iat (dist F O b) c ∧ iat (dist F O b) c < (k : Int)
theorem HopAt.step {F : List (List Int)} {O : List Int} {b i c : Nat} {R : List Int} (fc : Fc F O) (hb : b < F.length) (h : HopAt F O b R i c) (hi : i < R.length) : ∃ m d : Nat, iat R i = (m : Int) ∧ 2 * m + 1 < O.length ∧ ((iat O (2 * m) = (c : Int) ∧ iat O (2 * m + 1) = (d : Int)) ∨ (iat O (2 * m) = (d : Int) ∧ iat O (2 * m + 1) = (c : Int) ∧ c ≠ d)) ∧ HopAt F O b R (i + 1) d := by
  obtain ⟨k, pre, hR, hp, hc, h0, hk⟩ := h
  obtain ⟨D, _⟩ := dist_ok fc hb
  cases k with
  | zero => omega
  | succ k =>
    unfold hopL at hR
    by_cases e : c = b
    · rw [if_pos e, List.append_nil] at hR
      rw [hR] at hi
      omega
    · rw [if_neg e] at hR
      obtain ⟨x, e1, hx, htx, e2, h3, h4, h5⟩ := hop_step fc D hc h0 e
      rw [e1] at hR
      obtain ⟨mm, hmm⟩ := fc.even
      have hne : c ≠ acr O (x : Int) := fun e3 => by rw [← e3] at h4; omega
      refine ⟨x / 2, acr O (x : Int), ?_, by omega, ?_, k, pre ++ [((x / 2 : Nat) : Int)], ?_, by simp [hp], h3, ?_, ?_⟩
      · rw [hR, ← hp]
        unfold iat
        rw [List.getD_eq_getElem?_getD, List.getElem?_append, if_neg (by omega), Nat.sub_self]
        rfl
      · by_cases hpar : x % 2 = 0
        · have hx2 : 2 * (x / 2) = x := by omega
          have ht : tw x = x + 1 := by unfold tw; rw [if_pos hpar]
          rw [ht] at e2
          exact Or.inl ⟨by rw [hx2]; exact h5, by rw [hx2]; exact e2⟩
        · have hx2 : 2 * (x / 2) + 1 = x := by omega
          have ht : tw x = 2 * (x / 2) := by unfold tw; rw [if_neg hpar]; omega
          rw [ht] at e2
          exact Or.inr ⟨e2, by rw [hx2]; exact h5, hne⟩
      · rw [hR, List.append_assoc]
        rfl
      · have : iat (dist F O b) c ≠ 0 := fun e0 => e (D.only c hc e0)
        omega
      · omega
theorem HopAt.ends {F : List (List Int)} {O : List Int} {b i c : Nat} {R : List Int} (fc : Fc F O) (hb : b < F.length) (h : HopAt F O b R i c) (hi : ¬ i < R.length) : c = b := by
  obtain ⟨k, pre, hR, hp, hc, h0, hk⟩ := h
  obtain ⟨D, _⟩ := dist_ok fc hb
  have hl := hop_len fc D k c hc h0 hk
  have : R.length = pre.length + (hopL F O (dist F O b) b k c).length := by rw [hR, List.length_append]
  exact D.only c hc (by omega)
theorem HopAt.start {n : Int} {es : List Pt} {rs : List (List Int)} {a b : Nat} (ok : HopsOk n es rs a b) : HopAt (facesL es rs) (ofL es rs) b (hopR es rs a b) 0 a := by
  have l := hopR_len ok
  obtain ⟨h0, h1, h2⟩ := ok
  rw [Int.toNat_natCast, Int.toNat_natCast] at h2
  exact ⟨(facesL es rs).length + 1, [], rfl, rfl, by omega, h2, by omega⟩
theorem HopAt.lt {F : List (List Int)} {O : List Int} {b i c : Nat} {R : List Int} (h : HopAt F O b R i c) : c < F.length := by
  obtain ⟨_, _, _, _, hc, _⟩ := h
  exact hc
set_option maxRecDepth 100000 in
set_option maxHeartbeats 16000000 in
theorem hops_walk (n : Int) (p : Option Addr) (es : List Pt) (cp : Nat) (q : Option Addr) (rs : List (List Int)) (cq : Nat) (za zb : Int) (w : World) (h : Has w p es) (hr : RHas w q rs) (lr : rs.length ≤ maxLen) : Calls Try.prog 6 #[nv n p es.length cp, .slice q rs.length cq, .int .i64 za, .int .i64 zb] w fun e w' => e = .returned (.bool true) ∧ Below w.heap.size w w' := by
  obtain ⟨W0, hW, hb0, a0⟩ := one_net w n p es.length cp
  have BG := hide (begun9 W0)
  have HB0 := hide hb0
  have HA0 := hide a0
  have HH0 := hide (h.later hb0)
  have HR0 := hide (hr.later hb0)
  have HLr := hide lr
  clear h hr hb0 a0 lr
  go_enter Try.func6, Try.ntmps6
  go_wp2_with fail
  rw [← hW]
  clear hW
  obtain ⟨kg, hkg⟩ : ∃ k, w.heap.size = k := ⟨_, rfl⟩
  have HKG := hide hkg
  rw [hkg] at HA0
  try rw [hkg]
  clear hkg
  refine BG.out.mono ?_
  rintro r w1 ⟨rfl, hb1⟩
  have HB1 := hide hb1
  have L1 := hide (light9r n p es cp q rs cq w1 (HH0.out.later hb1) (HR0.out.later hb1) HLr.out)
  obtain ⟨g0, g1, _, _⟩ := HA0.out.later hb1
  clear hb1 BG
  go_wp2_with fail
  refine L1.out.mono ?_
  rintro r w2 ⟨⟨x1, rfl⟩, hb2⟩
  have HB2 := hide (below_step HB1.out hb2)
  clear hb2 L1 g0 g1
  cases x1
  · go_wp2
    go_ret
    exact ⟨rfl, below_step HB0.out HB2.out⟩
  obtain ⟨g0, g1, _, _⟩ := HA0.out.later HB2.out
  by_cases hbad : ¬ HopsOk n es rs za zb
  · obtain ⟨x, hx0, SE0⟩ := hop19u n p es cp q rs cq za zb w2 (HH0.out.later HB2.out) (HR0.out.later HB2.out) hbad
    have SE := hide SE0
    clear SE0
    have t1 : (x == 0) = false := by simp [hx0]
    go_wp2_with fail
    refine SE.out.mono ?_
    rintro r w11 ⟨rfl, hb11⟩
    have HB12 := hide (below_step HB0.out (below_step HB2.out hb11))
    clear hb11 SE g0 g1
    go_wp2
    go_ret
    exact ⟨rfl, HB12.out⟩
  have ok := Classical.not_not.1 hbad
  have h1 := ok.2.1
  obtain ⟨a, rfl⟩ : ∃ k : Nat, za = k := ⟨za.toNat, by omega⟩
  obtain ⟨b, rfl⟩ : ∃ k : Nat, zb = k := ⟨zb.toNat, by omega⟩
  have HOK := hide ok
  have HRT := hide ok.1
  have hfl := facesL_le ok.1
  have HFC := hide (fc_of (rot_is ok.1).2.2)
  have hol : (ofL es rs).length = 2 * es.length := (edge_ok (rot_is ok.1).2.2).len
  have HOL := hide hol
  obtain ⟨n0, n1, hes, _⟩ := netB_is (rot_is ok.1).1
  have HSt := hide (HopAt.start ok)
  have hll := (hopR_len ok).2
  have HBF : Hid (b < (facesL es rs).length) := by show _ < _; omega
  have TK := hide (hop19y n p es cp q rs cq a b w2 (HH0.out.later HB2.out) (HR0.out.later HB2.out) ok)
  obtain ⟨R, hR⟩ : ∃ R, hopR es rs a b = R := ⟨_, rfl⟩
  have HRR := hide hR
  rw [hR] at TK HSt hll
  clear ok hbad hR h1
  go_wp2_with fail
  refine TK.out.mono ?_
  rintro r w3 ⟨p3, c3, rfl, ho3, hb3⟩
  have HB3 := hide (below_step HB2.out hb3)
  have OF := hide (of46 n p es cp q rs cq w3 (HR0.out.later HB3.out) HRT.out)
  have HO3 := hide ho3
  clear TK g0 g1 hb3 ho3
  obtain ⟨g0, g1, _, _⟩ := HA0.out.later HB3.out
  go_wp2_with fail
  refine OF.out.mono ?_
  rintro r w4 ⟨go, rfl, hro, hb4⟩
  have HB4 := hide (below_step HB3.out hb4)
  have HL4 := hide (HO3.out.later hb4)
  have HO4 := hide hro
  clear OF hb4 hro g0 g1 HO3
  obtain ⟨F, hF⟩ : ∃ F, facesL es rs = F := ⟨_, rfl⟩
  obtain ⟨O, hO⟩ : ∃ O, ofL es rs = O := ⟨_, rfl⟩
  rw [hO] at HO4
  rw [hF, hO] at HSt HFC
  rw [hF] at HBF
  have HF := hide hF
  have HO := hide hO
  rw [hO] at HOL
  clear hF hO hol
  go_wp2_with fail
  go_loopw [12, 13] (fun t12 t13 wr => ∃ i c : Nat, i ≤ R.length ∧ t12 = .int .i64 c ∧ t13 = .int .i64 i ∧ Hid (HopAt F O b R i c) ∧ w4 = wr) (fun _ t13 _ => R.length - (intOf t13).toNat)
  case atStart => exact ⟨0, a, by omega, rfl, rfl, HSt.out, rfl⟩
  case round =>
    obtain ⟨i, c, hi, rfl, rfl, HAt, rfl⟩ := hrel
    by_cases hlt : i < R.length
    · have e1 : (i : Int) < R.length := by omega
      obtain ⟨m, d, em, hm, hcase, hat⟩ := HAt.out.step HFC.out HBF.out hlt
      have HAt2 := hide hat
      obtain ⟨gr, cr, hz, _⟩ := iowns_block HL4.out (by omega)
      have ho := HL4.out
      rw [hz] at ho
      injection hz with ep _ ec
      subst ep
      have x0 := ho.at_ hlt
      rw [em] at x0
      obtain ⟨y0, _⟩ := HO4.out.cell (j := 2 * m) (by have := HOL.out; omega)
      obtain ⟨y1, _⟩ := HO4.out.cell (j := 2 * m + 1) (by have := HOL.out; omega)
      have hm2 : 2 * (m : Int) + 1 < 2 * es.length := by have := HOL.out; omega
      have d1 : IntKind.i64.wrap (2 * (m : Int)) = 2 * m := by rw [IntKind.wrap_i64]; omega
      have d2 : IntKind.i64.wrap (2 * (m : Int) + 1) = 2 * m + 1 := by rw [IntKind.wrap_i64]; omega
      clear hat ho em HAt
      rcases hcase with ⟨c1, c2⟩ | ⟨c1, c2, c3⟩
      · rw [c1] at y0
        rw [c2] at y1
        clear c1 c2
        go_wp2
        go_roundw
        case rel => exact ⟨i + 1, d, by omega, rfl, by go_num, HAt2.out, trivial⟩
        case measure => simp [intOf]; omega
      · rw [c1] at y0
        rw [c2] at y1
        have e2 : ((c : Int) == (d : Int)) = false := by simp; omega
        clear c1 c2
        go_wp2
        go_roundw
        case rel => exact ⟨i + 1, d, by omega, rfl, by go_num, HAt2.out, trivial⟩
        case measure => simp [intOf]; omega
    · have e1 : ¬ (i : Int) < R.length := by omega
      have hcb := HAt.out.ends HFC.out HBF.out hlt
      subst hcb
      clear HAt hlt hi HSt
      go_wp2_with fail
      go_loopw [14] (fun t14 wr => ∃ h : Nat, h ≤ 2 * es.length ∧ t14 = .int .i64 h ∧ Hid (Below w4.heap.size w4 wr)) (fun t14 _ => 2 * es.length - (intOf t14).toNat)
      case atStart => exact ⟨0, by omega, rfl, Below.refl _ _⟩
      case round =>
        obtain ⟨h, hh, rfl, HBr⟩ := hrel
        by_cases hlt : h < 2 * es.length
        · have e2 : (h : Int) < 2 * es.length := by omega
          by_cases h40 : h < 40
          · have e3 : (h : Int) < 40 := by omega
            obtain ⟨y0, _⟩ := (HO4.out.later HBr.out).cell hlt
            by_cases hob : iat O h = (c : Int)
            · rw [hob] at y0
              obtain ⟨d, ed, okd, l1, l2⟩ := hop_beside HOK.out hlt (by rw [HO.out]; exact hob)
              rw [HO.out] at ed
              rw [HRR.out] at l1 l2
              have htw : tw h < 2 * es.length := tw_lt hlt
              obtain ⟨R2, hR2⟩ : ∃ R2, hopR es rs a d = R2 := ⟨_, rfl⟩
              have HHP : Hid (∀ V, Below wr.heap.size wr V → Calls Try.prog 19 #[nv n p es.length cp, .slice q rs.length cq, .int .i64 a, .int .i64 d] V fun e w' => ∃ p1 c1, e = .returned (.tuple #[.slice p1 R2.length c1, .int .i64 0]) ∧ Below V.heap.size V w') := fun V hV => by
                have hb := below_step HB4.out (below_step HBr.out hV)
                refine (hop19y n p es cp q rs cq a d V (HH0.out.later hb) (HR0.out.later hb) okd).mono ?_
                rintro e w' ⟨p1, c1, he, _, hb'⟩
                rw [hR2] at he
                exact ⟨p1, c1, he, hb'⟩
              have HTW : Hid (∀ V : World, Calls Try.prog 40 #[.int .i64 h] V fun e w' => e = .returned (.int .i64 (tw h : Nat)) ∧ Below V.heap.size V w') := fun V => twin25 h V (by omega)
              have HS : Hid (∀ V, Below wr.heap.size wr V → (V.cell? ⟨kg, 0, none⟩ = some (.int .i64 n) ∧ V.cell? ⟨kg, 1, none⟩ = some (.slice p es.length cp)) ∧ V.cell? ⟨go, tw h, none⟩ = some (.int .i64 d)) := fun V hV => by
                have hb := below_step HB4.out (below_step HBr.out hV)
                obtain ⟨z0, z1, _, _⟩ := HA0.out.later hb
                have := ((HO4.out.later HBr.out).later hV).cell htw
                rw [ed] at this
                exact ⟨⟨z0, z1⟩, this.1⟩
              rw [hR2] at l1 l2
              obtain ⟨th, hth⟩ : ∃ t, tw h = t := ⟨_, rfl⟩
              rw [hth] at htw HTW HS
              clear hR2 okd ed hth hob
              obtain ⟨⟨z0, z1⟩, z2⟩ := HS.out wr (Below.refl _ _)
              have e4 : (th : Int) < 2 * es.length := by omega
              go_upto_region 25 with fail
              go_region_held3 (fun V => (V.cell? ⟨kg, 0, none⟩ = some (.int .i64 n) ∧ V.cell? ⟨kg, 1, none⟩ = some (.slice p es.length cp)) ∧ V.cell? ⟨go, th, none⟩ = some (.int .i64 d))
                (first | exact HS.out _ (below_drew wr) | exact HS.out _ (Below.refl _ _) | exact HS.out _ HV5.out | exact HS.out _ HV6.out)
                (first | (go_at_call 40; refine (HTW.out (wr.drew)).mono ?_; rintro e w5 ⟨rfl, hb5'⟩; have HV5 := hide (below_step (below_drew wr) hb5'); clear hb5' z0 z1 z2; obtain ⟨⟨z0, z1⟩, z2⟩ := HS.out w5 HV5.out) | (go_at_call 19; refine (HHP.out _ HV5.out).mono ?_; rintro e w6 ⟨p6, c6, rfl, hb6'⟩; have HV6 := hide (below_step HV5.out hb6'); clear hb6' z0 z1 z2; obtain ⟨⟨z0, z1⟩, z2⟩ := HS.out w6 HV6.out))
              rename_i hHeld
              clear hHeld
              have HBE := hide (below_step HBr.out HV6.out)
              have e5 : ¬ (R.length : Int) + 1 < R2.length := by omega
              have e6 : ¬ (R2.length : Int) + 1 < R.length := by omega
              go_wp2
              go_roundw
              case rel => exact ⟨h + 1, by omega, by go_num, HBE.out⟩
              case measure => simp [intOf]; omega
            · have e4 : (iat O h == (c : Int)) = false := by simpa using hob
              obtain ⟨y, hy⟩ : ∃ y, iat O h = y := ⟨_, rfl⟩
              rw [hy] at y0 e4
              clear hy hob
              go_wp2
              go_roundw
              case rel => exact ⟨h + 1, by omega, by go_num, HBr.out⟩
              case measure => simp [intOf]; omega
          · have e3 : ¬ (h : Int) < 40 := by omega
            go_wp2
            go_ret
            exact ⟨rfl, below_step HB0.out (below_step HB4.out HBr.out)⟩
        · have e2 : ¬ (h : Int) < 2 * es.length := by omega
          go_wp2
          go_ret
          exact ⟨rfl, below_step HB0.out (below_step HB4.out HBr.out)⟩
end Go.Proofs.Ytcgdmonejogbaaa
