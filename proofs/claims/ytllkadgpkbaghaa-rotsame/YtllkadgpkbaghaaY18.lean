/- RotSame: its walk. -/
import Derived.Test.YtllkadgpkbaghaaY17
import Derived.Deep.DeepCutAuto
namespace Go.Proofs.Ytllkadgpkbaghaa
open Go.RowKit Go.Sort
open Go

set_option maxRecDepth 100000 in
set_option maxHeartbeats 16000000 in
theorem same_walk (n : Int) (p : Option Addr) (es : List Pt) (cp : Nat) (q1 q2 q3 : Option Addr) (a b : List (List Int)) (tn : List Int) (ca cb ct : Nat) (w : World) (h : Has w p es) (ha : RHas w q1 a) (hb : RHas w q2 b) (ht : IHas w q3 tn) (la : a.length ≤ maxLen) (lb : b.length ≤ maxLen) (lt : tn.length ≤ maxLen) : Calls Try.prog 4 #[nv n p es.length cp, .slice q1 a.length ca, .slice q2 b.length cb, .slice q3 tn.length ct] w fun e w' => e = .returned (.bool true) ∧ Below w.heap.size w w' := by
  obtain ⟨W0, hW, hb0, a0⟩ := one_net w n p es.length cp
  have BG := hide (begun8 W0)
  have HB0 := hide hb0
  have HA0 := hide a0
  have HH0 := hide (h.later hb0)
  have HRa0 := hide (ha.later hb0)
  have HRb0 := hide (hb.later hb0)
  have HT0 := hide (ht.later hb0)
  have HLa := hide la
  have HLb := hide lb
  have HLt := hide lt
  unfold maxLen at la lb lt
  clear h ha hb ht hb0 a0
  go_enter Try.func4, Try.ntmps4
  go_wp2_with fail
  rw [← hW]
  clear hW
  obtain ⟨kg, hkg⟩ : ∃ k, w.heap.size = k := ⟨_, rfl⟩
  have HKG := hide hkg
  rw [hkg] at HA0
  try rw [hkg]
  clear hkg
  refine BG.out.mono ?_
  rintro e w1 ⟨rfl, hb1⟩
  have HB1 := hide hb1
  have L1 := hide (light9r n p es cp q1 a ca w1 (HH0.out.later hb1) (HRa0.out.later hb1) HLa.out)
  obtain ⟨g0, g1, _, _⟩ := HA0.out.later hb1
  clear hb1 BG
  go_wp2_with fail
  refine L1.out.mono ?_
  rintro e w2 ⟨⟨x1, rfl⟩, hb2⟩
  have HB2 := hide (below_step HB1.out hb2)
  clear hb2 L1 g0 g1
  cases x1
  · go_wp2
    go_ret
    exact ⟨rfl, below_step HB0.out HB2.out⟩
  have L2 := hide (light9r n p es cp q2 b cb w2 (HH0.out.later HB2.out) (HRb0.out.later HB2.out) HLb.out)
  obtain ⟨g0, g1, _, _⟩ := HA0.out.later HB2.out
  go_wp2_with fail
  refine L2.out.mono ?_
  rintro e w3 ⟨⟨x2, rfl⟩, hb3⟩
  have HB3 := hide (below_step HB2.out hb3)
  clear hb3 L2 g0 g1
  cases x2
  · go_wp2
    go_ret
    exact ⟨rfl, below_step HB0.out HB3.out⟩
  by_cases h300 : tn.length > 300
  · have i0 : (tn.length : Int) > 300 := by omega
    go_wp2
    go_ret
    exact ⟨rfl, below_step HB0.out HB3.out⟩
  have i0 : ¬ (tn.length : Int) > 300 := by omega
  have SM := hide (same19 n p es cp q1 q2 a b ca cb w3 (HH0.out.later HB3.out) (HRa0.out.later HB3.out) (HRb0.out.later HB3.out))
  obtain ⟨g0, g1, _, _⟩ := HA0.out.later HB3.out
  have HSE : Hid (sameE n es a b = if rotI n es a = 0 then rotI n es b else rotI n es a) := rfl
  have HSR : Hid (sameR n es a b = if sameE n es a b = 0 then decide (canonL a = canonL b) else false) := rfl
  go_wp2_with fail
  refine SM.out.mono ?_
  rintro e w4 ⟨rfl, hb4⟩
  have HB4 := hide (below_step HB3.out hb4)
  have M1 := hide (mayR10 n p es cp q1 a ca w4 (HH0.out.later HB4.out) (HRa0.out.later HB4.out) HLa.out)
  clear hb4 SM g0 g1
  obtain ⟨g0, g1, _, _⟩ := HA0.out.later HB4.out
  go_wp2_with fail
  refine M1.out.mono ?_
  rintro e W ⟨rfl, hb5⟩
  have HBW := hide (below_step HB4.out hb5)
  clear hb5 M1 g0 g1
  by_cases ra : ¬ rotI n es a = 0
  · -- a is none
    rw [HSE.out] at HSR
    rw [if_neg ra] at HSE HSR
    rw [if_neg ra] at HSR
    rw [HSE.out, HSR.out]
    have M2 := hide (mayR10 n p es cp q1 a ca W (HH0.out.later HBW.out) (HRa0.out.later HBW.out) HLa.out)
    obtain ⟨g0, g1, _, _⟩ := HA0.out.later HBW.out
    obtain ⟨x, hx⟩ : ∃ x, rotI n es a = x := ⟨_, rfl⟩
    rw [hx] at ra M2 ⊢
    have t1 : (x == 0) = false := by simp [ra]
    clear HSE HSR hx
    go_wp2_with fail
    refine M2.out.mono ?_
    rintro e w6 ⟨rfl, hb6⟩
    have HB6 := hide (below_step (below_step HB0.out HBW.out) hb6)
    clear hb6 M2 g0 g1
    go_wp2
    go_ret
    exact ⟨rfl, HB6.out⟩
  have ra : rotI n es a = 0 := Decidable.not_not.1 ra
  obtain ⟨z1, z2⟩ := rot_bounds ra
  have HZ := hide z2
  have HRA := hide ra
  rw [HSE.out] at HSR
  rw [if_pos ra] at HSE HSR
  have M2 := hide (mayR10 n p es cp q2 b cb W (HH0.out.later HBW.out) (HRb0.out.later HBW.out) HLb.out)
  obtain ⟨g0, g1, _, _⟩ := HA0.out.later HBW.out
  rw [HSE.out, ra]
  clear z2 ra
  go_wp2_with fail
  refine M2.out.mono ?_
  rintro e w6 ⟨rfl, hb6⟩
  have HB6 := hide (below_step HBW.out hb6)
  clear hb6 M2 g0 g1
  by_cases rb : rotI n es b = 0
  · obtain ⟨y1, y2⟩ := rot_bounds rb
    rw [if_pos rb] at HSR
    rw [HSR.out, rb]
    have S20 := hide (same20 q1 q2 a b ca cb w6 (HRa0.out.later HB6.out) (HRb0.out.later HB6.out) (by omega) (by omega) (fun v hv => by have := HZ.out v hv; omega) (fun v hv => by have := y2 v hv; omega))
    obtain ⟨D, hD⟩ : ∃ D, decide (canonL a = canonL b) = D := ⟨_, rfl⟩
    rw [hD] at S20 ⊢
    clear HSE HSR rb y2 hD
    cases D
    · go_wp2_with fail
      refine S20.out.mono ?_
      rintro e w7 ⟨rfl, hb7⟩
      have HB7 := hide (below_step HB6.out hb7)
      clear hb7 S20 HB6
      obtain ⟨g0, g1, _, _⟩ := HA0.out.later HB7.out
      have M3 := hide (mayR10 n p es cp q1 a ca w7 (HH0.out.later HB7.out) (HRa0.out.later HB7.out) HLa.out)
      rw [HRA.out] at M3
      go_wp2_with fail
      refine M3.out.mono ?_
      rintro e U ⟨rfl, hbU⟩
      have HBU := hide (below_step HB7.out hbU)
      clear hbU M3 g0 g1 HB7
      obtain ⟨i0', hi0, hz0, hz1, hz2⟩ := info_parts info41
      go_wp2_with (refine wpList_make_full _ rfl (.tmp 72) (.tmp 72) 26 rfl U.heap.size 27 i0' (.slice none 0 0) 1 Try.underlying26 hi0 hz0 hz1 .i64 .i64 _ _ a.length rfl rfl rfl rfl ?c1 ?c2 ?c3 ?_)
      case c1 => rw [hz2]; omega
      case c2 => unfold maxLen; omega
      case c3 => exact Nat.le_refl _
      intro w9 hown hgrow
      have HB9 := hide (below_step HBU.out (below_made hgrow))
      have hr9 : Rows w9 U.heap.size U.heap.size a.length (fun _ => .slice none 0 0) (fun _ => []) := (rows_made [] hown).congr (fun v _ => by simp [outL])
      obtain ⟨g, hgE⟩ : ∃ g, U.heap.size = g := ⟨_, rfl⟩
      obtain ⟨B, hBE⟩ : ∃ B, U.heap.size = B := ⟨_, rfl⟩
      have HR9 : Hid (Rows w9 B g a.length (fun _ => .slice none 0 0) (fun _ => [])) := by show Rows _ _ _ _ _ _; rw [← hBE, ← hgE]; exact hr9
      have HSB : Hid (W0.heap.size ≤ B) := by show _ ≤ _; rw [← hBE]; exact HBU.out.size
      try rw [hgE]
      clear hown hgrow hr9 hgE hi0 hz0 hz1 hz2 i0'
      go_wp2_with fail
      go_loopw [13] (fun t13 wr => ∃ (v : Nat) (rv : Nat → Value) (L : Nat → List Int), v ≤ a.length ∧ t13 = .int .i64 v ∧ Hid (Below W0.heap.size W0 wr) ∧ Hid (B ≤ wr.heap.size) ∧ Hid (Rows wr B g a.length rv L) ∧ Hid (∀ u, u < v → ∃ k, k ≤ (lat a u).length ∧ L u = rotL (lat a u) k)) (fun t13 _ => a.length - (intOf t13).toNat)
      case atStart => exact ⟨0, _, _, by omega, rfl, HB9.out, by show _ ≤ _; have := HB9.out.size; have := HR9.out.size; omega, HR9.out, fun u hu => by omega⟩
      case round =>
        obtain ⟨v, rv, L, hv, rfl, HBr, HSr, HRr, HLr⟩ := hrel
        clear HB9 HR9
        by_cases hlt : v < a.length
        · obtain ⟨b1, o1, a1, k1, rfl, c0W, m1, z3⟩ := HRa0.out.at_ hlt
          have c0 := later HBr.out c0W
          have e1 : (v : Int) < a.length := by omega
          have hgs := HRr.out.size.1
          have hb1 : b1 < W0.heap.size := block_lt_of_cell c0W
          have hbg : b1 ≠ g := by have := HSB.out; omega
          have hll := HZ.out v hlt
          have HM1 : Hid (∀ V, Below W0.heap.size W0 V → IHas V a1 (lat a v)) := fun V hV => m1.later hV
          have HZ3 := hide z3
          have HNEXT : Hid (∀ (X V : World) (k : Nat) (p9 : Option Addr) (l9 c9 : Nat), Below wr.heap.size wr X → k ≤ (lat a v).length → Below X.heap.size X V → IOwns V X.heap.size (.slice p9 l9 c9) (rotL (lat a v) k) → Below W0.heap.size W0 (V.setCell ⟨g, v, none⟩ (.slice p9 l9 c9)) ∧ B ≤ (V.setCell ⟨g, v, none⟩ (.slice p9 l9 c9)).heap.size ∧ Rows (V.setCell ⟨g, v, none⟩ (.slice p9 l9 c9)) B g a.length (upd rv v (.slice p9 l9 c9)) (upd L v (rotL (lat a v) k)) ∧ ∀ u, u < v + 1 → ∃ k', k' ≤ (lat a u).length ∧ upd L v (rotL (lat a v) k) u = rotL (lat a u) k') := fun X V k p9 l9 c9 hX hk hV o => by
            have hXs := hX.size
            have hVs := hV.size
            refine ⟨(below_step (below_step HBr.out hX) hV).setCell (p := ⟨g, v, none⟩) (by have := HSB.out; show _ ≤ g; omega) _, by have := HSr.out; simp [World.setCell]; omega, (HRr.out.later hX).lay hlt hV (by have := HSr.out; omega) o, fun u hu => ?_⟩
            by_cases e : u = v
            · rw [e, upd_same]; exact ⟨k, hk, rfl⟩
            · rw [upd_other _ _ e]; exact HLr.out u (by omega)
          have HRG := hide (HRr.out.cell hlt)
          clear m1 z3 c0W hb1 HRr HLr
          by_cases hvt : v < tn.length
          · rcases HT0.out with hnn | ⟨b3, o3, rfl, hTL⟩
            · rw [hnn] at hvt; simp at hvt
            have ct0 := later HBr.out (hTL v hvt)
            have e2 : (v : Int) < tn.length := by omega
            obtain ⟨tv, htv⟩ : ∃ tv, iat tn v = tv := ⟨_, rfl⟩
            rw [htv] at ct0
            clear htv hTL
            by_cases hpos : 0 < tv
            · have e3 : tv > 0 := hpos
              by_cases hl0 : (lat a v).length = 0
              · have e4 : ¬ ((lat a v).length : Int) > 0 := by omega
                have e5 : ((lat a v).length : Int) = 0 := by omega
                go_upto_region 22 with fail
                refine reg22 b1 o1 a.length ca g v 0 k1 a1 (lat a v) (rv v) wr _ _ _ _ _ _ _ _ _ _ _ _ _ _ _ _ _ _ _ _ _ _ _ _ _ _ _ _ _ _ _ _ _ _ _ _ _ _ _ _ _ _ _ _ _ _ _ _ _ _ _ _ _ _ _ _ _ _ _ _ _ _ _ _ _ _ _ _ _ _ _ _ _ _ _ _ _ _ _ _ _ _ _ _ _ _ _ _ _ _ _ _ _ _ _ _ _ _ _ _ _ _ _ _ _ _ _ _ _ _ _ _ _ _ _ _ _ _ _ _ _ _ _ _ _ _ _ _ _ _ _ _ _ _ _ (fun c a a' w h e => by cases a; cases a'; cases e; exact h) hlt c0 HRG.out hbg (HM1.out _ HBr.out) (by omega) (fun h => h) HZ3.out.2.1 HZ3.out.2.2 (by omega) ?_
                intro V p9 l9 c9 x109 x110 x111 x112 x113 x114 x115 x116 x117 x118 x119 x120 x121 x122 x123 x124 x125 hbV oV
                obtain ⟨n1, n2, n3, n4⟩ := HNEXT.out _ V 0 p9 l9 c9 (Below.refl _ _) (by omega) hbV oV
                have N1 := hide n1
                have N2 := hide n2
                have N3 := hide n3
                have N4 := hide n4
                clear n1 n2 n3 n4 hbV oV
                obtain ⟨V3, hV3⟩ : ∃ V3, V3 = V.setCell ⟨g, v, none⟩ (.slice p9 l9 c9) := ⟨_, rfl⟩
                rw [← hV3] at N1 N2 N3
                rw [← hV3]
                clear hV3
                go_wp2
                go_roundw
                case rel => exact ⟨v + 1, _, _, by omega, by go_num, N1.out, N2.out, N3.out, N4.out⟩
                case measure => simp [intOf]; omega
              · have e4 : ((lat a v).length : Int) > 0 := by omega
                have hne : ¬ ((lat a v).length : Int) = 0 := by omega
                obtain ⟨kk, hkk⟩ : ∃ kk : Nat, Int.tmod tv (lat a v).length = kk := ⟨tv.toNat % (lat a v).length, by
                  rw [Int.tmod_eq_emod_of_nonneg (by omega), show tv = ((tv.toNat : Nat) : Int) by omega]
                  have := Int.natCast_emod tv.toNat (lat a v).length
                  simp⟩
                have hkl : kk < (lat a v).length := by
                  have h1 := Int.emod_lt_of_pos tv (b := ((lat a v).length : Int)) (by omega)
                  rw [Int.tmod_eq_emod_of_nonneg (by omega)] at hkk
                  omega
                go_upto_region 21 with fail
                go_quiet (fail)
                go_upto_region 22 with fail
                have hdq : Below wr.heap.size wr (wr.drewN nq) := below_drewN (Below.refl _ _)
                refine reg22 b1 o1 a.length ca g v kk k1 a1 (lat a v) (rv v) (wr.drewN nq) _ _ _ _ _ _ _ _ _ _ _ _ _ _ _ _ _ _ _ _ _ _ _ _ _ _ _ _ _ _ _ _ _ _ _ _ _ _ _ _ _ _ _ _ _ _ _ _ _ _ _ _ _ _ _ _ _ _ _ _ _ _ _ _ _ _ _ _ _ _ _ _ _ _ _ _ _ _ _ _ _ _ _ _ _ _ _ _ _ _ _ _ _ _ _ _ _ _ _ _ _ _ _ _ _ _ _ _ _ _ _ _ _ _ _ _ _ _ _ _ _ _ _ _ _ _ _ _ _ _ _ _ _ _ _ (fun c a a' w h e => by cases a; cases a'; cases e; exact h) hlt (later hdq c0) ⟨later hdq HRG.out.1, (hdq.frozen (p := ⟨g, v, none⟩) (block_lt_of_cell HRG.out.1)).trans HRG.out.2⟩ hbg (HM1.out _ (below_step HBr.out hdq)) (by omega) (fun _ => hkl) HZ3.out.2.1 HZ3.out.2.2 (by omega) ?_
                intro V p9 l9 c9 x109 x110 x111 x112 x113 x114 x115 x116 x117 x118 x119 x120 x121 x122 x123 x124 x125 hbV oV
                obtain ⟨n1, n2, n3, n4⟩ := HNEXT.out _ V kk p9 l9 c9 hdq (by omega) hbV oV
                have N1 := hide n1
                have N2 := hide n2
                have N3 := hide n3
                have N4 := hide n4
                clear n1 n2 n3 n4 hbV oV
                obtain ⟨V3, hV3⟩ : ∃ V3, V3 = V.setCell ⟨g, v, none⟩ (.slice p9 l9 c9) := ⟨_, rfl⟩
                rw [← hV3] at N1 N2 N3
                rw [← hV3]
                clear hV3
                go_wp2
                go_roundw
                case rel => exact ⟨v + 1, _, _, by omega, by go_num, N1.out, N2.out, N3.out, N4.out⟩
                case measure => simp [intOf]; omega
            · have e3 : ¬ tv > 0 := hpos
              go_upto_region 22 with fail
              refine reg22 b1 o1 a.length ca g v 0 k1 a1 (lat a v) (rv v) wr _ _ _ _ _ _ _ _ _ _ _ _ _ _ _ _ _ _ _ _ _ _ _ _ _ _ _ _ _ _ _ _ _ _ _ _ _ _ _ _ _ _ _ _ _ _ _ _ _ _ _ _ _ _ _ _ _ _ _ _ _ _ _ _ _ _ _ _ _ _ _ _ _ _ _ _ _ _ _ _ _ _ _ _ _ _ _ _ _ _ _ _ _ _ _ _ _ _ _ _ _ _ _ _ _ _ _ _ _ _ _ _ _ _ _ _ _ _ _ _ _ _ _ _ _ _ _ _ _ _ _ _ _ _ _ (fun c a a' w h e => by cases a; cases a'; cases e; exact h) hlt c0 HRG.out hbg (HM1.out _ HBr.out) (by omega) (fun h => h) HZ3.out.2.1 HZ3.out.2.2 (by omega) ?_
              intro V p9 l9 c9 x109 x110 x111 x112 x113 x114 x115 x116 x117 x118 x119 x120 x121 x122 x123 x124 x125 hbV oV
              obtain ⟨n1, n2, n3, n4⟩ := HNEXT.out _ V 0 p9 l9 c9 (Below.refl _ _) (by omega) hbV oV
              have N1 := hide n1
              have N2 := hide n2
              have N3 := hide n3
              have N4 := hide n4
              clear n1 n2 n3 n4 hbV oV
              obtain ⟨V3, hV3⟩ : ∃ V3, V3 = V.setCell ⟨g, v, none⟩ (.slice p9 l9 c9) := ⟨_, rfl⟩
              rw [← hV3] at N1 N2 N3
              rw [← hV3]
              clear hV3
              go_wp2
              go_roundw
              case rel => exact ⟨v + 1, _, _, by omega, by go_num, N1.out, N2.out, N3.out, N4.out⟩
              case measure => simp [intOf]; omega
          · have e2 : ¬ (v : Int) < tn.length := by omega
            go_upto_region 22 with fail
            refine reg22 b1 o1 a.length ca g v 0 k1 a1 (lat a v) (rv v) wr _ _ _ _ _ _ _ _ _ _ _ _ _ _ _ _ _ _ _ _ _ _ _ _ _ _ _ _ _ _ _ _ _ _ _ _ _ _ _ _ _ _ _ _ _ _ _ _ _ _ _ _ _ _ _ _ _ _ _ _ _ _ _ _ _ _ _ _ _ _ _ _ _ _ _ _ _ _ _ _ _ _ _ _ _ _ _ _ _ _ _ _ _ _ _ _ _ _ _ _ _ _ _ _ _ _ _ _ _ _ _ _ _ _ _ _ _ _ _ _ _ _ _ _ _ _ _ _ _ _ _ _ _ _ _ (fun c a a' w h e => by cases a; cases a'; cases e; exact h) hlt c0 HRG.out hbg (HM1.out _ HBr.out) (by omega) (fun h => h) HZ3.out.2.1 HZ3.out.2.2 (by omega) ?_
            intro V p9 l9 c9 x109 x110 x111 x112 x113 x114 x115 x116 x117 x118 x119 x120 x121 x122 x123 x124 x125 hbV oV
            obtain ⟨n1, n2, n3, n4⟩ := HNEXT.out _ V 0 p9 l9 c9 (Below.refl _ _) (by omega) hbV oV
            have N1 := hide n1
            have N2 := hide n2
            have N3 := hide n3
            have N4 := hide n4
            clear n1 n2 n3 n4 hbV oV
            obtain ⟨V3, hV3⟩ : ∃ V3, V3 = V.setCell ⟨g, v, none⟩ (.slice p9 l9 c9) := ⟨_, rfl⟩
            rw [← hV3] at N1 N2 N3
            rw [← hV3]
            clear hV3
            go_wp2
            go_roundw
            case rel => exact ⟨v + 1, _, _, by omega, by go_num, N1.out, N2.out, N3.out, N4.out⟩
            case measure => simp [intOf]; omega
        · have hve : v = a.length := by omega
          have e1 : ¬ (v : Int) < a.length := by omega
          obtain ⟨cR, hcR⟩ : ∃ cR : List (List Int), cR = (List.range a.length).map L := ⟨_, rfl⟩
          have hcl : cR.length = a.length := by rw [hcR]; simp
          have hlc : ∀ u, u < a.length → lat cR u = L u := fun u hu => by
            rw [hcR]
            unfold lat
            rw [List.getD_eq_getElem?_getD, List.getElem?_map, List.getElem?_range hu]
            rfl
          have HLr2 := HLr.out
          rw [hve] at HLr2
          obtain ⟨rc, cc⟩ := canon_rot (c := cR) HRA.out hcl (fun u hu => by obtain ⟨k, hk, e⟩ := HLr2 u hu; exact ⟨k, hk, by rw [hlc u hu]; exact e⟩)
          have hrc := rot_bounds rc
          have HRC : Hid (RHas wr (some ⟨g, 0, none⟩) cR) := HRr.out.has hcl (fun u hu => (hlc u hu).symm) (fun u hu => by have := hrc.2 u (by omega); unfold maxLen; omega)
          have SF := hide (same19 n p es cp q1 (some ⟨g, 0, none⟩) a cR ca a.length wr (HH0.out.later HBr.out) (HRa0.out.later HBr.out) HRC.out)
          have hse : sameE n es a cR = 0 := by unfold sameE; rw [if_pos HRA.out]; exact rc
          have hsr : sameR n es a cR = true := by unfold sameR; rw [if_pos hse]; exact decide_eq_true cc
          rw [hse, hsr, hcl] at SF
          obtain ⟨g0, g1, _, _⟩ := HA0.out.later HBr.out
          clear hve hcR hcl hlc HLr2 rc cc hrc hse hsr HRC
          go_wp2_with fail
          refine SF.out.mono ?_
          rintro e wz ⟨rfl, hbz⟩
          have HBz := hide (below_step (below_step HB0.out HBr.out) hbz)
          clear hbz SF g0 g1
          go_wp2
          go_ret
          exact ⟨rfl, HBz.out⟩
    · go_wp2_with fail
      refine S20.out.mono ?_
      rintro e w7 ⟨rfl, hb7⟩
      have HB7 := hide (below_step HB6.out hb7)
      clear hb7 S20 HB6
      obtain ⟨g0, g1, _, _⟩ := HA0.out.later HB7.out
      have M3 := hide (mayR10 n p es cp q1 a ca w7 (HH0.out.later HB7.out) (HRa0.out.later HB7.out) HLa.out)
      rw [HRA.out] at M3
      go_wp2_with fail
      refine M3.out.mono ?_
      rintro e U ⟨rfl, hbU⟩
      have HBU := hide (below_step HB7.out hbU)
      clear hbU M3 g0 g1 HB7
      obtain ⟨i0', hi0, hz0, hz1, hz2⟩ := info_parts info41
      go_wp2_with (refine wpList_make_full _ rfl (.tmp 72) (.tmp 72) 26 rfl U.heap.size 27 i0' (.slice none 0 0) 1 Try.underlying26 hi0 hz0 hz1 .i64 .i64 _ _ a.length rfl rfl rfl rfl ?c1 ?c2 ?c3 ?_)
      case c1 => rw [hz2]; omega
      case c2 => unfold maxLen; omega
      case c3 => exact Nat.le_refl _
      intro w9 hown hgrow
      have HB9 := hide (below_step HBU.out (below_made hgrow))
      have hr9 : Rows w9 U.heap.size U.heap.size a.length (fun _ => .slice none 0 0) (fun _ => []) := (rows_made [] hown).congr (fun v _ => by simp [outL])
      obtain ⟨g, hgE⟩ : ∃ g, U.heap.size = g := ⟨_, rfl⟩
      obtain ⟨B, hBE⟩ : ∃ B, U.heap.size = B := ⟨_, rfl⟩
      have HR9 : Hid (Rows w9 B g a.length (fun _ => .slice none 0 0) (fun _ => [])) := by show Rows _ _ _ _ _ _; rw [← hBE, ← hgE]; exact hr9
      have HSB : Hid (W0.heap.size ≤ B) := by show _ ≤ _; rw [← hBE]; exact HBU.out.size
      try rw [hgE]
      clear hown hgrow hr9 hgE hi0 hz0 hz1 hz2 i0'
      go_wp2_with fail
      go_loopw [13] (fun t13 wr => ∃ (v : Nat) (rv : Nat → Value) (L : Nat → List Int), v ≤ a.length ∧ t13 = .int .i64 v ∧ Hid (Below W0.heap.size W0 wr) ∧ Hid (B ≤ wr.heap.size) ∧ Hid (Rows wr B g a.length rv L) ∧ Hid (∀ u, u < v → ∃ k, k ≤ (lat a u).length ∧ L u = rotL (lat a u) k)) (fun t13 _ => a.length - (intOf t13).toNat)
      case atStart => exact ⟨0, _, _, by omega, rfl, HB9.out, by show _ ≤ _; have := HB9.out.size; have := HR9.out.size; omega, HR9.out, fun u hu => by omega⟩
      case round =>
        obtain ⟨v, rv, L, hv, rfl, HBr, HSr, HRr, HLr⟩ := hrel
        clear HB9 HR9
        by_cases hlt : v < a.length
        · obtain ⟨b1, o1, a1, k1, rfl, c0W, m1, z3⟩ := HRa0.out.at_ hlt
          have c0 := later HBr.out c0W
          have e1 : (v : Int) < a.length := by omega
          have hgs := HRr.out.size.1
          have hb1 : b1 < W0.heap.size := block_lt_of_cell c0W
          have hbg : b1 ≠ g := by have := HSB.out; omega
          have hll := HZ.out v hlt
          have HM1 : Hid (∀ V, Below W0.heap.size W0 V → IHas V a1 (lat a v)) := fun V hV => m1.later hV
          have HZ3 := hide z3
          have HNEXT : Hid (∀ (X V : World) (k : Nat) (p9 : Option Addr) (l9 c9 : Nat), Below wr.heap.size wr X → k ≤ (lat a v).length → Below X.heap.size X V → IOwns V X.heap.size (.slice p9 l9 c9) (rotL (lat a v) k) → Below W0.heap.size W0 (V.setCell ⟨g, v, none⟩ (.slice p9 l9 c9)) ∧ B ≤ (V.setCell ⟨g, v, none⟩ (.slice p9 l9 c9)).heap.size ∧ Rows (V.setCell ⟨g, v, none⟩ (.slice p9 l9 c9)) B g a.length (upd rv v (.slice p9 l9 c9)) (upd L v (rotL (lat a v) k)) ∧ ∀ u, u < v + 1 → ∃ k', k' ≤ (lat a u).length ∧ upd L v (rotL (lat a v) k) u = rotL (lat a u) k') := fun X V k p9 l9 c9 hX hk hV o => by
            have hXs := hX.size
            have hVs := hV.size
            refine ⟨(below_step (below_step HBr.out hX) hV).setCell (p := ⟨g, v, none⟩) (by have := HSB.out; show _ ≤ g; omega) _, by have := HSr.out; simp [World.setCell]; omega, (HRr.out.later hX).lay hlt hV (by have := HSr.out; omega) o, fun u hu => ?_⟩
            by_cases e : u = v
            · rw [e, upd_same]; exact ⟨k, hk, rfl⟩
            · rw [upd_other _ _ e]; exact HLr.out u (by omega)
          have HRG := hide (HRr.out.cell hlt)
          clear m1 z3 c0W hb1 HRr HLr
          by_cases hvt : v < tn.length
          · rcases HT0.out with hnn | ⟨b3, o3, rfl, hTL⟩
            · rw [hnn] at hvt; simp at hvt
            have ct0 := later HBr.out (hTL v hvt)
            have e2 : (v : Int) < tn.length := by omega
            obtain ⟨tv, htv⟩ : ∃ tv, iat tn v = tv := ⟨_, rfl⟩
            rw [htv] at ct0
            clear htv hTL
            by_cases hpos : 0 < tv
            · have e3 : tv > 0 := hpos
              by_cases hl0 : (lat a v).length = 0
              · have e4 : ¬ ((lat a v).length : Int) > 0 := by omega
                have e5 : ((lat a v).length : Int) = 0 := by omega
                go_upto_region 22 with fail
                refine reg22 b1 o1 a.length ca g v 0 k1 a1 (lat a v) (rv v) wr _ _ _ _ _ _ _ _ _ _ _ _ _ _ _ _ _ _ _ _ _ _ _ _ _ _ _ _ _ _ _ _ _ _ _ _ _ _ _ _ _ _ _ _ _ _ _ _ _ _ _ _ _ _ _ _ _ _ _ _ _ _ _ _ _ _ _ _ _ _ _ _ _ _ _ _ _ _ _ _ _ _ _ _ _ _ _ _ _ _ _ _ _ _ _ _ _ _ _ _ _ _ _ _ _ _ _ _ _ _ _ _ _ _ _ _ _ _ _ _ _ _ _ _ _ _ _ _ _ _ _ _ _ _ _ (fun c a a' w h e => by cases a; cases a'; cases e; exact h) hlt c0 HRG.out hbg (HM1.out _ HBr.out) (by omega) (fun h => h) HZ3.out.2.1 HZ3.out.2.2 (by omega) ?_
                intro V p9 l9 c9 x109 x110 x111 x112 x113 x114 x115 x116 x117 x118 x119 x120 x121 x122 x123 x124 x125 hbV oV
                obtain ⟨n1, n2, n3, n4⟩ := HNEXT.out _ V 0 p9 l9 c9 (Below.refl _ _) (by omega) hbV oV
                have N1 := hide n1
                have N2 := hide n2
                have N3 := hide n3
                have N4 := hide n4
                clear n1 n2 n3 n4 hbV oV
                obtain ⟨V3, hV3⟩ : ∃ V3, V3 = V.setCell ⟨g, v, none⟩ (.slice p9 l9 c9) := ⟨_, rfl⟩
                rw [← hV3] at N1 N2 N3
                rw [← hV3]
                clear hV3
                go_wp2
                go_roundw
                case rel => exact ⟨v + 1, _, _, by omega, by go_num, N1.out, N2.out, N3.out, N4.out⟩
                case measure => simp [intOf]; omega
              · have e4 : ((lat a v).length : Int) > 0 := by omega
                have hne : ¬ ((lat a v).length : Int) = 0 := by omega
                obtain ⟨kk, hkk⟩ : ∃ kk : Nat, Int.tmod tv (lat a v).length = kk := ⟨tv.toNat % (lat a v).length, by
                  rw [Int.tmod_eq_emod_of_nonneg (by omega), show tv = ((tv.toNat : Nat) : Int) by omega]
                  have := Int.natCast_emod tv.toNat (lat a v).length
                  simp⟩
                have hkl : kk < (lat a v).length := by
                  have h1 := Int.emod_lt_of_pos tv (b := ((lat a v).length : Int)) (by omega)
                  rw [Int.tmod_eq_emod_of_nonneg (by omega)] at hkk
                  omega
                go_upto_region 21 with fail
                go_quiet (fail)
                go_upto_region 22 with fail
                have hdq : Below wr.heap.size wr (wr.drewN nq) := below_drewN (Below.refl _ _)
                refine reg22 b1 o1 a.length ca g v kk k1 a1 (lat a v) (rv v) (wr.drewN nq) _ _ _ _ _ _ _ _ _ _ _ _ _ _ _ _ _ _ _ _ _ _ _ _ _ _ _ _ _ _ _ _ _ _ _ _ _ _ _ _ _ _ _ _ _ _ _ _ _ _ _ _ _ _ _ _ _ _ _ _ _ _ _ _ _ _ _ _ _ _ _ _ _ _ _ _ _ _ _ _ _ _ _ _ _ _ _ _ _ _ _ _ _ _ _ _ _ _ _ _ _ _ _ _ _ _ _ _ _ _ _ _ _ _ _ _ _ _ _ _ _ _ _ _ _ _ _ _ _ _ _ _ _ _ _ (fun c a a' w h e => by cases a; cases a'; cases e; exact h) hlt (later hdq c0) ⟨later hdq HRG.out.1, (hdq.frozen (p := ⟨g, v, none⟩) (block_lt_of_cell HRG.out.1)).trans HRG.out.2⟩ hbg (HM1.out _ (below_step HBr.out hdq)) (by omega) (fun _ => hkl) HZ3.out.2.1 HZ3.out.2.2 (by omega) ?_
                intro V p9 l9 c9 x109 x110 x111 x112 x113 x114 x115 x116 x117 x118 x119 x120 x121 x122 x123 x124 x125 hbV oV
                obtain ⟨n1, n2, n3, n4⟩ := HNEXT.out _ V kk p9 l9 c9 hdq (by omega) hbV oV
                have N1 := hide n1
                have N2 := hide n2
                have N3 := hide n3
                have N4 := hide n4
                clear n1 n2 n3 n4 hbV oV
                obtain ⟨V3, hV3⟩ : ∃ V3, V3 = V.setCell ⟨g, v, none⟩ (.slice p9 l9 c9) := ⟨_, rfl⟩
                rw [← hV3] at N1 N2 N3
                rw [← hV3]
                clear hV3
                go_wp2
                go_roundw
                case rel => exact ⟨v + 1, _, _, by omega, by go_num, N1.out, N2.out, N3.out, N4.out⟩
                case measure => simp [intOf]; omega
            · have e3 : ¬ tv > 0 := hpos
              go_upto_region 22 with fail
              refine reg22 b1 o1 a.length ca g v 0 k1 a1 (lat a v) (rv v) wr _ _ _ _ _ _ _ _ _ _ _ _ _ _ _ _ _ _ _ _ _ _ _ _ _ _ _ _ _ _ _ _ _ _ _ _ _ _ _ _ _ _ _ _ _ _ _ _ _ _ _ _ _ _ _ _ _ _ _ _ _ _ _ _ _ _ _ _ _ _ _ _ _ _ _ _ _ _ _ _ _ _ _ _ _ _ _ _ _ _ _ _ _ _ _ _ _ _ _ _ _ _ _ _ _ _ _ _ _ _ _ _ _ _ _ _ _ _ _ _ _ _ _ _ _ _ _ _ _ _ _ _ _ _ _ (fun c a a' w h e => by cases a; cases a'; cases e; exact h) hlt c0 HRG.out hbg (HM1.out _ HBr.out) (by omega) (fun h => h) HZ3.out.2.1 HZ3.out.2.2 (by omega) ?_
              intro V p9 l9 c9 x109 x110 x111 x112 x113 x114 x115 x116 x117 x118 x119 x120 x121 x122 x123 x124 x125 hbV oV
              obtain ⟨n1, n2, n3, n4⟩ := HNEXT.out _ V 0 p9 l9 c9 (Below.refl _ _) (by omega) hbV oV
              have N1 := hide n1
              have N2 := hide n2
              have N3 := hide n3
              have N4 := hide n4
              clear n1 n2 n3 n4 hbV oV
              obtain ⟨V3, hV3⟩ : ∃ V3, V3 = V.setCell ⟨g, v, none⟩ (.slice p9 l9 c9) := ⟨_, rfl⟩
              rw [← hV3] at N1 N2 N3
              rw [← hV3]
              clear hV3
              go_wp2
              go_roundw
              case rel => exact ⟨v + 1, _, _, by omega, by go_num, N1.out, N2.out, N3.out, N4.out⟩
              case measure => simp [intOf]; omega
          · have e2 : ¬ (v : Int) < tn.length := by omega
            go_upto_region 22 with fail
            refine reg22 b1 o1 a.length ca g v 0 k1 a1 (lat a v) (rv v) wr _ _ _ _ _ _ _ _ _ _ _ _ _ _ _ _ _ _ _ _ _ _ _ _ _ _ _ _ _ _ _ _ _ _ _ _ _ _ _ _ _ _ _ _ _ _ _ _ _ _ _ _ _ _ _ _ _ _ _ _ _ _ _ _ _ _ _ _ _ _ _ _ _ _ _ _ _ _ _ _ _ _ _ _ _ _ _ _ _ _ _ _ _ _ _ _ _ _ _ _ _ _ _ _ _ _ _ _ _ _ _ _ _ _ _ _ _ _ _ _ _ _ _ _ _ _ _ _ _ _ _ _ _ _ _ (fun c a a' w h e => by cases a; cases a'; cases e; exact h) hlt c0 HRG.out hbg (HM1.out _ HBr.out) (by omega) (fun h => h) HZ3.out.2.1 HZ3.out.2.2 (by omega) ?_
            intro V p9 l9 c9 x109 x110 x111 x112 x113 x114 x115 x116 x117 x118 x119 x120 x121 x122 x123 x124 x125 hbV oV
            obtain ⟨n1, n2, n3, n4⟩ := HNEXT.out _ V 0 p9 l9 c9 (Below.refl _ _) (by omega) hbV oV
            have N1 := hide n1
            have N2 := hide n2
            have N3 := hide n3
            have N4 := hide n4
            clear n1 n2 n3 n4 hbV oV
            obtain ⟨V3, hV3⟩ : ∃ V3, V3 = V.setCell ⟨g, v, none⟩ (.slice p9 l9 c9) := ⟨_, rfl⟩
            rw [← hV3] at N1 N2 N3
            rw [← hV3]
            clear hV3
            go_wp2
            go_roundw
            case rel => exact ⟨v + 1, _, _, by omega, by go_num, N1.out, N2.out, N3.out, N4.out⟩
            case measure => simp [intOf]; omega
        · have hve : v = a.length := by omega
          have e1 : ¬ (v : Int) < a.length := by omega
          obtain ⟨cR, hcR⟩ : ∃ cR : List (List Int), cR = (List.range a.length).map L := ⟨_, rfl⟩
          have hcl : cR.length = a.length := by rw [hcR]; simp
          have hlc : ∀ u, u < a.length → lat cR u = L u := fun u hu => by
            rw [hcR]
            unfold lat
            rw [List.getD_eq_getElem?_getD, List.getElem?_map, List.getElem?_range hu]
            rfl
          have HLr2 := HLr.out
          rw [hve] at HLr2
          obtain ⟨rc, cc⟩ := canon_rot (c := cR) HRA.out hcl (fun u hu => by obtain ⟨k, hk, e⟩ := HLr2 u hu; exact ⟨k, hk, by rw [hlc u hu]; exact e⟩)
          have hrc := rot_bounds rc
          have HRC : Hid (RHas wr (some ⟨g, 0, none⟩) cR) := HRr.out.has hcl (fun u hu => (hlc u hu).symm) (fun u hu => by have := hrc.2 u (by omega); unfold maxLen; omega)
          have SF := hide (same19 n p es cp q1 (some ⟨g, 0, none⟩) a cR ca a.length wr (HH0.out.later HBr.out) (HRa0.out.later HBr.out) HRC.out)
          have hse : sameE n es a cR = 0 := by unfold sameE; rw [if_pos HRA.out]; exact rc
          have hsr : sameR n es a cR = true := by unfold sameR; rw [if_pos hse]; exact decide_eq_true cc
          rw [hse, hsr, hcl] at SF
          obtain ⟨g0, g1, _, _⟩ := HA0.out.later HBr.out
          clear hve hcR hcl hlc HLr2 rc cc hrc hse hsr HRC
          go_wp2_with fail
          refine SF.out.mono ?_
          rintro e wz ⟨rfl, hbz⟩
          have HBz := hide (below_step (below_step HB0.out HBr.out) hbz)
          clear hbz SF g0 g1
          go_wp2
          go_ret
          exact ⟨rfl, HBz.out⟩
  · rw [if_neg rb] at HSR
    rw [HSR.out]
    obtain ⟨x, hx⟩ : ∃ x, rotI n es b = x := ⟨_, rfl⟩
    rw [hx] at rb ⊢
    have t1 : (x == 0) = false := by simp [rb]
    clear HSE HSR hx
    obtain ⟨g0, g1, _, _⟩ := HA0.out.later HB6.out
    have M3 := hide (mayR10 n p es cp q1 a ca w6 (HH0.out.later HB6.out) (HRa0.out.later HB6.out) HLa.out)
    rw [HRA.out] at M3
    go_wp2_with fail
    refine M3.out.mono ?_
    rintro e U ⟨rfl, hbU⟩
    have HBU := hide (below_step HB6.out hbU)
    clear hbU M3 g0 g1 HB6
    obtain ⟨i0', hi0, hz0, hz1, hz2⟩ := info_parts info41
    go_wp2_with (refine wpList_make_full _ rfl (.tmp 72) (.tmp 72) 26 rfl U.heap.size 27 i0' (.slice none 0 0) 1 Try.underlying26 hi0 hz0 hz1 .i64 .i64 _ _ a.length rfl rfl rfl rfl ?c1 ?c2 ?c3 ?_)
    case c1 => rw [hz2]; omega
    case c2 => unfold maxLen; omega
    case c3 => exact Nat.le_refl _
    intro w9 hown hgrow
    have HB9 := hide (below_step HBU.out (below_made hgrow))
    have hr9 : Rows w9 U.heap.size U.heap.size a.length (fun _ => .slice none 0 0) (fun _ => []) := (rows_made [] hown).congr (fun v _ => by simp [outL])
    obtain ⟨g, hgE⟩ : ∃ g, U.heap.size = g := ⟨_, rfl⟩
    obtain ⟨B, hBE⟩ : ∃ B, U.heap.size = B := ⟨_, rfl⟩
    have HR9 : Hid (Rows w9 B g a.length (fun _ => .slice none 0 0) (fun _ => [])) := by show Rows _ _ _ _ _ _; rw [← hBE, ← hgE]; exact hr9
    have HSB : Hid (W0.heap.size ≤ B) := by show _ ≤ _; rw [← hBE]; exact HBU.out.size
    try rw [hgE]
    clear hown hgrow hr9 hgE hi0 hz0 hz1 hz2 i0'
    go_wp2_with fail
    go_loopw [13] (fun t13 wr => ∃ (v : Nat) (rv : Nat → Value) (L : Nat → List Int), v ≤ a.length ∧ t13 = .int .i64 v ∧ Hid (Below W0.heap.size W0 wr) ∧ Hid (B ≤ wr.heap.size) ∧ Hid (Rows wr B g a.length rv L) ∧ Hid (∀ u, u < v → ∃ k, k ≤ (lat a u).length ∧ L u = rotL (lat a u) k)) (fun t13 _ => a.length - (intOf t13).toNat)
    case atStart => exact ⟨0, _, _, by omega, rfl, HB9.out, by show _ ≤ _; have := HB9.out.size; have := HR9.out.size; omega, HR9.out, fun u hu => by omega⟩
    case round =>
      obtain ⟨v, rv, L, hv, rfl, HBr, HSr, HRr, HLr⟩ := hrel
      clear HB9 HR9
      by_cases hlt : v < a.length
      · obtain ⟨b1, o1, a1, k1, rfl, c0W, m1, z3⟩ := HRa0.out.at_ hlt
        have c0 := later HBr.out c0W
        have e1 : (v : Int) < a.length := by omega
        have hgs := HRr.out.size.1
        have hb1 : b1 < W0.heap.size := block_lt_of_cell c0W
        have hbg : b1 ≠ g := by have := HSB.out; omega
        have hll := HZ.out v hlt
        have HM1 : Hid (∀ V, Below W0.heap.size W0 V → IHas V a1 (lat a v)) := fun V hV => m1.later hV
        have HZ3 := hide z3
        have HNEXT : Hid (∀ (X V : World) (k : Nat) (p9 : Option Addr) (l9 c9 : Nat), Below wr.heap.size wr X → k ≤ (lat a v).length → Below X.heap.size X V → IOwns V X.heap.size (.slice p9 l9 c9) (rotL (lat a v) k) → Below W0.heap.size W0 (V.setCell ⟨g, v, none⟩ (.slice p9 l9 c9)) ∧ B ≤ (V.setCell ⟨g, v, none⟩ (.slice p9 l9 c9)).heap.size ∧ Rows (V.setCell ⟨g, v, none⟩ (.slice p9 l9 c9)) B g a.length (upd rv v (.slice p9 l9 c9)) (upd L v (rotL (lat a v) k)) ∧ ∀ u, u < v + 1 → ∃ k', k' ≤ (lat a u).length ∧ upd L v (rotL (lat a v) k) u = rotL (lat a u) k') := fun X V k p9 l9 c9 hX hk hV o => by
          have hXs := hX.size
          have hVs := hV.size
          refine ⟨(below_step (below_step HBr.out hX) hV).setCell (p := ⟨g, v, none⟩) (by have := HSB.out; show _ ≤ g; omega) _, by have := HSr.out; simp [World.setCell]; omega, (HRr.out.later hX).lay hlt hV (by have := HSr.out; omega) o, fun u hu => ?_⟩
          by_cases e : u = v
          · rw [e, upd_same]; exact ⟨k, hk, rfl⟩
          · rw [upd_other _ _ e]; exact HLr.out u (by omega)
        have HRG := hide (HRr.out.cell hlt)
        clear m1 z3 c0W hb1 HRr HLr
        by_cases hvt : v < tn.length
        · rcases HT0.out with hnn | ⟨b3, o3, rfl, hTL⟩
          · rw [hnn] at hvt; simp at hvt
          have ct0 := later HBr.out (hTL v hvt)
          have e2 : (v : Int) < tn.length := by omega
          obtain ⟨tv, htv⟩ : ∃ tv, iat tn v = tv := ⟨_, rfl⟩
          rw [htv] at ct0
          clear htv hTL
          by_cases hpos : 0 < tv
          · have e3 : tv > 0 := hpos
            by_cases hl0 : (lat a v).length = 0
            · have e4 : ¬ ((lat a v).length : Int) > 0 := by omega
              have e5 : ((lat a v).length : Int) = 0 := by omega
              go_upto_region 22 with fail
              refine reg22 b1 o1 a.length ca g v 0 k1 a1 (lat a v) (rv v) wr _ _ _ _ _ _ _ _ _ _ _ _ _ _ _ _ _ _ _ _ _ _ _ _ _ _ _ _ _ _ _ _ _ _ _ _ _ _ _ _ _ _ _ _ _ _ _ _ _ _ _ _ _ _ _ _ _ _ _ _ _ _ _ _ _ _ _ _ _ _ _ _ _ _ _ _ _ _ _ _ _ _ _ _ _ _ _ _ _ _ _ _ _ _ _ _ _ _ _ _ _ _ _ _ _ _ _ _ _ _ _ _ _ _ _ _ _ _ _ _ _ _ _ _ _ _ _ _ _ _ _ _ _ _ _ (fun c a a' w h e => by cases a; cases a'; cases e; exact h) hlt c0 HRG.out hbg (HM1.out _ HBr.out) (by omega) (fun h => h) HZ3.out.2.1 HZ3.out.2.2 (by omega) ?_
              intro V p9 l9 c9 x109 x110 x111 x112 x113 x114 x115 x116 x117 x118 x119 x120 x121 x122 x123 x124 x125 hbV oV
              obtain ⟨n1, n2, n3, n4⟩ := HNEXT.out _ V 0 p9 l9 c9 (Below.refl _ _) (by omega) hbV oV
              have N1 := hide n1
              have N2 := hide n2
              have N3 := hide n3
              have N4 := hide n4
              clear n1 n2 n3 n4 hbV oV
              obtain ⟨V3, hV3⟩ : ∃ V3, V3 = V.setCell ⟨g, v, none⟩ (.slice p9 l9 c9) := ⟨_, rfl⟩
              rw [← hV3] at N1 N2 N3
              rw [← hV3]
              clear hV3
              go_wp2
              go_roundw
              case rel => exact ⟨v + 1, _, _, by omega, by go_num, N1.out, N2.out, N3.out, N4.out⟩
              case measure => simp [intOf]; omega
            · have e4 : ((lat a v).length : Int) > 0 := by omega
              have hne : ¬ ((lat a v).length : Int) = 0 := by omega
              obtain ⟨kk, hkk⟩ : ∃ kk : Nat, Int.tmod tv (lat a v).length = kk := ⟨tv.toNat % (lat a v).length, by
                rw [Int.tmod_eq_emod_of_nonneg (by omega), show tv = ((tv.toNat : Nat) : Int) by omega]
                have := Int.natCast_emod tv.toNat (lat a v).length
                simp⟩
              have hkl : kk < (lat a v).length := by
                have h1 := Int.emod_lt_of_pos tv (b := ((lat a v).length : Int)) (by omega)
                rw [Int.tmod_eq_emod_of_nonneg (by omega)] at hkk
                omega
              go_upto_region 21 with fail
              go_quiet (fail)
              go_upto_region 22 with fail
              have hdq : Below wr.heap.size wr (wr.drewN nq) := below_drewN (Below.refl _ _)
              refine reg22 b1 o1 a.length ca g v kk k1 a1 (lat a v) (rv v) (wr.drewN nq) _ _ _ _ _ _ _ _ _ _ _ _ _ _ _ _ _ _ _ _ _ _ _ _ _ _ _ _ _ _ _ _ _ _ _ _ _ _ _ _ _ _ _ _ _ _ _ _ _ _ _ _ _ _ _ _ _ _ _ _ _ _ _ _ _ _ _ _ _ _ _ _ _ _ _ _ _ _ _ _ _ _ _ _ _ _ _ _ _ _ _ _ _ _ _ _ _ _ _ _ _ _ _ _ _ _ _ _ _ _ _ _ _ _ _ _ _ _ _ _ _ _ _ _ _ _ _ _ _ _ _ _ _ _ _ (fun c a a' w h e => by cases a; cases a'; cases e; exact h) hlt (later hdq c0) ⟨later hdq HRG.out.1, (hdq.frozen (p := ⟨g, v, none⟩) (block_lt_of_cell HRG.out.1)).trans HRG.out.2⟩ hbg (HM1.out _ (below_step HBr.out hdq)) (by omega) (fun _ => hkl) HZ3.out.2.1 HZ3.out.2.2 (by omega) ?_
              intro V p9 l9 c9 x109 x110 x111 x112 x113 x114 x115 x116 x117 x118 x119 x120 x121 x122 x123 x124 x125 hbV oV
              obtain ⟨n1, n2, n3, n4⟩ := HNEXT.out _ V kk p9 l9 c9 hdq (by omega) hbV oV
              have N1 := hide n1
              have N2 := hide n2
              have N3 := hide n3
              have N4 := hide n4
              clear n1 n2 n3 n4 hbV oV
              obtain ⟨V3, hV3⟩ : ∃ V3, V3 = V.setCell ⟨g, v, none⟩ (.slice p9 l9 c9) := ⟨_, rfl⟩
              rw [← hV3] at N1 N2 N3
              rw [← hV3]
              clear hV3
              go_wp2
              go_roundw
              case rel => exact ⟨v + 1, _, _, by omega, by go_num, N1.out, N2.out, N3.out, N4.out⟩
              case measure => simp [intOf]; omega
          · have e3 : ¬ tv > 0 := hpos
            go_upto_region 22 with fail
            refine reg22 b1 o1 a.length ca g v 0 k1 a1 (lat a v) (rv v) wr _ _ _ _ _ _ _ _ _ _ _ _ _ _ _ _ _ _ _ _ _ _ _ _ _ _ _ _ _ _ _ _ _ _ _ _ _ _ _ _ _ _ _ _ _ _ _ _ _ _ _ _ _ _ _ _ _ _ _ _ _ _ _ _ _ _ _ _ _ _ _ _ _ _ _ _ _ _ _ _ _ _ _ _ _ _ _ _ _ _ _ _ _ _ _ _ _ _ _ _ _ _ _ _ _ _ _ _ _ _ _ _ _ _ _ _ _ _ _ _ _ _ _ _ _ _ _ _ _ _ _ _ _ _ _ (fun c a a' w h e => by cases a; cases a'; cases e; exact h) hlt c0 HRG.out hbg (HM1.out _ HBr.out) (by omega) (fun h => h) HZ3.out.2.1 HZ3.out.2.2 (by omega) ?_
            intro V p9 l9 c9 x109 x110 x111 x112 x113 x114 x115 x116 x117 x118 x119 x120 x121 x122 x123 x124 x125 hbV oV
            obtain ⟨n1, n2, n3, n4⟩ := HNEXT.out _ V 0 p9 l9 c9 (Below.refl _ _) (by omega) hbV oV
            have N1 := hide n1
            have N2 := hide n2
            have N3 := hide n3
            have N4 := hide n4
            clear n1 n2 n3 n4 hbV oV
            obtain ⟨V3, hV3⟩ : ∃ V3, V3 = V.setCell ⟨g, v, none⟩ (.slice p9 l9 c9) := ⟨_, rfl⟩
            rw [← hV3] at N1 N2 N3
            rw [← hV3]
            clear hV3
            go_wp2
            go_roundw
            case rel => exact ⟨v + 1, _, _, by omega, by go_num, N1.out, N2.out, N3.out, N4.out⟩
            case measure => simp [intOf]; omega
        · have e2 : ¬ (v : Int) < tn.length := by omega
          go_upto_region 22 with fail
          refine reg22 b1 o1 a.length ca g v 0 k1 a1 (lat a v) (rv v) wr _ _ _ _ _ _ _ _ _ _ _ _ _ _ _ _ _ _ _ _ _ _ _ _ _ _ _ _ _ _ _ _ _ _ _ _ _ _ _ _ _ _ _ _ _ _ _ _ _ _ _ _ _ _ _ _ _ _ _ _ _ _ _ _ _ _ _ _ _ _ _ _ _ _ _ _ _ _ _ _ _ _ _ _ _ _ _ _ _ _ _ _ _ _ _ _ _ _ _ _ _ _ _ _ _ _ _ _ _ _ _ _ _ _ _ _ _ _ _ _ _ _ _ _ _ _ _ _ _ _ _ _ _ _ _ (fun c a a' w h e => by cases a; cases a'; cases e; exact h) hlt c0 HRG.out hbg (HM1.out _ HBr.out) (by omega) (fun h => h) HZ3.out.2.1 HZ3.out.2.2 (by omega) ?_
          intro V p9 l9 c9 x109 x110 x111 x112 x113 x114 x115 x116 x117 x118 x119 x120 x121 x122 x123 x124 x125 hbV oV
          obtain ⟨n1, n2, n3, n4⟩ := HNEXT.out _ V 0 p9 l9 c9 (Below.refl _ _) (by omega) hbV oV
          have N1 := hide n1
          have N2 := hide n2
          have N3 := hide n3
          have N4 := hide n4
          clear n1 n2 n3 n4 hbV oV
          obtain ⟨V3, hV3⟩ : ∃ V3, V3 = V.setCell ⟨g, v, none⟩ (.slice p9 l9 c9) := ⟨_, rfl⟩
          rw [← hV3] at N1 N2 N3
          rw [← hV3]
          clear hV3
          go_wp2
          go_roundw
          case rel => exact ⟨v + 1, _, _, by omega, by go_num, N1.out, N2.out, N3.out, N4.out⟩
          case measure => simp [intOf]; omega
      · have hve : v = a.length := by omega
        have e1 : ¬ (v : Int) < a.length := by omega
        obtain ⟨cR, hcR⟩ : ∃ cR : List (List Int), cR = (List.range a.length).map L := ⟨_, rfl⟩
        have hcl : cR.length = a.length := by rw [hcR]; simp
        have hlc : ∀ u, u < a.length → lat cR u = L u := fun u hu => by
          rw [hcR]
          unfold lat
          rw [List.getD_eq_getElem?_getD, List.getElem?_map, List.getElem?_range hu]
          rfl
        have HLr2 := HLr.out
        rw [hve] at HLr2
        obtain ⟨rc, cc⟩ := canon_rot (c := cR) HRA.out hcl (fun u hu => by obtain ⟨k, hk, e⟩ := HLr2 u hu; exact ⟨k, hk, by rw [hlc u hu]; exact e⟩)
        have hrc := rot_bounds rc
        have HRC : Hid (RHas wr (some ⟨g, 0, none⟩) cR) := HRr.out.has hcl (fun u hu => (hlc u hu).symm) (fun u hu => by have := hrc.2 u (by omega); unfold maxLen; omega)
        have SF := hide (same19 n p es cp q1 (some ⟨g, 0, none⟩) a cR ca a.length wr (HH0.out.later HBr.out) (HRa0.out.later HBr.out) HRC.out)
        have hse : sameE n es a cR = 0 := by unfold sameE; rw [if_pos HRA.out]; exact rc
        have hsr : sameR n es a cR = true := by unfold sameR; rw [if_pos hse]; exact decide_eq_true cc
        rw [hse, hsr, hcl] at SF
        obtain ⟨g0, g1, _, _⟩ := HA0.out.later HBr.out
        clear hve hcR hcl hlc HLr2 rc cc hrc hse hsr HRC
        go_wp2_with fail
        refine SF.out.mono ?_
        rintro e wz ⟨rfl, hbz⟩
        have HBz := hide (below_step (below_step HB0.out HBr.out) hbz)
        clear hbz SF g0 g1
        go_wp2
        go_ret
        exact ⟨rfl, HBz.out⟩
end Go.Proofs.Ytllkadgpkbaghaa
