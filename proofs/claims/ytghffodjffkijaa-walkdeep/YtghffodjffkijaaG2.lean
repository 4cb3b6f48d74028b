/- WalkDeep: its walk. -/
import Derived.Test.YtghffodjffkijaaG1
import Derived.Test.YtghffodjffkijaaF1
namespace Go.Proofs.Ytghffodjffkijaa
open Go.RowKit Go.Sort
open Go

set_option maxRecDepth 100000 in
set_option maxHeartbeats 8000000 in
theorem deep_no (n : Int) (p : Option Addr) (es : List Pt) (cp : Nat) (s : Int) (w : World) (h : Has w p es) (hr : refI n es s ≠ 0) : Calls Try.prog 5 #[nv n p es.length cp, .int .i64 s] w fun e w' => e = .returned (.bool true) ∧ Below w.heap.size w w' := by
  obtain ⟨W, hW, hb, a0⟩ := one_net w n p es.length cp
  have BR : Hid (∀ V, Has V p es → Calls Try.prog 14 #[nv n p es.length cp, .int .i64 s] V fun e w' => e = .returned (.tuple #[tv nilS nilS nilS nilS, .int .i64 (refI n es s)]) ∧ Below V.heap.size V w') := fun V hV => depth14no n p es cp s _ V hV rfl hr
  have BG := hide (begun9 W)
  have HH := hide (h.later hb)
  have HB := hide hb
  have HA := hide a0
  obtain ⟨r, hre⟩ : ∃ r, refI n es s = r := ⟨_, rfl⟩
  rw [hre] at hr BR
  have t1 : (r != 0) = true := by simp [hr]
  have t2 : (r == 0) = false := by simp [hr]
  clear h hb a0 hre
  go_enter Try.func5, Try.ntmps5
  go_wp2_with fail
  rw [← hW]
  clear hW
  refine BG.out.mono ?_
  rintro e w1 ⟨rfl, hb1⟩
  have C1 := hide (BR.out w1 (HH.out.later hb1))
  have HB1 := hide (below_step HB.out hb1)
  have HA1 := hide (HA.out.later hb1)
  obtain ⟨q0, q1, _, _⟩ := HA1.out
  clear hb1 BG
  go_wp2_with fail
  refine C1.out.mono ?_
  rintro e w2 ⟨rfl, hb2⟩
  obtain ⟨X, hX⟩ : ∃ X, X = w2.alloc (.cells #[nilS, nilS, nilS, nilS] 35) := ⟨_, rfl⟩
  have hbX : Below w2.heap.size w2 X := by rw [hX]; go_grown
  have x0 : X.cell? ⟨w2.heap.size, 0, none⟩ = some nilS := by rw [hX]; go_cell
  have HB2 := hide (below_step (below_step HB1.out hb2) hbX)
  clear q0 q1 C1 hb2 hbX
  go_upto_region 4 with fail
  rw [← hX]
  clear hX
  go_wp2
  go_ret
  exact ⟨rfl, HB2.out⟩
/-- What is told of a walk from s depth first. -/
structure DeepOk (es : List Pt) (m : Nat) (st : St) (L : List Int) : Prop where
  tree : Tree es m st
  ok : Ok m st
  op : 0 < st.O.length
  edge : ∀ i, i < es.length → (iat st.Fa (at' es i).x.toNat < 0 ↔ iat st.Fa (at' es i).y.toNat < 0) ∧ (0 ≤ iat st.Fa (at' es i).x.toNat → Anc es st (at' es i).x.toNat (at' es i).y.toNat ∨ Anc es st (at' es i).y.toNat (at' es i).x.toNat)
  low : ∀ i, i < st.O.length → iat L (oj st i) ≤ i
  back : ∀ i, 1 ≤ i → i < st.O.length → ∃ k : Nat, k < 2 * es.length ∧ iat st.By (oj st i) = k ∧ fromL es k = par es st (oj st i) ∧ par es st (oj st i) < m ∧ iat st.Fa (par es st (oj st i)) + 1 = iat st.Fa (oj st i)
theorem deep_ok {es : List Pt} {m s : Nat} (hm : netB m es = true) (hs : s < m) : DeepOk es m (dOneSt es m s) (lwN es (dOneSt es m s) m (dOneSt es m s).O.length) := by
  obtain ⟨n0, n1, hes, hE⟩ := netB_is hm
  obtain ⟨R, an⟩ := dOneSt_reach (es := es) hm hs
  have q := dOneSt_once (es := es) hm hs
  generalize dOneSt es m s = T at *
  refine ⟨R.tree, R.ok, R.first.1, fun i hi => ?_, fun i hi => ?_, fun i h1 hi => ?_⟩
  · obtain ⟨x0, x1, y0, y1⟩ := hE i hi
    obtain ⟨x, hx⟩ : ∃ x : Nat, (at' es i).x = x := ⟨(at' es i).x.toNat, by omega⟩
    obtain ⟨y, hy⟩ : ∃ y : Nat, (at' es i).y = y := ⟨(at' es i).y.toNat, by omega⟩
    rw [hx, hy, Int.toNat_natCast, Int.toNat_natCast]
    have f1 : fromL es (2 * i) = x := by unfold fromL; rw [if_pos (by omega), show 2 * i / 2 = i by omega, hx]
    have t1 : toL es (2 * i) = y := by unfold toL; rw [if_pos (by omega), show 2 * i / 2 = i by omega, hy]
    have f2 : fromL es (2 * i + 1) = y := by unfold fromL; rw [if_neg (by omega), show (2 * i + 1) / 2 = i by omega, hy]
    have t2 : toL es (2 * i + 1) = x := by unfold toL; rw [if_neg (by omega), show (2 * i + 1) / 2 = i by omega, hx]
    refine ⟨⟨fun h => ?_, fun h => ?_⟩, fun h => an (2 * i) x y (by omega) f1 t1 h⟩
    · by_cases h0 : 0 ≤ iat T.Fa y
      · have := R.shut (2 * i + 1) y x (by omega) f2 t2 h0; omega
      · omega
    · by_cases h0 : 0 ≤ iat T.Fa x
      · have := R.shut (2 * i) x y (by omega) f1 t1 h0; omega
      · omega
  · have h1 := lwN_le R.ok R.tree (oj T i) T.O.length (Nat.le_refl _)
    rw [whN_at R.ok q hi (-1) T.O.length hi (Nat.le_refl _)] at h1
    exact h1
  · have hm' := R.ok.mem i hi
    have hin : oj T i < m := by show (iat T.O i).toNat < m; omega
    obtain ⟨k, k1, k2, k3, k4, k5, k6, _⟩ := root_par R.tree hin (q.pos i h1 hi)
    exact ⟨k, k1, k2, k4, k5, k6⟩
theorem load35 {V : World} {k : Nat} {a b c d : Value} (h : V.ownsRow 0 35 4 (.slice (some ⟨k, 0, none⟩) 1 1) 1 [a, b, c, d]) : (loadVar 35 ⟨k, 0, none⟩).run Try.prog V = .ok (tv a b c d) V := ret_tour h
set_option maxRecDepth 100000 in
set_option maxHeartbeats 8000000 in
theorem deep_yes (m : Nat) (p : Option Addr) (es : List Pt) (cp s : Nat) (w : World) (h : Has w p es) (hm : netB m es = true) (hs : s < m) : Calls Try.prog 5 #[nv m p es.length cp, .int .i64 s] w fun e w' => e = .returned (.bool true) ∧ Below w.heap.size w w' := by
  obtain ⟨W, hW, hb, a0⟩ := one_net w m p es.length cp
  obtain ⟨i0, hi0, hz0, hz1, hz2⟩ := info_parts info3
  obtain ⟨n0, n1, hes, hE⟩ := netB_is hm
  have DO := hide (deep_ok hm hs)
  have BR : Hid (∀ V, Has V p es → Calls Try.prog 14 #[nv m p es.length cp, .int .i64 s] V fun e w' => ∃ v gl, e = .returned (.tuple #[v, .int .i64 0]) ∧ TR w' V.heap.size m v (dOneSt es m s) (.slice (some ⟨gl, 0, none⟩) m m) ∧ IRow w' V.heap.size gl m (lwN es (dOneSt es m s) m (dOneSt es m s).O.length) ∧ Below V.heap.size V w') := fun V hV => depth14all m p es cp s V hV hm hs
  generalize lwN es (dOneSt es m s) m (dOneSt es m s).O.length = L at *
  generalize dOneSt es m s = T at *
  have BG := hide (begun9 W)
  have HH := hide (h.later hb)
  have HB := hide hb
  have HA := hide a0
  have HM := hide hm
  have HE := hide hE
  have hOl : T.O.length ≤ m := by have := DO.out.ok.cnt; omega
  clear h hb a0 hm hE
  go_enter Try.func5, Try.ntmps5
  go_wp2_with fail
  rw [← hW]
  clear hW
  refine BG.out.mono ?_
  rintro e w1 ⟨rfl, hb1⟩
  have C1 := hide (BR.out w1 (HH.out.later hb1))
  have HH1 := hide (HH.out.later hb1)
  have HB1 := hide (below_step HB.out hb1)
  have HA1 := hide (HA.out.later hb1)
  obtain ⟨q0, q1, _, _⟩ := HA1.out
  clear hb1 BG
  go_wp2_with fail
  refine C1.out.mono ?_
  rintro e w2 ⟨v, gl, rfl, ⟨vo, gb, gf, rfl, ho, hby, hfa, _⟩, hgl, hb2⟩
  obtain ⟨go, co, hvo, _, _, _⟩ := iowns_block ho DO.out.op
  subst hvo
  obtain ⟨X, hX⟩ : ∃ X, X = w2.alloc (.cells #[.slice (some ⟨go, 0, none⟩) T.O.length co, .slice (some ⟨gb, 0, none⟩) m m, .slice (some ⟨gf, 0, none⟩) m m, .slice (some ⟨gl, 0, none⟩) m m] 35) := ⟨_, rfl⟩
  have hbX : Below w2.heap.size w2 X := by rw [hX]; go_grown
  have xx : X.ownsRow 0 35 4 (.slice (some ⟨w2.heap.size, 0, none⟩) 1 1) 1 [.slice (some ⟨go, 0, none⟩) T.O.length co, .slice (some ⟨gb, 0, none⟩) m m, .slice (some ⟨gf, 0, none⟩) m m, .slice (some ⟨gl, 0, none⟩) m m] := by rw [hX]; exact box35 w2 _ _ _ _
  have HH2 := hide ((HH1.out.later hb2).later hbX)
  have HB2 := hide (below_step (below_step HB1.out hb2) hbX)
  have HA2 := hide ((HA1.out.later hb2).later hbX)
  have HO2 := hide (IOwns.later ho hbX)
  have HBY2 := hide (hby.later hbX)
  have HFA2 := hide (hfa.later hbX)
  have HL2 := hide (hgl.later hbX)
  clear q0 q1 C1 hb2 hbX ho hby hfa hgl
  obtain ⟨q0, q1, _, _⟩ := HA2.out
  go_upto_region 4 with fail
  rw [← hX]
  obtain ⟨kt, hkt⟩ : ∃ kt, w2.heap.size = kt := ⟨_, rfl⟩
  rw [hkt] at xx ⊢
  have HXX := hide xx
  clear hX hkt xx
  by_cases h200 : (m : Int) > 200
  · go_wp2
    go_ret
    exact ⟨rfl, HB2.out⟩
  by_cases h300 : (es.length : Int) > 300
  · go_wp2
    go_ret
    exact ⟨rfl, HB2.out⟩
  go_upto_region 6 with fail
  go_wp2_with (refine wpList_make_full _ rfl (.tmp 44) (.tmp 44) 33 rfl X.heap.size 3 i0 (.int .i64 0) 1 Try.underlying33 hi0 hz0 hz1 .i64 .i64 _ _ m rfl rfl rfl rfl ?c1 ?c2 ?c3 ?_)
  case c1 => omega
  case c2 => unfold maxLen; omega
  intro Y hown hgrow
  have HP := hide (irow_made hown)
  have HBXY := hide (below_made hgrow)
  clear hown hgrow q0 q1
  obtain ⟨q0, q1, _, _⟩ := HA2.out
  go_wp2_with fail
  obtain ⟨gp, hgp⟩ : ∃ g, X.heap.size = g := ⟨_, rfl⟩
  have HGP := hide hgp
  have HPP : Hid (IRow Y X.heap.size gp m (List.replicate m 0)) := by show IRow _ _ _ _ _; rw [← hgp]; exact HP.out
  rw [hgp]
  obtain ⟨kb, hkb⟩ : ∃ kb, w.heap.size = kb := ⟨_, rfl⟩
  rw [hkb] at HA2 ⊢
  have HKB := hide hkb
  have hktX : kt < X.heap.size := block_lt_of_cell (box_cells HXX.out).1
  have hkbX : kb < X.heap.size := block_lt_of_cell HA2.out.1
  have hgoX : go < X.heap.size := (World.ownsRow.lt HO2.out go rfl).2
  have ng1 : gp ≠ kt := by have := HGP.out; omega
  have ng2 : gp ≠ kb := by have := HGP.out; omega
  clear hkb hgp HP q0 q1 hktX hkbX hgoX
  go_loopw [8] (fun t wr => ∃ i : Nat, i ≤ T.O.length ∧ t = .int .i64 i ∧ Hid (Below X.heap.size X wr) ∧ Hid (IRow wr X.heap.size gp m (pcL T.O m i))) (fun t _ => T.O.length - (intOf t).toNat)
  case atStart => exact ⟨0, by omega, rfl, HBXY.out, HPP.out⟩
  case round =>
    obtain ⟨i, hi, rfl, HBr, HPr⟩ := hrel
    obtain ⟨x0, x1, x2, x3, _⟩ := box_cells (box_later HXX.out HBr.out)
    by_cases hlt : i < T.O.length
    · obtain ⟨v0, v1⟩ := DO.out.ok.mem i hlt
      have c0 := IOwns.at_ (IOwns.later HO2.out HBr.out) hlt
      have HST : Hid (pcL T.O m (i + 1) = (pcL T.O m i).set (iat T.O i).toNat ((i : Int) + 1)) := rfl
      obtain ⟨v, hv⟩ : ∃ v : Nat, iat T.O i = v := ⟨(iat T.O i).toNat, by omega⟩
      rw [hv] at c0 HST v0 v1
      rw [Int.toNat_natCast] at HST
      have hvm : v < m := by omega
      obtain ⟨d0, e0⟩ := HPr.out.cell hvm
      have j1 : (i : Int) < T.O.length := by omega
      have j2 : (0 : Int) ≤ i := by omega
      have j3 : (v : Int) < m := by omega
      have j4 : (0 : Int) ≤ v := by omega
      clear hv
      go_wp2
      go_roundw
      case rel => exact ⟨i + 1, by omega, by go_num, HBr.out.setCell (p := ⟨gp, v, none⟩) (Nat.le_of_eq HGP.out) _, by show IRow _ _ _ _ _; rw [HST.out]; exact HPr.out.set v _⟩
      case measure => simp [intOf]; omega
    · have hin : i = T.O.length := by omega
      have j1 : ¬ (i : Int) < T.O.length := by omega
      rw [hin] at HPr
      clear hin
      go_wp2_with fail
      obtain ⟨Z, hZ⟩ : ∃ Z, Z = wr := ⟨_, rfl⟩
      rw [← hZ] at HBr HPr ⊢
      have HXZ := hide (box_later HXX.out HBr.out)
      have HHZ := hide (HH2.out.later HBr.out)
      have HBZ := hide (below_step HB2.out HBr.out)
      have HAZ := hide (HA2.out.later HBr.out)
      have HOZ := hide (IOwns.later HO2.out HBr.out)
      have HBYZ := hide (HBY2.out.later HBr.out)
      have HFAZ := hide (HFA2.out.later HBr.out)
      have HLZ := hide (HL2.out.later HBr.out)
      clear hZ x0 x1 x2 x3 HXX HH2 HB2 HA2 HO2 HBY2 HFA2 HL2 HBr HPP HBXY j1 hlt hi
      go_loopw [9] (fun t wz => ∃ j : Nat, j ≤ es.length ∧ t = .int .i64 j ∧ Hid (Below Z.heap.size Z wz)) (fun t _ => es.length - (intOf t).toNat)
      case atStart => exact ⟨0, by omega, rfl, Below.refl _ _⟩
      case round =>
        obtain ⟨j, hj, rfl, HBz⟩ := hrel
        obtain ⟨q0, q1, _, _⟩ := HAZ.out.later HBz.out
        by_cases hlt : j < es.length
        · have hq : ∃ b off, p = some ⟨b, off, none⟩ ∧ Lies Z b off es := by
            rcases HHZ.out with h0 | h0
            · subst h0; simp at hlt
            · exact h0
          obtain ⟨b, off, rfl, hLW⟩ := hq
          obtain ⟨c0, c1⟩ := hLW.later HBz.out j hlt
          obtain ⟨e0, e1, e2, e3⟩ := HE.out j hlt
          have HED := hide (DO.out.edge j hlt)
          obtain ⟨x, hx⟩ : ∃ x : Nat, (at' es j).x = x := ⟨(at' es j).x.toNat, by omega⟩
          obtain ⟨y, hy⟩ : ∃ y : Nat, (at' es j).y = y := ⟨(at' es j).y.toNat, by omega⟩
          rw [hx] at c0 e0 e1 HED
          rw [hy] at c1 e2 e3 HED
          rw [Int.toNat_natCast, Int.toNat_natCast] at HED
          have hxm : x < m := by omega
          have hym : y < m := by omega
          have j1 : (j : Int) < es.length := by omega
          have j2 : (0 : Int) ≤ j := by omega
          have j3 : (x : Int) < m := by omega
          have j4 : (0 : Int) ≤ x := by omega
          have j5 : (y : Int) < m := by omega
          have j6 : (0 : Int) ≤ y := by omega
          clear hx hy hLW
          go_upto_region 14 with fail
          go_quiet (fail)
          obtain ⟨V, hV⟩ : ∃ V, V = wr.drewN nq := ⟨_, rfl⟩
          have hbV : Below wr.heap.size wr V := by rw [hV]; exact below_drewN (Below.refl _ _)
          have HBV := hide (below_step HBz.out hbV)
          rw [← hV]
          clear hV hbV q0 q1 c0 c1
          have p0 := ((HPr.out.later HBV.out).cell hxm).1
          have p1 := ((HPr.out.later HBV.out).cell hym).1
          have z0 := pcL_found DO.out.ok DO.out.tree hxm
          have z1 := pcL_found DO.out.ok DO.out.tree hym
          by_cases hn : iat T.Fa x < 0
          · rw [z0.2 hn] at p0
            rw [z1.2 (HED.out.1.1 hn)] at p1
            clear z0 z1 hn
            go_wp2
            go_roundw
            case rel => exact ⟨j + 1, by omega, by go_num, HBV.out⟩
            case measure => simp [intOf]; omega
          · have hny : 0 ≤ iat T.Fa y := by
              by_cases h0 : 0 ≤ iat T.Fa y
              · exact h0
              · exact absurd (HED.out.1.2 (by omega)) hn
            have hnx : 0 ≤ iat T.Fa x := by omega
            have hpx : ¬ iat (pcL T.O m T.O.length) x = 0 := fun h => hn (z0.1 h)
            obtain ⟨px, hpxe⟩ : ∃ z, iat (pcL T.O m T.O.length) x = z := ⟨_, rfl⟩
            obtain ⟨py, hpye⟩ : ∃ z, iat (pcL T.O m T.O.length) y = z := ⟨_, rfl⟩
            rw [hpxe] at p0 hpx
            rw [hpye] at p1
            have k1 : (px == 0) = false := by simp [hpx]
            clear z0 z1 hpxe hpye hpx hn
            by_cases hxy : x = y
            · have k2 : ((x : Int) == (y : Int)) = true := by simp [hxy]
              clear hxy
              go_wp2
              go_roundw
              case rel => exact ⟨j + 1, by omega, by go_num, HBV.out⟩
              case measure => simp [intOf]; omega
            · have k2 : ((x : Int) == (y : Int)) = false := by simp; omega
              have AB := HED.out.2 hnx
              have HAB := hide AB
              have A1 := hide (fun (U : World) (hU : Below Z.heap.size Z U) => above27 m (some ⟨b, off, none⟩) es cp (some ⟨go, 0, none⟩) T.O.length co gb gf _ (.slice (some ⟨gl, 0, none⟩) m m) T x y U (HHZ.out.later hU) HM.out (HBYZ.out.later hU) DO.out.tree (fun v hv => by have := DO.out.ok.val v hv; omega) hym hny)
              have A2 := hide (fun (U : World) (hU : Below Z.heap.size Z U) => above27 m (some ⟨b, off, none⟩) es cp (some ⟨go, 0, none⟩) T.O.length co gb gf _ (.slice (some ⟨gl, 0, none⟩) m m) T y x U (HHZ.out.later hU) HM.out (HBYZ.out.later hU) DO.out.tree (fun v hv => by have := DO.out.ok.val v hv; omega) hxm hnx)
              obtain ⟨x0, x1, x2, x3, _⟩ := box_cells (box_later HXZ.out HBV.out)
              obtain ⟨q0, q1, _, _⟩ := HAZ.out.later HBV.out
              clear hxy AB
              go_wp2_with fail
              refine (A1.out V HBV.out).mono ?_
              rintro e w4 ⟨⟨r, rfl, hr⟩, hb4⟩
              have HB4 := hide (below_step HBV.out hb4)
              have HR1 := hide hr
              clear hb4 hr x0 x1 x2 x3 q0 q1 A1
              cases r
              · obtain ⟨x0, x1, x2, x3, _⟩ := box_cells (box_later HXZ.out HB4.out)
                obtain ⟨q0, q1, _, _⟩ := HAZ.out.later HB4.out
                go_wp2_with fail
                refine (A2.out w4 HB4.out).mono ?_
                rintro e w5 ⟨⟨r, rfl, hr⟩, hb5⟩
                have HB5 := hide (below_step HB4.out hb5)
                have hrt : r = true := by
                  rcases HAB.out with hh | hh
                  · exact absurd (HR1.out.2 hh) (by simp)
                  · exact hr.2 hh
                subst hrt
                clear hb5 hr x0 x1 x2 x3 q0 q1 A2 HR1
                go_wp2
                go_roundw
                case rel => exact ⟨j + 1, by omega, by go_num, HB5.out⟩
                case measure => simp [intOf]; omega
              · clear A2 HR1
                go_wp2
                go_roundw
                case rel => exact ⟨j + 1, by omega, by go_num, HB4.out⟩
                case measure => simp [intOf]; omega
        · have j1 : ¬ (j : Int) < es.length := by omega
          go_wp2_with fail
          obtain ⟨U, hU⟩ : ∃ U, U = wr := ⟨_, rfl⟩
          rw [← hU] at HBz ⊢
          clear hU q0 q1 hlt j1 hj
          go_loopw [12] (fun t wu => ∃ i : Nat, 1 ≤ i ∧ i ≤ T.O.length ∧ t = .int .i64 i ∧ Hid (Below Z.heap.size Z wu)) (fun t _ => T.O.length - (intOf t).toNat)
          case atStart => exact ⟨1, by omega, by have := DO.out.op; omega, rfl, HBz.out⟩
          case round =>
            obtain ⟨i, hi1, hi, rfl, HBu⟩ := hrel
            obtain ⟨x0, x1, x2, x3, _⟩ := box_cells (box_later HXZ.out HBu.out)
            by_cases hlt : i < T.O.length
            · obtain ⟨v0, v1⟩ := DO.out.ok.mem i hlt
              have c0 := IOwns.at_ (IOwns.later HOZ.out HBu.out) hlt
              have hlow := DO.out.low i hlt
              obtain ⟨k, k1, k2, k4, k5, k6⟩ := DO.out.back i hi1 hlt
              have ho : oj T i = (iat T.O i).toNat := rfl
              rw [ho] at hlow k2 k4 k5 k6
              obtain ⟨v, hv⟩ : ∃ v : Nat, iat T.O i = v := ⟨(iat T.O i).toNat, by omega⟩
              rw [hv] at c0 v0 v1 hlow k2 k4 k5 k6
              rw [Int.toNat_natCast] at hlow k2 k4 k5 k6
              have hvm : v < m := by omega
              have l0 := ((HLZ.out.later HBu.out).cell hvm).1
              have f0 := ((HFAZ.out.later HBu.out).cell hvm).1
              have b0 := ((HBYZ.out.later HBu.out).cell hvm).1
              have g0 := ((HFAZ.out.later HBu.out).cell k5).1
              have bv := DO.out.ok.val v hvm
              rw [k2] at b0
              obtain ⟨q0, q1, _, _⟩ := HAZ.out.later HBu.out
              obtain ⟨pv, hpv⟩ : ∃ pv, par es T v = pv := ⟨_, rfl⟩
              rw [hpv] at g0 k4 k5 k6
              obtain ⟨fv, hfv⟩ : ∃ z, iat T.Fa v = z := ⟨_, rfl⟩
              obtain ⟨fp, hfp⟩ : ∃ z, iat T.Fa pv = z := ⟨_, rfl⟩
              obtain ⟨lv, hlv⟩ : ∃ z, iat L v = z := ⟨_, rfl⟩
              rw [hfv] at f0 k6 bv
              rw [hfp] at g0 k6
              rw [hlv] at l0 hlow
              have j1 : (i : Int) < T.O.length := by omega
              have j2 : (0 : Int) ≤ i := by omega
              have j3 : (v : Int) < m := by omega
              have j4 : (0 : Int) ≤ v := by omega
              have j5 : (pv : Int) < m := by omega
              have j6 : (0 : Int) ≤ pv := by omega
              have t1 : ¬ lv > (i : Int) := by omega
              have t2 : decide ((i : Int) < lv) = false := by simp; omega
              have t3 : (fv != fp + 1) = false := by simp; omega
              have t4 : wrap64 (fp + 1) = fp + 1 := by unfold wrap64; omega
              have CF : ∀ dd os, Calls Try.prog 26 #[nv m p es.length cp, .int .i64 k] (grow (redrawn wr dd) os) fun e w'' => e = .returned (.int .i64 (pv : Nat)) ∧ ∃ p : Regrown, w'' = grow (redrawn wr p.d) p.os := fun dd os => Calls.regrown_of (by rw [← k4]; exact from50 m p es cp k _ ((HHZ.out.later HBu.out).later (below_regrown wr dd os)) k1 (by omega))
              have C0 := cell_regrown c0
              have L0 := cell_regrown l0
              have F0 := cell_regrown f0
              have B0 := cell_regrown b0
              have G0 := cell_regrown g0
              have X0 := cell_regrown x0
              have X1 := cell_regrown x1
              have X2 := cell_regrown x2
              have X3 := cell_regrown x3
              have Q0 := cell_regrown q0
              have Q1 := cell_regrown q1
              clear hv hpv hfv hfp hlv ho k2 k4 k6 hlow
              go_upto_region 22 with fail
              refine wp_region_quiet_below (by kernel_rfl) (by kernel_rfl) ?_
              repeat (go_big_quiet_step (first | with_reducible exact CF _ _))
              refine wpQuiet_nil ?_
              intro w3 hw'
              have hb3 : Below wr.heap.size wr w3 := by
                obtain ⟨⟨dq, osq⟩, hw''⟩ := hw'
                rw [hw'']
                exact below_regrown wr dq osq
              have HBq := hide (below_step HBu.out hb3)
              clear hw' hb3 c0 l0 f0 b0 g0 x0 x1 x2 x3 q0 q1 C0 L0 F0 B0 G0 X0 X1 X2 X3 Q0 Q1 CF
              go_wp2
              go_roundw
              case rel => exact ⟨i + 1, by omega, by omega, by go_num, HBq.out⟩
              case measure => simp [intOf]; omega
            · have j1 : ¬ (i : Int) < T.O.length := by omega
              go_wp2
              go_ret
              exact ⟨rfl, below_step HBZ.out HBu.out⟩
theorem deep_walk (n : Int) (p : Option Addr) (es : List Pt) (cp : Nat) (s : Int) (w : World) (h : Has w p es) : Calls Try.prog 5 #[nv n p es.length cp, .int .i64 s] w fun e w' => e = .returned (.bool true) ∧ Below w.heap.size w w' := by
  by_cases hr : refI n es s = 0
  · obtain ⟨m, t, rfl, rfl, hm, hs⟩ := refI_zero hr
    exact deep_yes m p es cp t w h hm hs
  · exact deep_no n p es cp s w h hr
end Go.Proofs.Ytghffodjffkijaa
