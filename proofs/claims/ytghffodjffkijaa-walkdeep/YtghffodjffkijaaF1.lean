/- WalkFar: its walk. -/
import Derived.Test.YtghffodjffkijaaE12
import Derived.Lib.QuietBelow
import Derived.BigQuiet
import Derived.Deep.QuietTactic
namespace Go.Proofs.Ytghffodjffkijaa
open Go.RowKit Go.Sort
open Go

/-- What is told of a walk from s breadth first, and of the components. -/
structure FarOk (es : List Pt) (m s : Nat) (st : St) (C : List Int) : Prop where
  s0 : iat st.Fa s = 0
  o0 : iat st.O 0 = s
  op : 0 < st.O.length
  edge : ∀ i, i < es.length → (iat st.Fa (at' es i).x.toNat < 0 ↔ iat st.Fa (at' es i).y.toNat < 0) ∧ iat st.Fa (at' es i).x.toNat - iat st.Fa (at' es i).y.toNat ≤ 1 ∧ iat st.Fa (at' es i).y.toNat - iat st.Fa (at' es i).x.toNat ≤ 1
  comp : ∀ v, v < m → (iat st.Fa v < 0 ↔ iat C v ≠ iat C s)
  back : ∀ v, v < m → v ≠ s → 0 ≤ iat st.Fa v → ∃ k : Nat, k < 2 * es.length ∧ iat st.By v = k ∧ toL es k = v ∧ fromL es k = par es st v ∧ par es st v < m ∧ iat st.Fa (par es st v) = iat st.Fa v - 1
  val : ∀ v, v < m → -1 ≤ iat st.Fa v ∧ iat st.Fa v ≤ 2000
theorem far_ok {es : List Pt} {m s : Nat} (hm : netB m es = true) (hs : s < m) {k : Nat} {C : List Int} {r : Nat → Nat} (L : Lab es m k m C r NoDue) : FarOk es m s (bOne es m s) C := by
  obtain ⟨n0, n1, hes, hE⟩ := netB_is hm
  have R : Reach es m s (bOne es m s) := bOne_reach (es := es) hm hs
  have wf : ∀ h a b : Nat, h < 2 * es.length → fromL es h = a → toL es h = b → 0 ≤ iat (bOne es m s).Fa a → 0 ≤ iat (bOne es m s).Fa b ∧ iat (bOne es m s).Fa b ≤ iat (bOne es m s).Fa a + 1 := (walk_far (es := es) (st := st0 m) hm hs (st0_ok m) rfl (fun v hv => iat_fill hv) (fun v hv => iat_fill hv)).2.2
  generalize bOne es m s = T at *
  have hcnt := R.ok.cnt
  refine ⟨R.first.2.2, R.first.2.1, R.first.1, fun i hi => ?_, fun v hv => ?_, fun v hv hne h0 => ?_, fun v hv => ?_⟩
  · obtain ⟨x0, x1, y0, y1⟩ := hE i hi
    obtain ⟨x, hx⟩ : ∃ x : Nat, (at' es i).x = x := ⟨(at' es i).x.toNat, by omega⟩
    obtain ⟨y, hy⟩ : ∃ y : Nat, (at' es i).y = y := ⟨(at' es i).y.toNat, by omega⟩
    rw [hx, hy, Int.toNat_natCast, Int.toNat_natCast]
    have f1 : fromL es (2 * i) = x := by unfold fromL; rw [if_pos (by omega), show 2 * i / 2 = i by omega, hx]
    have t1 : toL es (2 * i) = y := by unfold toL; rw [if_pos (by omega), show 2 * i / 2 = i by omega, hy]
    have f2 : fromL es (2 * i + 1) = y := by unfold fromL; rw [if_neg (by omega), show (2 * i + 1) / 2 = i by omega, hy]
    have t2 : toL es (2 * i + 1) = x := by unfold toL; rw [if_neg (by omega), show (2 * i + 1) / 2 = i by omega, hx]
    have w1 := wf (2 * i) x y (by omega) f1 t1
    have w2 := wf (2 * i + 1) y x (by omega) f2 t2
    have v1 := R.ok.val x (by omega)
    have v2 := R.ok.val y (by omega)
    by_cases hp : 0 ≤ iat T.Fa x
    · have := w1 hp
      have := w2 this.1
      omega
    · by_cases hq : 0 ≤ iat T.Fa y
      · have := w2 hq
        omega
      · omega
  · have h1 := R.iff hv
    have h2 := L.conn hm hs hv
    constructor
    · intro h e
      have := h1.2 (h2.1 e.symm)
      omega
    · intro h
      by_cases h0 : 0 ≤ iat T.Fa v
      · exact absurd (h2.2 (h1.1 h0)).symm h
      · omega
  · have hpos : 0 < iat T.Fa v := by
      by_cases e : iat T.Fa v = 0
      · exact absurd (R.zero v hv e) hne
      · omega
    obtain ⟨k, q1, q2, q3, q4, q5, q6, _⟩ := root_par R.tree hv hpos
    exact ⟨k, q1, q2, q3, q4, q5, by omega⟩
  · have := R.ok.val v hv
    omega
theorem refI_zero {n : Int} {es : List Pt} {s : Int} (h : refI n es s = 0) : ∃ m t : Nat, n = m ∧ s = t ∧ netB m es = true ∧ t < m := by
  unfold refI at h
  split at h
  · rename_i hm
    split at h
    · omega
    · rename_i hs
      exact ⟨n.toNat, s.toNat, by omega, by omega, by rw [Int.toNat_of_nonneg (by omega)]; exact hm, by omega⟩
  · omega
set_option maxRecDepth 100000 in
set_option maxHeartbeats 8000000 in
theorem far_no (n : Int) (p : Option Addr) (es : List Pt) (cp : Nat) (s : Int) (w : World) (h : Has w p es) (hr : refI n es s ≠ 0) : Calls Try.prog 4 #[nv n p es.length cp, .int .i64 s] w fun e w' => e = .returned (.bool true) ∧ Below w.heap.size w w' := by
  obtain ⟨W, hW, hb, a0⟩ := one_net w n p es.length cp
  have BR : Hid (∀ V, Has V p es → Calls Try.prog 13 #[nv n p es.length cp, .int .i64 s] V fun e w' => e = .returned (.tuple #[tv nilS nilS nilS nilS, .int .i64 (refI n es s)]) ∧ Below V.heap.size V w') := fun V hV => breadth13no n p es cp s _ V hV rfl hr
  have PA : Hid (∀ V, Has V p es → Calls Try.prog 15 #[nv n p es.length cp] V fun e w' => (∃ a b c, e = .returned (.tuple #[a, b, c])) ∧ Below V.heap.size V w') := by
    intro V hV
    cases hm : netB n es
    · exact (parts15no n p es cp V hV hm).mono (fun e w' ⟨h1, h2⟩ => ⟨⟨_, _, _, h1⟩, h2⟩)
    · obtain ⟨n0, _⟩ := netB_is hm
      obtain ⟨m, rfl⟩ : ∃ m : Nat, n = m := ⟨n.toNat, by omega⟩
      exact (parts15 m p es cp V hV hm).mono (fun e w' ⟨g, h1, _, h2⟩ => ⟨⟨_, _, _, h1⟩, h2⟩)
  have BG := hide (begun9 W)
  have HH := hide (h.later hb)
  have HB := hide hb
  have HA := hide a0
  obtain ⟨r, hre⟩ : ∃ r, refI n es s = r := ⟨_, rfl⟩
  rw [hre] at hr BR
  have t1 : (r == 0) = false := by simp [hr]
  clear h hb a0 hre
  go_enter Try.func4, Try.ntmps4
  go_wp2_with fail
  rw [← hW]
  clear hW
  refine BG.out.mono ?_
  rintro e w1 ⟨rfl, hb1⟩
  have C1 := hide (BR.out w1 (HH.out.later hb1))
  have HH1 := hide (HH.out.later hb1)
  have HB1 := hide (below_step HB.out hb1)
  have HA1 := hide (HA.out.later hb1)
  obtain ⟨q0, q1, _, _⟩ := HA1.out
  clear hb1 BG
  go_wp2_with fail
  refine C1.out.mono ?_
  rintro e w2 ⟨rfl, hb2⟩
  obtain ⟨X, hX⟩ : ∃ X, X = w2.alloc (.cells #[nilS, nilS, nilS, nilS] 35) := ⟨_, rfl⟩
  have hbX : Below w2.heap.size w2 X := by rw [hX]; go_grown
  have x0 : X.cell? ⟨w2.heap.size, 0, none⟩ = some nilS := by rw [hX]; go_cell
  have HH2 := hide ((HH1.out.later hb2).later hbX)
  have HB2 := hide (below_step (below_step HB1.out hb2) hbX)
  have HA2 := hide ((HA1.out.later hb2).later hbX)
  have C2 := hide (PA.out X HH2.out)
  clear q0 q1 C1 hb2 hbX
  obtain ⟨q0, q1, _, _⟩ := HA2.out
  go_upto_region 4 with fail
  rw [← hX]
  clear hX
  go_wp2_with fail
  refine C2.out.mono ?_
  rintro e w3 ⟨⟨a, b, c, rfl⟩, hb3⟩
  have HB3 := hide (below_step HB2.out hb3)
  have x1 := later hb3 x0
  clear hb3 C2 q0 q1 x0
  go_wp2
  go_ret
  exact ⟨rfl, HB3.out⟩
set_option maxRecDepth 100000 in
set_option maxHeartbeats 8000000 in
theorem far_yes (m : Nat) (p : Option Addr) (es : List Pt) (cp s : Nat) (w : World) (h : Has w p es) (hm : netB m es = true) (hs : s < m) : Calls Try.prog 4 #[nv m p es.length cp, .int .i64 s] w fun e w' => e = .returned (.bool true) ∧ Below w.heap.size w w' := by
  obtain ⟨W, hW, hb, a0⟩ := one_net w m p es.length cp
  obtain ⟨n0, n1, hes, hE⟩ := netB_is hm
  obtain ⟨rr, LL⟩ := parts_lab (es := es) hm
  have FO := hide (far_ok hm hs LL)
  have BR : Hid (∀ V, Has V p es → Calls Try.prog 13 #[nv m p es.length cp, .int .i64 s] V fun e w' => ∃ v, e = .returned (.tuple #[v, .int .i64 0]) ∧ TR w' V.heap.size m v (bOne es m s) nilS ∧ Below V.heap.size V w') := fun V hV => breadth13 m p es cp s V hV hm hs
  have PA : Hid (∀ V, Has V p es → Calls Try.prog 15 #[nv m p es.length cp] V fun e w' => ∃ g, e = .returned (.tuple #[.slice (some ⟨g, 0, none⟩) m m, .int .i64 (pcnt (everyN es m m).O (everyN es m m).By (everyN es m m).O.length : Nat), .int .i64 0]) ∧ IRow w' V.heap.size g m (plab (everyN es m m).O (everyN es m m).By m (everyN es m m).O.length) ∧ Below V.heap.size V w') := fun V hV => parts15 m p es cp V hV hm
  generalize bOne es m s = T at *
  generalize plab (everyN es m m).O (everyN es m m).By m (everyN es m m).O.length = C at *
  generalize pcnt (everyN es m m).O (everyN es m m).By (everyN es m m).O.length = kc at *
  have BG := hide (begun9 W)
  have HH := hide (h.later hb)
  have HB := hide hb
  have HA := hide a0
  have HM := hide hm
  have HE := hide hE
  clear h hb a0 LL hm hE
  go_enter Try.func4, Try.ntmps4
  go_wp2_with fail
  rw [← hW]
  clear hW
  refine BG.out.mono ?_
  rintro e w1 ⟨rfl, hb1⟩
  have C1 := hide (BR.out w1 (HH.out.later hb1))
  have HH1 := hide (HH.out.later hb1)
  have HB1 := hide (below_step HB.out hb1)
  have HA1 := hide (HA.out.later hb1)
  obtain ⟨q0, q1, _, _⟩ := HA1.out
  clear hb1 BG
  go_wp2_with fail
  refine C1.out.mono ?_
  rintro e w2 ⟨v, rfl, ⟨vo, gb, gf, rfl, ho, hby, hfa, _⟩, hb2⟩
  obtain ⟨go, co, hvo, _, _, _⟩ := iowns_block ho FO.out.op
  subst hvo
  obtain ⟨X, hX⟩ : ∃ X, X = w2.alloc (.cells #[.slice (some ⟨go, 0, none⟩) T.O.length co, .slice (some ⟨gb, 0, none⟩) m m, .slice (some ⟨gf, 0, none⟩) m m, nilS] 35) := ⟨_, rfl⟩
  have hbX : Below w2.heap.size w2 X := by rw [hX]; go_grown
  have x0 : X.cell? ⟨w2.heap.size, 0, none⟩ = some (.slice (some ⟨go, 0, none⟩) T.O.length co) := by rw [hX]; go_cell
  have x1 : X.cell? ⟨w2.heap.size, 1, none⟩ = some (.slice (some ⟨gb, 0, none⟩) m m) := by rw [hX]; go_cell
  have x2 : X.cell? ⟨w2.heap.size, 2, none⟩ = some (.slice (some ⟨gf, 0, none⟩) m m) := by rw [hX]; go_cell
  have HH2 := hide ((HH1.out.later hb2).later hbX)
  have HB2 := hide (below_step (below_step HB1.out hb2) hbX)
  have HA2 := hide ((HA1.out.later hb2).later hbX)
  have C2 := hide (PA.out X HH2.out)
  have HO2 := hide (IOwns.later ho hbX)
  have HBY2 := hide (hby.later hbX)
  have HFA2 := hide (hfa.later hbX)
  clear q0 q1 C1 hb2 hbX ho hby hfa
  obtain ⟨q0, q1, _, _⟩ := HA2.out
  go_upto_region 4 with fail
  rw [← hX]
  obtain ⟨kt, hkt⟩ : ∃ kt, w2.heap.size = kt := ⟨_, rfl⟩
  rw [hkt] at x0 x1 x2 ⊢
  clear hX hkt
  go_wp2_with fail
  refine C2.out.mono ?_
  rintro e Y ⟨gc, rfl, hgc, hb3⟩
  have HY0 := hide (later hb3 x0)
  have HY1 := hide (later hb3 x1)
  have HY2 := hide (later hb3 x2)
  have HHY := hide (HH2.out.later hb3)
  have HBY := hide (below_step HB2.out hb3)
  have HAY := hide (HA2.out.later hb3)
  have HOY := hide (IOwns.later HO2.out hb3)
  have HBYY := hide (HBY2.out.later hb3)
  have HFAY := hide (HFA2.out.later hb3)
  have HGC := hide hgc
  clear q0 q1 hb3 C2 x0 x1 x2 hgc HO2 HBY2 HFA2 HH2 HB2 HA2
  obtain ⟨q0, q1, _, _⟩ := HAY.out
  have y0 := HY0.out
  have y2 := HY2.out
  have f0 := (HFAY.out.cell hs).1
  rw [FO.out.s0] at f0
  have o0 := IOwns.at_ HOY.out FO.out.op
  rw [FO.out.o0] at o0
  have i1 : (s : Int) < m := by omega
  have i2 : (0 : Int) ≤ s := by omega
  have i3 : (0 : Int) < T.O.length := by have := FO.out.op; omega
  have i4 : 0 < T.O.length := FO.out.op
  go_wp2_with fail
  clear q0 q1 y0 y2 f0 o0 i3 i4
  obtain ⟨kb, hkb⟩ : ∃ kb, w.heap.size = kb := ⟨_, rfl⟩
  rw [hkb] at HAY ⊢
  have HKB := hide hkb
  clear hkb
  go_loopw [10] (fun t wr => ∃ i : Nat, i ≤ es.length ∧ t = .int .i64 i ∧ Hid (Below Y.heap.size Y wr)) (fun t _ => es.length - (intOf t).toNat)
  case atStart => exact ⟨0, by omega, rfl, Below.refl _ _⟩
  case round =>
    obtain ⟨i, hi, rfl, HBr⟩ := hrel
    obtain ⟨q0, q1, _, _⟩ := HAY.out.later HBr.out
    by_cases hlt : i < es.length
    · have hq : ∃ b off, p = some ⟨b, off, none⟩ ∧ Lies Y b off es := by
        rcases HHY.out with h0 | h0
        · subst h0; simp at hlt
        · exact h0
      obtain ⟨b, off, rfl, hLW⟩ := hq
      obtain ⟨c0, c1⟩ := hLW.later HBr.out i hlt
      obtain ⟨e0, e1, e2, e3⟩ := HE.out i hlt
      obtain ⟨t0, t1, t2⟩ := FO.out.edge i hlt
      obtain ⟨x, hx⟩ : ∃ x : Nat, (at' es i).x = x := ⟨(at' es i).x.toNat, by omega⟩
      obtain ⟨y, hy⟩ : ∃ y : Nat, (at' es i).y = y := ⟨(at' es i).y.toNat, by omega⟩
      rw [hx] at c0 e0 e1 t0 t1 t2
      rw [hy] at c1 e2 e3 t0 t1 t2
      rw [Int.toNat_natCast, Int.toNat_natCast] at t0 t1 t2
      have hxm : x < m := by omega
      have hym : y < m := by omega
      have j1 : (i : Int) < es.length := by omega
      have j2 : (0 : Int) ≤ i := by omega
      have j3 : (x : Int) < m := by omega
      have j4 : (0 : Int) ≤ x := by omega
      have j5 : (y : Int) < m := by omega
      have j6 : (0 : Int) ≤ y := by omega
      have y2 := later HBr.out HY2.out
      have f0 := ((HFAY.out.later HBr.out).cell hxm).1
      have f1 := ((HFAY.out.later HBr.out).cell hym).1
      have b0 := FO.out.val x hxm
      have b1 := FO.out.val y hym
      obtain ⟨fx, hfx⟩ : ∃ z, iat T.Fa x = z := ⟨_, rfl⟩
      obtain ⟨fy, hfy⟩ : ∃ z, iat T.Fa y = z := ⟨_, rfl⟩
      rw [hfx] at f0 t0 t1 t2 b0
      rw [hfy] at f1 t0 t1 t2 b1
      clear hx hy hLW hfx hfy
      go_upto_region 12 with fail
      go_quiet (fail)
      have HBq := hide (below_drewN (n := nq) HBr.out)
      clear q0 q1 c0 c1 y2 f0 f1
      by_cases hn : fx < 0
      · have hn2 : fy < 0 := t0.1 hn
        have k1 : fx - fy = 0 := by omega
        have k2 : fy - fx = 0 := by omega
        clear t0
        go_wp2
        go_roundw
        case rel => exact ⟨i + 1, by omega, by go_num, HBq.out⟩
        case measure => simp [intOf]; omega
      · have hn2 : ¬ fy < 0 := fun hh => hn (t0.2 hh)
        clear t0
        go_wp2
        go_roundw
        case rel => exact ⟨i + 1, by omega, by go_num, HBq.out⟩
        case measure => simp [intOf]; omega
    · have hin : i = es.length := by omega
      have j1 : ¬ (i : Int) < es.length := by omega
      clear hin
      go_wp2_with fail
      clear q0 q1
      obtain ⟨Z, hZ⟩ : ∃ Z, Z = wr := ⟨_, rfl⟩
      rw [← hZ] at HBr ⊢
      clear hZ
      go_loopw [13] (fun t wz => ∃ v : Nat, v ≤ m ∧ t = .int .i64 v ∧ Hid (Below Y.heap.size Y wz)) (fun t _ => m - (intOf t).toNat)
      case atStart => exact ⟨0, by omega, rfl, HBr.out⟩
      case round =>
        obtain ⟨v, hv, rfl, HBz⟩ := hrel
        obtain ⟨q0, q1, _, _⟩ := HAY.out.later HBz.out
        by_cases hlt2 : v < m
        · have y1 := later HBz.out HY1.out
          have y2 := later HBz.out HY2.out
          have f0 := ((HFAY.out.later HBz.out).cell hlt2).1
          have f1 := ((HBYY.out.later HBz.out).cell hlt2).1
          have g0 := ((HGC.out.later HBz.out).cell hlt2).1
          have g1 := ((HGC.out.later HBz.out).cell hs).1
          have hcomp := FO.out.comp v hlt2
          have hval := FO.out.val v hlt2
          have HBK : Hid (v ≠ s → 0 ≤ iat T.Fa v → ∃ k : Nat, k < 2 * es.length ∧ iat T.By v = k ∧ toL es k = v ∧ fromL es k = par es T v ∧ par es T v < m ∧ iat T.Fa (par es T v) = iat T.Fa v - 1) := FO.out.back v hlt2
          have HS0 : Hid (v = s → iat T.Fa v = 0) := fun e => by rw [e]; exact FO.out.s0
          have j1 : (v : Int) < m := by omega
          have j2 : (0 : Int) ≤ v := by omega
          obtain ⟨fv, hfv⟩ : ∃ z, iat T.Fa v = z := ⟨_, rfl⟩
          obtain ⟨cv, hcv⟩ : ∃ z, iat C v = z := ⟨_, rfl⟩
          obtain ⟨cs, hcs⟩ : ∃ z, iat C s = z := ⟨_, rfl⟩
          obtain ⟨bv, hbv⟩ : ∃ z, iat T.By v = z := ⟨_, rfl⟩
          rw [hfv] at f0 hcomp hval HBK HS0
          rw [hcv] at g0 hcomp
          rw [hcs] at g1 hcomp
          rw [hbv] at f1 HBK
          clear hfv hcv hcs hbv
          have F0 := cell_regrown f0
          have F1 := cell_regrown f1
          have Y1 := cell_regrown y1
          have Y2 := cell_regrown y2
          have Q0 := cell_regrown q0
          have Q1 := cell_regrown q1
          by_cases hn : fv < 0
          · have hc : cv ≠ cs := hcomp.1 hn
            have c1 : (cv != cs) = true := by simp [hc]
            have hvs : v ≠ s := fun e => by have := HS0.out e; omega
            have c2 : ((v : Int) != (s : Int)) = true := by simp; omega
            have c3 : ¬ 0 ≤ fv := by omega
            clear hcomp hc
            go_upto_region 18 with fail
            go_quiet (fail)
            obtain ⟨U, hU⟩ : ∃ U, U = wr.drewN nq := ⟨_, rfl⟩
            have hbU : Below wr.heap.size wr U := by rw [hU]; exact below_drewN (Below.refl _ _)
            have HBU := hide (below_step HBz.out hbU)
            have f0' := later hbU f0
            have y2' := later hbU y2
            rw [← hU]
            clear hU hbU q0 q1 y1 y2 f0 f1 g0 g1 F0 F1 Y1 Y2 Q0 Q1
            go_upto_region 20 with fail
            go_quiet (fail)
            have HBq := hide (below_drewN (n := nq) HBU.out)
            clear f0' y2'
            go_wp2
            go_roundw
            case rel => exact ⟨v + 1, by omega, by go_num, HBq.out⟩
            case measure => simp [intOf]; omega
          · have hc : cv = cs := by
              by_cases e : cv = cs
              · exact e
              · exact absurd (hcomp.2 e) hn
            have c1 : (cv != cs) = false := by simp [hc]
            clear hcomp hc
            go_upto_region 18 with fail
            go_quiet (fail)
            obtain ⟨U, hU⟩ : ∃ U, U = wr.drewN nq := ⟨_, rfl⟩
            have hbU : Below wr.heap.size wr U := by rw [hU]; exact below_drewN (Below.refl _ _)
            have HBU := hide (below_step HBz.out hbU)
            have f0' := later hbU f0
            have f1' := later hbU f1
            have y1' := later hbU y1
            have y2' := later hbU y2
            have q0' := later hbU q0
            have q1' := later hbU q1
            rw [← hU]
            clear hU hbU q0 q1 y1 y2 f0 f1 g0 g1 F0 F1 Y1 Y2 Q0 Q1
            by_cases hvs : v = s
            · have c2 : ((v : Int) != (s : Int)) = false := by simp [hvs]
              clear hvs
              go_upto_region 20 with fail
              go_quiet (fail)
              have HBq := hide (below_drewN (n := nq) HBU.out)
              clear f0' f1' y1' y2' q0' q1'
              go_wp2
              go_roundw
              case rel => exact ⟨v + 1, by omega, by go_num, HBq.out⟩
              case measure => simp [intOf]; omega
            · have c2 : ((v : Int) != (s : Int)) = true := by simp; omega
              obtain ⟨k, k1, k2, k3, k4, k5, k6⟩ := HBK.out hvs (by omega)
              have g0' := ((HFAY.out.later HBU.out).cell k5).1
              rw [k6] at g0'
              rw [k2] at f1'
              have CT : ∀ dd os, Calls Try.prog 25 #[nv m p es.length cp, .int .i64 k] (grow (redrawn U dd) os) fun e w'' => e = .returned (.int .i64 v) ∧ ∃ p : Regrown, w'' = grow (redrawn U p.d) p.os := fun dd os => Calls.regrown_of (by rw [← k3]; exact to43 m p es cp k _ ((HHY.out.later HBU.out).later (below_regrown U dd os)) k1 (by omega))
              have CF : ∀ dd os, Calls Try.prog 26 #[nv m p es.length cp, .int .i64 k] (grow (redrawn U dd) os) fun e w'' => e = .returned (.int .i64 (par es T v : Nat)) ∧ ∃ p : Regrown, w'' = grow (redrawn U p.d) p.os := fun dd os => Calls.regrown_of (by rw [← k4]; exact from50 m p es cp k _ ((HHY.out.later HBU.out).later (below_regrown U dd os)) k1 (by omega))
              have F0 := cell_regrown f0'
              have F1 := cell_regrown f1'
              have G0 := cell_regrown g0'
              have Y1 := cell_regrown y1'
              have Y2 := cell_regrown y2'
              have Q0 := cell_regrown q0'
              have Q1 := cell_regrown q1'
              obtain ⟨pv, hpv⟩ : ∃ pv, par es T v = pv := ⟨_, rfl⟩
              rw [hpv] at CF G0 k5 g0'
              have j3 : (pv : Int) < m := by omega
              have j4 : (0 : Int) ≤ pv := by omega
              have c3 : (0 : Int) ≤ fv := by omega
              have c4 : decide ((0 : Int) ≤ fv) = true := by simp [c3]
              have c5 : wrap64 (fv - 1) = fv - 1 := by unfold wrap64; omega
              clear hpv k3 k4 k6 HBK hvs
              go_upto_region 20 with fail
              refine wp_region_quiet_below (by kernel_rfl) (by kernel_rfl) ?_
              repeat (go_big_quiet_step (first | with_reducible exact CT _ _ | with_reducible exact CF _ _))
              refine wpQuiet_nil ?_
              intro w3 hw'
              have hb3 : Below U.heap.size U w3 := by
                obtain ⟨⟨dq, osq⟩, hw''⟩ := hw'
                rw [hw'']
                exact below_regrown U dq osq
              have HBq := hide (below_step HBU.out hb3)
              clear hw' hb3 f0' f1' y1' y2' q0' q1' g0' F0 F1 G0 Y1 Y2 Q0 Q1 CT CF
              go_wp2
              go_roundw
              case rel => exact ⟨v + 1, by omega, by go_num, HBq.out⟩
              case measure => simp [intOf]; omega
        · have hvn : v = m := by omega
          have j1 : ¬ (v : Int) < m := by omega
          clear hvn
          go_wp2
          go_ret
          exact ⟨rfl, below_step HBY.out HBz.out⟩
theorem far_walk (n : Int) (p : Option Addr) (es : List Pt) (cp : Nat) (s : Int) (w : World) (h : Has w p es) : Calls Try.prog 4 #[nv n p es.length cp, .int .i64 s] w fun e w' => e = .returned (.bool true) ∧ Below w.heap.size w w' := by
  by_cases hr : refI n es s = 0
  · obtain ⟨m, t, rfl, rfl, hm, hs⟩ := refI_zero hr
    exact far_yes m p es cp t w h hm hs
  · exact far_no n p es cp s w h hr
end Go.Proofs.Ytghffodjffkijaa
