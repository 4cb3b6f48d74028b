/- WalkJoins: its walk. -/
import Derived.Test.YtghffodjffkijaaJ2
namespace Go.Proofs.Ytghffodjffkijaa
open Go.RowKit Go.Sort
open Go

set_option maxRecDepth 100000 in
set_option maxHeartbeats 8000000 in
theorem joins_yes (m : Nat) (p : Option Addr) (es : List Pt) (cp u v : Nat) (w : World) (h : Has w p es) (hnil : p = none → cp = 0) (hm : netB m es = true) (hl : es.length ≤ 300) (hl2 : m ≤ 300) (hu : u < m) (hv : v < m) : Calls Try.prog 8 #[nv m p es.length cp, .int .i64 u, .int .i64 v] w fun e w' => e = .returned (.bool true) ∧ Below w.heap.size w w' := by
  obtain ⟨W, hW, hb, a0⟩ := one_net w m p es.length cp
  have hm' := netB_more hm hl hu hv
  obtain ⟨r, L⟩ := parts_lab (es := es) hm
  obtain ⟨r', L'⟩ := parts_lab (es := es ++ [(⟨u, v⟩ : Pt)]) hm'
  have JO := hide (joins hm hm' L L' hu hv)
  have SZ : Hid (∀ s, s < m → (bOne es m s).O.length = szC (plab (everyN es m m).O (everyN es m m).By m (everyN es m m).O.length) m s ∧ (dOneSt es m s).O.length = szC (plab (everyN es m m).O (everyN es m m).By m (everyN es m m).O.length) m s) := fun s hs => sizes hm L hs
  have hlt : lightB m es = true := by unfold lightB; simp; omega
  have LI : Hid (∀ V, Has V p es → Calls Try.prog 10 #[nv m p es.length cp] V fun e w' => e = .returned (.bool true) ∧ Below V.heap.size V w') := fun V hV => by have := light10 m p es cp V hV; rw [hlt] at this; exact this
  have MY : Hid (∀ V, Has V p es → Calls Try.prog 12 #[nv m p es.length cp] V fun e w' => e = .returned (.bool true) ∧ Below V.heap.size V w') := fun V hV => by have := may12 m p es cp V hV; rw [hm] at this; exact this
  have PA : Hid (∀ V, Has V p es → Calls Try.prog 15 #[nv m p es.length cp] V fun e w' => ∃ g, e = .returned (.tuple #[.slice (some ⟨g, 0, none⟩) m m, .int .i64 (pcnt (everyN es m m).O (everyN es m m).By (everyN es m m).O.length : Nat), .int .i64 0]) ∧ IRow w' V.heap.size g m (plab (everyN es m m).O (everyN es m m).By m (everyN es m m).O.length) ∧ Below V.heap.size V w') := fun V hV => parts15 m p es cp V hV hm
  have PB : Hid (∀ V q c, Has V q (es ++ [(⟨u, v⟩ : Pt)]) → Calls Try.prog 15 #[nv m q (es ++ [(⟨u, v⟩ : Pt)]).length c] V fun e w' => ∃ g, e = .returned (.tuple #[.slice (some ⟨g, 0, none⟩) m m, .int .i64 (pcnt (everyN (es ++ [(⟨u, v⟩ : Pt)]) m m).O (everyN (es ++ [(⟨u, v⟩ : Pt)]) m m).By (everyN (es ++ [(⟨u, v⟩ : Pt)]) m m).O.length : Nat), .int .i64 0]) ∧ Below V.heap.size V w') := fun V q c hV => (parts15 m q (es ++ [(⟨u, v⟩ : Pt)]) c V hV hm').mono (fun e w' ⟨g, h1, _, h2⟩ => ⟨g, h1, h2⟩)
  have CP : Hid (∀ V, Has V p es → Calls Try.prog 33 #[nv m p es.length cp] V fun e w' => ∃ q c, e = .returned (nv m q es.length c) ∧ Owns w' V.heap.size (.slice q es.length c) es ∧ Below V.heap.size V w') := fun V hV => copy33 m p es cp V hnil (by omega) hV
  have BB : Hid (∀ V s, s < m → Has V p es → Calls Try.prog 13 #[nv m p es.length cp, .int .i64 (s : Nat)] V fun e w' => ∃ vv, e = .returned (.tuple #[vv, .int .i64 0]) ∧ TR w' V.heap.size m vv (bOne es m s) nilS ∧ Below V.heap.size V w') := fun V s hs hV => breadth13 m p es cp s V hV hm hs
  have DD : Hid (∀ V s, s < m → Has V p es → Calls Try.prog 14 #[nv m p es.length cp, .int .i64 (s : Nat)] V fun e w' => ∃ vv gl, e = .returned (.tuple #[vv, .int .i64 0]) ∧ TR w' V.heap.size m vv (dOneSt es m s) (.slice (some ⟨gl, 0, none⟩) m m) ∧ IRow w' V.heap.size gl m (lwN es (dOneSt es m s) m (dOneSt es m s).O.length) ∧ Below V.heap.size V w') := fun V s hs hV => depth14all m p es cp s V hV hm hs
  generalize plab (everyN es m m).O (everyN es m m).By m (everyN es m m).O.length = C at *
  generalize pcnt (everyN es m m).O (everyN es m m).By (everyN es m m).O.length = k at *
  generalize pcnt (everyN (es ++ [(⟨u, v⟩ : Pt)]) m m).O (everyN (es ++ [(⟨u, v⟩ : Pt)]) m m).By (everyN (es ++ [(⟨u, v⟩ : Pt)]) m m).O.length = k' at *
  have HL := hide L
  have hkm : k ≤ m := by have := (count_end L).2; have := cnt_le (p := fun j => decide (r j < m)) (n := k); rcases Nat.eq_zero_or_pos k with h0 | h0; omega; have h1 : ∀ j, j < k → j ≤ r j := by { intro j; induction j with | zero => intro _; omega | succ j ih => intro hj; have := L.inc j (j + 1) (by omega) hj; have := ih (by omega); omega }; have := h1 (k - 1) (by omega); have := (L.root (k - 1) (by omega)).1; omega
  have BG := hide (begun9 W)
  have HH := hide (h.later hb)
  have HB := hide hb
  have HA := hide a0
  have i1 : ¬ (u : Int) < 0 := by omega
  have i2 : ¬ (v : Int) < 0 := by omega
  have i3 : ¬ (m : Int) ≤ u := by omega
  have i4 : ¬ (m : Int) ≤ v := by omega
  clear h hb a0 L L' hm hm' hlt hnil
  go_enter Try.func8, Try.ntmps8
  go_wp2_with fail
  rw [← hW]
  clear hW
  refine BG.out.mono ?_
  rintro e w1 ⟨rfl, hb1⟩
  have C1 := hide (LI.out w1 (HH.out.later hb1))
  have HH1 := hide (HH.out.later hb1)
  have HB1 := hide (below_step HB.out hb1)
  have HA1 := hide (HA.out.later hb1)
  obtain ⟨q0, q1, _, _⟩ := HA1.out
  clear hb1 BG
  go_wp2_with fail
  refine C1.out.mono ?_
  rintro e w2 ⟨rfl, hb2⟩
  have C2 := hide (MY.out w2 (HH1.out.later hb2))
  have HH2 := hide (HH1.out.later hb2)
  have HB2 := hide (below_step HB1.out hb2)
  have HA2 := hide (HA1.out.later hb2)
  clear q0 q1 C1 hb2
  obtain ⟨q0, q1, _, _⟩ := HA2.out
  go_wp2_with fail
  refine C2.out.mono ?_
  rintro e w3 ⟨rfl, hb3⟩
  have C3 := hide (PA.out w3 (HH2.out.later hb3))
  have HH3 := hide (HH2.out.later hb3)
  have HB3 := hide (below_step HB2.out hb3)
  have HA3 := hide (HA2.out.later hb3)
  clear q0 q1 C2 hb3
  obtain ⟨q0, q1, _, _⟩ := HA3.out
  go_wp2_with fail
  refine C3.out.mono ?_
  rintro e X ⟨gc, rfl, hgc, hbX⟩
  have HHX := hide (HH3.out.later hbX)
  have HBX := hide (below_step HB3.out hbX)
  have HAX := hide (HA3.out.later hbX)
  have HCX := hide hgc
  have C4 := hide (CP.out X HHX.out)
  clear q0 q1 C3 hbX hgc HH HH1 HH2 HH3 HB HB1 HB2 HB3 HA HA1 HA2 HA3
  obtain ⟨q0, q1, _, _⟩ := HAX.out
  go_wp2_with fail
  refine C4.out.mono ?_
  rintro e w4 ⟨qh, ch, rfl, hoh, hb4⟩
  obtain ⟨X4, hX4⟩ : ∃ X4, X4 = w4.alloc (nbx m qh es.length ch) := ⟨_, rfl⟩
  have hbX4 : Below w4.heap.size w4 X4 := by rw [hX4]; go_grown
  have x4 : NOwn X4 w4.heap.size m qh es.length ch := by rw [hX4]; exact ⟨by unfold nbx; go_cell, by unfold nbx; go_cell, by unfold nbx; go_cell, by unfold nbx; go_cell⟩
  have HB4 := hide (below_step hb4 hbX4)
  have hsz4 : X4.heap.size = w4.heap.size + 1 := by rw [hX4]; simp
  have hXs := hb4.size
  obtain ⟨v', D, e1, o1, gr1, hbD⟩ := app1 (hoh.later hbX4) (u : Int) (v : Int) (by omega : X.heap.size ≤ X4.heap.size) (by omega)
  obtain ⟨q', c', rfl, hH', _, _, _⟩ := o1.form
  have hob : (Value.slice qh es.length ch).ownBlock ≠ some w4.heap.size := fun e => by
    have := (World.ownsRow.lt hoh w4.heap.size e).2
    omega
  have g0 := grown_cell gr1 (a := ⟨w4.heap.size, 0, none⟩) (v := .int .i64 m) (later (by go_grown) x4.1) hob
  have g1 := grown_cell gr1 (a := ⟨w4.heap.size, 1, none⟩) (v := .slice qh es.length ch) (later (by go_grown) x4.2.1) hob
  have hk4 : X4.heap[w4.heap.size]? = some (nbx m qh es.length ch) := by rw [hX4]; exact World.alloc_heap_new w4 _
  have hkD : D.heap[w4.heap.size]? = some (nbx m qh es.length ch) := by
    rw [gr1.block w4.heap.size (by simp; omega) (fun e => hob e.symm)]
    exact (Below.heap_alloc X4 _ _ (by omega)).trans hk4
  have hap : (Value.slice q' (es ++ [(⟨u, v⟩ : Pt)]).length c').ownBlock ≠ some w4.heap.size := row_apart hkD o1 (by decide)
  have f0 : D.frozen? ⟨w4.heap.size, 0, none⟩ = false := g0.2.trans ((laterF (by go_grown) x4.1 x4.2.2.1))
  have f1 : D.frozen? ⟨w4.heap.size, 1, none⟩ = false := g1.2.trans ((laterF (by go_grown) x4.2.1 x4.2.2.2))
  have g0' := g0.1
  have g1' := g1.1
  obtain ⟨y0, y1, y2, y3⟩ := x4
  have hkx : w4.heap.size < X4.heap.size := by omega
  have hkx2 : w4.heap.size ≠ X4.heap.size := by omega
  have HO1 := hide o1
  have HBD := hide (Below.trans HB4.out hbD)
  have HAP := hide hap
  have HH' := hide hH'
  have HKX : Hid (X.heap.size ≤ w4.heap.size) := hXs
  clear hsz4 hXs hk4 hkD hap gr1 hbD hob g0 g1 o1 hoh hb4 hbX4 hH' C4 q0 q1
  go_upto_region 7 with fail
  rw [← hX4]
  clear hX4
  go_upto_region 8 with (at_builtin; refine wpList_run_append rfl (.tmp 61) (.tmp 65) 22 rfl 22 rfl _ _ _ D rfl rfl e1 ?_)
  obtain ⟨E, hE⟩ : ∃ E, E = D.setCell ⟨w4.heap.size, 1, none⟩ (.slice q' (es.length + 1) c') := ⟨_, rfl⟩
  have z0 : E.cell? ⟨w4.heap.size, 0, none⟩ = some (.int .i64 m) := by rw [hE, World.cell?_setCell_other _ _ _ _ (by simp)]; exact g0'
  have z1 : E.cell? ⟨w4.heap.size, 1, none⟩ = some (.slice q' (es.length + 1) c') := by rw [hE]; exact World.cell?_setCell_same' _ _ _ (by rw [g1']; rfl)
  have oE : Owns E X.heap.size (.slice q' (es ++ [(⟨u, v⟩ : Pt)]).length c') (es ++ [⟨u, v⟩]) := by rw [hE]; exact ownsRow_setCell_other HO1.out HAP.out _
  have hHE : Has E q' (es ++ [⟨u, v⟩]) := by
    obtain ⟨a1, a2, a3, a4, _⟩ := oE.form
    have : q' = a1 := by injection a3
    rw [this]
    exact a4
  have C5 := hide (PB.out E q' c' hHE)
  have HLE : Hid ((es ++ [(⟨u, v⟩ : Pt)]).length = es.length + 1) := by show _ = _; simp
  rw [HLE.out] at C5
  have HBE : Hid (Below X.heap.size X E) := by show Below _ _ _; rw [hE]; exact HBD.out.setCell (p := ⟨w4.heap.size, 1, none⟩) HKX.out _
  rw [← hE]
  clear hE g0' g1' f0 f1 y0 y1 y2 y3 hkx hkx2 oE hHE HO1 HAP HH' HBD HB4 e1
  go_wp2_with fail
  refine C5.out.mono ?_
  rintro e F ⟨g5, rfl, hb5⟩
  have HBF := hide (below_step HBE.out hb5)
  clear hb5 C5 z0 z1 HBE
  obtain ⟨kb, hkb⟩ : ∃ kb, w.heap.size = kb := ⟨_, rfl⟩
  have c0 := ((HCX.out.later HBF.out).cell hu).1
  have c1 := ((HCX.out.later HBF.out).cell hv).1
  have j1 : (u : Int) < m := by omega
  have j2 : (0 : Int) ≤ u := by omega
  have j3 : (v : Int) < m := by omega
  have j4 : (0 : Int) ≤ v := by omega
  have JA := JO.out.1
  have JB := JO.out.2
  obtain ⟨cu, hcu⟩ : ∃ z, iat C u = z := ⟨_, rfl⟩
  obtain ⟨cv, hcv⟩ : ∃ z, iat C v = z := ⟨_, rfl⟩
  rw [hcu, hcv] at JA JB
  rw [hcu] at c0
  rw [hcv] at c1
  have hk1 : (k : Int) ≤ 300 := by omega
  have w1' : wrap64 ((k : Int) - 1) = k - 1 := by unfold wrap64; omega
  clear hcu hcv
  go_upto_region 9 with fail
  go_cut [3, 104] (fun t3 t104 wx => t3 = .pointer (some ⟨kb, 0, none⟩) ∧ t104 = .bool false ∧ Hid (Below X.heap.size X wx))
  case first =>
    by_cases hc : cu = cv
    · have d1 : (cu == cv) = true := by simp [hc]
      have d2 : (cu != cv) = false := by simp [hc]
      have d3 : k' = k := JA hc
      have d4 : ((k' : Int) != (k : Int)) = false := by simp [d3]
      clear JA JB hc d3
      go_quiet (fail)
      have HBq := hide (below_drewN (n := nq) HBF.out)
      clear c0 c1
      go_wp2_with fail
      go_meet
      exact ⟨rfl, rfl, HBq.out⟩
    · have d1 : (cu == cv) = false := by simp [hc]
      have d2 : (cu != cv) = true := by simp [hc]
      have d3 : (k' : Int) = k - 1 := JB hc
      have d4 : ((k' : Int) != (k : Int) - 1) = false := by simp [d3]
      clear JA JB hc d3
      go_quiet (fail)
      have HBq := hide (below_drewN (n := nq) HBF.out)
      clear c0 c1
      go_wp2_with fail
      go_meet
      exact ⟨rfl, rfl, HBq.out⟩
  case rest =>
    obtain ⟨rfl, rfl, HBc⟩ := hcut
    rw [hkb] at HAX
    have HKB := hide hkb
    clear hkb c0 c1 JA JB HBF
    go_wp2_with fail
    obtain ⟨Z, hZ⟩ : ∃ Z, Z = wc := ⟨_, rfl⟩
    rw [← hZ] at HBc ⊢
    clear hZ
    have HBG0 := hide (count_begin (C := C) (r := r) (n := m) (k := k))
    go_loopw [8, 14, 15] (fun t8 t14 t15 wr => ∃ s : Nat, s ≤ m ∧ t8 = .int .i64 ((k : Int) - (begunN r k s : Nat)) ∧ t14 = .int .i64 (belowN C r m s : Nat) ∧ t15 = .int .i64 s ∧ Hid (Below X.heap.size X wr)) (fun _ _ t15 _ => m - (intOf t15).toNat)
    case atStart => exact ⟨0, by omega, by rw [HBG0.out.2]; simp, by rw [HBG0.out.1]; rfl, rfl, HBc.out⟩
    case round =>
      obtain ⟨s, hs, rfl, rfl, rfl, HBr⟩ := hrel
      obtain ⟨q0, q1, _, _⟩ := HAX.out.later HBr.out
      by_cases hlt : s < m
      · have s1 : (s : Int) < m := by omega
        have s2 : (0 : Int) ≤ s := by omega
        obtain ⟨nb, hnb⟩ : ∃ z, begunN r k s = z := ⟨_, rfl⟩
        obtain ⟨nf, hnf⟩ : ∃ z, belowN C r m s = z := ⟨_, rfl⟩
        have HNB := hide hnb
        have HNF := hide hnf
        have hnbk : nb ≤ k := by rw [← hnb]; exact cnt_le
        have hnfm : nf ≤ m := by rw [← hnf]; exact cnt_le
        rw [hnb, hnf]
        clear hnb hnf
        go_wp2_with fail
        clear q0 q1
        obtain ⟨Y, hY⟩ : ∃ Y, Y = wr := ⟨_, rfl⟩
        rw [← hY] at HBr ⊢
        clear hY
        go_loopw [16, 17] (fun t16 t17 wz => ∃ q : Nat, q ≤ s ∧ t16 = .bool (fsB C s q) ∧ t17 = .int .i64 q ∧ Hid (Below X.heap.size X wz)) (fun _ t17 _ => s - (intOf t17).toNat)
        case atStart => exact ⟨0, by omega, rfl, rfl, HBr.out⟩
        case round =>
          obtain ⟨q, hq, rfl, rfl, HBz⟩ := hrel
          by_cases hqs : q < s
          · have g0 := ((HCX.out.later HBz.out).cell (j := q) (by omega)).1
            have g1 := ((HCX.out.later HBz.out).cell hlt).1
            have HST : Hid (fsB C s (q + 1) = (fsB C s q && decide (iat C q ≠ iat C s))) := rfl
            obtain ⟨cq, hcq⟩ : ∃ z, iat C q = z := ⟨_, rfl⟩
            obtain ⟨cs, hcs⟩ : ∃ z, iat C s = z := ⟨_, rfl⟩
            rw [hcq] at g0 HST
            rw [hcs] at g1 HST
            have p1 : (q : Int) < m := by omega
            have p2 : (0 : Int) ≤ q := by omega
            have p3 : (q : Int) < s := by omega
            obtain ⟨fb, hfb⟩ : ∃ b, fsB C s q = b := ⟨_, rfl⟩
            rw [hfb] at HST ⊢
            clear hcq hcs hfb
            go_upto_region 19 with fail
            cases fb
            · go_quiet (fail)
              have HBq := hide (below_drewN (n := nq) HBz.out)
              clear g0 g1
              go_wp2
              go_roundw
              case rel => exact ⟨q + 1, by omega, by rw [HST.out]; simp, by go_num, HBq.out⟩
              case measure => simp [intOf]; omega
            · by_cases hc : cq = cs
              · have d2 : (cq != cs) = false := by simp [hc]
                have HE2 : Hid (decide (cq ≠ cs) = false) := by show _ = _; simp [hc]
                clear hc
                go_quiet (fail)
                have HBq := hide (below_drewN (n := nq) HBz.out)
                clear g0 g1
                go_wp2
                go_roundw
                case rel => exact ⟨q + 1, by omega, by rw [HST.out, HE2.out]; rfl, by go_num, HBq.out⟩
                case measure => simp [intOf]; omega
              · have d2 : (cq != cs) = true := by simp [hc]
                have HE2 : Hid (decide (cq ≠ cs) = true) := by show _ = _; simp [hc]
                clear hc
                go_quiet (fail)
                have HBq := hide (below_drewN (n := nq) HBz.out)
                clear g0 g1
                go_wp2
                go_roundw
                case rel => exact ⟨q + 1, by omega, by rw [HST.out, HE2.out]; rfl, by go_num, HBq.out⟩
                case measure => simp [intOf]; omega
          · have hqe : q = s := by omega
            have p3 : ¬ (q : Int) < s := by omega
            subst hqe
            have p4 : ¬ (q : Int) < q := by omega
            clear p3 hqs
            cases hfb : fsB C q q
            · have HCN := hide (count_not HL.out hlt (fun hh => by rw [(fsB_iff C q q).2 hh] at hfb; simp at hfb))
              rw [HNB.out, HNF.out] at HCN
              clear hfb
              go_wp2
              go_roundw
              case rel => exact ⟨q + 1, by omega, by rw [HCN.out.2], by rw [HCN.out.1], by go_num, HBz.out⟩
              case measure => simp [intOf]; omega
            · have HCF := hide (count_first HL.out hlt ((fsB_iff C q q).1 hfb))
              rw [HNB.out, HNF.out] at HCF
              clear hfb
              obtain ⟨q0, q1, _, _⟩ := HAX.out.later HBz.out
              have B1 := hide (BB.out wr q hlt (HHX.out.later HBz.out))
              obtain ⟨SZ1, SZ2⟩ := SZ.out q hlt
              obtain ⟨sz, hsz⟩ : ∃ z, szC C m q = z := ⟨_, rfl⟩
              have hszm : sz ≤ m := by rw [← hsz]; exact cnt_le
              rw [hsz] at SZ1 SZ2 HCF
              have HSZ1 := hide SZ1
              have HSZ2 := hide SZ2
              clear SZ1 SZ2 hsz
              go_wp2_with fail
              refine B1.out.mono ?_
              rintro e v1 ⟨vv, rfl, ⟨vo, gb, gf, rfl, ho, _⟩, hb1⟩
              obtain ⟨po, co, rfl, _⟩ := ho.form
              rw [HSZ1.out]
              obtain ⟨Y1, hY1⟩ : ∃ Y1, Y1 = v1.alloc (.cells #[.slice po sz co, .slice (some ⟨gb, 0, none⟩) m m, .slice (some ⟨gf, 0, none⟩) m m, nilS] 35) := ⟨_, rfl⟩
              have hbY1 : Below v1.heap.size v1 Y1 := by rw [hY1]; go_grown
              have y0 : Y1.cell? ⟨v1.heap.size, 0, none⟩ = some (.slice po sz co) := by rw [hY1]; go_cell
              have HBY := hide (below_step (below_step HBz.out hb1) hbY1)
              have D1 := hide (DD.out Y1 q hlt (HHX.out.later HBY.out))
              have HY0 := hide y0
              clear q0 q1 B1 ho hb1 hbY1 y0
              obtain ⟨q0, q1, _, _⟩ := HAX.out.later HBY.out
              go_upto_region 22 with fail
              rw [← hY1]
              obtain ⟨ka, hka⟩ : ∃ z, v1.heap.size = z := ⟨_, rfl⟩
              rw [hka] at HY0 ⊢
              clear hY1 hka
              go_wp2_with fail
              refine D1.out.mono ?_
              rintro e v2 ⟨vv, gl, rfl, ⟨vo, gb2, gf2, rfl, ho, _⟩, _, hb2⟩
              obtain ⟨po2, co2, rfl, _⟩ := ho.form
              rw [HSZ2.out]
              obtain ⟨Y2, hY2⟩ : ∃ Y2, Y2 = v2.alloc (.cells #[.slice po2 sz co2, .slice (some ⟨gb2, 0, none⟩) m m, .slice (some ⟨gf2, 0, none⟩) m m, .slice (some ⟨gl, 0, none⟩) m m] 35) := ⟨_, rfl⟩
              have hbY2 : Below v2.heap.size v2 Y2 := by rw [hY2]; go_grown
              have y2 : Y2.cell? ⟨v2.heap.size, 0, none⟩ = some (.slice po2 sz co2) := by rw [hY2]; go_cell
              have y0 := later hbY2 (later hb2 HY0.out)
              have HBY2 := hide (below_step (below_step HBY.out hb2) hbY2)
              clear q0 q1 D1 ho hb2 hbY2
              have nn0 : ((sz : Int) != (sz : Int)) = false := by simp
              go_upto_region 23 with fail
              rw [← hY2]
              obtain ⟨kd, hkd⟩ : ∃ z, v2.heap.size = z := ⟨_, rfl⟩
              rw [hkd] at y2 ⊢
              clear hY2 hkd
              go_wp2
              go_roundw
              case rel => exact ⟨q + 1, by omega, by rw [HCF.out.2]; go_num, by rw [HCF.out.1]; go_num, by go_num, HBY2.out⟩
              case measure => simp [intOf]; omega
      · have hse : s = m := by omega
        have p3 : ¬ (s : Int) < m := by omega
        have HCE := hide (count_end HL.out)
        rw [hse, HCE.out.1, HCE.out.2]
        have p4 : (k : Int) - (k : Nat) = 0 := by omega
        rw [p4]
        have p5 : ((m : Int) == (m : Int)) = true := by simp
        have p6 : ¬ (m : Int) < m := by omega
        clear hse p3 p4
        go_wp2
        go_ret
        exact ⟨rfl, by rw [← HKB.out] at *; exact below_step HBX.out HBr.out⟩
theorem joins_walk (n : Int) (p : Option Addr) (es : List Pt) (cp : Nat) (u v : Int) (w : World) (hnil : p = none → cp = 0) (h : Has w p es) : Calls Try.prog 8 #[nv n p es.length cp, .int .i64 u, .int .i64 v] w fun e w' => e = .returned (.bool true) ∧ Below w.heap.size w w' := by
  by_cases hno : lightB n es = false ∨ netB n es = false ∨ u < 0 ∨ v < 0 ∨ n ≤ u ∨ n ≤ v
  · exact joins_no n p es cp u v w h hno
  · have hli : lightB n es = true := by cases hb : lightB n es with | true => rfl | false => exact absurd (Or.inl hb) hno
    have hm : netB n es = true := by cases hb : netB n es with | true => rfl | false => exact absurd (Or.inr (Or.inl hb)) hno
    obtain ⟨n0, _⟩ := netB_is hm
    have hb : ¬ u < 0 ∧ ¬ v < 0 ∧ ¬ n ≤ u ∧ ¬ n ≤ v := ⟨fun h => hno (Or.inr (Or.inr (Or.inl h))), fun h => hno (Or.inr (Or.inr (Or.inr (Or.inl h)))), fun h => hno (Or.inr (Or.inr (Or.inr (Or.inr (Or.inl h))))), fun h => hno (Or.inr (Or.inr (Or.inr (Or.inr (Or.inr h)))))⟩
    obtain ⟨m, rfl⟩ : ∃ m : Nat, n = m := ⟨n.toNat, by omega⟩
    obtain ⟨a, rfl⟩ : ∃ a : Nat, u = a := ⟨u.toNat, by omega⟩
    obtain ⟨b, rfl⟩ : ∃ b : Nat, v = b := ⟨v.toNat, by omega⟩
    unfold lightB at hli
    rw [hm] at hli
    simp at hli
    exact joins_yes m p es cp a b w h hnil hm (by omega) (by omega) (by omega) (by omega)
end Go.Proofs.Ytghffodjffkijaa
