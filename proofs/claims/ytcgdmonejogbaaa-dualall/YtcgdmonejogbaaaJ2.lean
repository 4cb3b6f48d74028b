/- The document's Far: distances over faces from one face. -/
import Derived.Test.YtcgdmonejogbaaaJ1
import Derived.Test.YtcgdmonejogbaaaU3
import Derived.Lib.QuietBelow
import Derived.BigQuiet
namespace Go.Proofs.Ytcgdmonejogbaaa
open Go.RowKit Go.Sort
open Go
theorem srt_pre (O : List Int) (x h : Nat) : ∀ d, ∃ r, srt O x (h + d) = srt O x h ++ r
  | 0 => ⟨[], by simp⟩
  | d + 1 => by
    obtain ⟨r, hr⟩ := srt_pre O x h d
    exact ⟨r ++ (if iat O (h + d) = (x : Int) then [((h + d : Nat) : Int)] else []), by show srt O x (h + d) ++ _ = _; rw [hr, List.append_assoc]; rfl⟩
theorem dIn_pre (O : List Int) (l r : List Int) (x : Nat) (s : List Int × List Int) : ∀ j, j ≤ l.length → dIn O (l ++ r) x j s = dIn O l x j s
  | 0, _ => rfl
  | j + 1, h => by
    have e : iat (l ++ r) j = iat l j := by
      unfold iat
      rw [List.getD_eq_getElem?_getD, List.getD_eq_getElem?_getD, List.getElem?_append_left (by omega)]
    simp only [dIn, dIn_pre O l r x s j (by omega), e]
theorem rIn_at {O : List Int} {x h m : Nat} (hh : h ≤ m) (s : List Int × List Int) : rIn O x h s = dIn O (srt O x m) x (srt O x h).length s ∧ (srt O x h).length ≤ (srt O x m).length := by
  obtain ⟨r, hr⟩ := srt_pre O x h (m - h)
  rw [show h + (m - h) = m by omega] at hr
  rw [rIn_is, hr, dIn_pre O _ r x s _ (Nat.le_refl _), List.length_append]
  exact ⟨rfl, by omega⟩
theorem neg_all {l : List Int} {n : Nat} (hl : l.length = n) (h : ∀ j, j < n → iat l j = -1) : l = List.replicate n (-1) := by
  apply iat_ext
  · rw [hl, List.length_replicate]
  · intro j hj
    rw [h j (by omega)]
    unfold iat
    rw [List.getD_eq_getElem?_getD, List.getElem?_replicate, if_pos (by omega)]
    rfl
set_option maxRecDepth 100000 in
set_option maxHeartbeats 32000000 in
theorem far69 (n : Int) (p : Option Addr) (es : List Pt) (cp : Nat) (q : Option Addr) (rs : List (List Int)) (cq gt too : Nat) (w : World) (hr : RHas w q rs) (h0 : rotI n es rs = 0) (hto : too < (facesL es rs).length) (ht : w.cell? ⟨gt, 0, none⟩ = some (.int .i64 too)) :
    Calls Try.prog 69 #[nv n p es.length cp, .slice q rs.length cq, .slice (some ⟨gt, 0, none⟩) 1 1] w fun e w' => ∃ g, e = .returned (.slice (some ⟨g, 0, none⟩) (facesL es rs).length (facesL es rs).length) ∧ IRow w' w.heap.size g (facesL es rs).length (dist (facesL es rs) (ofL es rs) too) ∧ Below w.heap.size w w' := by
  obtain ⟨W, hW, hb0, a0⟩ := one_net w n p es.length cp
  obtain ⟨n0, n1, hes, _⟩ := netB_is (rot_is h0).1
  have OF := hide (of46 n p es cp q rs cq W (hr.later hb0) h0)
  have FC : Hid (∀ V, Below W.heap.size W V → Calls Try.prog 36 #[nv n p es.length cp, .slice q rs.length cq] V fun e w' => ∃ p1 c1 rv, e = .returned (.slice p1 (facesL es rs).length c1) ∧ FB w' V.heap.size (.slice p1 (facesL es rs).length c1) (facesL es rs) rv ∧ Below V.heap.size V w') := fun V hV => faces45 n p es cp q rs cq V ((hr.later hb0).later hV) h0
  have hfl := facesL_le h0
  have fc := fc_of (rot_is h0).2.2
  have hol : (ofL es rs).length = 2 * es.length := (edge_ok (rot_is h0).2.2).len
  have HUQ : Hid (dist (FS (facesL es rs).length (ofL es rs)) (ofL es rs) too = dist (facesL es rs) (ofL es rs) too) := dist_uniq fc (fc_sorted fc) (FS_length _ _) hto
  have HFS := hide (fc_sorted fc)
  obtain ⟨i0, hi0, hz0, hz1, hz2⟩ := info_parts info3
  have HB := hide hb0
  have HA := hide a0
  have HT := hide (later hb0 ht)
  obtain ⟨F, hF⟩ : ∃ F, facesL es rs = F := ⟨_, rfl⟩
  obtain ⟨O, hO⟩ : ∃ O, ofL es rs = O := ⟨_, rfl⟩
  obtain ⟨m, hm⟩ : ∃ m, 2 * es.length = m := ⟨_, rfl⟩
  obtain ⟨N, hN⟩ : ∃ N, F.length = N := ⟨_, rfl⟩
  rw [hF] at FC HUQ HFS hfl hto ⊢
  rw [hO] at OF HUQ HFS hol
  rw [hO]
  rw [hm] at OF hol
  rw [hN] at FC HUQ HFS hfl hto ⊢
  rw [← HUQ.out]
  have hm2 : m ≤ 90000 := by omega
  clear hr hb0 a0 h0 fc hF hO hm HUQ ht
  have HD : Hid (dist (FS N O) O too = (dOut (FS N O) O (N + 1) 0 ((List.replicate N (-1)).set too 0, [(too : Int)])).1) := by
    show _ = _
    unfold dist
    rw [FS_length]
  obtain ⟨R, hR⟩ : ∃ R, dOut (FS N O) O (N + 1) 0 ((List.replicate N (-1)).set too 0, [(too : Int)]) = R := ⟨_, rfl⟩
  rw [hR] at HD
  have HRR := hide hR
  have HOK : Hid (Dok (FS N O) ((List.replicate N (-1)).set too 0, [(too : Int)])) := by
    have := dok_start (F := FS N O) (too := too) (by rw [FS_length]; exact hto)
    rw [FS_length] at this
    exact this
  clear hR
  go_enter Try.func69, Try.ntmps69
  go_wp2_with fail
  rw [← hW]
  obtain ⟨kg, hkg⟩ : ∃ k, w.heap.size = k := ⟨_, rfl⟩
  have HKG := hide hkg
  rw [hkg] at HA
  try rw [hkg]
  clear hW hkg
  refine OF.out.mono ?_
  rintro e w1 ⟨go, rfl, hro, hb1⟩
  have HB1 := hide hb1
  have HO1 := hide hro
  obtain ⟨g0, g1, _, _⟩ := HA.out.later hb1
  clear hb1 hro OF
  go_wp2_with fail
  refine Calls.mono (FC.out _ HB1.out) ?_
  rintro e w2 ⟨p1, c1, rv1, rfl, _, hb2⟩
  have HB2 := hide (below_step HB1.out hb2)
  have HO2 := hide (HO1.out.later hb2)
  clear hb2 FC g0 g1
  go_wp2_with (refine wpList_make_full _ rfl (.tmp 23) (.tmp 23) 44 rfl w2.heap.size 3 i0 (.int .i64 0) 1 Try.underlying44 hi0 hz0 hz1 .i64 .i64 _ _ N rfl rfl rfl rfl ?c1 ?c2 ?c3 ?_)
  all_goals first | (intro w3 hown hgrow) | (case c3 => exact Nat.le_refl _) | (case c2 => unfold maxLen; omega) | (case c1 => first | omega | (rw [hz2]; omega))
  obtain ⟨g, hg, hG0⟩ : ∃ g, w2.heap.size = g ∧ IRow w3 w2.heap.size g N (List.replicate N 0) := ⟨_, rfl, irow_made hown⟩
  have HG0 := hide hG0
  have HTW := hide (later HB2.out HT.out)
  have HB3 := hide (below_made hgrow)
  have hgo : go ≠ g := by have := HO2.out.lt.2; omega
  try rw [hg]
  clear hown hgrow hG0 hg hi0 hz0 hz1 hz2 i0 HT
  go_wp2_with fail
  go_loopw [10] (fun t10 wr => ∃ k : Nat, k ≤ N ∧ t10 = .int .i64 k ∧ Hid (Below w2.heap.size w2 wr) ∧ Hid (∃ l, IRow wr w2.heap.size g N l ∧ ∀ j, j < k → iat l j = -1)) (fun t10 _ => N - (intOf t10).toNat)
  case atStart => exact ⟨0, by omega, rfl, HB3.out, ⟨_, HG0.out, fun j hj => absurd hj (Nat.not_lt_zero _)⟩⟩
  case round =>
    obtain ⟨k, hk, rfl, HBr, HLr⟩ := hrel
    clear HB3 HG0 HO1
    obtain ⟨l, hl, hneg⟩ := HLr.out
    by_cases hlt : k < N
    · obtain ⟨d0, f0⟩ := hl.cell hlt
      have e1 : (k : Int) < N := by omega
      have e0 : (0 : Int) ≤ k := by omega
      have HBz : Hid (Below w2.heap.size w2 (wr.setCell ⟨g, k, none⟩ (.int .i64 (-1)))) := HBr.out.setCell (p := ⟨g, k, none⟩) hl.lt.1 _
      have HLz : Hid (∃ l, IRow (wr.setCell ⟨g, k, none⟩ (.int .i64 (-1))) w2.heap.size g N l ∧ ∀ j, j < k + 1 → iat l j = -1) := ⟨_, hl.set k (-1), fun j hj => by
        rw [iat_set _ _ _ _ (by rw [hl.1]; omega)]
        split
        · rfl
        · exact hneg j (by omega)⟩
      clear hl hneg HLr
      go_wp2_with fail
      go_roundw
      case rel => exact ⟨k + 1, by omega, by go_num, HBz.out, HLz.out⟩
      case measure => simp [intOf]; omega
    · have e1 : ¬ (k : Int) < N := by omega
      have hle := neg_all hl.1 (fun j hj => hneg j (by omega))
      rw [hle] at hl
      have HL := hide hl
      have HT2 := hide (later HBr.out HTW.out)
      clear hl hneg hle HLr
      go_wp2_with fail
      obtain ⟨d0, f0⟩ := HL.out.cell hto
      have hrep : iat (List.replicate N (-1 : Int)) too = -1 := by
        unfold iat
        rw [List.getD_eq_getElem?_getD, List.getElem?_replicate, if_pos hto]
        rfl
      rw [hrep] at d0
      have t0 := HT2.out
      have e2 : (too : Int) < N := by omega
      obtain ⟨Z, hZ⟩ : ∃ Z, Z = wr.setCell ⟨g, too, none⟩ (.int .i64 0) := ⟨_, rfl⟩
      have HRZ : Hid (IRow Z w2.heap.size g N ((List.replicate N (-1)).set too 0)) := by show IRow _ _ _ _ _; rw [hZ]; exact HL.out.set too 0
      have HBZ : Hid (Below w2.heap.size w2 Z) := by show Below _ _ _; rw [hZ]; exact HBr.out.setCell (p := ⟨g, too, none⟩) HL.out.lt.1 _
      have HTZ := hide (later HBZ.out HTW.out)
      obtain ⟨v1, D, ea, o1, gr, at1⟩ := append_int (IOwns.nil (Z.alloc (.cells #[.int .i64 too] 3)) w2.heap.size) (one_int Z too) (by have := HBZ.out.size; simp; omega) (by simp)
      rw [List.nil_append] at o1
      obtain ⟨p5, c5, hv5, _⟩ := o1.form
      rw [List.length_singleton] at hv5
      subst hv5
      have hbZ : Below Z.heap.size Z (Z.alloc (.cells #[.int .i64 too] 3)) := by go_grown
      have hbD : Below Z.heap.size Z D := below_grown hbZ (IOwns.nil (Z.alloc (.cells #[.int .i64 too] 3)) Z.heap.size) (Nat.le_refl _) hbZ.size gr
      have HBD := hide (below_step HBZ.out hbD)
      have HDM : Hid (DM D w2.heap.size g N ((List.replicate N (-1)).set too 0, [(too : Int)]) (.slice p5 1 c5)) := by
        refine ⟨HRZ.out.later hbD, o1, fun e => ?_⟩
        rcases at1 with e3 | e3
        · rw [e3] at e; simp [Value.ownBlock] at e
        · rw [e3] at e
          injection e with e
          have h7 := HRZ.out.lt.2
          have h8 := hbZ.size
          omega
      clear o1 gr at1 hbZ hbD hrep
      refine wp_loop_rounds 2 ?_
      rw [rounds_succ]
      go_upto_region 14 with fail
      rw [← hZ]
      clear hZ d0 f0 t0
      have t0 := HTZ.out
      go_wp2_with (at_builtin; refine wpList_run_append rfl (.tmp 53) (.tmp 58) 44 rfl 44 rfl _ _ _ D rfl rfl ea ?_)
      rw [rounds_succ]
      go_wp2_with fail
      clear t0 ea HTZ HRZ HBZ HL HBr HT2
      go_loopg [11, 13] (N + 1) (fun gk t11 t13 wr => ∃ (s : List Int × List Int) (i : Nat) (p8 : Option Addr) (c8 : Nat), i ≤ s.2.length ∧ t11 = .slice p8 s.2.length c8 ∧ t13 = .int .i64 i ∧ Hid (dOut (FS N O) O gk i s = R) ∧ Hid (N - i < gk) ∧ Hid (Dok (FS N O) s) ∧ Hid (Below w2.heap.size w2 wr) ∧ Hid (DM wr w2.heap.size g N s (.slice p8 s.2.length c8)))
      case atStart => exact ⟨_, 0, p5, c5, by simp, rfl, rfl, HRR.out, by show _ < _; omega, HOK.out, HBD.out, HDM.out⟩
      case round =>
        obtain ⟨s, i, p8, c8, hi, rfl, rfl, HTI, HUN, HOKr, HBr, HDr⟩ := hrel
        clear HBD HDM HOK HRR
        obtain ⟨k2, rfl⟩ : ∃ k, gk = k + 1 := ⟨gk - 1, by have := HUN.out; omega⟩
        have hcn := HOKr.out.cnt
        rw [FS_length] at hcn
        by_cases hlt : i < s.2.length
        · have hie : (i : Int) < s.2.length := by omega
          obtain ⟨x, ex, hxF, hx0⟩ := HOKr.out.row i hlt
          have hxN : x < N := by rw [FS_length] at hxF; exact hxF
          have hlatx : lat (FS N O) x = srt O x m := by rw [FS_at hxN, hol]
          have HTO : Hid (dOut (FS N O) O k2 (i + 1) (rIn O x m s) = R) := by
            have := HTI.out
            unfold dOut at this
            rw [if_pos hlt, ex, Int.toNat_natCast, hlatx, ← (rIn_at (Nat.le_refl m) s).1] at this
            exact this
          have HIN : Hid (∀ h, h ≤ m → Dok (FS N O) (rIn O x h s) ∧ iat (rIn O x h s).1 x = iat s.1 x) := fun h hh => by
            obtain ⟨q1, q2⟩ := rIn_at (x := x) hh s
            have := HOKr.out.dIn HFS.out hxF hx0 (srt O x h).length (by rw [hlatx]; exact q2)
            rw [hlatx, ← q1] at this
            exact this
          have HKP : Hid (∀ h, h ≤ m → s.2.length ≤ (rIn O x h s).2.length ∧ ∀ j, j < s.2.length → iat (rIn O x h s).2 j = iat s.2 j) := fun h hh => by
            obtain ⟨q1, q2⟩ := rIn_at (x := x) hh s
            have := dIn_keeps O (srt O x m) x s (srt O x h).length
            rw [← q1] at this
            exact this
          have HEX := hide ex
          clear ex HTI hlatx
          go_wp2_with fail
          go_loopw [11, 14] (fun t11 t14 wj => ∃ (h : Nat) (p9 : Option Addr) (c9 : Nat), h ≤ m ∧ t11 = .slice p9 (rIn O x h s).2.length c9 ∧ t14 = .int .i64 h ∧ Hid (Below w2.heap.size w2 wj) ∧ Hid (DM wj w2.heap.size g N (rIn O x h s) (.slice p9 (rIn O x h s).2.length c9))) (fun _ t14 _ => m - (intOf t14).toNat)
          case atStart => exact ⟨0, p8, c8, by omega, rfl, rfl, HBr.out, HDr.out⟩
          case round =>
            obtain ⟨h, p9, c9, hh, rfl, rfl, HBj, HDj⟩ := hrel
            clear HBr HDr
            have HOj := hide (HO2.out.later HBj.out)
            obtain ⟨ok, okx⟩ := HIN.out h hh
            have okc := ok.cnt
            rw [FS_length] at okc
            by_cases hhl : h < m
            · have h1 : (h : Int) < m := by omega
              have h00 : (0 : Int) ≤ h := by omega
              have hev := HFS.out.even
              have htw : tw h < m := by
                obtain ⟨mm, hmm⟩ := hev
                rw [hol] at hmm
                rw [hmm] at hhl ⊢
                exact tw_lt hhl
              have TW := hide (twin25 h wr (by omega))
              have hacr : iat O (tw h) = (acr O (h : Int) : Nat) ∧ acr O (h : Int) < N := by
                obtain ⟨f, k, hf, _, _, e2⟩ := HFS.out.on (tw h) (by rw [hol]; exact htw)
                rw [FS_length] at hf
                unfold acr
                rw [Int.toNat_natCast, e2, Int.toNat_natCast]
                exact ⟨rfl, hf⟩
              obtain ⟨kp1, kp2⟩ := HKP.out h hh
              have hil : i < (rIn O x h s).2.length := by omega
              have HST : Hid (rIn O x (h + 1) s = if iat O h = (x : Int) ∧ iat (rIn O x h s).1 (acr O (h : Int)) < 0 then ((rIn O x h s).1.set (acr O (h : Int)) (iat (rIn O x h s).1 x + 1), (rIn O x h s).2 ++ [(acr O (h : Int) : Int)]) else rIn O x h s) := rfl
              obtain ⟨b, hbb⟩ : ∃ b, acr O (h : Int) = b := ⟨_, rfl⟩
              rw [hbb] at HST hacr
              have hrow : ∃ b9 o9, p9 = some ⟨b9, o9, none⟩ ∧ wr.cell? ⟨b9, o9 + i, none⟩ = some (.int .i64 x) := by
                obtain ⟨pr, cr, er, mr, _⟩ := HDj.out.row.form
                injection er with er1 _ er3
                rw [← er1] at mr
                rcases mr with hn | ⟨b9, o9, e9, l9⟩
                · rw [hn] at hil; simp at hil
                · have d9 := l9 i hil
                  rw [kp2 i hlt, HEX.out] at d9
                  exact ⟨b9, o9, e9, d9⟩
              obtain ⟨b9, o9, rfl, d9⟩ := hrow
              have hbx := ok.bnd x (by rw [FS_length]; exact hxN)
              rw [FS_length] at hbx
              have i1 : (i : Int) < (rIn O x h s).2.length := by omega
              have i0' : (0 : Int) ≤ i := by omega
              obtain ⟨T, hT⟩ : ∃ T, rIn O x h s = T := ⟨_, rfl⟩
              rw [hT] at HST HDj okc i1 hbx ⊢
              obtain ⟨y, hy⟩ : ∃ y, iat T.1 b = y := ⟨_, rfl⟩
              obtain ⟨z, hz⟩ : ∃ z, iat T.1 x = z := ⟨_, rfl⟩
              obtain ⟨ov, hov⟩ : ∃ ov, iat O h = ov := ⟨_, rfl⟩
              obtain ⟨th, hth⟩ : ∃ t, tw h = t := ⟨_, rfl⟩
              have o0 := (HOj.out.cell hhl).1
              have o1 := (HOj.out.cell htw).1
              obtain ⟨e0, f0⟩ := HDj.out.far.cell hacr.2
              obtain ⟨e1, f1⟩ := HDj.out.far.cell hxN
              rw [hov] at o0 HST
              rw [hacr.1, hth] at o1
              rw [hth] at TW htw
              rw [hy] at e0 HST
              rw [hz] at e1 HST hbx
              have b1' : (b : Int) < N := by have := hacr.2; omega
              have t1' : (th : Int) < m := by omega
              have x1' : (x : Int) < N := by omega
              have HZ := hide hz
              have HD9 : Hid (∀ U, IOwns U w2.heap.size (.slice (some ⟨b9, o9, none⟩) T.2.length c9) T.2 → U.cell? ⟨b9, o9 + i, none⟩ = some (.int .i64 x)) := fun U hU => by
                obtain ⟨pr, cr, er, mr, _⟩ := hU.form
                injection er with er1 _ er3
                rw [← er1] at mr
                rw [hT] at hil kp2
                rcases mr with hn | ⟨b10, o10, e10, l10⟩
                · rw [hn] at hil; simp at hil
                · cases e10
                  have d10 := l10 i hil
                  rw [kp2 i hlt, HEX.out] at d10
                  exact d10
              clear ok okx hev hacr hbb kp1 kp2 hil hT hy hz hov hth
              by_cases hov : ov = x
              · have d1 : (ov == (x : Int)) = true := by rw [beq_iff_eq]; exact hov
                by_cases hy0 : y < 0
                · have d2 : decide (y < 0) = true := decide_eq_true hy0
                  rw [if_pos ⟨hov, hy0⟩] at HST
                  clear hov
                  go_upto_region 22 with (go_at_call 40; refine TW.out.mono ?_; rintro e w5 ⟨rfl, hb5⟩; have HB5 := hide (below_step HBj.out hb5); have HD5 := hide (HDj.out.later hb5); have o1 := later hb5 o1; have C0 := cell_regrown (later hb5 o0); have C9 := cell_regrown (later hb5 d9); have E0 := cell_regrown (later hb5 e0); have E1 := cell_regrown (later hb5 e1); clear hb5)
                  clear o0 o1 d9 e0 e1 f0 f1
                  refine wp_region_quiet_below (by kernel_rfl) (by kernel_rfl) ?_
                  repeat (go_big_quiet_step (fail))
                  refine wpQuiet_nil ?_
                  intro w6 hw6
                  have hb6 : Below w5.heap.size w5 w6 := by
                    obtain ⟨⟨dq, osq⟩, hw''⟩ := hw6
                    rw [hw'']
                    exact below_regrown w5 dq osq
                  have HB6 := hide (below_step HB5.out hb6)
                  have HD6 := hide (HD5.out.later hb6)
                  clear C0 C9 E0 E1 hw6 hb6 HB5 HD5 HBj HOj HDj TW
                  obtain ⟨e0, f0⟩ := HD6.out.far.cell (show b < N by omega)
                  obtain ⟨e1, f1⟩ := HD6.out.far.cell hxN
                  have hz : iat T.1 x = z := HZ.out
                  rw [hz] at e1
                  have d9 : w6.cell? ⟨b9, o9 + i, none⟩ = some (.int .i64 x) := HD9.out _ HD6.out.row
                  obtain ⟨Z, hZ⟩ : ∃ Z, Z = w6.setCell ⟨g, b, none⟩ (.int .i64 (z + 1)) := ⟨_, rfl⟩
                  have HDZ : Hid (DM Z w2.heap.size g N (T.1.set b (z + 1), T.2) (.slice (some ⟨b9, o9, none⟩) T.2.length c9)) := by show DM _ _ _ _ _ _; rw [hZ]; exact HD6.out.set b (z + 1)
                  have HBZ : Hid (Below w2.heap.size w2 Z) := by show Below _ _ _; rw [hZ]; exact HB6.out.setCell (p := ⟨g, b, none⟩) HD6.out.far.lt.1 _
                  clear hz
                  go_upto_region 24 with fail
                  rw [← hZ]
                  clear hZ e0 e1 f0 f1 d9 HD6 HB6
                  obtain ⟨p5', c5', D', ea, dm5, bd5⟩ := HDZ.out.push b HBZ.out.size (show T.2.length ≤ 90000 by omega)
                  have HBD : Hid (Below w2.heap.size w2 D') := HBZ.out.trans bd5
                  have HDD := hide dm5
                  rw [← HST.out] at HDD
                  have HLN2 : Hid ((rIn O x (h + 1) s).2.length = T.2.length + 1) := by show _ = _; rw [HST.out]; simp
                  clear dm5 bd5 HDZ HBZ hy0
                  go_wp2_with (at_builtin; refine wpList_run_append rfl (.tmp 104) (.tmp 106) 44 rfl 44 rfl _ _ _ D' rfl rfl ea ?_)
                  go_roundw
                  case rel => exact ⟨h + 1, p5', c5', by omega, by rw [HLN2.out], by go_num, HBD.out, by show DM _ _ _ _ _ _; rw [HLN2.out]; exact HDD.out⟩
                  case measure => simp [intOf]; omega
                · have d2 : decide (y < 0) = false := decide_eq_false hy0
                  rw [if_neg (fun hh => hy0 hh.2)] at HST
                  clear hov
                  go_upto_region 22 with (go_at_call 40; refine TW.out.mono ?_; rintro e w5 ⟨rfl, hb5⟩; have HB5 := hide (below_step HBj.out hb5); have HD5 := hide (HDj.out.later hb5); have o1 := later hb5 o1; have C0 := cell_regrown (later hb5 o0); have C9 := cell_regrown (later hb5 d9); have E0 := cell_regrown (later hb5 e0); have E1 := cell_regrown (later hb5 e1); clear hb5)
                  clear o0 o1 d9 e0 e1 f0 f1
                  refine wp_region_quiet_below (by kernel_rfl) (by kernel_rfl) ?_
                  repeat (go_big_quiet_step (fail))
                  refine wpQuiet_nil ?_
                  intro w6 hw6
                  have hb6 : Below w5.heap.size w5 w6 := by
                    obtain ⟨⟨dq, osq⟩, hw''⟩ := hw6
                    rw [hw'']
                    exact below_regrown w5 dq osq
                  have HB6 := hide (below_step HB5.out hb6)
                  have HD6 := hide (HD5.out.later hb6)
                  clear C0 C9 E0 E1 hw6 hb6 HB5 HD5 HBj HOj HDj TW
                  go_wp2_with fail
                  go_roundw
                  case rel => exact ⟨h + 1, some ⟨b9, o9, none⟩, c9, by omega, by rw [HST.out], by go_num, HB6.out, by show DM _ _ _ _ _ _; rw [HST.out]; exact HD6.out⟩
                  case measure => simp [intOf]; omega
              · have d1 : (ov == (x : Int)) = false := by rw [beq_eq_false_iff_ne]; exact hov
                rw [if_neg (fun hh => hov hh.1)] at HST
                clear hov
                go_upto_region 22 with (go_at_call 40; refine TW.out.mono ?_; rintro e w5 ⟨rfl, hb5⟩; have HB5 := hide (below_step HBj.out hb5); have HD5 := hide (HDj.out.later hb5); have o1 := later hb5 o1; have C0 := cell_regrown (later hb5 o0); have C9 := cell_regrown (later hb5 d9); have E0 := cell_regrown (later hb5 e0); have E1 := cell_regrown (later hb5 e1); clear hb5)
                clear o0 o1 d9 e0 e1 f0 f1
                refine wp_region_quiet_below (by kernel_rfl) (by kernel_rfl) ?_
                repeat (go_big_quiet_step (fail))
                refine wpQuiet_nil ?_
                intro w6 hw6
                have hb6 : Below w5.heap.size w5 w6 := by
                  obtain ⟨⟨dq, osq⟩, hw''⟩ := hw6
                  rw [hw'']
                  exact below_regrown w5 dq osq
                have HB6 := hide (below_step HB5.out hb6)
                have HD6 := hide (HD5.out.later hb6)
                clear C0 C9 E0 E1 hw6 hb6 HB5 HD5 HBj HOj HDj TW
                go_wp2_with fail
                go_roundw
                case rel => exact ⟨h + 1, some ⟨b9, o9, none⟩, c9, by omega, by rw [HST.out], by go_num, HB6.out, by show DM _ _ _ _ _ _; rw [HST.out]; exact HD6.out⟩
                case measure => simp [intOf]; omega
            · have hhe : h = m := by omega
              have h1 : ¬ (h : Int) < m := by omega
              have HUN2 : Hid (N - (i + 1) < k2) := by
                show _ < _
                have := HUN.out
                have := (HKP.out h hh).1
                omega
              have HIE : Hid (i + 1 ≤ (rIn O x h s).2.length) := by show _ ≤ _; have := (HKP.out h hh).1; omega
              have HOK2 := hide ok
              rw [← hhe] at HTO
              clear hhe hhl ok okx okc
              go_wp2_with fail
              go_roundg k2
              case measure => omega
              case rel => exact ⟨rIn O x h s, i + 1, p9, c9, HIE.out, rfl, by go_num, HTO.out, HUN2.out, HOK2.out, HBj.out, HDj.out⟩
        · have hie : ¬ (i : Int) < s.2.length := by omega
          have HE : Hid (R = s) := by
            have := HTI.out
            unfold dOut at this
            rw [if_neg hlt] at this
            exact this.symm
          have HFAR : Hid (IRow wr w.heap.size g N (dist (FS N O) O too)) := by
            show IRow _ _ _ _ _
            rw [HD.out, HE.out]
            exact HDr.out.far.base (Nat.le_trans HB.out.size HB2.out.size)
          clear hlt
          go_wp2_with fail
          go_ret
          exact ⟨g, rfl, HFAR.out, below_step (below_step HB.out HB2.out) HBr.out⟩
end Go.Proofs.Ytcgdmonejogbaaa
