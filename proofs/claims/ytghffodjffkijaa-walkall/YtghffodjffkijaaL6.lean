/- The reference's Depth. -/
import Derived.Test.YtghffodjffkijaaL5
import Derived.Test.YtghffodjffkijaaQ4
import Derived.Test.YtghffodjffkijaaL60
namespace Go.Proofs.Ytghffodjffkijaa
open Go.RowKit Go.Sort
open Go

theorem TB.frame {w w' : World} {B k n : Nat} {vo : Value} {gb gf : Nat} {vl : Value} {O By Fa : List Int} {q : Nat → Prop} (t : TB w B k n vo gb gf vl O By Fa) (f : Frame w w' q) (h1 : ¬ q k) (h2 : ¬ q gb) (h3 : ¬ q gf) (h4 : ∀ i, vo.ownBlock = some i → ¬ q i) : TB w' B k n vo gb gf vl O By Fa :=
  ⟨f.row t.box (fun i hi => by simp only [Value.ownBlock, Option.some.injEq] at hi; rw [← hi]; exact h1), f.iowns t.ord h4, f.irow t.by_ h2, f.irow t.far h3, t.ne1, t.ne2, t.ne3⟩
set_option maxRecDepth 100000 in
set_option maxHeartbeats 16000000 in
theorem depth17 (m : Nat) (p : Option Addr) (es : List Pt) (cp s : Nat) (w : World) (h : Has w p es) (hm : netB m es = true) (hs : s < m) : Calls Try.prog 17 #[nv m p es.length cp, .int .i64 s] w fun e w' => ∃ v gl, e = .returned v ∧ TR w' w.heap.size m v (dOneSt es m s) (.slice (some ⟨gl, 0, none⟩) m m) ∧ IRow w' w.heap.size gl m (lwN es (dOneSt es m s) m (dOneSt es m s).O.length) ∧ Below w.heap.size w w' := by
  obtain ⟨W, hW, hb, a0, x0, hsz⟩ := two_boxes35 w m p es.length cp
  obtain ⟨n0, n1, hes, _⟩ := netB_is hm
  have HPB : Hid (∀ a, p = some a → es = [] ∨ a.block < w.heap.size) := by
    intro a ha
    rcases h with h | ⟨b, off, hp, hL⟩
    · exact Or.inl h
    · rw [hp] at ha
      cases ha
      rcases Nat.eq_zero_or_pos es.length with h0 | h0
      · exact Or.inl (List.eq_nil_of_length_eq_zero h0)
      · exact Or.inr (block_lt_of_cell (hL 0 h0).1)
  have HM := hide hm
  have HH := hide (h.later hb)
  have HB := hide hb
  have HX := hide x0
  have HA := hide a0
  have HSZ := hide hsz
  have hsn : iat (st0 m).Fa s < 0 := by show iat (List.replicate m (-1)) s < 0; rw [iat_fill hs]; omega
  have HDK := hide (d0_ok (es := es) (st0_ok m) hs hsn)
  have HCH := hide (Ch.d0 (es := es) hs)
  have HBE : Hid (begin_ (st0 m) s = ⟨[(s : Int)], List.replicate m (-1), (List.replicate m (-1)).set s 0⟩) := by
    show _ = _
    unfold begin_ st0
    simp
  have HLW := hide (dOneSt_low (es := es) hm hs)
  obtain ⟨rch, _⟩ := dOneSt_reach (es := es) hm hs
  obtain ⟨R, hRR⟩ : ∃ R, dfs es (dM es m (d0 m s (st0 m))) (d0 m s (st0 m)) = R := ⟨_, rfl⟩
  rw [show dOneSt es m s = R.st by rw [← hRR]] at HLW rch ⊢
  have HRC := hide rch
  have HRR := hide hRR
  have BL : Hid (∀ V, Calls Try.prog 44 #[.int .i64 m, .int .i64 (-1)] V fun e w' => ∃ g, e = .returned (.slice (some ⟨g, 0, none⟩) m m) ∧ IRow w' V.heap.size g m (List.replicate m (-1)) ∧ Below V.heap.size V w') := fun V => blank41 m (-1) V (by omega)
  clear h hb a0 x0 hm hsn hRR hsz rch
  go_enter Try.func17, Try.ntmps17
  go_wp2_with fail
  rw [← hW]
  clear hW
  go_cut [5] (fun t5 wx => ∃ (k : Nat) (po : Option Addr) (gb gf gl co : Nat), t5 = .pointer (some ⟨k, 0, none⟩) ∧ Hid (TB wx W.heap.size k m (.slice po 1 co) gb gf (.slice (some ⟨gl, 0, none⟩) m m) [(s : Int)] (List.replicate m (-1)) (List.replicate m (-1)) ∧ IRow wx W.heap.size gl m (List.replicate m (-1)) ∧ (¬ TBk k gb gf (.slice po 1 co) gl) ∧ Below W.heap.size W wx ∧ W.heap.size ≤ k))
  case first =>
    refine reg17 _ m p es cp s w W HA HSZ BL _ _ (fun c a a' w h e => by cases a; cases a'; cases e; exact h) ?_
    intro k po gb gf gl co u18 u19 u20 u21 u22 u23 u24 u25 u26 u27 u28 u29 wx hfin
    go_wp2_with fail
    go_meet
    exact ⟨k, po, gb, gf, gl, co, rfl, hfin⟩
  case rest =>
    obtain ⟨k, po, gb, gf, gl, co, rfl, HT0⟩ := hcut
    obtain ⟨vl, hvl⟩ : ∃ vl, vl = Value.slice (some ⟨gl, 0, none⟩) m m := ⟨_, rfl⟩
    rw [← hvl] at HT0
    have HVL := hide hvl
    clear hvl
    have t0 := HT0.out.1
    obtain ⟨x0, x1, x2, x3, x4, _⟩ := t0.cells
    obtain ⟨f0, f1⟩ := t0.far.cell hs
    have i1 : (s : Int) < m := by omega
    have i2 : (0 : Int) ≤ s := by omega
    obtain ⟨V, hV⟩ : ∃ V, V = wc.setCell ⟨gf, s, none⟩ (.int .i64 0) := ⟨_, rfl⟩
    have tV : TB V W.heap.size k m (.slice po 1 co) gb gf vl [(s : Int)] (List.replicate m (-1)) ((List.replicate m (-1)).set s 0) := by rw [hV]; exact t0.setFar s 0
    have bV : Below W.heap.size W V := by rw [hV]; exact HT0.out.2.2.2.1.setCell (p := ⟨gf, s, none⟩) t0.far.lt.1 _
    have lV : IRow V W.heap.size gl m (List.replicate m (-1)) := by rw [hV]; exact irow_other HT0.out.2.1 (fun e => HT0.out.2.2.1 (Or.inr (Or.inr (Or.inl e.symm)))) _
    have OU := hide (outs42 m p es cp V (HH.out.later bV) HM.out)
    have HTV := hide tV
    have HBV := hide bV
    have HLV := hide lV
    have HNL : Hid (¬ TBk k gb gf (.slice po 1 co) gl) := HT0.out.2.2.1
    have HWK : Hid (W.heap.size ≤ k) := HT0.out.2.2.2.2
    clear t0 tV bV lV
    go_upto_region 3 with fail
    rw [← hV]
    clear hV x0 x1 x2 x3 x4 f0 f1 HT0
    obtain ⟨q0, q1, _, _⟩ := HA.out.later HBV.out
    go_wp2_with fail
    refine OU.out.mono ?_
    rintro e w2 ⟨g, rv, rfl, hr2, hb2⟩
    have HTB : Hid (∀ i, TBk k gb gf (.slice po 1 co) i → W.heap.size ≤ i ∧ i < V.heap.size) := by
      have t := HTV.out
      intro i hi
      rcases hi with h | h | h | h
      · subst h; exact ⟨HWK.out, block_lt_of_cell t.cells.1⟩
      · subst h; exact t.by_.lt
      · subst h; exact t.far.lt
      · exact World.ownsRow.lt t.ord i h
    have HH2 := hide ((HH.out.later HBV.out).later hb2)
    have HA2 := hide ((HA.out.later HBV.out).later hb2)
    have HX2 := hide (box_later HX.out (below_step HBV.out hb2))
    have HB2 := hide (below_step HBV.out hb2)
    have HR2 := hide hr2
    have HL2 := hide (HLV.out.later hb2)
    have HT2 := hide (HTV.out.later hb2)
    have hVs : V.heap.size ≤ w2.heap.size := hb2.size
    have hWV : W.heap.size ≤ V.heap.size := HBV.out.size
    obtain ⟨kb, hkb⟩ : ∃ kb, w.heap.size = kb := ⟨_, rfl⟩
    rw [hkb] at HA2 HX2 HSZ HPB ⊢
    have HKB := hide hkb
    have HAW : Hid ((¬ TBk k gb gf (.slice po 1 co) kb) ∧ (∀ a, p = some a → es = [] ∨ ¬ TBk k gb gf (.slice po 1 co) a.block) ∧ (¬ TBk k gb gf (.slice po 1 co) g) ∧ (∀ v i, v < m → (rv v).ownBlock = some i → ¬ TBk k gb gf (.slice po 1 co) i) ∧ (¬ TBk k gb gf (.slice po 1 co) (kb + 1))) := by
      have e1 := HSZ.out
      refine ⟨fun hk => ?_, fun a ha => (HPB.out a ha).imp id (fun hh hk => ?_), fun hk => ?_, fun v i hv hi hk => ?_, fun hk => ?_⟩
      · have := HTB.out _ hk; omega
      · have := HTB.out _ hk; omega
      · have := HTB.out _ hk; have := HR2.out.size.1; omega
      · have := HTB.out _ hk; have := (World.ownsRow.lt (HR2.out.2.2 v hv) i hi).1; omega
      · have := HTB.out _ hk; omega
    obtain ⟨i0, hi0, hz0, hz1, hz2⟩ := info_parts info3
    have q2 := HA2.out.1
    have HVS : Hid (V.heap.size ≤ w2.heap.size) := hVs
    have HGV : Hid (W.heap.size ≤ gl ∧ gl < V.heap.size) := HLV.out.lt
    clear hkb hr2 hb2 OU q0 q1 HTV HA HX HH hVs HLV
    go_wp2_with (refine wpList_make_full _ rfl (.tmp 37) (.tmp 37) 33 rfl w2.heap.size 3 i0 (.int .i64 0) 1 Try.underlying33 hi0 hz0 hz1 .i64 .i64 _ _ m rfl rfl rfl rfl ?c1 ?c2 ?c3 ?_)
    case c1 => rw [hz2]; omega
    case c2 => unfold maxLen; omega
    case c3 => exact Nat.le_refl _
    intro w3 hown hgrow
    have hg3 := irow_made hown
    have hb3 := below_made hgrow
    have HLO : Hid (Low w2 k gb gf w2.heap.size (.slice po 1 co)) := by
      have h1 := HTB.out; have h2 := HVS.out
      exact ⟨by have := h1 k (Or.inl rfl); omega, by have := h1 gb (Or.inr (Or.inl rfl)); omega, by have := h1 gf (Or.inr (Or.inr (Or.inl rfl))); omega, fun i hi => by have := h1 i (Or.inr (Or.inr (Or.inr hi))); omega, Nat.le_refl _⟩
    have HDM : Hid (DM w2 w3 W.heap.size k m gb gf w2.heap.size (.slice po 1 co) vl none 0 ⟨begin_ (st0 m) s, List.replicate m 0, []⟩) := by
      refine ⟨_, ?_, Frame.of_below hb3 _, Or.inl rfl, hg3, IOwns.nil _ _, ?_, ?_, ?_⟩
      · rw [HBE.out]; exact HT2.out.later hb3
      · intro e; have := HLO.out.vo _ e; omega
      · simp [Value.ownBlock]
      · intro i hi; simp [Value.ownBlock] at hi
    obtain ⟨gg, hgg⟩ : ∃ gg, w2.heap.size = gg := ⟨_, rfl⟩
    rw [hgg] at HDM HLO
    have HGG := hide hgg
    rw [hgg]
    clear hown hgrow hg3 hb3 hgg q2 HT2 hi0 hz0 hz1 hz2 i0
    go_wp2_with fail
    go_loopg [8] (dM es m (d0 m s (st0 m))) (fun gk t8 wr => ∃ (d : Ds) (v : Nat) (r : List Nat), d.S = v :: r ∧ t8 = .int .i64 v ∧ Hid (Dk es m d) ∧ Hid (Ch es d.st.By d.S) ∧ Hid (dfs es gk d = R ∧ dM es m d ≤ gk) ∧ Hid (DM w2 wr W.heap.size k m gb gf gg (.slice po 1 co) vl none 0 ⟨d.st, d.G, []⟩))
    case atStart => exact ⟨d0 m s (st0 m), s, [], rfl, rfl, HDK.out, HCH.out, ⟨HRR.out, Nat.le_refl _⟩, HDM.out⟩
    case round =>
      clear HDM HDK HCH HRR
      obtain ⟨d, u, r, hS, rfl, HK, HC, HF, HD⟩ := hrel
      obtain ⟨dst, G, S⟩ := d
      simp only at hS
      subst hS
      obtain ⟨gk', rfl⟩ : ∃ k', gk = k' + 1 := ⟨gk - 1, by have := HF.out.2; unfold dM at this; simp at this; omega⟩
      obtain ⟨hK1, hM1⟩ := HK.out.one HM.out rfl
      have HF1 : Hid (dfs es gk' (dOne es ⟨dst, G, u :: r⟩ u r) = R ∧ dM es m (dOne es ⟨dst, G, u :: r⟩ u r) ≤ gk') := ⟨HF.out.1, by have := HF.out.2; omega⟩
      have HK1 := hide hK1
      have HC1 := hide (Ch.one HK.out HM.out rfl HC.out)
      obtain ⟨hu, hfu⟩ := HK.out.sm u (by simp)
      obtain ⟨g0, g1⟩ := HK.out.gv u hu
      obtain ⟨vo', t, f, a, hg, hsT, n1', n2', n3'⟩ := HD.out
      have hRw := f.rows HR2.out HAW.out.2.2.1 HAW.out.2.2.2.1
      obtain ⟨y0, _⟩ := hRw.cell hu
      obtain ⟨pr, cr, hrv, _⟩ := (hRw.2.2 u hu).form
      rw [hrv] at y0
      have hLl := outL_length es (2 * es.length) u
      have HRO : Hid (IOwns wr V.heap.size (.slice pr (outL es (2 * es.length) u).length cr) (outL es (2 * es.length) u)) := by
        have := hRw.2.2 u hu
        rw [hrv] at this
        exact this
      obtain ⟨L, hL⟩ : ∃ L, outL es (2 * es.length) u = L := ⟨_, rfl⟩
      have HL := hide hL
      rw [hL] at y0 hLl HRO g1
      obtain ⟨z0, zf⟩ := hg.cell hu
      obtain ⟨gn, hgn⟩ : ∃ gn : Nat, iat G u = gn := ⟨(iat G u).toNat, by have : 0 ≤ iat G u := g0; omega⟩
      have g1' : iat G u ≤ L.length := g1
      rw [hgn] at z0 g1'
      have HGN := hide hgn
      have j1 : (u : Int) < m := by omega
      have j2 : (0 : Int) ≤ u := by omega
      clear hgn hL hRw hrv g0 g1 hK1 hM1 hsT hg n1' n2' n3' t f a
      by_cases he : gn = L.length
      · have HDO : Hid (dOne es ⟨dst, G, u :: r⟩ u r = ⟨dst, G, r⟩) := by
          show _ = _
          unfold dOne
          rw [if_pos]
          show iat G u = _
          rw [HGN.out, HL.out, he]
        rw [HDO.out] at HF1 HK1 HC1
        have e1 : ((gn : Int) == L.length) = true := by simp [he]
        have HE := hide he
        clear he HF HK
        go_wp2_with fail
        go_quiet (fail)
        obtain ⟨Z, hZ⟩ : ∃ Z, Z = wr.drewN nq := ⟨_, rfl⟩
        have hbZ : Below wr.heap.size wr Z := by rw [hZ]; exact below_drewN (Below.refl _ _)
        have HDZ := hide (HD.out.later hbZ)
        rw [← hZ]
        clear hZ hbZ y0 z0 zf HD HRO
        obtain ⟨vo', t, f, a, hg, hsT, n1', n2', n3'⟩ := HDZ.out
        obtain ⟨x0, x1, x2, x3, x4, _⟩ := t.cells
        obtain ⟨b0, b1⟩ := t.by_.cell hu
        simp only at b0
        cases r with
        | nil =>
          have hby : iat dst.By u < 0 := HC.out
          have hR : R = ⟨dst, G, []⟩ := by
            rw [← HF1.out.1]
            cases gk' with
            | zero => rfl
            | succ k => rfl
          have HRT : Hid (R.st = dst) := by show _ = _; rw [hR]
          obtain ⟨bu, hbu⟩ : ∃ bu, iat dst.By u = bu := ⟨_, rfl⟩
          rw [hbu] at b0 hby
          clear hbu hR HF1 HK1 HC1 HC HDO t f a hg hsT n1' n2' n3'
          obtain ⟨vo', t, f, a, _, _, _, _, _⟩ := HDZ.out
          obtain ⟨q0, q1, _, _⟩ := f.nown HA2.out HAW.out.1
          have HLZ := hide (f.irow HL2.out HNL.out)
          have HAP : Hid ((¬ (k = gl)) ∧ (¬ (gb = gl)) ∧ (¬ (gf = gl)) ∧ (∀ i, vo'.ownBlock = some i → ¬ (i = gl))) := by
            have h0 := HNL.out
            refine ⟨fun e => h0 (Or.inl e.symm), fun e => h0 (Or.inr (Or.inl e.symm)), fun e => h0 (Or.inr (Or.inr (Or.inl e.symm))), fun i hi e => ?_⟩
            rcases a with a | ⟨x, hx, hx2⟩
            · rw [e] at hi; rw [hi] at a; exact h0 (Or.inr (Or.inr (Or.inr a.symm)))
            · have := HGV.out; have := HVS.out; rw [hx] at hi; injection hi with hi; omega
          go_wp2_with fail
          refine (BL.out Z).mono ?_
          rintro e w5 ⟨gp, rfl, hrow, hb5⟩
          have HP5 := hide hrow
          have HL5 := hide (HLZ.out.later hb5)
          have HT5 := hide (t.later hb5)
          rw [← HRT.out] at HT5
          have HR5 := hide ((f.rows HR2.out HAW.out.2.2.1 HAW.out.2.2.2.1).later hb5)
          have HH5 := hide ((f.has HH2.out HAW.out.2.1).later hb5)
          have HA5 := hide ((f.nown HA2.out HAW.out.1).later hb5)
          have HX5 := hide (box_later (f.row HX2.out (fun i hi => by simp only [Value.ownBlock, Option.some.injEq] at hi; rw [← hi]; exact HAW.out.2.2.2.2)) hb5)
          have hZs := f.size
          have hgp := hrow.lt
          have HQ : Hid ((¬ (k = gl ∨ k = gp)) ∧ (¬ (gb = gl ∨ gb = gp)) ∧ (¬ (gf = gl ∨ gf = gp)) ∧ (∀ i, vo'.ownBlock = some i → ¬ (i = gl ∨ i = gp)) ∧ (¬ (kb = gl ∨ kb = gp)) ∧ (∀ a, p = some a → es = [] ∨ ¬ (a.block = gl ∨ a.block = gp)) ∧ (¬ (g = gl ∨ g = gp)) ∧ (∀ v i, v < m → (rv v).ownBlock = some i → ¬ (i = gl ∨ i = gp)) ∧ (¬ (kb + 1 = gl ∨ kb + 1 = gp)) ∧ gl ≠ gp) := by
            obtain ⟨h1, h2, h3, h4⟩ := HAP.out
            have s1 := HGV.out
            have s2 := HSZ.out
            have s3 := HVS.out
            have k1 : k < Z.heap.size := block_lt_of_cell t.cells.1
            have k2 := t.by_.lt
            have k3 := t.far.lt
            refine ⟨by omega, by omega, by omega, fun i hi e => ?_, by omega, fun a ha => (HPB.out a ha).imp id (fun hh => by omega), ?_, fun v i hv hi e => ?_, by omega, by omega⟩
            · have := (World.ownsRow.lt t.ord i hi).2
              rcases e with e | e
              · exact h4 i hi e
              · omega
            · have := HR2.out.size.1; have := HR2.out.size.2; omega
            · have h5 := (World.ownsRow.lt (HR2.out.2.2 v hv) i hi); omega
          have HB5 : Hid (Below w.heap.size w w5) := below_step (Below.trans (below_step HB.out HB2.out) (f.below (by have h1 := HB.out.size; have h2 := HB2.out.size; omega) (fun i hi => by have h1 := HTB.out i hi; have h2 := HB.out.size; omega))) hb5
          have hWZ : W.heap.size ≤ gp := by have := HVS.out; omega
          obtain ⟨N, hN⟩ : ∃ N, R.st.O.length = N := ⟨_, rfl⟩
          have HN := hide hN
          have hNm : N ≤ m := by have := HRC.out.ok.cnt; omega
          obtain ⟨po2, co2, hvo, _⟩ := HT5.out.ord.form
          rw [hN] at hvo
          obtain ⟨bo, cc, hbo, _, _, _⟩ := iowns_block HT5.out.ord (by have := HRC.out.first.1; omega)
          rw [hvo] at hbo
          simp only [Value.slice.injEq] at hbo
          obtain ⟨rfl, hNN, rfl⟩ := hbo
          clear hNN
          have HVO := hide hvo
          have HBo : Hid (¬ (bo = gl ∨ bo = gp)) := HQ.out.2.2.2.1 bo (by rw [hvo]; rfl)
          clear hrow hb5 hgp hZs hN hvo t f a q0 q1 x0 x1 x2 x3 x4 b0 b1 hby HDZ HLZ HAP HL2 HR2 HH2 HA2 HX2 HRT
          go_wp2_with fail
          go_loopw [12] (fun t wr => ∃ i : Nat, i ≤ N ∧ t = .int .i64 i ∧ Hid (Frame w5 wr (fun i => i = gl ∨ i = gp)) ∧ Hid (IRow wr W.heap.size gl m (whN R.st.O m (-1) i)) ∧ Hid (IRow wr Z.heap.size gp m (whN R.st.O m (-1) i))) (fun t _ => N - (intOf t).toNat)
          case atStart => exact ⟨0, by omega, rfl, Frame.of_below (Below.refl _ _) _, HL5.out, HP5.out⟩
          case round =>
            clear HL5 HP5
            obtain ⟨i, hi, rfl, HFr, HLr, HPr⟩ := hrel
            have tr := HT5.out.frame HFr.out HQ.out.1 HQ.out.2.1 HQ.out.2.2.1 HQ.out.2.2.2.1
            obtain ⟨x0, x1, x2, x3, x4, _⟩ := tr.cells
            rw [HVO.out] at x0
            by_cases hlt : i < N
            · obtain ⟨v0, v1⟩ := HRC.out.ok.mem i (by rw [HN.out]; exact hlt)
              have o0 := tr.ord
              rw [HVO.out, ← HN.out] at o0
              have o1 := o0.at_ (show i < R.st.O.length by rw [HN.out]; exact hlt)
              have HSL : Hid (whN R.st.O m (-1) (i + 1) = (whN R.st.O m (-1) i).set (iat R.st.O i).toNat i) := rfl
              obtain ⟨v, hv⟩ : ∃ v : Nat, iat R.st.O i = v := ⟨(iat R.st.O i).toNat, by omega⟩
              rw [hv] at o1 HSL v0 v1
              rw [Int.toNat_natCast] at HSL
              have hvm : v < m := by omega
              obtain ⟨d0, e0⟩ := HPr.out.cell hvm
              have i1 : (i : Int) < N := by omega
              have i2 : (0 : Int) ≤ i := by omega
              have i3 : (v : Int) < m := by omega
              clear hv o0 tr
              obtain ⟨Y, hY⟩ : ∃ Y, Y = wr.setCell ⟨gp, v, none⟩ (.int .i64 i) := ⟨_, rfl⟩
              have y1 : Hid (Frame w5 Y (fun i => i = gl ∨ i = gp)) := by show Frame _ _ _; rw [hY]; exact HFr.out.trans (Frame.set _ _ _ (Or.inr rfl))
              have y2 : Hid (IRow Y W.heap.size gl m (whN R.st.O m (-1) i)) := by show IRow _ _ _ _ _; rw [hY]; exact irow_other HLr.out (fun e => HQ.out.2.2.2.2.2.2.2.2.2 e.symm) _
              have y3 : Hid (IRow Y Z.heap.size gp m (whN R.st.O m (-1) (i + 1))) := by show IRow _ _ _ _ _; rw [hY, HSL.out]; exact HPr.out.set v i
              have x0' : Y.cell? ⟨k, 0, none⟩ = some (.slice (some ⟨bo, 0, none⟩) N co2) := by rw [hY]; exact cell_other x0 (fun e => HQ.out.1 (Or.inr e))
              have x3' : Y.cell? ⟨k, 3, none⟩ = some vl := by rw [hY]; exact cell_other x3 (fun e => HQ.out.1 (Or.inr e))
              have o1' : Y.cell? ⟨bo, i, none⟩ = some (.int .i64 v) := by rw [hY]; exact cell_other o1 (fun e => HBo.out (Or.inr e))
              go_upto_region 23 with fail
              rw [← hY]
              clear hY d0 e0 x0 x1 x2 x3 x4 o1 HFr HLr HPr
              obtain ⟨d0, e0⟩ := y2.out.cell hvm
              rw [HVL.out] at x3'
              go_region
              obtain ⟨X, hX⟩ : ∃ X, X = (Y.setCell ⟨gl, v, none⟩ (.int .i64 i)).drew := ⟨_, rfl⟩
              have z1 : Frame w5 X (fun i => i = gl ∨ i = gp) := by rw [hX]; exact (y1.out.trans (Frame.set _ _ _ (Or.inl rfl))).trans (Frame.of_below (below_drew _) _)
              have z2 : IRow X W.heap.size gl m (whN R.st.O m (-1) (i + 1)) := by rw [hX, HSL.out]; exact (y2.out.set v i).later (below_drew _)
              have z3 : IRow X Z.heap.size gp m (whN R.st.O m (-1) (i + 1)) := by rw [hX]; exact (irow_other y3.out HQ.out.2.2.2.2.2.2.2.2.2 _).later (below_drew _)
              rw [← hX]
              clear hX d0 e0 x0' x3' o1' y1 y2 y3
              go_wp2
              go_roundw
              case rel => exact ⟨i + 1, by omega, by go_num, z1, z2, z3⟩
              case measure => simp [intOf]; omega
            · have hin : i = N := by omega
              have i1 : ¬ (i : Int) < N := by omega
              rw [hin] at HLr HPr i1 ⊢
              clear hin tr hlt hi
              go_wp2_with fail
              clear x0 x1 x2 x3 x4
              obtain ⟨w6, hw6⟩ : ∃ w6, w6 = wr := ⟨_, rfl⟩
              rw [← hw6] at HFr HLr HPr ⊢
              clear hw6
              obtain ⟨P, hP⟩ : ∃ P, whN R.st.O m (-1) N = P := ⟨_, rfl⟩
              have HL0 : Hid (IRow w6 W.heap.size gl m (rlN es R.st m 0)) := by show IRow _ _ _ _ (whN R.st.O m (-1) R.st.O.length); rw [HN.out]; exact HLr.out
              rw [hP] at HPr
              have HP := hide hP
              clear hP HLr
              go_loopw [13] (fun t wr => ∃ kk : Nat, kk ≤ N ∧ t = .int .i64 ((N : Int) - 1 - kk) ∧ Hid (Frame w5 wr (fun i => i = gl ∨ i = gp)) ∧ Hid (IRow wr W.heap.size gl m (rlN es R.st m kk)) ∧ Hid (IRow wr Z.heap.size gp m P)) (fun t _ => (intOf t + 1).toNat)
              case atStart => exact ⟨0, by omega, by simp, HFr.out, HL0.out, HPr.out⟩
              case round =>
                clear HFr HL0 HPr
                obtain ⟨kk, hkk, rfl, HFk, HLk, HPk⟩ := hrel
                have tr := HT5.out.frame HFk.out HQ.out.1 HQ.out.2.1 HQ.out.2.2.1 HQ.out.2.2.2.1
                obtain ⟨x0, x1, x2, x3, x4, _⟩ := tr.cells
                rw [HVO.out] at x0
                by_cases hlt : kk < N
                · obtain ⟨j0, hj0⟩ : ∃ j0 : Nat, N - 1 - kk = j0 := ⟨_, rfl⟩
                  have ej : (N : Int) - 1 - kk = j0 := by omega
                  have HRL : Hid (rlN es R.st m (kk + 1) = rlRow es R.st (whN R.st.O m (-1) R.st.O.length) (iat R.st.O (R.st.O.length - 1 - kk)).toNat (rlN es R.st m kk) (outL es (2 * es.length) (iat R.st.O (R.st.O.length - 1 - kk)).toNat).length) := rfl
                  rw [HN.out, hj0, HP.out] at HRL
                  have hjN : j0 < N := by omega
                  obtain ⟨v0, v1⟩ := HRC.out.ok.mem j0 (by rw [HN.out]; exact hjN)
                  have o0 := tr.ord
                  rw [HVO.out, ← HN.out] at o0
                  have o1 := o0.at_ (show j0 < R.st.O.length by rw [HN.out]; exact hjN)
                  obtain ⟨v, hv⟩ : ∃ v : Nat, iat R.st.O j0 = v := ⟨(iat R.st.O j0).toNat, by omega⟩
                  rw [hv] at o1 HRL v0 v1
                  rw [Int.toNat_natCast] at HRL
                  have hvm : v < m := by omega
                  obtain ⟨L, hL⟩ : ∃ L, outL es (2 * es.length) v = L := ⟨_, rfl⟩
                  rw [hL] at HRL
                  have hLl := outL_length es (2 * es.length) v
                  rw [hL] at hLl
                  have HL := hide hL
                  obtain ⟨pr, cr, hrv, _⟩ := (HR5.out.2.2 v hvm).form
                  rw [hL] at hrv
                  have HRV := hide hrv
                  have hvF := HRC.out.ok.fnd j0 (by rw [HN.out]; exact hjN)
                  rw [hv, Int.toNat_natCast] at hvF
                  have HBV : Hid (iat R.st.By v = -1 ∨ ∃ k : Nat, iat R.st.By v = k ∧ k < 2 * es.length) := by
                    rcases HRC.out.tree.back v hvm hvF with ⟨_, h2⟩ | ⟨h', u, h1, h2, h3, _⟩
                    · exact Or.inl h2
                    · exact Or.inr ⟨h', h3, h1⟩
                  have i1 : (j0 : Int) < N := by omega
                  have i2 : (0 : Int) ≤ j0 := by omega
                  have i3 : (v : Int) < m := by omega
                  have i4 : (0 : Int) ≤ v := by omega
                  have HEJ : Hid ((N : Int) - 1 - kk = j0) := ej
                  rw [ej]
                  clear hv o0 tr hrv hL hj0 hvF ej
                  go_wp2_with fail
                  clear x0 x1 x2 x3 x4 o1
                  obtain ⟨A, hA⟩ : ∃ A, rlN es R.st m kk = A := ⟨_, rfl⟩
                  rw [hA] at HLk HRL
                  clear hA
                  go_loopw [15] (fun t wr => ∃ j : Nat, j ≤ L.length ∧ t = .int .i64 j ∧ Hid (Frame w5 wr (fun i => i = gl ∨ i = gp)) ∧ Hid (IRow wr W.heap.size gl m (rlRow es R.st P v A j)) ∧ Hid (IRow wr Z.heap.size gp m P)) (fun t _ => L.length - (intOf t).toNat)
                  case atStart => exact ⟨0, by omega, rfl, HFk.out, HLk.out, HPk.out⟩
                  case round =>
                    clear HFk HLk HPk
                    obtain ⟨j, hj, rfl, HFj, HLj, HPj⟩ := hrel
                    have hRw := HFj.out.rows HR5.out HQ.out.2.2.2.2.2.2.1 HQ.out.2.2.2.2.2.2.2.1
                    obtain ⟨d0, _⟩ := hRw.cell hvm
                    rw [HRV.out] at d0
                    by_cases hjl : j < L.length
                    · have HST : Hid (rlRow es R.st P v A (j + 1) = if 0 ≤ iat R.st.By v ∧ iat (outL es (2 * es.length) v) j / 2 = iat R.st.By v / 2 then rlRow es R.st P v A j else if iat R.st.By (toL es (iat (outL es (2 * es.length) v) j).toNat).toNat = iat (outL es (2 * es.length) v) j then (rlRow es R.st P v A j).set v (min (iat (rlRow es R.st P v A j) v) (iat (rlRow es R.st P v A j) (toL es (iat (outL es (2 * es.length) v) j).toNat).toNat)) else (rlRow es R.st P v A j).set v (min (iat (rlRow es R.st P v A j) v) (iat P (toL es (iat (outL es (2 * es.length) v) j).toNat).toNat))) := rfl
                      rw [HL.out] at HST
                      obtain ⟨h, hh1, hh2, hh3⟩ := outL_at (es := es) (h := 2 * es.length) (v := v) (j := j) (by rw [HL.out]; exact hjl)
                      rw [HL.out] at hh1
                      rw [hh1, Int.toNat_natCast] at HST
                      obtain ⟨t1, t2⟩ := toL_in HM.out h hh2
                      obtain ⟨x, hx⟩ : ∃ x : Nat, toL es h = x := ⟨(toL es h).toNat, by omega⟩
                      rw [hx] at t1 t2 HST
                      rw [Int.toNat_natCast] at HST
                      have hxm : x < m := by omega
                      have hro := hRw.2.2 v hvm
                      rw [HRV.out, HL.out] at hro
                      obtain ⟨br, cr2, hbr, _, _, _⟩ := iowns_block hro (by omega)
                      simp only [Value.slice.injEq, true_and] at hbr
                      obtain ⟨rfl, rfl⟩ := hbr
                      have r0 := hro.at_ hjl
                      rw [hh1] at r0
                      obtain ⟨q0, q1, _, _⟩ := HFj.out.nown HA5.out HQ.out.2.2.2.2.1
                      have CT := hide (to43 m p es cp h wr (HFj.out.has HH5.out HQ.out.2.2.2.2.2.1) hh2 (by omega))
                      rw [hx] at CT
                      have k1 : (j : Int) < L.length := by omega
                      have k2 : (0 : Int) ≤ j := by omega
                      have k3 : (x : Int) < m := by omega
                      have k4 : (0 : Int) ≤ x := by omega
                      clear hRw hro hh1 hh3 hx t1
                      go_wp2_with fail
                      refine CT.out.mono ?_
                      rintro e w7 ⟨rfl, hb7⟩
                      have HF7 : Hid (Frame w5 w7 (fun i => i = gl ∨ i = gp)) := HFj.out.trans (Frame.of_below hb7 _)
                      have HL7 := hide (HLj.out.later hb7)
                      have HP7 := hide (HPj.out.later hb7)
                      clear hb7 q0 q1 r0 d0 CT HFj HLj HPj
                      have tr := HT5.out.frame HF7.out HQ.out.1 HQ.out.2.1 HQ.out.2.2.1 HQ.out.2.2.2.1
                      obtain ⟨x0, x1, x2, x3, x4, _⟩ := tr.cells
                      obtain ⟨b0, b1⟩ := tr.by_.cell hvm
                      obtain ⟨c0, c1⟩ := tr.by_.cell hxm
                      rw [HVL.out] at x3
                      obtain ⟨l0, l1⟩ := HL7.out.cell hvm
                      obtain ⟨m0, m1⟩ := HL7.out.cell hxm
                      obtain ⟨p0, p1⟩ := HP7.out.cell hxm
                      obtain ⟨Lj, hLj⟩ : ∃ Lj, rlRow es R.st P v A j = Lj := ⟨_, rfl⟩
                      rw [hLj] at HST HL7 l0 m0
                      obtain ⟨bx, hbx⟩ : ∃ bx, iat R.st.By x = bx := ⟨_, rfl⟩
                      rw [hbx] at c0 HST
                      have hd1 : Int.tdiv (h : Int) 2 = ((h / 2 : Nat) : Int) := by rw [Int.tdiv_eq_ediv_of_nonneg (by omega)]; exact (Int.natCast_ediv h 2).symm
                      have hd3 : (h : Int) / 2 = ((h / 2 : Nat) : Int) := (Int.natCast_ediv h 2).symm
                      obtain ⟨hq, hhq⟩ : ∃ hq, h / 2 = hq := ⟨_, rfl⟩
                      have hqb : hq ≤ 100000 := by omega
                      rw [hhq] at hd1 hd3
                      rw [hd3] at HST
                      obtain ⟨lv, hlv⟩ : ∃ z, iat Lj v = z := ⟨_, rfl⟩
                      obtain ⟨lx, hlx⟩ : ∃ z, iat Lj x = z := ⟨_, rfl⟩
                      obtain ⟨px, hpx⟩ : ∃ z, iat P x = z := ⟨_, rfl⟩
                      rw [hlv] at l0 HST
                      rw [hlx] at m0 HST
                      rw [hpx] at p0 HST
                      clear hLj hbx hd3 hhq hlv hlx hpx tr x0 x2 x4
                      rcases HBV.out with hb | ⟨bk, hb, hb2⟩
                      · rw [hb] at b0 HST
                        rw [if_neg (by omega)] at HST
                        by_cases hc : bx = (h : Int)
                        · rw [if_pos hc] at HST
                          have c2 : (bx == (h : Int)) = true := by simp [hc]
                          go_upto_region 36 with fail
                          go_region
                          obtain ⟨X, hX⟩ : ∃ X, X = (w7.setCell ⟨gl, v, none⟩ (.int .i64 (if lx < lv then lx else lv))).drew := ⟨_, rfl⟩
                          have hmn : (if lx < lv then lx else lv) = min lv lx := by split <;> omega
                          have z1 : Frame w5 X (fun i => i = gl ∨ i = gp) := by rw [hX]; exact (HF7.out.trans (Frame.set _ _ _ (Or.inl rfl))).trans (Frame.of_below (below_drew _) _)
                          have z2 : IRow X W.heap.size gl m (rlRow es R.st P v A (j + 1)) := by rw [hX, HST.out, hmn]; exact (HL7.out.set v _).later (below_drew _)
                          have z3 : IRow X Z.heap.size gp m P := by rw [hX]; exact (irow_other HP7.out HQ.out.2.2.2.2.2.2.2.2.2 _).later (below_drew _)
                          rw [← hX]
                          clear hX hmn x1 x3 b0 b1 c0 c1 l0 l1 m0 m1 p0 p1
                          go_wp2
                          go_roundw
                          case rel => exact ⟨j + 1, by omega, by go_num, z1, z2, z3⟩
                          case measure => simp [intOf]; omega
                        · rw [if_neg hc] at HST
                          have c2 : (bx == (h : Int)) = false := by simp [hc]
                          go_upto_region 33 with fail
                          go_region
                          obtain ⟨X, hX⟩ : ∃ X, X = (w7.setCell ⟨gl, v, none⟩ (.int .i64 (if px < lv then px else lv))).drew := ⟨_, rfl⟩
                          have hmn : (if px < lv then px else lv) = min lv px := by split <;> omega
                          have z1 : Frame w5 X (fun i => i = gl ∨ i = gp) := by rw [hX]; exact (HF7.out.trans (Frame.set _ _ _ (Or.inl rfl))).trans (Frame.of_below (below_drew _) _)
                          have z2 : IRow X W.heap.size gl m (rlRow es R.st P v A (j + 1)) := by rw [hX, HST.out, hmn]; exact (HL7.out.set v _).later (below_drew _)
                          have z3 : IRow X Z.heap.size gp m P := by rw [hX]; exact (irow_other HP7.out HQ.out.2.2.2.2.2.2.2.2.2 _).later (below_drew _)
                          rw [← hX]
                          clear hX hmn x1 x3 b0 b1 c0 c1 l0 l1 m0 m1 p0 p1
                          go_wp2
                          go_roundw
                          case rel => exact ⟨j + 1, by omega, by go_num, z1, z2, z3⟩
                          case measure => simp [intOf]; omega
                      · rw [hb] at b0 HST
                        have hd2 : Int.tdiv (bk : Int) 2 = ((bk / 2 : Nat) : Int) := by rw [Int.tdiv_eq_ediv_of_nonneg (by omega)]; exact (Int.natCast_ediv bk 2).symm
                        have hd4 : (bk : Int) / 2 = ((bk / 2 : Nat) : Int) := (Int.natCast_ediv bk 2).symm
                        obtain ⟨bq, hbq⟩ : ∃ bq, bk / 2 = bq := ⟨_, rfl⟩
                        have bqb : bq ≤ 100000 := by omega
                        rw [hbq] at hd2 hd4
                        rw [hd4] at HST
                        clear hbq hd4
                        have k5 : (0 : Int) ≤ bk := by omega
                        by_cases he : (hq : Int) = bq
                        · rw [if_pos ⟨by omega, he⟩] at HST
                          have e2 : ((hq : Int) == bq) = true := by simp [he]
                          clear he
                          go_wp2
                          go_roundw
                          case rel => exact ⟨j + 1, by omega, by go_num, HF7.out, by show IRow _ _ _ _ _; rw [HST.out]; exact HL7.out, HP7.out⟩
                          case measure => simp [intOf]; omega
                        · rw [if_neg (fun hh => he hh.2)] at HST
                          have e2 : ((hq : Int) == bq) = false := by simp [he]
                          clear he
                          by_cases hc : bx = (h : Int)
                          · rw [if_pos hc] at HST
                            have c2 : (bx == (h : Int)) = true := by simp [hc]
                            go_upto_region 36 with fail
                            go_region
                            obtain ⟨X, hX⟩ : ∃ X, X = (w7.setCell ⟨gl, v, none⟩ (.int .i64 (if lx < lv then lx else lv))).drew := ⟨_, rfl⟩
                            have hmn : (if lx < lv then lx else lv) = min lv lx := by split <;> omega
                            have z1 : Frame w5 X (fun i => i = gl ∨ i = gp) := by rw [hX]; exact (HF7.out.trans (Frame.set _ _ _ (Or.inl rfl))).trans (Frame.of_below (below_drew _) _)
                            have z2 : IRow X W.heap.size gl m (rlRow es R.st P v A (j + 1)) := by rw [hX, HST.out, hmn]; exact (HL7.out.set v _).later (below_drew _)
                            have z3 : IRow X Z.heap.size gp m P := by rw [hX]; exact (irow_other HP7.out HQ.out.2.2.2.2.2.2.2.2.2 _).later (below_drew _)
                            rw [← hX]
                            clear hX hmn x1 x3 b0 b1 c0 c1 l0 l1 m0 m1 p0 p1
                            go_wp2
                            go_roundw
                            case rel => exact ⟨j + 1, by omega, by go_num, z1, z2, z3⟩
                            case measure => simp [intOf]; omega
                          · rw [if_neg hc] at HST
                            have c2 : (bx == (h : Int)) = false := by simp [hc]
                            go_upto_region 33 with fail
                            go_region
                            obtain ⟨X, hX⟩ : ∃ X, X = (w7.setCell ⟨gl, v, none⟩ (.int .i64 (if px < lv then px else lv))).drew := ⟨_, rfl⟩
                            have hmn : (if px < lv then px else lv) = min lv px := by split <;> omega
                            have z1 : Frame w5 X (fun i => i = gl ∨ i = gp) := by rw [hX]; exact (HF7.out.trans (Frame.set _ _ _ (Or.inl rfl))).trans (Frame.of_below (below_drew _) _)
                            have z2 : IRow X W.heap.size gl m (rlRow es R.st P v A (j + 1)) := by rw [hX, HST.out, hmn]; exact (HL7.out.set v _).later (below_drew _)
                            have z3 : IRow X Z.heap.size gp m P := by rw [hX]; exact (irow_other HP7.out HQ.out.2.2.2.2.2.2.2.2.2 _).later (below_drew _)
                            rw [← hX]
                            clear hX hmn x1 x3 b0 b1 c0 c1 l0 l1 m0 m1 p0 p1
                            go_wp2
                            go_roundw
                            case rel => exact ⟨j + 1, by omega, by go_num, z1, z2, z3⟩
                            case measure => simp [intOf]; omega
                    · have hin : j = L.length := by omega
                      have k1 : ¬ (j : Int) < L.length := by omega
                      rw [hin, ← HRL.out] at HLj
                      clear hin hRw
                      go_wp2
                      go_roundw
                      case rel => exact ⟨kk + 1, by omega, by rw [show (N : Int) - 1 - ((kk + 1 : Nat) : Int) = (j0 : Int) - 1 by have := HEJ.out; omega], HFj.out, HLj.out, HPj.out⟩
                      case measure => have := HEJ.out; simp only [intOf]; omega
                · have hin : kk = N := by omega
                  have HLf : Hid (IRow wr W.heap.size gl m (lwN es R.st m R.st.O.length)) := by show IRow _ _ _ _ _; rw [← HLW.out, HN.out, ← hin]; exact HLk.out
                  have ez : (N : Int) - 1 - kk = -1 := by omega
                  rw [ez]
                  have HXf := hide (HFk.out.row HX5.out (fun i hi => by simp only [Value.ownBlock, Option.some.injEq] at hi; rw [← hi]; exact HQ.out.2.2.2.2.2.2.2.2.1))
                  have HTf := hide tr
                  obtain ⟨c0, c1, c2, c3, f0, f1, f2, f3⟩ := box_cells HXf.out
                  have hne : (kb + 1) ≠ k := by have := HSZ.out; have := HWK.out; omega
                  have hbf : Below w.heap.size w wr := HB5.out.trans (HFk.out.below (by have := HB5.out.size; omega) (fun i hi => by have := HGV.out; have := HB.out.size; rcases hi with e | e <;> omega))
                  have HBf := hide hbf
                  clear hbf tr hin HLk ez hlt hkk x4
                  go_upto_region 37 with fail
                  rw [HVL.out] at x3
                  repeat (first | go_values | go_skip | go_guarded | go_step | go_upon)
                  obtain ⟨cur, hk⟩ := row_kind HXf.out
                  have t5 := HTf.out
                  have k1 := row_apart hk t5.by_.2 (by decide)
                  have k2 := row_apart hk t5.far.2 (by decide)
                  have k3 := row_apart hk t5.ord (by decide)
                  have k4 := row_apart hk HLf.out.2 (by decide)
                  have h2 := HB.out.size
                  rw [HVO.out] at t5 k3
                  refine bodyPost_ret (ret_tour1 Try.results17 rfl (set_box35 HXf.out)) rfl ⟨_, gl, rfl, ⟨_, gb, gf, rfl, ?_, ?_, ?_, t5.ne1, t5.ne2, t5.ne3⟩, ?_, below_set4 HBf.out (by have := HKB.out; omega) _ _ _ _⟩
                  · exact (IOwns.base (row_set4 t5.ord k3 _ _ _ _) (by omega))
                  · exact (irow_set4 t5.by_ (fun e => k1 (by simp [Value.ownBlock, e])) _ _ _ _).base (by omega)
                  · exact (irow_set4 t5.far (fun e => k2 (by simp [Value.ownBlock, e])) _ _ _ _).base (by omega)
                  · exact (irow_set4 HLf.out (fun e => k4 (by simp [Value.ownBlock, e])) _ _ _ _).base (by omega)
        | cons x r' =>
          obtain ⟨⟨h, hby, hh2, hh3⟩, hch⟩ := HC.out
          have hby' : iat dst.By u = h := hby
          rw [hby'] at b0
          have k0 : ¬ ((h : Int) < 0) := by omega
          obtain ⟨q0, q1, _, _⟩ := f.nown HA2.out HAW.out.1
          have hHw := f.has HH2.out HAW.out.2.1
          have CT : ∀ dd os, Calls Try.prog 26 #[nv m p es.length cp, .int .i64 h] (grow (redrawn Z dd) os) fun e w'' => e = .returned (.int .i64 x) ∧ ∃ p : Regrown, w'' = grow (redrawn Z p.d) p.os := fun dd os => Calls.regrown_of (by rw [← hh3]; exact from50 m p es cp h _ (hHw.later (below_regrown Z dd os)) hh2 (by omega))
          have Q0 := cell_regrown q0
          have Q1 := cell_regrown q1
          have X1 := cell_regrown x1
          have B0 := cell_regrown b0
          clear hh3 hch hby hby' t f a hg hsT n1' n2' n3' hHw
          go_wp2_with fail
          refine wp_region_quiet_below (by kernel_rfl) (by kernel_rfl) ?_
          repeat (go_big_quiet_step (first | with_reducible exact CT _ _))
          refine wpQuiet_nil ?_
          intro w4 hw'
          have hb4 : Below Z.heap.size Z w4 := by
            obtain ⟨⟨dq, osq⟩, hw''⟩ := hw'
            rw [hw'']
            exact below_regrown Z dq osq
          have HD4 := hide (HDZ.out.later hb4)
          clear hw' hb4 q0 q1 Q0 Q1 X1 B0 CT x0 x1 x2 x3 x4 b0 b1 HDZ
          go_wp2
          go_roundg gk'
          case measure => omega
          case rel => exact ⟨⟨dst, G, x :: r'⟩, x, r', rfl, rfl, HK1.out, HC1.out, HF1.out, HD4.out⟩
      · have hlt : gn < L.length := by omega
        have k1 : (gn : Int) < L.length := by omega
        have k2 : (0 : Int) ≤ gn := by omega
        have e1 : ((gn : Int) == L.length) = false := by simp; omega
        obtain ⟨br, cr2, hbr, _, _, _⟩ := iowns_block HRO.out (by omega)
        simp only [Value.slice.injEq, true_and] at hbr
        obtain ⟨rfl, rfl⟩ := hbr
        have r0 := HRO.out.at_ hlt
        obtain ⟨h, hh1, hh2, hh3⟩ := outL_at (es := es) (h := 2 * es.length) (v := u) (j := gn) (by rw [HL.out]; exact hlt)
        rw [HL.out] at hh1
        rw [hh1] at r0
        obtain ⟨v0, v1⟩ := toL_in HM.out h hh2
        obtain ⟨v, hv⟩ : ∃ v : Nat, toL es h = v := ⟨(toL es h).toNat, by omega⟩
        rw [hv] at v0 v1
        have hvm : v < m := by omega
        have HDO : Hid (dOne es ⟨dst, G, u :: r⟩ u r = if iat dst.Fa v < 0 then ⟨⟨dst.O ++ [(v : Int)], dst.By.set v h, dst.Fa.set v (iat dst.Fa u + 1)⟩, G.set u (gn + 1), v :: u :: r⟩ else ⟨dst, G.set u (gn + 1), u :: r⟩) := by
          show _ = _
          unfold dOne
          simp only
          rw [HGN.out, HL.out, if_neg (by omega), Int.toNat_natCast, hh1, Int.toNat_natCast, hv, Int.toNat_natCast]
        have HHT := hide hv
        have HHH := hide hh2
        clear hh1 hh3 hv he HF
        go_wp2_with fail
        go_quiet (fail)
        obtain ⟨Z, hZ⟩ : ∃ Z, Z = wr.drewN nq := ⟨_, rfl⟩
        have hbZ : Below wr.heap.size wr Z := by rw [hZ]; exact below_drewN (Below.refl _ _)
        have HDZ := hide (HD.out.later hbZ)
        have y0' := later hbZ y0
        have z0' := later hbZ z0
        have r0' := later hbZ r0
        rw [← hZ]
        clear hZ hbZ y0 z0 r0 zf
        go_upto_region 10 with fail
        go_quiet (fail)
        obtain ⟨Y, hY⟩ : ∃ Y, Y = Z.drewN nq := ⟨_, rfl⟩
        have hbY : Below Z.heap.size Z Y := by rw [hY]; exact below_drewN (Below.refl _ _)
        have HDY := hide (HDZ.out.later hbY)
        rw [← hY]
        clear hY hbY y0' z0' r0' HDZ HD
        obtain ⟨vY, tY, fY, aY, hgY, rsY⟩ := HDY.out
        obtain ⟨z1, zf1⟩ := hgY.cell hu
        rw [HGN.out] at z1
        obtain ⟨q0, q1, _, _⟩ := fY.nown HA2.out HAW.out.1
        have hkg : kb ≠ gg := by have h1 := HGG.out; have h3 := block_lt_of_cell HA2.out.1; simp at h3; omega
        obtain ⟨V3, hV3⟩ : ∃ V, V = Y.setCell ⟨gg, u, none⟩ (.int .i64 ((gn : Int) + 1)) := ⟨_, rfl⟩
        have HD3 : Hid (DM w2 V3 W.heap.size k m gb gf gg (.slice po 1 co) vl none 0 ⟨dst, G.set u ((gn : Int) + 1), []⟩) := by
          show DM _ _ _ _ _ _ _ _ _ _ _ _ _
          rw [hV3]
          exact HDY.out.put HLO.out u _
        clear rsY tY fY aY hgY HDY
        obtain ⟨v3, t3, f3, a3, rs3⟩ := HD3.out
        have CT := hide (to43 m p es cp h V3 (f3.has HH2.out HAW.out.2.1) HHH.out (by omega))
        rw [HHT.out] at CT
        clear rs3 t3 f3 a3
        go_wp2_with fail
        rw [← hV3]
        clear hV3
        refine CT.out.mono ?_
        rintro e w4 ⟨rfl, hb4⟩
        have HD4 := hide (HD3.out.later hb4)
        clear hb4 CT HD3 z1 zf1 q0 q1 hkg
        obtain ⟨vo4, t4, f4, a4, hg4, hs4, m1, m2, m3⟩ := HD4.out
        obtain ⟨x0, x1, x2, x3, x4, _⟩ := t4.cells
        obtain ⟨c0, c1⟩ := t4.far.cell hvm
        obtain ⟨b0, b1⟩ := t4.far.cell hu
        have hB4 : W.heap.size ≤ w4.heap.size := by have h1 := HB2.out.size; have h2 := f4.size; omega
        have hOl : dst.O.length ≤ 2000 := by have h2 := HK.out.ok.cnt; simp only at h2; omega
        have HT4 := hide (And.intro f4 (And.intro a4 (And.intro hg4 (And.intro hs4 (And.intro m1 (And.intro m2 m3))))))
        have l1 : (v : Int) < m := by omega
        have l2 : (0 : Int) ≤ v := by omega
        have hfv := HK.out.ok.val u hu
        simp only at hfv
        simp only at c0 b0
        have HTT := hide t4
        clear t4 f4 a4 hg4 hs4 m1 m2 m3 v0
        by_cases hneg : iat dst.Fa v < 0
        · rw [if_pos hneg] at HDO
          rw [HDO.out] at HF1 HK1 HC1
          obtain ⟨fv, hfv1⟩ : ∃ fv, iat dst.Fa v = fv := ⟨_, rfl⟩
          obtain ⟨fu, hfu1⟩ : ∃ fu, iat dst.Fa u = fu := ⟨_, rfl⟩
          rw [hfv1] at c0 hneg
          rw [hfu1] at b0 hfv HF1 HK1 HC1 HDO
          clear hfv1 hfu1 HD4
          go_wp2_with fail
          go_region
          obtain ⟨Y1, hY1⟩ : ∃ Y, Y = (w4.setCell ⟨gf, v, none⟩ (.int .i64 (fu + 1))).drew := ⟨_, rfl⟩
          have HS4 : Hid (TB Y1 W.heap.size k m vo4 gb gf vl dst.O dst.By (dst.Fa.set v (fu + 1)) ∧ Frame w4 Y1 (TBk k gb gf vo4)) := by
            show _ ∧ _
            rw [hY1]
            exact ⟨(HTT.out.setFar v (fu + 1)).later (below_drew _), (Frame.set _ _ _ (Or.inr (Or.inr (Or.inl rfl)))).trans (Frame.of_below (below_drew _) _)⟩
          rw [← hY1]
          clear hY1 x0 x1 x2 x3 x4 c0 c1 b0 b1 HTT
          have t4 := HS4.out.1
          obtain ⟨x0, x1, x2, x3, x4, _⟩ := t4.cells
          obtain ⟨a0, a1⟩ := t4.by_.cell hvm
          clear t4
          obtain ⟨Y2, hY2⟩ : ∃ Y, Y = Y1.setCell ⟨gb, v, none⟩ (.int .i64 h) := ⟨_, rfl⟩
          have HS5 : Hid (TB Y2 W.heap.size k m vo4 gb gf vl dst.O (dst.By.set v h) (dst.Fa.set v (fu + 1)) ∧ Frame w4 Y2 (TBk k gb gf vo4)) := by
            show _ ∧ _
            rw [hY2]
            exact ⟨HS4.out.1.setBy v h, HS4.out.2.trans (Frame.set _ _ _ (Or.inr (Or.inl rfl)))⟩
          go_upto_region 16 with fail
          rw [← hY2]
          clear hY2 x0 x1 x2 x3 x4 a0 a1 HS4
          have t5 := HS5.out.1
          have f5 := HS5.out.2
          obtain ⟨p1, l1', c1, D, e1, z0, z4, t6, f6, a6⟩ := t5.push v (by have h1 := f5.size; omega) (by omega)
          have HD6 : Hid (DM w2 (D.setCell ⟨k, 0, none⟩ (.slice p1 l1' c1)) W.heap.size k m gb gf gg (.slice po 1 co) vl none 0 ⟨⟨dst.O ++ [(v : Int)], dst.By.set v h, dst.Fa.set v (fu + 1)⟩, G.set u ((gn : Int) + 1), []⟩) :=
            DM.found (st' := ⟨dst.O ++ [(v : Int)], dst.By.set v h, dst.Fa.set v (fu + 1)⟩) HLO.out HT4.out.1 HT4.out.2.1 HT4.out.2.2.1 HT4.out.2.2.2.1 HT4.out.2.2.2.2.1 HT4.out.2.2.2.2.2.1 HT4.out.2.2.2.2.2.2 t6 (f5.trans f6) (a6.imp id fun ⟨i, h1, h2⟩ => ⟨i, h1, by have := f5.size; omega⟩)
          obtain ⟨x0, x1, x2, x3, x4, _⟩ := t5.cells
          obtain ⟨p5, l5, c5, rfl⟩ : ∃ a b c, vo4 = .slice a b c := by obtain ⟨a, b, hv, _⟩ := t5.ord.form; exact ⟨_, _, _, hv⟩
          have y1 : k < Y2.heap.size := block_lt_of_cell x0
          have y2 : k ≠ Y2.heap.size := by omega
          clear t5 f5 t6 f6 a6 HS5 HT4
          go_wp2_with (at_builtin; refine wpList_run_append rfl (.tmp 106) (.tmp 108) 33 rfl 33 rfl _ _ _ D rfl rfl e1 ?_)
          clear e1 x0 x1 x2 x3 x4 y1 y2
          go_wp2
          go_roundg gk'
          case measure => omega
          case rel => exact ⟨_, v, u :: r, rfl, rfl, HK1.out, HC1.out, HF1.out, HD6.out⟩
        · rw [if_neg hneg] at HDO
          rw [HDO.out] at HF1 HK1 HC1
          obtain ⟨fv, hfv1⟩ : ∃ fv, iat dst.Fa v = fv := ⟨_, rfl⟩
          rw [hfv1] at c0 hneg
          clear hfv1 HT4
          go_wp2
          go_roundg gk'
          case measure => omega
          case rel => exact ⟨_, u, r, rfl, rfl, HK1.out, HC1.out, HF1.out, HD4.out⟩
end Go.Proofs.Ytghffodjffkijaa
