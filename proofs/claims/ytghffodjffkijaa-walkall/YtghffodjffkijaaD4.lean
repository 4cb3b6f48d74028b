/- dive, in every world. -/
import Derived.Test.YtghffodjffkijaaD3
namespace Go.Proofs.Ytghffodjffkijaa
open Go.RowKit Go.Sort
open Go

def d0 (m s : Nat) (st : St) : Ds := ⟨begin_ st s, List.replicate m 0, [s]⟩
theorem d0_ok {es : List Pt} {m s : Nat} {st : St} (o : Ok m st) (hs : s < m) (hn : iat st.Fa s < 0) : Dk es m (d0 m s st) where
  ok := o.begin_ hs hn
  lg := by simp [d0]
  gv u hu := by show 0 ≤ iat (List.replicate m 0) u ∧ iat (List.replicate m 0) u ≤ _; rw [iat_fill hu]; omega
  sm u hu := by
    have : u = s := by simpa [d0] using hu
    subst this
    exact ⟨hs, by show 0 ≤ iat (st.Fa.set u 0) u; rw [iat_put (by rw [o.lf]; exact hs)]; omega⟩
  sl := by simp [d0, begin_]
set_option maxRecDepth 100000 in
set_option maxHeartbeats 8000000 in
theorem dive40 (m : Nat) (p : Option Addr) (es : List Pt) (cp : Nat) (Bo g : Nat) (rv : Nat → Value) (B k gb gf : Nat) (vo vl : Value) (st : St) (s : Nat) (w : World)
    (hm : netB m es = true) (h : Has w p es) (hR : Rows w Bo g m rv (outL es (2 * es.length))) (t : TB w B k m vo gb gf vl st.O st.By st.Fa) (ok : Ok m st) (hs : s < m) (hsn : iat st.Fa s < 0) (hB : B ≤ w.heap.size)
    (ap : ∀ a, p = some a → es = [] ∨ ¬ TBk k gb gf vo a.block) (ag : ¬ TBk k gb gf vo g) (ar : ∀ v i, v < m → (rv v).ownBlock = some i → ¬ TBk k gb gf vo i) :
    Calls Try.prog 40 #[nv m p es.length cp, .slice (some ⟨g, 0, none⟩) m m, .pointer (some ⟨k, 0, none⟩), .int .i64 s] w fun e w' => e = .returned (.tuple #[]) ∧ SM w w' B k m gb gf vo vl (dfs es (dM es m (d0 m s st)) (d0 m s st)).st := by
  obtain ⟨W, hW, hb, a0⟩ := one_net w m p es.length cp
  obtain ⟨n0, n1, hes, _⟩ := netB_is hm
  have HM := hide hm
  have HH := hide (h.later hb)
  have HA := hide a0
  have HR := hide (hR.later hb)
  have HB := hide hb
  have hws : w.heap.size < W.heap.size := block_lt_of_cell a0.1
  have hWs : W.heap.size = w.heap.size + 1 := by rw [hW]; simp
  have tW := t.later hb
  have hkb : ¬ TBk k gb gf vo w.heap.size := by
    have h1 : k < w.heap.size := block_lt_of_cell t.cells.1
    have h2 := t.by_.lt
    have h3 := t.far.lt
    rintro (h | h | h | h)
    · omega
    · omega
    · omega
    · have := (World.ownsRow.lt t.ord _ h).2; omega
  have HAW := hide (And.intro hkb (And.intro ap (And.intro ag ar)))
  have HLW : Hid (Low W k gb gf W.heap.size vo) := ⟨by have : k < w.heap.size := block_lt_of_cell t.cells.1; omega, tW.by_.lt.2, tW.far.lt.2, fun i hi => (World.ownsRow.lt tW.ord i hi).2, Nat.le_refl _⟩
  have HDK := hide (d0_ok (es := es) ok hs hsn)
  have hcn := ok.cnt
  have HTW := hide tW
  obtain ⟨R, hRR⟩ : ∃ R, dfs es (dM es m (d0 m s st)) (d0 m s st) = R := ⟨_, rfl⟩
  rw [hRR]
  have HRR := hide hRR
  obtain ⟨i0, hi0, hz0, hz1, hz2⟩ := info_parts info3
  obtain ⟨q0, q1, _, _⟩ := a0
  clear h hb hm hR t tW hkb ap ag ar ok hRR q0 q1
  go_enter Try.func40, Try.ntmps40
  go_wp2_with (refine wpList_make_full _ rfl (.tmp 14) (.tmp 14) 33 rfl (w.alloc (nbx m p es.length cp)).heap.size 3 i0 (.int .i64 0) 1 Try.underlying33 hi0 hz0 hz1 .i64 .i64 _ _ m rfl rfl rfl rfl ?c1 ?c2 ?c3 ?_)
  case c1 => rw [hz2]; omega
  case c2 => unfold maxLen; omega
  case c3 => exact Nat.le_refl _
  intro w1 hown hgrow
  have hgrow' : W.grownBy w1 none := by rw [hW]; exact hgrow
  have hg1 := irow_made hown
  have hb1 := below_made hgrow'
  have F1 := hide (find53 B k m vo gb gf vl st.O st.By st.Fa s (-1) 0 w1 (HTW.out.later hb1) hs (by have := hb1.size; omega) (by omega))
  have HG1 := hide hg1
  have HB1 := hide hb1
  clear hown hgrow hgrow' hg1 hb1 hW
  go_wp2_with fail
  refine F1.out.mono ?_
  rintro e w2 ⟨rfl, vo1, t1, f1, a1⟩
  rw [show w.heap.size + 1 = W.heap.size from hWs.symm] at HG1 ⊢
  have hg2 : IRow w2 W.heap.size W.heap.size m (List.replicate m 0) := f1.irow HG1.out (by
    have l := HLW.out
    have h1 := l.k; have h2 := l.gb; have h3 := l.gf
    rintro (h | h | h | h)
    · omega
    · omega
    · omega
    · have := l.vo _ h; omega)
  obtain ⟨X, hX⟩ : ∃ X, X = w2.alloc (.cells #[.int .i64 s] 3) := ⟨_, rfl⟩
  have hbX : Below w2.heap.size w2 X := by rw [hX]; go_grown
  have s1 := HB1.out.size
  have s2 := f1.size
  have s3 : W.heap.size < w1.heap.size := HG1.out.lt.2
  have HDM : Hid (DM W X B k m gb gf W.heap.size vo vl (some ⟨w2.heap.size, 0, none⟩) 1 (d0 m s st)) := by
    refine ⟨vo1, t1.later hbX, ((Frame.of_below HB1.out _).trans f1).trans (Frame.of_below hbX _), ?_, hg2.later hbX, ?_, ?_, ?_, ?_⟩
    · exact a1.imp id fun ⟨i, h1, h2⟩ => ⟨i, h1, by omega⟩
    · show X.ownsRow W.heap.size 3 1 (.slice (some ⟨w2.heap.size, 0, none⟩) 1 1) 1 [.int .i64 s]
      rw [hX]
      exact World.ownsRow_lit w2 #[.int .i64 s] 1 (by omega) (by unfold maxLen; omega) rfl
    · rcases a1 with a1 | ⟨i, h1, h2⟩
      · rw [a1]; intro e; have := HLW.out.vo _ e; omega
      · rw [h1]; intro e; injection e with e; omega
    · show some w2.heap.size ≠ some W.heap.size
      intro e; injection e with e; omega
    · intro i hi hv
      have h1 : w2.heap.size = i := by injection hi
      have := (World.ownsRow.lt t1.ord i hv).2
      omega
  clear F1 t1 f1 a1 hg2 HG1 hbX s1 s2 s3 HTW hWs hws
  go_wp2_with fail
  rw [← hX]
  clear hX
  obtain ⟨kb, hkb⟩ : ∃ kb, w.heap.size = kb := ⟨_, rfl⟩
  rw [hkb] at HA HAW ⊢
  have HKB := hide hkb
  obtain ⟨gg, hgg⟩ : ∃ gg, W.heap.size = gg := ⟨_, rfl⟩
  obtain ⟨ks, hks⟩ : ∃ ks, w2.heap.size = ks := ⟨_, rfl⟩
  have HDM2 : Hid (DM W X B k m gb gf gg vo vl (some ⟨ks, 0, none⟩) 1 (d0 m s st)) := by rw [← hgg, ← hks]; exact HDM.out
  have HLW2 : Hid (Low W k gb gf gg vo) := by rw [← hgg]; exact HLW.out
  have HGG := hide hgg
  rw [hgg, hks]
  clear hkb hgg hks HDM HLW
  go_loopg [9] (dM es m (d0 m s st)) (fun gk t9 wr => ∃ (d : Ds) (pT : Option Addr) (cT : Nat), t9 = .slice pT d.S.length cT ∧ Hid (Dk es m d) ∧ Hid (dfs es gk d = R ∧ dM es m d ≤ gk) ∧ Hid (DM W wr B k m gb gf gg vo vl pT cT d))
  case atStart => exact ⟨d0 m s st, _, _, rfl, HDK.out, ⟨HRR.out, Nat.le_refl _⟩, HDM2.out⟩
  case round =>
    obtain ⟨d, pT, cT, rfl, HK, HF, HD⟩ := hrel
    obtain ⟨dst, G, S⟩ := d
    cases S with
    | nil =>
      have hR : R = ⟨dst, G, []⟩ := by
        rw [← HF.out.1]
        cases gk with
        | zero => rfl
        | succ k => rfl
      obtain ⟨vo', t, f, a, _⟩ := HD.out
      have HS : Hid (SM w wr B k m gb gf vo vl R.st) := by
        rw [hR]
        exact ⟨vo', t, (Frame.of_below HB.out _).trans f, a.imp id fun ⟨i, h1, h2⟩ => ⟨i, h1, by have := HB.out.size; omega⟩⟩
      clear hR t f a HD HF HK
      go_wp2
      go_end0
      exact ⟨rfl, HS.out⟩
    | cons u r =>
      obtain ⟨gk', rfl⟩ : ∃ k', gk = k' + 1 := ⟨gk - 1, by have := HF.out.2; unfold dM at this; simp at this; omega⟩
      obtain ⟨hK1, hM1⟩ := HK.out.one HM.out rfl
      have HF1 : Hid (dfs es gk' (dOne es ⟨dst, G, u :: r⟩ u r) = R ∧ dM es m (dOne es ⟨dst, G, u :: r⟩ u r) ≤ gk') := ⟨HF.out.1, by have := HF.out.2; omega⟩
      have HK1 := hide hK1
      obtain ⟨hu, hfu⟩ := HK.out.sm u (by simp)
      obtain ⟨g0, g1⟩ := HK.out.gv u hu
      obtain ⟨vo', t, f, a, hg, hsT, n1', n2', n3'⟩ := HD.out
      obtain ⟨b, c', hbv, _, _, _⟩ := iowns_block hsT (by rw [nums_length]; simp)
      simp only [Value.slice.injEq] at hbv
      obtain ⟨rfl, _, rfl⟩ := hbv
      have t0 : wr.cell? ⟨b, r.length, none⟩ = some (.int .i64 u) := by
        have h1 := hsT
        unfold IOwns at h1
        rw [nums_length, List.length_reverse] at h1
        rw [World.ownsRow.cellAt h1 r.length (by simp)]
        simp [icells, nums]
      have hcT : r.length + 1 ≤ cT := by
        obtain ⟨_, c2, hc, _, h5, _⟩ := hsT.form
        simp only [Value.slice.injEq] at hc
        rw [nums_length] at h5
        simp at h5
        rw [hc.2.2]
        exact h5
      have hRw := f.rows HR.out HAW.out.2.2.1 HAW.out.2.2.2
      obtain ⟨y0, _⟩ := hRw.cell hu
      obtain ⟨pr, cr, hrv, _⟩ := (hRw.2.2 u hu).form
      rw [hrv] at y0
      have hLl := outL_length es (2 * es.length) u
      have HRO : Hid (IOwns wr Bo (.slice pr (outL es (2 * es.length) u).length cr) (outL es (2 * es.length) u)) := by
        have := hRw.2.2 u hu
        rw [hrv] at this
        exact this
      obtain ⟨L, hL⟩ : ∃ L, outL es (2 * es.length) u = L := ⟨_, rfl⟩
      have HL := hide hL
      rw [hL] at y0 hLl HRO g1
      obtain ⟨z0, zf⟩ := hg.cell hu
      obtain ⟨gn, hgn⟩ : ∃ gn : Nat, iat G u = gn := ⟨(iat G u).toNat, by have : 0 ≤ iat G u := g0; omega⟩
      have g1' : iat G u ≤ L.length := g1
      rw [hgn] at z0 g1'
      have HGN := hide hgn
      have hSb : r.length ≤ 2000 := by have h1 := HK.out.sl; have h2 := HK.out.ok.cnt; simp only [List.length_cons] at h1; simp only at h2; omega
      obtain ⟨tl, htl⟩ : ∃ tl, r.length = tl := ⟨_, rfl⟩
      rw [htl] at t0 hcT hSb
      have HTL := hide htl
      have j1 : (u : Int) < m := by omega
      have j2 : (0 : Int) ≤ u := by omega
      have hlen : (u :: r).length = tl + 1 := by simp [htl]
      rw [hlen]
      clear hlen htl hgn hL hRw hrv g0 g1 hK1 hM1 hsT hg n1' n2' n3' t f a
      by_cases he : gn = L.length
      · have HD1 : Hid (DM W wr B k m gb gf gg vo vl (some ⟨b, 0, none⟩) cT ⟨dst, G, r⟩) := HD.out.pop
        have HDO : Hid (dOne es ⟨dst, G, u :: r⟩ u r = ⟨dst, G, r⟩) := by
          show _ = _
          unfold dOne
          rw [if_pos]
          show iat G u = _
          rw [HGN.out, HL.out, he]
        rw [HDO.out] at HF1 HK1
        have e1 : ((gn : Int) == L.length) = true := by simp [he]
        have HE := hide he
        clear he HF HK HD
        go_wp2_with fail
        go_quiet (fail)
        clear t0 y0 z0 zf
        go_wp2
        go_roundg gk'
        case measure => omega
        case rel => exact ⟨⟨dst, G, r⟩, some ⟨b, 0, none⟩, cT, by rw [HTL.out], HK1.out, HF1.out, HD1.out.later (below_drewN (Below.refl _ _))⟩
      · have hlt : gn < L.length := by omega
        have k1 : (gn : Int) < L.length := by omega
        have k2 : (0 : Int) ≤ gn := by omega
        have e1 : ((gn : Int) == L.length) = false := by simp; omega
        obtain ⟨br, cr2, hbr, _, _, _⟩ := iowns_block HRO.out (by omega)
        simp only [Value.slice.injEq, true_and] at hbr
        obtain ⟨rfl, rfl⟩ := hbr
        have r0 := HRO.out.at_ hlt
        obtain ⟨h, hh1, hh2, hh3⟩ := outL_at (es := es) (h := 2 * es.length) (v := u) (j := gn) (by rw [HL.out]; exact hlt)
        rw [HL.out] at hh1
        rw [hh1] at r0
        obtain ⟨v0, v1⟩ := toL_in HM.out h hh2
        obtain ⟨v, hv⟩ : ∃ v : Nat, toL es h = v := ⟨(toL es h).toNat, by omega⟩
        rw [hv] at v0 v1
        have hvm : v < m := by omega
        have HDO : Hid (dOne es ⟨dst, G, u :: r⟩ u r = if iat dst.Fa v < 0 then ⟨⟨dst.O ++ [(v : Int)], dst.By.set v h, dst.Fa.set v (iat dst.Fa u + 1)⟩, G.set u (gn + 1), v :: u :: r⟩ else ⟨dst, G.set u (gn + 1), u :: r⟩) := by
          show _ = _
          unfold dOne
          simp only
          rw [HGN.out, HL.out, if_neg (by omega), Int.toNat_natCast, hh1, Int.toNat_natCast, hv, Int.toNat_natCast]
        have HHT := hide hv
        have hgu : iat G u + 1 = (gn : Int) + 1 := by rw [HGN.out]
        have HHH := hide hh2
        clear hh1 hh3 hv he HF hgu
        go_wp2_with fail
        go_quiet (fail)
        obtain ⟨Z, hZ⟩ : ∃ Z, Z = wr.drewN nq := ⟨_, rfl⟩
        have hbZ : Below wr.heap.size wr Z := by rw [hZ]; exact below_drewN (Below.refl _ _)
        have HDZ := hide (HD.out.later hbZ)
        have y0' := later hbZ y0
        have z0' := later hbZ z0
        have r0' := later hbZ r0
        rw [← hZ]
        clear hZ hbZ y0 z0 r0 t0 zf
        go_upto_region 8 with fail
        go_quiet (fail)
        obtain ⟨Y, hY⟩ : ∃ Y, Y = Z.drewN nq := ⟨_, rfl⟩
        have hbY : Below Z.heap.size Z Y := by rw [hY]; exact below_drewN (Below.refl _ _)
        have HDY := hide (HDZ.out.later hbY)
        rw [← hY]
        clear hY hbY y0' z0' r0' HDZ HD
        obtain ⟨vY, tY, fY, aY, hgY, rsY⟩ := HDY.out
        obtain ⟨z1, zf1⟩ := hgY.cell hu
        rw [HGN.out] at z1
        obtain ⟨q0, q1, _, _⟩ := fY.nown HA.out HAW.out.1
        have hkg : kb ≠ gg := by have h1 := HGG.out; have h2 := HKB.out; have h3 := block_lt_of_cell HA.out.1; simp at h3; omega
        obtain ⟨V3, hV3⟩ : ∃ V, V = Y.setCell ⟨gg, u, none⟩ (.int .i64 ((gn : Int) + 1)) := ⟨_, rfl⟩
        have HD3 : Hid (DM W V3 B k m gb gf gg vo vl (some ⟨b, 0, none⟩) cT ⟨dst, G.set u ((gn : Int) + 1), u :: r⟩) := by
          show DM _ _ _ _ _ _ _ _ _ _ _ _ _
          rw [hV3]
          exact HDY.out.put HLW2.out u _
        clear rsY tY fY aY hgY HDY
        obtain ⟨v3, t3, f3, a3, rs3⟩ := HD3.out
        have CT := hide (comes54 m p es cp h V3 (f3.has HH.out HAW.out.2.1) HHH.out (by omega))
        rw [HHT.out] at CT
        clear rs3 t3 f3 a3
        go_wp2_with fail
        rw [← hV3]
        clear hV3
        refine CT.out.mono ?_
        rintro e w4 ⟨rfl, hb4⟩
        have HD4 := hide (HD3.out.later hb4)
        clear hb4 CT HD3 z1 zf1 q0 q1 hkg
        obtain ⟨vo4, t4, f4, a4, hg4, hs4, m1, m2, m3⟩ := HD4.out
        obtain ⟨x0, x1, x2, x3, x4, _⟩ := t4.cells
        obtain ⟨c0, c1⟩ := t4.far.cell hvm
        obtain ⟨b0, b1⟩ := t4.far.cell hu
        have hB4 : B ≤ w4.heap.size := by have h1 := HB.out.size; have h2 := f4.size; omega
        have hOl : dst.O.length ≤ 2000 := by have h2 := HK.out.ok.cnt; simp only at h2; omega
        have FD := hide (find53 B k m vo4 gb gf vl dst.O dst.By dst.Fa v h (iat dst.Fa u + 1) w4 t4 hvm hB4 (by omega))
        have HT4 := hide (And.intro f4 (And.intro a4 (And.intro hg4 (And.intro hs4 (And.intro m1 (And.intro m2 m3))))))
        have l1 : (v : Int) < m := by omega
        have l2 : (0 : Int) ≤ v := by omega
        have hfv := HK.out.ok.val u hu
        simp only at hfv
        clear t4 f4 a4 hg4 hs4 m1 m2 m3 hB4 v0
        by_cases hneg : iat dst.Fa v < 0
        · rw [if_pos hneg] at HDO
          rw [HDO.out] at HF1 HK1
          obtain ⟨fv, hfv1⟩ : ∃ fv, iat dst.Fa v = fv := ⟨_, rfl⟩
          obtain ⟨fu, hfu1⟩ : ∃ fu, iat dst.Fa u = fu := ⟨_, rfl⟩
          rw [hfv1] at c0 hneg
          rw [hfu1] at b0 hfv FD HF1 HK1 HDO
          clear hfv1 hfu1 HD4
          go_wp2_with fail
          refine FD.out.mono ?_
          rintro e w5 ⟨rfl, vo5, t5, f5, a5⟩
          have HD5 : Hid (DM W w5 B k m gb gf gg vo vl (some ⟨b, 0, none⟩) cT ⟨⟨dst.O ++ [(v : Int)], dst.By.set v h, dst.Fa.set v (fu + 1)⟩, G.set u ((gn : Int) + 1), u :: r⟩) := DM.found HLW2.out HT4.out.1 HT4.out.2.1 HT4.out.2.2.1 HT4.out.2.2.2.1 HT4.out.2.2.2.2.1 HT4.out.2.2.2.2.2.1 HT4.out.2.2.2.2.2.2 t5 f5 a5
          clear t5 f5 a5 FD x0 x1 x2 x3 x4 c0 c1 b0 b1 HT4
          obtain ⟨U, hU⟩ : ∃ U, U = w5.alloc (.cells #[.int .i64 v] 3) := ⟨_, rfl⟩
          have hbU : Below w5.heap.size w5 U := by rw [hU]; go_grown
          have hlit : U.cell? ⟨w5.heap.size, 0, none⟩ = some (.int .i64 v) := by rw [hU]; exact one_int _ _
          have hDU := HD5.out.later hbU
          obtain ⟨v6, t6, f6, a6, hg6, hs6, rs6⟩ := hDU
          have hDU := HD5.out.later hbU
          obtain ⟨w1', D, ea, o1, gr, at1⟩ := append_int hs6 hlit f6.size (by rw [nums_length]; have := HTL.out; simp; omega)
          obtain ⟨p1, c2, hv1, _⟩ := o1.form
          have hl1 : (nums (u :: r).reverse ++ [(v : Int)]).length = (u :: r).length + 1 := by simp [nums]
          rw [hl1] at hv1
          subst hv1
          have HD6 := hide (DM.push (x := v) hDU HLW2.out o1 gr at1 rfl)
          rw [hU] at ea
          have hlen2 : (u :: r).length = tl + 1 := by simp [HTL.out]
          simp only [hlen2] at ea
          clear rs6 hU hbU hlit hDU t6 f6 a6 hg6 hs6 o1 gr at1 hl1 HD5 hlen2
          go_wp2_with (at_builtin; refine wpList_run_append rfl (.tmp 84) (.tmp 86) 33 rfl 33 rfl _ _ _ D rfl rfl ea ?_)
          clear ea
          go_wp2
          go_roundg gk'
          case measure => omega
          case rel => exact ⟨_, p1, c2, by simp [HTL.out], HK1.out, HF1.out, HD6.out⟩
        · rw [if_neg hneg] at HDO
          rw [HDO.out] at HF1 HK1
          obtain ⟨fv, hfv1⟩ : ∃ fv, iat dst.Fa v = fv := ⟨_, rfl⟩
          rw [hfv1] at c0 hneg
          clear hfv1 FD HT4
          go_wp2
          go_roundg gk'
          case measure => omega
          case rel => exact ⟨_, some ⟨b, 0, none⟩, cT, by simp [HTL.out], HK1.out, HF1.out, HD4.out⟩
end Go.Proofs.Ytghffodjffkijaa
