import Derived.Test.YtgnojjbdioldbaaA4
namespace Go.Proofs.Ytgnojjbdioldbaa
open Go.RowKit Go.Sort
open Go
theorem area_in {ps : List Pt} (h : mayB ps = true) (hl : ps.length ≤ 103) : -(103 * 2199023255552 : Int) ≤ areaI ps ∧ areaI ps ≤ 103 * 2199023255552 := by
  unfold areaI
  split
  · omega
  · have := part_in h ps.length (Nat.le_refl _)
    omega
theorem may_of_err {ps : List Pt} (h : errI ps = 0) : mayB ps = true := by
  unfold errI at h
  cases hm : mayB ps
  · rw [hm] at h; simp at h
  · rfl
theorem may_reverse (ps : List Pt) : mayB ps.reverse = mayB ps := by
  unfold mayB
  rw [List.length_reverse, List.all_reverse]
set_option maxRecDepth 100000 in
set_option maxHeartbeats 4000000 in
theorem areas_yes (p : Option Addr) (ps : List Pt) (cap : Nat) (k : Int) (w : World) (hcap : ps.length ≤ cap) (h : Has w p ps) (h3 : 3 ≤ ps.length) (h100 : ps.length ≤ 100) (hE : errI ps = 0) (hk1 : 1 ≤ k) (hk2 : k ≤ (ps.length : Int) - 2) : Calls Try.prog 8 #[.slice p ps.length cap, .int .i64 k] w fun e w' => e = .returned (.bool true) ∧ Below w.heap.size w w' := by
  have HH := hide h
  clear h
  obtain ⟨i0, hi0, hz0, hz1, hz2⟩ := info_parts info23
  have hm : mayB ps = true := may_of_err hE
  have hmr : mayB ps.reverse = true := by rw [may_reverse]; exact hm
  have her : errI ps.reverse = 0 := by unfold errI; rw [hmr]; rfl
  go_enter Try.func8, Try.ntmps8
  go_wp2_with fail
  refine (begun9 _).mono ?_
  rintro e w1 ⟨rfl, hb⟩
  have A := hide (err10 p ps cap w1 (HH.out.later hb))
  rw [hE] at A
  have HB := hide hb
  have HH1 := hide (HH.out.later hb)
  clear hb
  go_wp2_with fail
  refine A.out.mono ?_
  rintro e w2 ⟨rfl, hb⟩
  have HB2 := hide (below_step9 HB.out hb)
  have HH2 := hide (HH1.out.later hb)
  clear hb
  go_wp2_with fail
  go_loopw [5, 6] (fun v t wr => ∃ i : Nat, i ≤ ps.length ∧ t = .int .i64 ((ps.length : Int) - 1 - i) ∧ Hid (Below w2.heap.size w2 wr) ∧ Hid (Owns wr w2.heap.size v (ps.reverse.take i))) (fun _ t _ => (intOf t + 1).toNat)
  case atStart =>
    exact ⟨0, by omega, by simp, Below.refl _ _, Owns.nil _ _⟩
  case round =>
    obtain ⟨i, hi, rfl, HBr, HO⟩ := hrel
    by_cases hlt : i < ps.length
    · rcases HH2.out.later HBr.out with h | ⟨b, off, rfl, hL⟩
      · subst h; simp at hlt
      obtain ⟨c0, c1⟩ := hL (ps.length - 1 - i) (by omega)
      obtain ⟨j, hj⟩ : ∃ j, ps.length - 1 - i = j := ⟨_, rfl⟩
      rw [hj] at c0 c1
      rw [show (ps.length : Int) - 1 - i = (j : Nat) by omega]
      have e1 : (j : Int) < ps.length := by omega
      obtain ⟨l, hl⟩ : ∃ l, ps.reverse.take i = l := ⟨_, rfl⟩
      have hll : l.length = i := by rw [← hl, List.length_take, List.length_reverse]; omega
      have hnext : Hid (ps.reverse.take (i + 1) = l ++ [at' ps j]) := by
        show _ = _
        rw [← hl, List.take_succ_eq_append_getElem (by rw [List.length_reverse]; exact hlt), List.getElem_reverse]
        congr 2
        unfold at'
        rw [List.getD_eq_getElem?_getD, ← hj, List.getElem?_eq_getElem (by omega)]
        rfl
      rw [hl] at HO
      obtain ⟨x, hx⟩ : ∃ x, at' ps j = x := ⟨_, rfl⟩
      rw [hx] at c0 c1 hnext
      obtain ⟨p0, c, rfl, _, _, _, _⟩ := HO.out.form
      have hOW : wr.ownsRow w2.heap.size 23 2 (.slice p0 l.length c) l.length (cells l) := HO.out
      have hsz := HBr.out.size
      have HLL := hide hll
      clear hl hL hll
      go_wp2_with (at_builtin; refine wpList_append_own _ rfl _ _ 27 rfl w2.heap.size 23 i0 (.agg #[.int .i64 0, .int .i64 0]) 2 16 Try.underlying27 hi0 hz0 hz1 hz2 rfl (by decide) _ _ _ rfl (World.ownsRow.alloc hOW _) ⟨wr.heap.size, 0, none⟩ 1 1 [.int .i64 x.x, .int .i64 x.y] rfl rfl ?c1 ?c2 ?c3 ?c4 ?c5 ?_)
      case c1 =>
        intro j u hj
        match j, hj with
        | 0, hj => simp at hj; subst hj; simp [Addr.add]
        | 1, hj => simp at hj; subst hj; simp [Addr.add]
      case c2 => intro u hu; simp at hu; rcases hu with rfl | rfl <;> rfl
      case c3 => have := HLL.out; unfold maxLen; omega
      case c4 => have := HLL.out; omega
      case c5 => simp; omega
      intro v' w3 hown' hgrow _
      have ho := hide (owns_more hown')
      have hbg : Below w2.heap.size wr w3 := below_grown (w := wr.alloc (bx x)) (by go_grown) (World.ownsRow.alloc hOW _) (Nat.le_refl _) (by simp; omega) hgrow
      have HBg := hide hbg
      clear hown' hgrow hbg hOW
      go_wp2
      go_roundw
      case rel =>
        refine ⟨i + 1, by omega, ?_, Below.trans HBr.out HBg.out, ?_⟩
        · congr 1; omega
        · rw [hnext.out]; exact ho.out
      case measure => simp [intOf]
    · have hin : i = ps.length := by omega
      subst hin
      rw [show ps.reverse.take ps.length = ps.reverse by rw [← List.length_reverse, List.take_length]] at HO
      rw [show (ps.length : Int) - 1 - ps.length = -1 by omega]
      obtain ⟨p0, c, rfl, hHas0, _, _, _⟩ := HO.out.form
      rw [List.length_reverse]
      have HB3 := hide (below_step9 HB2.out HBr.out)
      have HR3 := hide hHas0
      have HH3 := hide (HH2.out.later HBr.out)
      clear HO hHas0
      have A1 := hide (area24 p ps cap wr HH3.out)
      rw [hm, if_pos rfl, hE] at A1
      go_wp2_with fail
      refine A1.out.mono ?_
      rintro e w4 ⟨rfl, hb⟩
      have HB4 := hide (below_step9 HB3.out hb)
      have HR4 := hide (HR3.out.later hb)
      have HH4 := hide (HH3.out.later hb)
      clear hb A1
      have A2 := hide (area24 p0 ps.reverse c w4 HR4.out)
      rw [hmr, if_pos rfl, her, List.length_reverse, area_reverse ps (by omega)] at A2
      go_wp2_with fail
      refine A2.out.mono ?_
      rintro e w5 ⟨rfl, hb⟩
      have HB5 := hide (below_step9 HB4.out hb)
      have HH5 := hide (HH4.out.later hb)
      clear hb A2 HR3 HR4 HH3 HH4
      obtain ⟨S, hS⟩ : ∃ S, areaI ps = S := ⟨_, rfl⟩
      rw [hS]
      go_wp2_with fail
      obtain ⟨kn, rfl⟩ : ∃ kn : Nat, k = kn := ⟨k.toNat, by omega⟩
      rcases HH5.out with h | ⟨b, off, rfl, hL5⟩
      · subst h; simp at h3
      have k0 : (0 : Int) ≤ kn := by omega
      have k1' : (kn : Int) ≤ ps.length := by omega
      have k2' : (kn : Int) ≤ cap := by omega
      have k3' : (kn : Int) ≠ cap := by omega
      have k4' : (ps.length : Int) ≤ cap := by omega
      have k5' : ¬ cap = kn := by omega
      have HL5 := hide hL5
      obtain ⟨g1, x1, D1, e1, o1, gr1⟩ := append_pts (w := w5.drew) (base := w5.heap.size) (v := .slice none 0 0) (l := []) (Owns.nil _ _) b (off + kn * 2) (cap - kn) (ps.drop kn) (lies_drop (hL5.later (by go_grown)) kn) (by rw [List.length_drop]; omega) (by simp) (by rw [List.length_drop]; simp; omega)
      have hb1 : Below w5.heap.size w5 D1 := below_grown (w := w5.drew) (by go_grown) (Owns.nil w5.drew w5.heap.size) (Nat.le_refl _) (by simp) gr1
      obtain ⟨g2, x2, D2, e2, o2, gr2⟩ := append_pts o1 b off cap (ps.take kn) (lies_take (hL5.later hb1) kn) (by rw [List.length_take]; omega) hb1.size (by rw [List.length_append, List.length_drop, List.length_take]; simp; omega)
      have hb2 : Below w5.heap.size w5 D2 := below_grown hb1 o1 (Nat.le_refl _) hb1.size gr2
      have hdl : (ps.drop kn).length = ps.length - kn := List.length_drop
      have htl : (ps.take kn).length = kn := by rw [List.length_take]; omega
      simp only [List.nil_append, List.length_nil, Nat.zero_add, hdl, htl] at e1 e2
      rw [show ps.length - kn + kn = ps.length by omega] at e2
      have hml : mayB (ps.drop kn ++ ps.take kn) = true := may_sub hm (by rw [List.length_append, hdl, htl]; omega) (fun q hq => by
        rcases List.mem_append.1 hq with h | h
        · exact List.mem_of_mem_drop h
        · exact List.mem_of_mem_take h)
      have A3 := area24 (some ⟨g2, 0, none⟩) (ps.drop kn ++ ps.take kn) x2 D2 (Or.inr ⟨g2, 0, rfl, by have := o2.lies; simpa using this⟩)
      rw [List.length_append, hdl, htl, show ps.length - kn + kn = ps.length by omega, hml, if_pos rfl, err_of_may hml, area_turned ps kn (by omega) (by omega), hS] at A3
      have A3' := hide A3
      have cc0 := (hL5 0 (by omega)).1
      rw [Nat.zero_mul, Nat.add_zero] at cc0
      have C5 := hide cc0
      have C1 := hide (later hb1 cc0)
      have C2 := hide (later hb2 cc0)
      have HB6 := hide (below_step9 HB5.out hb2)
      have HL6 := hide (hL5.later hb2)
      clear A3 o1 o2 gr1 gr2 hb1 hb2 hL5 cc0 hdl htl hml
      obtain ⟨zz, hzz⟩ : ∃ zz, (at' ps 0).x = zz := ⟨_, rfl⟩
      rw [hzz] at C5 C1 C2
      clear hzz
      go_region_held3 (fun W => W.cell? ⟨b, off, none⟩ = some (.int .i64 zz))
        (first | exact C5.out | exact C1.out | exact C2.out | exact later hb6 C2.out)
        (first | (go_at_call 24; refine A3'.out.mono ?_; rintro e w6 ⟨rfl, hb6⟩) | (refine step_run_append (by rfl) (.const (.slice none 0 0)) (.tmp 70) 27 (by rfl) 27 (by rfl) (.slice none 0 0) (.slice (some ⟨b, off + kn * 2, none⟩) (ps.length - kn) (cap - kn)) (.slice (some ⟨g1, 0, none⟩) (ps.length - kn) x1) D1 (by rfl) (by rfl) ?_ ?_; exact e1) | (refine step_run_append (by rfl) (.tmp 71) (.tmp 74) 27 (by rfl) 27 (by rfl) (.slice (some ⟨g1, 0, none⟩) (ps.length - kn) x1) (.slice (some ⟨b, off, none⟩) kn cap) (.slice (some ⟨g2, 0, none⟩) ps.length x2) D2 (by rfl) (by rfl) ?_ ?_; exact e2))
      rename_i hHeld
      clear hHeld
      have HB7 := hide (below_step9 HB6.out hb6)
      have HL7 := hide (HL6.out.later hb6)
      clear hb6 C5 C1 C2 e1 e2 A3' HB6 HL6 HL5
      obtain ⟨tk, htk⟩ : ∃ tk, ps.take (kn + 1) = tk := ⟨_, rfl⟩
      have htkl : tk.length = kn + 1 := by rw [← htk, List.length_take]; omega
      have hmt : mayB tk = true := may_sub hm (by omega) (fun q hq => by rw [← htk] at hq; exact List.mem_of_mem_take hq)
      have A4 := area24 (some ⟨b, off, none⟩) tk cap w6 (Or.inr ⟨b, off, rfl, by rw [← htk]; exact lies_take HL7.out (kn + 1)⟩)
      rw [htkl, hmt, if_pos rfl, err_of_may hmt] at A4
      have A4' := hide A4
      have hcut := area_cut ps kn (by omega)
      rw [htk, hS] at hcut
      have b1 : -(103 * 2199023255552 : Int) ≤ areaI tk ∧ areaI tk ≤ 103 * 2199023255552 := area_in hmt (by omega)
      obtain ⟨dr, hdr⟩ : ∃ dr, ps.drop kn = dr := ⟨_, rfl⟩
      have hdrl : dr.length = ps.length - kn := by rw [← hdr, List.length_drop]
      rw [hdr] at hcut
      obtain ⟨x0, hx0⟩ : ∃ x, at' ps 0 = x := ⟨_, rfl⟩
      rw [hx0] at hcut
      have hmd : mayB (dr ++ [x0]) = true := may_sub hm (by rw [List.length_append, hdrl]; simp; omega) (fun q hq => by
        rcases List.mem_append.1 hq with h | h
        · rw [← hdr] at h; exact List.mem_of_mem_drop h
        · rw [List.mem_singleton] at h; rw [h, ← hx0]; exact at_mem (by omega))
      have b2 : -(103 * 2199023255552 : Int) ≤ areaI (dr ++ [x0]) ∧ areaI (dr ++ [x0]) ≤ 103 * 2199023255552 := area_in hmd (by rw [List.length_append, hdrl]; simp; omega)
      have b3 : -(103 * 2199023255552 : Int) ≤ S ∧ S ≤ 103 * 2199023255552 := by rw [← hS]; exact area_in hm (by omega)
      obtain ⟨one, hone⟩ : ∃ one, areaI tk = one := ⟨_, rfl⟩
      obtain ⟨two, htwo⟩ : ∃ two, areaI (dr ++ [x0]) = two := ⟨_, rfl⟩
      rw [hone] at hcut b1 A4'
      rw [htwo] at hcut b2
      have HCUT := hide hcut
      have m1 : (kn : Int) + 1 ≤ cap := by omega
      have m2 : (kn : Int) + 1 ≤ ps.length := by omega
      clear A4 hcut hone htk
      go_wp2_with fail
      refine A4'.out.mono ?_
      rintro e w7 ⟨rfl, hb7⟩
      have HB8 := hide (below_step9 HB7.out hb7)
      have hL8 := HL7.out.later hb7
      clear hb7 A4'
      have hLd := lies_drop hL8 kn
      rw [hdr] at hLd
      obtain ⟨d0, d1⟩ := hL8 0 (by omega)
      rw [Nat.zero_mul, Nat.add_zero, hx0] at d0 d1
      have zb : b < w7.heap.size := block_lt_of_cell d0
      have hLx : ∀ (W : World) (n : Nat), n = W.heap.size → Lies (W.alloc (bx x0)) n 0 [x0] := fun W n hn => by
        subst hn
        intro j hj
        simp at hj
        subst hj
        exact ⟨by simp only [at', List.getD_cons_zero]; go_cell, by simp only [at', List.getD_cons_zero]; go_cell⟩
      obtain ⟨g3, y3, E1, e3, o3, gr3⟩ := append_pts (w := w7.drew) (base := w7.heap.size) (v := .slice none 0 0) (l := []) (Owns.nil _ _) b (off + kn * 2) (cap - kn) dr (hLd.later (by go_grown)) (by omega) (by simp) (by simp; omega)
      have hb3 : Below w7.heap.size w7 E1 := below_grown (w := w7.drew) (by go_grown) (Owns.nil w7.drew w7.heap.size) (Nat.le_refl _) (by simp) gr3
      have hb3' : Below w7.heap.size w7 (E1.alloc (bx x0)) := hb3.alloc hb3.size _
      have o3' : Owns (E1.alloc (bx x0)) w7.heap.size (.slice (some ⟨g3, 0, none⟩) ([] ++ dr).length y3) ([] ++ dr) := o3.later (by go_grown)
      obtain ⟨g4, y4, E2, e4, o4, gr4⟩ := append_pts o3' E1.heap.size 0 1 [x0] (hLx E1 _ rfl) (by simp) hb3'.size (by simp; omega)
      have hb4 : Below w7.heap.size w7 E2 := below_grown hb3' o3' (Nat.le_refl _) hb3'.size gr4
      have hbD : Below w7.heap.size w7 ((w7.alloc (bx x0)).drew) := by go_grown
      obtain ⟨g5, y5, F1, e5, o5, gr5⟩ := append_pts (w := (w7.alloc (bx x0)).drew) (base := w7.heap.size) (v := .slice none 0 0) (l := []) (Owns.nil _ _) b (off + kn * 2) (cap - kn) dr (hLd.later hbD) (by omega) hbD.size (by simp; omega)
      have hg5 : Below ((w7.alloc (bx x0)).drew).heap.size ((w7.alloc (bx x0)).drew) F1 := below_grown (w := (w7.alloc (bx x0)).drew) (Below.refl _ _) (Owns.nil ((w7.alloc (bx x0)).drew) ((w7.alloc (bx x0)).drew).heap.size) (Nat.le_refl _) (Nat.le_refl _) gr5
      have hb5 : Below w7.heap.size w7 F1 := Below.trans hbD (hg5.mono hbD.size)
      obtain ⟨g6, y6, F2, e6, o6, gr6⟩ := append_pts o5 w7.heap.size 0 1 [x0] (((hLx w7 w7.heap.size rfl).later (by go_grown)).later hg5) (by simp) hb5.size (by simp; omega)
      have hb6 : Below w7.heap.size w7 F2 := below_grown hb5 o5 (Nat.le_refl _) hb5.size gr6
      have A5 := area24 (some ⟨g4, 0, none⟩) (dr ++ [x0]) y4 E2 (Or.inr ⟨g4, 0, rfl, by have := o4.lies; simpa using this⟩)
      have A6 := area24 (some ⟨g6, 0, none⟩) (dr ++ [x0]) y6 F2 (Or.inr ⟨g6, 0, rfl, by have := o6.lies; simpa using this⟩)
      have hxl : (dr ++ [x0]).length = ps.length - kn + 1 := by rw [List.length_append, hdrl]; rfl
      rw [hxl, hmd, if_pos rfl, err_of_may hmd, htwo] at A5 A6
      simp only [List.nil_append, List.length_nil, Nat.zero_add, hdrl, List.length_cons] at e3 e4 e5 e6
      have A5' := hide A5
      have A6' := hide A6
      have CC : Hid (w7.cell? ⟨b, off, none⟩ = some (.int .i64 x0.x) ∧ w7.cell? ⟨b, off + 1, none⟩ = some (.int .i64 x0.y)) := ⟨d0, d1⟩
      have C3 : Hid (E1.cell? ⟨b, off, none⟩ = some (.int .i64 x0.x) ∧ E1.cell? ⟨b, off + 1, none⟩ = some (.int .i64 x0.y)) := ⟨later hb3 d0, later hb3 d1⟩
      have C3' : Hid ((E1.alloc (bx x0)).cell? ⟨b, off, none⟩ = some (.int .i64 x0.x) ∧ (E1.alloc (bx x0)).cell? ⟨b, off + 1, none⟩ = some (.int .i64 x0.y)) := ⟨later hb3' d0, later hb3' d1⟩
      have C4 : Hid (E2.cell? ⟨b, off, none⟩ = some (.int .i64 x0.x) ∧ E2.cell? ⟨b, off + 1, none⟩ = some (.int .i64 x0.y)) := ⟨later hb4 d0, later hb4 d1⟩
      have CD : Hid (((w7.alloc (bx x0)).drew).cell? ⟨b, off, none⟩ = some (.int .i64 x0.x) ∧ ((w7.alloc (bx x0)).drew).cell? ⟨b, off + 1, none⟩ = some (.int .i64 x0.y)) := ⟨later hbD d0, later hbD d1⟩
      have C5 : Hid (F1.cell? ⟨b, off, none⟩ = some (.int .i64 x0.x) ∧ F1.cell? ⟨b, off + 1, none⟩ = some (.int .i64 x0.y)) := ⟨later hb5 d0, later hb5 d1⟩
      have C6 : Hid (F2.cell? ⟨b, off, none⟩ = some (.int .i64 x0.x) ∧ F2.cell? ⟨b, off + 1, none⟩ = some (.int .i64 x0.y)) := ⟨later hb6 d0, later hb6 d1⟩
      have HE2 := hide (below_step9 HB8.out hb4)
      have HF2 := hide (below_step9 HB8.out hb6)
      have lz : (0 : Int) < ps.length := by omega
      have lz2 : 0 < ps.length := by omega
      clear A5 A6 o3 o3' o4 o5 o6 gr3 gr4 gr5 gr6 hb3 hb3' hb4 hb5 hb6 hbD hg5 hLd hL8 hLx hxl hmd hdrl hdr hx0 hmt htkl htwo
      go_wp2_with fail
      go_region_held3 (fun W => W.cell? ⟨b, off, none⟩ = some (.int .i64 x0.x) ∧ W.cell? ⟨b, off + 1, none⟩ = some (.int .i64 x0.y))
        (first | exact CC.out | exact C3.out | exact C3'.out | exact C4.out | exact CD.out | exact C5.out | exact C6.out | exact ⟨later hb8 C4.out.1, later hb8 C4.out.2⟩ | exact ⟨later hb8 C6.out.1, later hb8 C6.out.2⟩)
        (first | (go_at_call 24; first | (with_reducible refine A5'.out.mono ?_; rintro e w8 ⟨rfl, hb8⟩) | (with_reducible refine A6'.out.mono ?_; rintro e w8 ⟨rfl, hb8⟩)) | (refine step_run_append (by rfl) (.const (.slice none 0 0)) (.tmp 90) 27 (by rfl) 27 (by rfl) (.slice none 0 0) (.slice (some ⟨b, off + kn * 2, none⟩) (ps.length - kn) (cap - kn)) (.slice (some ⟨g3, 0, none⟩) (ps.length - kn) y3) E1 (by rfl) (by rfl) ?_ ?_; with_reducible exact e3) | (refine step_run_append (by rfl) (.const (.slice none 0 0)) (.tmp 90) 27 (by rfl) 27 (by rfl) (.slice none 0 0) (.slice (some ⟨b, off + kn * 2, none⟩) (ps.length - kn) (cap - kn)) (.slice (some ⟨g5, 0, none⟩) (ps.length - kn) y5) F1 (by rfl) (by rfl) ?_ ?_; with_reducible exact e5) | (refine step_run_append (by rfl) (.tmp 91) (.tmp 95) 27 (by rfl) 27 (by rfl) (.slice (some ⟨g3, 0, none⟩) (ps.length - kn) y3) (.slice (some ⟨E1.heap.size, 0, none⟩) 1 1) (.slice (some ⟨g4, 0, none⟩) (ps.length - kn + 1) y4) E2 (by rfl) (by rfl) ?_ ?_; with_reducible exact e4) | (refine step_run_append (by rfl) (.tmp 91) (.tmp 95) 27 (by rfl) 27 (by rfl) (.slice (some ⟨g5, 0, none⟩) (ps.length - kn) y5) (.slice (some ⟨w7.heap.size, 0, none⟩) 1 1) (.slice (some ⟨g6, 0, none⟩) (ps.length - kn + 1) y6) F2 (by rfl) (by rfl) ?_ ?_; with_reducible exact e6))
      all_goals
        rename_i hHeld
        clear hHeld
        have HB9 : Hid (Below w.heap.size w w8) := by first | exact below_step9 HE2.out hb8 | exact below_step9 HF2.out hb8
        clear hb8 CC C3 C3' C4 CD C5 C6 e3 e4 e5 e6 A5' A6' HE2 HF2 d0 d1
        have hc := HCUT.out
        have f1 : (-S == -S) = true := by simp
        have f2 : (one + two == S) = true := by simp [hc]
        clear hc hS HCUT
        go_wp2_with fail
        go_ret
        exact ⟨retB (by simp), HB9.out⟩
end Go.Proofs.Ytgnojjbdioldbaa
