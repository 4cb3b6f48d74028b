/- The document's Shrink and May, in every world. -/
import Derived.Test.YtaebbfilgfkckaaAC
import Derived.Test.YtaebbfilgfkckaaNC
namespace Go.Proofs.Ytaebbfilgfkckaa
open Go.RowKit Go.Sort
open Go
section
variable {n : Nat} {es : List Pt} {l : List Int}
/-- Where the paths of the answer begin and end. -/
theorem ptR_ends (hs : subE n es l = 0) (ho : okS n (pick es l)) {i : Nat} (hi : i < (jsK (kdS n (pick es l))).length) : ∃ x y : Nat, at' (jsK (kdS n (pick es l))) i = ⟨x, y⟩ ∧ x < y ∧ y < (bsS n (pick es l)).length ∧ ∃ z h0 h1 : Nat, (lat (ptR n es l) i).length = z + 1 ∧ iat (lat (ptR n es l) i) 0 = h0 ∧ h0 < 2 * es.length ∧ fromL es h0 = iat (bsS n (pick es l)) x ∧ iat (lat (ptR n es l) i) z = h1 ∧ h1 < 2 * es.length ∧ toL es h1 = iat (bsS n (pick es l)) y := by
  have hp : (pick es l).length = l.length := pick_length _ _
  obtain ⟨x, y, e, hxy, hy⟩ := js_at ho.1 hi
  have hlat : lat (ptR n es l) i = (wyS n (pick es l) (keyP (bsS n (pick es l)) (jsK (kdS n (pick es l))) i)).map (rnI l) := by
    rw [ptR_is]
    unfold lat
    rw [List.getD_eq_getElem?_getD, List.getElem?_map, List.getElem?_range hi]
    rfl
  have hkey : keyP (bsS n (pick es l)) (jsK (kdS n (pick es l))) i = ⟨iat (bsS n (pick es l)) x, iat (bsS n (pick es l)) y⟩ := by
    unfold keyP
    rw [e]
    simp only [Int.toNat_natCast]
  have hne := ho.2.1 i hi
  rcases lyB_is (es := pick es l) (br := brS n (pick es l)) (brS n (pick es l)).length (keyP (bsS n (pick es l)) (jsK (kdS n (pick es l))) i) with h | ⟨q, h1, h2, h3, h4⟩
  · exact absurd h hne
  · have hw : wyS n (pick es l) (keyP (bsS n (pick es l)) (jsK (kdS n (pick es l))) i) = folL (pick es l) q := h2
    rw [hw] at hlat
    have hq : q < 2 * l.length := by rw [← hp]; exact h1
    have hF : lat (ptR n es l) i = foE es l q := hlat
    obtain ⟨z, hz, hh, z1, z2, z3⟩ := foE_last hs hq
    obtain ⟨_, r2, r3, _⟩ := rn_is hs hq
    refine ⟨x, y, e, hxy, hy, z, rnN l q, hh, by rw [hF]; exact hz, by rw [hF]; exact foE_first hs hq, r2, ?_, by rw [hF]; exact z1, z2, ?_⟩
    · rw [r3, h3, hkey]
    · rw [z3, h4, hkey]
theorem ptR_short (hs : subE n es l = 0) {i : Nat} (hi : i < (jsK (kdS n (pick es l))).length) : (lat (ptR n es l) i).length ≤ 100000 := by
  have h1 := sub_len hs
  obtain ⟨_, _, h2, _⟩ := netB_is (sub_ok hs).1
  have h3 := pt_len (n := n) (pk := pick es l) (v := i) (by rw [pt_length]; exact hi)
  have h4 : lat (ptR n es l) i = (lat (ptS n (pick es l)) i).map (rnI l) := by
    rw [pt_at hi, ptR_is]
    unfold lat
    rw [List.getD_eq_getElem?_getD, List.getElem?_map, List.getElem?_range hi]
    rfl
  rw [h4, List.length_map]
  rw [pick_length] at h3
  omega
end
/-- A pair in a box of its own. -/
def PBox (w : World) (g : Nat) (a b : Int) : Prop := w.ownsRow g 57 2 (.slice (some ⟨g, 0, none⟩) 1 1) 1 [.int .i64 a, .int .i64 b]
theorem PBox.made (w : World) (a b : Int) : PBox (w.alloc (.cells #[.int .i64 a, .int .i64 b] 57)) w.heap.size a b :=
  World.ownsRow_lit w #[.int .i64 a, .int .i64 b] 1 (Nat.le_refl _) (by unfold maxLen; omega) rfl
theorem PBox.cell {w : World} {g : Nat} {a b : Int} (h : PBox w g a b) : w.cell? ⟨g, 0, none⟩ = some (.int .i64 a) ∧ w.cell? ⟨g, 1, none⟩ = some (.int .i64 b) ∧ w.frozen? ⟨g, 0, none⟩ = false ∧ w.frozen? ⟨g, 1, none⟩ = false :=
  ⟨World.ownsRow.cellAt h 0 (by omega), World.ownsRow.cellAt h 1 (by omega), World.ownsRow.frozenAt h 0, World.ownsRow.frozenAt h 1⟩
theorem PBox.set0 {w : World} {g : Nat} {a b : Int} (h : PBox w g a b) (c : Int) : PBox (w.setCell ⟨g, 0, none⟩ (.int .i64 c)) g c b := (World.ownsRow.stored h 0 (.int .i64 c)).1
theorem PBox.set1 {w : World} {g : Nat} {a b : Int} (h : PBox w g a b) (c : Int) : PBox (w.setCell ⟨g, 1, none⟩ (.int .i64 c)) g a c := (World.ownsRow.stored h 1 (.int .i64 c)).1
/-- What the document's Shrink answers. -/
def RShPost (n : Nat) (es : List Pt) (l : List Int) (w : World) (e : Ending) (w' : World) : Prop :=
  (¬ okS n (pick es l) ∧ e = .returned (.tuple #[nv 0 none 0 0, .int .i64 14])) ∨
  (okS n (pick es l) ∧ ∃ p c, e = .returned (.tuple #[nv (bsS n (pick es l)).length p (jsK (kdS n (pick es l))).length c, .int .i64 0]) ∧ Owns w' w.heap.size (.slice p (jsK (kdS n (pick es l))).length c) (jsK (kdS n (pick es l))))
theorem take_pt {l : List Pt} {i : Nat} (h : i < l.length) : l.take (i + 1) = l.take i ++ [at' l i] := by
  rw [List.take_add_one, List.getElem?_eq_getElem h, at_get h]
  rfl
set_option maxRecDepth 100000 in
set_option maxHeartbeats 64000000 in
theorem shrink10 (n : Nat) (p q : Option Addr) (es : List Pt) (l : List Int) (cp cq : Nat) (w : World) (h : Has w p es) (k : IHas w q l) (hs : subE n es l = 0) : Calls Try.prog 10 #[nv n p es.length cp, .slice q l.length cq] w fun e w' => RShPost n es l w e w' ∧ Below w.heap.size w w' := by
  obtain ⟨W, hW, hb0, a0, b0⟩ := two_nets w n p es.length cp
  obtain ⟨_, n1, hes, _⟩ := netB_is (sub_ok hs).1
  have C1 := hide (all9 n p q es l cp cq W (h.later hb0) (k.later hb0) hs)
  have HB := hide hb0
  have HA := hide a0
  have HR := hide b0
  have HWS : Hid (W.heap.size = w.heap.size + 2) := by show _ = _; rw [hW]; simp
  have CF : Hid (∀ V (hh : Nat), Below W.heap.size W V → hh < 2 * es.length → Calls Try.prog 38 #[nv n p es.length cp, .int .i64 hh] V fun e w' => e = .returned (.int .i64 (fromL es hh)) ∧ Below V.heap.size V w') := fun V hh hV hl => from50 n p es cp hh V ((h.later hb0).later hV) hl (by omega)
  have CT : Hid (∀ V (hh : Nat), Below W.heap.size W V → hh < 2 * es.length → Calls Try.prog 36 #[nv n p es.length cp, .int .i64 hh] V fun e w' => e = .returned (.int .i64 (toL es hh)) ∧ Below V.heap.size V w') := fun V hh hV hl => to43 n p es cp hh V ((h.later hb0).later hV) hl (by omega)
  have HEN : Hid (okS n (pick es l) → ∀ i, i < (jsK (kdS n (pick es l))).length → ∃ x y : Nat, at' (jsK (kdS n (pick es l))) i = ⟨x, y⟩ ∧ x < y ∧ y < (bsS n (pick es l)).length ∧ ∃ z h0 h1 : Nat, (lat (ptR n es l) i).length = z + 1 ∧ iat (lat (ptR n es l) i) 0 = h0 ∧ h0 < 2 * es.length ∧ fromL es h0 = iat (bsS n (pick es l)) x ∧ iat (lat (ptR n es l) i) z = h1 ∧ h1 < 2 * es.length ∧ toL es h1 = iat (bsS n (pick es l)) y) := fun ho i hi => ptR_ends hs ho hi
  have HND := hide (bs_nodup n (pick es l))
  have HPL := hide (ptR_length n es l)
  have HZL : Hid (okS n (pick es l) → ∀ i, i < (jsK (kdS n (pick es l))).length → (lat (ptR n es l) i).length ≤ 100000) := fun _ i hi => ptR_short hs hi
  obtain ⟨q0, q1, _, _⟩ := a0
  clear h k hb0 b0 hs
  go_enter Try.func10, Try.ntmps10
  go_upto_region 1 with fail
  rw [← hW]
  clear hW
  go_wp2_with fail
  refine C1.out.mono ?_
  rintro r w2 ⟨hal, hb2⟩
  obtain ⟨kf, hkf⟩ : ∃ k, w.heap.size + 1 = k := ⟨_, rfl⟩
  have HKF := hide hkf
  rw [hkf] at HR ⊢
  have HB2 := hide hb2
  have HBW := hide (below_step HB.out hb2)
  have HR2 := hide (HR.out.later hb2)
  have hks : w.heap.size ≤ kf := by omega
  clear C1 hb2 q0 q1 hkf
  rcases hal with ⟨hno, rfl⟩ | ⟨hok, pb, cb, pq, cq2, rfl, hbn, hrp⟩
  · have HZ := hide hno
    obtain ⟨f1, f2, f3, f4⟩ := HR2.out
    clear hno
    go_wp2
    obtain ⟨V, hV⟩ : ∃ V, V = (w2.setCell ⟨kf, 0, none⟩ (.int .i64 0)).setCell ⟨kf, 1, none⟩ (.slice none 0 0) := ⟨_, rfl⟩
    have kV : NOwn V kf 0 none 0 0 := by rw [hV]; exact HR2.out.set _ _ _ _
    have bV : Below w.heap.size w V := by rw [hV]; exact (HBW.out.setCell (by simpa using hks) _).setCell (by simpa using hks) _
    rw [← hV]
    exact bodyPost_ret (ret_net Try.results10 rfl rfl kV) rfl ⟨Or.inl ⟨HZ.out, rfl⟩, bV⟩
  · have hbn := hbn.1
    have hrp := hrp.has
    have HOK := hide hok
    have HEN := hide (HEN.out hok)
    have HZL := hide (HZL.out hok)
    have hkk : kdS n (pick es l) = 5 ∨ kdS n (pick es l) = 33 := by
      rcases bs_len hok.1 with h | h
      · exact Or.inl h.1
      · exact Or.inr h.1
    have hjl : (jsK (kdS n (pick es l))).length = 10 ∨ (jsK (kdS n (pick es l))).length = 9 := by
      rcases js_pos hok.1 with h | h
      · exact Or.inl h.1
      · exact Or.inr h.1
    have hbl : (bsS n (pick es l)).length ≤ 6 := by rcases bs_len hok.1 with h | h <;> omega
    have hb0' : 0 < (bsS n (pick es l)).length := by rcases bs_len hok.1 with h | h <;> omega
    have k0 : (kdS n (pick es l) == 0) = false := by rw [beq_eq_false_iff_ne]; omega
    obtain ⟨kd, hkd⟩ : ∃ x, kdS n (pick es l) = x := ⟨_, rfl⟩
    have HKD := hide hkd
    obtain ⟨js, hjs⟩ : ∃ x, jsK kd = x := ⟨_, rfl⟩
    have HJS := hide hjs
    obtain ⟨bs, hbs⟩ : ∃ x, bsS n (pick es l) = x := ⟨_, rfl⟩
    have HBS := hide hbs
    rw [hkd] at HEN hjl k0 HPL HZL ⊢
    rw [hjs] at HEN hjl HPL HZL
    rw [hbs] at HEN HND hbl hb0' hbn ⊢
    rw [HPL.out]
    have HPL2 := HPL
    have HHR := hide hrp
    obtain ⟨bb, ob, rfl, hLb⟩ : ∃ b1 off, pb = some ⟨b1, off, none⟩ ∧ ILies w2 b1 off bs := by
      rcases hbn with e | e
      · rw [e] at hb0'; simp at hb0'
      · exact e
    have HB2B : Hid (bb < w2.heap.size) := by
      have := block_lt_of_cell (hLb 0 hb0')
      exact this
    have hq : ∃ bq oq, pq = some ⟨bq, oq, none⟩ := by
      obtain ⟨b, off, _, _, h1, _⟩ := HHR.out.at_ (v := 0) (by rw [HPL.out]; omega)
      exact ⟨b, off, h1⟩
    obtain ⟨bq, oq, rfl⟩ := hq
    have HCL : Hid (∀ V, Below w2.heap.size w2 V → (V.cell? ⟨w.heap.size, 0, none⟩ = some (.int .i64 n) ∧ V.cell? ⟨w.heap.size, 1, none⟩ = some (.slice p es.length cp)) ∧ ∀ i, i < bs.length → V.cell? ⟨bb, ob + i, none⟩ = some (.int .i64 (iat bs i))) := fun V hV => by
      obtain ⟨q0, q1, _, _⟩ := HA.out.later (below_step HB2.out hV)
      exact ⟨⟨q0, q1⟩, fun i hi => later hV (hLb i hi)⟩
    have HPT : Hid (∀ i, i < js.length → ∃ ba oa c, ∀ V, Below w2.heap.size w2 V → V.cell? ⟨bq, oq + i, none⟩ = some (.slice (some ⟨ba, oa, none⟩) (lat (ptR n es l) i).length c) ∧ ∀ j, j < (lat (ptR n es l) i).length → V.cell? ⟨ba, oa + j, none⟩ = some (.int .i64 (iat (lat (ptR n es l) i) j))) := fun i hi => by
      obtain ⟨b, off, a, c, h1, h2, h3, _⟩ := HHR.out.at_ (v := i) (by rw [HPL2.out]; exact hi)
      cases h1
      obtain ⟨x, y, _, _, _, z, h0, h1, hz, _⟩ := HEN.out i hi
      rcases h3 with e | ⟨ba, oa, rfl, hL⟩
      · rw [e] at hz; simp at hz
      · exact ⟨ba, oa, c, fun V hV => ⟨later hV h2, fun j hj => later hV (hL j hj)⟩⟩
    obtain ⟨J, hJ⟩ : ∃ x, js.length = x := ⟨_, rfl⟩
    have HJ := hide hJ
    rw [hJ] at hjl HPT HEN HZL ⊢
    obtain ⟨m, hm⟩ : ∃ x, bs.length = x := ⟨_, rfl⟩
    have HM := hide hm
    rw [hm] at hbl hb0' HCL HEN ⊢
    obtain ⟨kb, hkb⟩ : ∃ x, w.heap.size = x := ⟨_, rfl⟩
    have HKB := hide hkb
    rw [hkb] at HCL hks ⊢
    have hsz : W.heap.size ≤ w2.heap.size := HB2.out.size
    have hkf2 : kf < w2.heap.size := block_lt_of_cell HR2.out.1
    clear hok hkk hkd hjs hbs HPL hrp hLb hbn hJ hm hkb HHR HPL2
    obtain ⟨X9, hX9, hbX, aX⟩ := one_net w2 m none 0 0
    go_wp2_with fail
    rw [← hX9]
    have HO9 : Hid (Owns X9 (w2.heap.size + 1) (.slice none 0 0) (js.take 0)) := World.ownsRow_nil _ _ _ _
    have HN9 := hide aX
    have HX9 := hide hbX
    clear hX9 hbX aX
    obtain ⟨ks, hks9⟩ : ∃ x, w2.heap.size = x := ⟨_, rfl⟩
    have HKS := hide hks9
    rw [hks9] at HO9 HN9 hkf2 ⊢
    clear hks9 hsz
    go_loopw [10] (fun t10 wr => ∃ (i : Nat) (ps : Option Addr) (c : Nat), i ≤ J ∧ t10 = .int .i64 i ∧ Hid (Below w2.heap.size w2 wr) ∧ Hid (NOwn wr ks m ps i c) ∧ Hid (Owns wr (ks + 1) (.slice ps i c) (js.take i))) (fun t10 _ => J - (intOf t10).toNat)
    case atStart => exact ⟨0, none, 0, by omega, rfl, HX9.out, HN9.out, HO9.out⟩
    case round =>
      obtain ⟨i, ps, c, hi, rfl, HBr, HNr, HOr⟩ := hrel
      clear HO9 HN9 HX9
      by_cases hlt : i < J
      · have j1 : (i : Int) < J := by omega
        obtain ⟨X0, Y0, hjx, hxy, hym, z, h0, h1, hz, z0, z1, z2, z3, z4, z5⟩ := HEN.out i hlt
        obtain ⟨ba, oa, ca, hpt⟩ := HPT.out i hlt
        obtain ⟨c0, hc⟩ := hpt wr HBr.out
        have d0 := hc 0 (by omega)
        have d1 := hc z (by omega)
        rw [z0, Nat.add_zero] at d0
        rw [z3] at d1
        rw [hz] at c0
        obtain ⟨⟨q0, q1⟩, _⟩ := HCL.out wr HBr.out
        have HBB := hide (below_step HB2.out HBr.out)
        have CFF : ∀ dd os, Calls Try.prog 38 #[nv n p es.length cp, .int .i64 h0] (grow (redrawn wr dd) os) fun e w'' => e = .returned (.int .i64 (fromL es h0)) ∧ ∃ pp : Regrown, w'' = grow (redrawn wr pp.d) pp.os := fun dd os => Calls.regrown_of (CF.out _ h0 (below_step HBB.out (below_regrown wr dd os)) z1)
        have CTT : ∀ dd os, Calls Try.prog 36 #[nv n p es.length cp, .int .i64 h1] (grow (redrawn wr dd) os) fun e w'' => e = .returned (.int .i64 (toL es h1)) ∧ ∃ pp : Regrown, w'' = grow (redrawn wr pp.d) pp.os := fun dd os => Calls.regrown_of (CT.out _ h1 (below_step HBB.out (below_regrown wr dd os)) z4)
        rw [z2] at CFF
        rw [z5] at CTT
        have HTK : Hid (js.take (i + 1) = js.take i ++ [⟨(X0 : Int), (Y0 : Int)⟩]) := by
          show _ = _
          rw [take_pt (by have := HJ.out; omega), ← hjx, HJS.out.symm, HKD.out.symm]
        have HAB : Hid (∀ a b, a < m → b < m → iat bs a = iat bs b → a = b) := fun a b ha hb e => iat_inj HND.out (by have := HM.out; omega) (by have := HM.out; omega) e
        have jz0 : (0 : Int) ≤ (z : Int) := by omega
        have jz1 : (z : Int) < (z : Int) + 1 := by omega
        have jz2 : (0 : Int) < (z : Int) + 1 := by omega
        have hzl : (z : Int) ≤ 100000000 := by
          have := HZL.out i hlt
          omega
        have jw : IntKind.i64.wrap (z : Int) = z := by rw [IntKind.wrap_i64]; omega
        have f0 := cell_regrown q0
        have f1 := cell_regrown q1
        have f2 := cell_regrown c0
        have f3 := cell_regrown d0
        have f4 := cell_regrown d1
        clear hpt hc hjx z0 z1 z2 z3 z4 z5 hz
        go_upto_region 8 with fail
        refine wp_region_quiet_below (by kernel_rfl) (by kernel_rfl) ?_
        repeat (go_big_quiet_step (first | with_reducible exact CFF _ _ | with_reducible exact CTT _ _))
        refine wpQuiet_nil ?_
        intro x1 hw'
        have hbx1 : Below wr.heap.size wr x1 := by
          obtain ⟨⟨dq, osq⟩, hw''⟩ := hw'
          rw [hw'']
          exact below_regrown wr dq osq
        have HBX := hide (below_step HBr.out hbx1)
        have HNX := hide (HNr.out.later hbx1)
        have HOX := hide (HOr.out.later hbx1)
        clear hw' hbx1 f0 f1 f2 f3 f4 CFF CTT q0 q1 c0 d0 d1 HNr HOr
        have P0 : Hid (PBox (x1.alloc (.cells #[.int .i64 0, .int .i64 0] 57)) x1.heap.size (if X0 < 0 then (X0 : Int) else 0) (if Y0 < 0 then (Y0 : Int) else 0)) := PBox.made x1 0 0
        have hbp : Below x1.heap.size x1 (x1.alloc (.cells #[.int .i64 0, .int .i64 0] 57)) := by go_grown
        have HP1 := hide hbp
        obtain ⟨A, hA⟩ : ∃ x, iat bs X0 = x := ⟨_, rfl⟩
        obtain ⟨Bv, hB⟩ : ∃ x, iat bs Y0 = x := ⟨_, rfl⟩
        have HAA := hide hA
        have HBV := hide hB
        try rw [hA]
        try rw [hB]
        clear hbp hA hB
        go_wp2_with fail
        obtain ⟨x2, hx2⟩ : ∃ V, x1.alloc (.cells #[.int .i64 0, .int .i64 0] 57) = V := ⟨_, rfl⟩
        rw [hx2] at P0 HP1 ⊢
        obtain ⟨gx, hgx⟩ : ∃ x, x1.heap.size = x := ⟨_, rfl⟩
        have HGX := hide hgx
        rw [hgx] at P0 ⊢
        clear hx2 hgx
        go_loopw [14] (fun t14 wq => ∃ k : Nat, k ≤ m ∧ t14 = .int .i64 k ∧ Hid (Below x1.heap.size x1 wq) ∧ Hid (PBox wq gx (if X0 < k then (X0 : Int) else 0) (if Y0 < k then (Y0 : Int) else 0))) (fun t14 _ => m - (intOf t14).toNat)
        case atStart => exact ⟨0, by omega, rfl, HP1.out, P0.out⟩
        case round =>
          obtain ⟨k, hk, rfl, HBq, HPq⟩ := hrel
          clear P0 HP1
          obtain ⟨y0, y1, y2, y3⟩ := HPq.out.cell
          by_cases hkm : k < m
          · have j2 : (k : Int) < m := by omega
            have b0 := (HCL.out wr (below_step HBX.out HBq.out)).2 k hkm
            have hgs : x1.heap.size ≤ gx := Nat.le_of_eq HGX.out
            have hbg : bb ≠ gx := by
              have h1 := HBX.out.size
              have h2 := HGX.out
              have h3 := HB2B.out
              omega
            by_cases hkx : k = X0
            · subst hkx
              have hne : ((A == Bv) : Bool) = false := by
                rw [beq_eq_false_iff_ne]
                intro e
                have := HAB.out k Y0 hkm hym (by rw [HAA.out, HBV.out, e])
                omega
              rw [HAA.out] at b0
              have HX : Hid (Below x1.heap.size x1 (wr.setCell ⟨gx, 0, none⟩ (.int .i64 k))) := HBq.out.setCell (by exact hgs) _
              have HY : Hid (PBox (wr.setCell ⟨gx, 0, none⟩ (.int .i64 k)) gx (if k < k + 1 then (k : Int) else 0) (if Y0 < k + 1 then (Y0 : Int) else 0)) := by
                have := HPq.out.set0 (k : Int)
                rw [if_neg (show ¬ Y0 < k by omega)] at this
                show PBox _ _ _ _
                rw [if_pos (by omega), if_neg (by omega)]
                exact this
              go_wp2
              go_roundw
              case rel => exact ⟨k + 1, by omega, by go_num, HX.out, HY.out⟩
              case measure => simp [intOf]; omega
            · by_cases hky : k = Y0
              · subst hky
                have hne : ((Bv == A) : Bool) = false := by
                  rw [beq_eq_false_iff_ne]
                  intro e
                  have := HAB.out k X0 hkm (by omega) (by rw [HAA.out, HBV.out, e])
                  omega
                rw [HBV.out] at b0
                have HX : Hid (Below x1.heap.size x1 (wr.setCell ⟨gx, 1, none⟩ (.int .i64 k))) := HBq.out.setCell (by exact hgs) _
                have HY : Hid (PBox (wr.setCell ⟨gx, 1, none⟩ (.int .i64 k)) gx (if X0 < k + 1 then (X0 : Int) else 0) (if k < k + 1 then (k : Int) else 0)) := by
                  have := HPq.out.set1 (k : Int)
                  rw [if_pos (show X0 < k by omega)] at this
                  show PBox _ _ _ _
                  rw [if_pos (by omega), if_pos (by omega)]
                  exact this
                go_wp2
                go_roundw
                case rel => exact ⟨k + 1, by omega, by go_num, HX.out, HY.out⟩
                case measure => simp [intOf]; omega
              · have hn1 : iat bs k ≠ A := fun e => hkx (HAB.out k X0 hkm (by omega) (by rw [HAA.out, e]))
                have hn2 : iat bs k ≠ Bv := fun e => hky (HAB.out k Y0 hkm hym (by rw [HBV.out, e]))
                obtain ⟨y, hy⟩ : ∃ x, iat bs k = x := ⟨_, rfl⟩
                rw [hy] at b0 hn1 hn2
                have e1 : ((y == A) : Bool) = false := by rw [beq_eq_false_iff_ne]; exact hn1
                have e2 : ((y == Bv) : Bool) = false := by rw [beq_eq_false_iff_ne]; exact hn2
                have HY : Hid (PBox wr gx (if X0 < k + 1 then (X0 : Int) else 0) (if Y0 < k + 1 then (Y0 : Int) else 0)) := by
                  have := HPq.out
                  have e3 : (if X0 < k + 1 then (X0 : Int) else 0) = if X0 < k then (X0 : Int) else 0 := by
                    by_cases h : X0 < k
                    · rw [if_pos h, if_pos (by omega)]
                    · rw [if_neg h, if_neg (by omega)]
                  have e4 : (if Y0 < k + 1 then (Y0 : Int) else 0) = if Y0 < k then (Y0 : Int) else 0 := by
                    by_cases h : Y0 < k
                    · rw [if_pos h, if_pos (by omega)]
                    · rw [if_neg h, if_neg (by omega)]
                  show PBox _ _ _ _
                  rw [e3, e4]
                  exact this
                clear hy hn1 hn2
                go_wp2
                go_roundw
                case rel => exact ⟨k + 1, by omega, by go_num, HBq.out, HY.out⟩
                case measure => simp [intOf]; omega
          · have hke : k = m := by omega
            have j2 : ¬ (k : Int) < m := by omega
            rw [if_pos (by omega)] at y0 y1
            have HNQ := hide (HNX.out.later HBq.out)
            obtain ⟨n0, n1', n2, n3⟩ := HNQ.out
            have hsk : ks + 1 ≤ wr.heap.size := by have h1 : ks < wr.heap.size := block_lt_of_cell n0; omega
            obtain ⟨v1, D, ea, o1, gr, hbD⟩ := app1 (HOX.out.later HBq.out) (X0 : Int) (Y0 : Int) hsk (by rw [List.length_take]; omega)
            rw [← HTK.out] at o1
            have hlen : (js.take (i + 1)).length = i + 1 := by rw [List.length_take]; have := HJ.out; omega
            obtain ⟨p1, c1, hv1, _, _⟩ := World.ownsRow.form o1 (by rw [hlen]; omega)
            rw [hlen] at hv1
            subst hv1
            have nD := nown_below HNQ.out hbD (by omega)
            have HND1 := hide (nown_set1 nD (some ⟨p1, 0, none⟩) (i + 1) c1)
            have hgp : ks + 1 ≤ p1 := (World.ownsRow.lt o1 p1 rfl).1
            have HOD : Hid (Owns (D.setCell ⟨ks, 1, none⟩ (.slice (some ⟨p1, 0, none⟩) (i + 1) c1)) (ks + 1) (.slice (some ⟨p1, 0, none⟩) (i + 1) c1) (js.take (i + 1))) := ownsRow_setCell_other (a := ⟨ks, 1, none⟩) o1 (by simp [Value.ownBlock]; omega) _
            have HBD : Hid (Below w2.heap.size w2 (D.setCell ⟨ks, 1, none⟩ (.slice (some ⟨p1, 0, none⟩) (i + 1) c1))) := ((below_step HBX.out HBq.out).trans (hbD.mono (by have := HKS.out; omega))).setCell (by show _ ≤ ks; have := HKS.out; omega) _
            obtain ⟨d0, d1, d2, d3⟩ := nD
            have hkl : ks < D.heap.size := block_lt_of_cell d0
            clear hke o1 gr hbD hlen
            go_wp2_with (at_builtin; refine wpList_run_append rfl (.tmp 79) (.tmp 81) 22 rfl 22 rfl _ _ _ D rfl rfl ea ?_)
            go_roundw
            case rel => exact ⟨i + 1, _, c1, by omega, by go_num, HBD.out, HND1.out, HOD.out⟩
            case measure => simp [intOf]; omega
      · have hie : i = J := by omega
        have j1 : ¬ (i : Int) < J := by omega
        rw [hie] at HNr HOr
        have hjt : js.take J = js := by rw [← HJ.out, List.take_length]
        rw [hjt] at HOr
        obtain ⟨n0, n1', n2, n3⟩ := HNr.out
        have HRX := hide (HR2.out.later HBr.out)
        obtain ⟨f1, f2, f3, f4⟩ := HRX.out
        have hkw : kf < wr.heap.size := block_lt_of_cell f1
        have hkne : ks ≠ kf := by omega
        clear hjt
        go_wp2
        obtain ⟨V, hV⟩ : ∃ V, V = (wr.setCell ⟨kf, 0, none⟩ (.int .i64 m)).setCell ⟨kf, 1, none⟩ (.slice ps J c) := ⟨_, rfl⟩
        have kV : NOwn V kf m ps J c := by rw [hV]; exact HRX.out.set _ _ _ _
        have bV : Below w.heap.size w V := by rw [hV]; exact ((below_step HBW.out HBr.out).setCell (by have := HKB.out; show _ ≤ kf; omega) _).setCell (by have := HKB.out; show _ ≤ kf; omega) _
        have oV : Owns V w.heap.size (.slice ps J c) js := by
          have hx : (Value.slice ps J c).ownBlock ≠ some kf := fun e => by
            have := (World.ownsRow.lt HOr.out kf e).1
            omega
          rw [hV]
          exact owns_base (ownsRow_setCell_other (a := ⟨kf, 1, none⟩) (ownsRow_setCell_other (a := ⟨kf, 0, none⟩) HOr.out hx _) hx _) (by have := HKB.out; omega)
        rw [← hV]
        refine bodyPost_ret (ret_net Try.results10 rfl rfl kV) rfl ⟨Or.inr ⟨HOK.out, ps, c, ?_, ?_⟩, bV⟩
        · rw [HBS.out, HM.out, HKD.out, HJS.out, HJ.out]; rfl
        · rw [HKD.out, HJS.out, HJ.out]; exact oV
end Go.Proofs.Ytaebbfilgfkckaa
