/- closed: the way round that a half-edge closes with a tree. -/
import Derived.Test.YtghffodjffkijaaC4
import Derived.Test.YtghffodjffkijaaB4
import Derived.Test.YtghffodjffkijaaD2
import Derived.Deep.LoopGhost
namespace Go.Proofs.Ytghffodjffkijaa
open Go.RowKit Go.Sort
open Go

theorem nat_xor_one (k : Nat) : ((k ^^^ 1 : Nat) : Int) = twn (k : Int) := by
  have h1 : (k ^^^ 1) / 2 = k / 2 := by rw [Nat.xor_div_two]; simp
  have h2 : (k ^^^ 1) % 2 = (k + 1) % 2 := by have := @Nat.xor_mod_two_eq_one k 1; omega
  unfold twn
  split <;> omega
theorem xor_one (k : Nat) (hk : k < 1000000) : bits .xor .i64 (k : Int) 1 = twn (k : Int) := by
  have hx : k ^^^ 1 < 2 ^ 20 := Nat.xor_lt_two_pow (by omega) (by omega)
  have h1 : (BitVec.ofInt 64 (k : Int)).toNat = k := by
    rw [BitVec.ofInt_natCast, BitVec.toNat_ofNat]; exact Nat.mod_eq_of_lt (by omega)
  have h2 : (BitVec.ofInt 64 (1 : Int)).toNat = 1 := by decide
  show IntKind.i64.wrap ((BitVec.ofInt 64 (k : Int) ^^^ BitVec.ofInt 64 1).toNat : Int) = _
  rw [BitVec.toNat_xor, h1, h2, IntKind.wrap_i64, ← nat_xor_one]
  omega
/-- Two lists of the call's own, in blocks of their own: a number behind the one leaves the other. -/
theorem push2 {w : World} {B : Nat} {v u : Value} {l r : List Int} (o : IOwns w B v l) (o2 : IOwns w B u r) (hd : ∀ i, v.ownBlock = some i → u.ownBlock ≠ some i) (x : Int) (hB : B ≤ w.heap.size) (hl : l.length ≤ 90000) :
    ∃ p1 c1 w', (Builtin.append_ #[33, 33] 33 #[v, .slice (some ⟨w.heap.size, 0, none⟩) 1 1]).run Try.prog (w.alloc (.cells #[.int .i64 x] 3)) = .ok (.slice p1 (l.length + 1) c1) w' ∧ IOwns w' B (.slice p1 (l.length + 1) c1) (l ++ [x]) ∧ IOwns w' B u r ∧ (∀ i, (Value.slice p1 (l.length + 1) c1).ownBlock = some i → u.ownBlock ≠ some i) ∧ Below B w w' := by
  have o' : IOwns (w.alloc (.cells #[.int .i64 x] 3)) B v l := o.later (by go_grown)
  have o2' : IOwns (w.alloc (.cells #[.int .i64 x] 3)) B u r := o2.later (by go_grown)
  obtain ⟨v', w', e1, o1, gr, at1⟩ := append_int o' (one_int w x) (by simp; omega) hl
  obtain ⟨p1, c1, hv, _⟩ := o1.form
  rw [List.length_append, List.length_cons, List.length_nil] at hv
  subst hv
  refine ⟨p1, c1, w', e1, o1, ?_, ?_, below_grown (w := w.alloc (.cells #[.int .i64 x] 3)) (by go_grown) o' (Nat.le_refl _) (by simp; omega) gr⟩
  · refine World.ownsRow.kept o2' gr ?_
    cases hu : u.ownBlock with
    | none => exact Or.inl rfl
    | some i => exact Or.inr (fun e => hd i e.symm hu)
  · intro i hi hu
    rcases at1 with e | e
    · rw [e] at hi; exact hd i hi hu
    · rw [e] at hi
      injection hi with hi
      have := (World.ownsRow.lt o2 i hu).2
      simp at hi
      omega
/-- Numbers behind numbers. -/
theorem append_ints {w : World} {base : Nat} {v : Value} {l : List Int} (ho : IOwns w base v l) (p : Option Addr) (cap : Nat) (qs : List Int) (hnil : p = none → cap = 0) (hq : IHas w p qs) (hb : base ≤ w.heap.size) (hl : l.length + qs.length ≤ 90000) :
    ∃ v' w', (Builtin.append_ #[33, 33] 33 #[v, .slice p qs.length cap]).run Try.prog w = .ok v' w' ∧ IOwns w' base v' (l ++ qs) ∧ w.grownBy w' v.ownBlock := by
  obtain ⟨i0, hi0, hz0, hz1, hz2⟩ := info_parts info3
  cases p with
  | none =>
    have hqs : qs = [] := by
      rcases hq with h | ⟨b, off, h, _⟩
      · exact h
      · cases h
    subst hqs
    rw [hnil rfl]
    exact ⟨v, w, run_append_owned_none (P := Try.prog) (w := w) base 33 33 3 i0 1 Try.underlying33 hi0 v l.length (icells l) ho, by rw [List.append_nil]; exact ho, grownBy_refl _ _⟩
  | some a =>
    have hnews : ∀ j u, (icells qs)[j]? = some u → w.cell? (a.add j) = some u := by
      rcases hq with h | ⟨b, off, h, hL⟩
      · subst h; intro j u hj; simp [icells] at hj
      · cases h
        intro j u hj
        rw [icells, List.getElem?_map] at hj
        cases hq2 : qs[j]? with
        | none => rw [hq2] at hj; cases hj
        | some x =>
          rw [hq2] at hj
          cases hj
          have hjl : j < qs.length := (List.getElem?_eq_some_iff.1 hq2).1
          rw [Go.WideShapes.add_plain, hL j hjl]
          unfold iat
          rw [List.getD_eq_getElem?_getD, hq2]
          rfl
    obtain ⟨v', w', h1, h2, h3, _⟩ := run_append_own (P := Try.prog) w base 33 33 3 i0 (.int .i64 0) 1 8 Try.underlying33 hi0 hz0 hz1 hz2 rfl (by decide) v l.length (icells l) ho a qs.length cap (icells qs) (by simp [icells]) hnews (by intro u hu; rw [icells, List.mem_map] at hu; obtain ⟨x, _, rfl⟩ := hu; rfl) (by unfold maxLen; omega) (by omega) hb
    refine ⟨v', w', h1, ?_, h3⟩
    unfold IOwns
    rw [List.length_append, show icells (l ++ qs) = icells l ++ icells qs by simp [icells]]
    exact h2
set_option maxRecDepth 100000 in
set_option maxHeartbeats 8000000 in
theorem closed48 (m : Nat) (p : Option Addr) (es : List Pt) (cp : Nat) (po : Option Addr) (lo co gb gf B h : Nat) (st : St) (w : World) (hN : Has w p es) (hm : netB m es = true) (hB : IRow w B gb m st.By) (hF : IRow w B gf m st.Fa) (tr : Tree es m st) (hv : ∀ v, v < m → iat st.Fa v ≤ 2000) (hh : h < 2 * es.length) (en sa : Nat) (he : toL es h = en) (hs : fromL es h = sa) (fe : 0 ≤ iat st.Fa en) (fs : 0 ≤ iat st.Fa sa) (hr : root es st en = root es st sa) :
    Calls Try.prog 48 #[nv m p es.length cp, tv (.slice po lo co) (.slice (some ⟨gb, 0, none⟩) m m) (.slice (some ⟨gf, 0, none⟩) m m) nilS, .int .i64 h] w fun e w' => ∃ v, e = .returned v ∧ IOwns w' w.heap.size v ((clo es st ((iat st.Fa en).toNat + (iat st.Fa sa).toNat) en sa [(h : Int)] []).1 ++ (clo es st ((iat st.Fa en).toNat + (iat st.Fa sa).toNat) en sa [(h : Int)] []).2.reverse) ∧ Below w.heap.size w w' := by
  obtain ⟨W, hW⟩ : ∃ W, W = (w.alloc (nbx m p es.length cp)).alloc (.cells #[.slice po lo co, .slice (some ⟨gb, 0, none⟩) m m, .slice (some ⟨gf, 0, none⟩) m m, nilS] 35) := ⟨_, rfl⟩
  have hb : Below w.heap.size w W := by rw [hW]; go_grown
  obtain ⟨n0, n1, hes, hE⟩ := netB_is hm
  have HM := hide hm
  have HTR := hide tr
  have HH := hide (hN.later hb)
  have HBY := hide (hB.later hb)
  have HFA := hide (hF.later hb)
  have HV := hide hv
  have HB := hide hb
  have HA : Hid (NOwn W w.heap.size m p es.length cp) := by show NOwn _ _ _ _ _ _; rw [hW]; exact ⟨by unfold nbx; go_cell, by unfold nbx; go_cell, by unfold nbx; go_cell, by unfold nbx; go_cell⟩
  have HX : Hid (W.cell? ⟨w.heap.size + 1, 1, none⟩ = some (.slice (some ⟨gb, 0, none⟩) m m) ∧ W.cell? ⟨w.heap.size + 1, 2, none⟩ = some (.slice (some ⟨gf, 0, none⟩) m m)) := by show _ ∧ _; rw [hW]; exact ⟨by go_cell, by go_cell⟩
  have HWS : Hid (W.heap.size = w.heap.size + 1 + 1) := by show _ = _; rw [hW]; simp
  have hel := toL_in hm h hh
  have hsl := fromL_in hm h hh
  rw [he] at hel
  rw [hs] at hsl
  have hen : en < m := by omega
  have hsa : sa < m := by omega
  obtain ⟨U, hU⟩ : ∃ U, U = W.alloc (.cells #[.int .i64 h] 3) := ⟨_, rfl⟩
  have hbU : Below W.heap.size W U := by rw [hU]; go_grown
  have HOU : Hid (IOwns U W.heap.size (.slice (some ⟨W.heap.size, 0, none⟩) 1 1) [(h : Int)]) := by
    show U.ownsRow _ _ _ _ _ _
    rw [hU]
    exact World.ownsRow_lit W #[.int .i64 h] 1 (Nat.le_refl _) (by unfold maxLen; omega) rfl
  have HBU := hide hbU
  obtain ⟨tw, htw, htw2⟩ := twn_in hh
  have hx1 := xor_one h (by omega)
  rw [htw] at hx1
  have htwt : toL es tw = sa := by have := twn_to es h; rw [htw, Int.toNat_natCast] at this; rw [this]; exact hs
  have C1 : ∀ dd os, Calls Try.prog 54 #[nv m p es.length cp, .int .i64 h] (grow (redrawn U dd) os) fun e w'' => e = .returned (.int .i64 en) ∧ ∃ p : Regrown, w'' = grow (redrawn U p.d) p.os := fun dd os => Calls.regrown_of (by rw [← he]; exact comes54 m p es cp h _ ((HH.out.later HBU.out).later (below_regrown U dd os)) hh (by omega))
  have C2 : ∀ dd os, Calls Try.prog 54 #[nv m p es.length cp, .int .i64 tw] (grow (redrawn U dd) os) fun e w'' => e = .returned (.int .i64 sa) ∧ ∃ p : Regrown, w'' = grow (redrawn U p.d) p.os := fun dd os => Calls.regrown_of (by rw [← htwt]; exact comes54 m p es cp tw _ ((HH.out.later HBU.out).later (below_regrown U dd os)) htw2 (by omega))
  obtain ⟨q0, q1, _, _⟩ := HA.out.later hbU
  have Q0 := cell_regrown q0
  have Q1 := cell_regrown q1
  obtain ⟨R, hR⟩ : ∃ R, clo es st ((iat st.Fa en).toNat + (iat st.Fa sa).toNat) en sa [(h : Int)] [] = R := ⟨_, rfl⟩
  rw [hR]
  have HR := hide hR
  have HROOT := hide (And.intro fe (And.intro fs hr))
  clear hN hb hE hB hF hv hm tr hel hsl hR he hs htw htwt hbU fe fs hr
  go_enter Try.func48, Try.ntmps48
  go_upto_region 3 with fail
  rw [← hW, ← hU]
  clear hW hU q0 q1
  refine wp_region_quiet_below (by kernel_rfl) (by kernel_rfl) ?_
  repeat (go_big_quiet_step (first | with_reducible exact C1 _ _ | with_reducible exact C2 _ _))
  refine wpQuiet_nil ?_
  intro x1 hw'
  have hbx : Below U.heap.size U x1 := by
    obtain ⟨⟨dq, osq⟩, hw''⟩ := hw'
    rw [hw'']
    exact below_regrown U dq osq
  have HO1 := hide (HOU.out.later hbx)
  have HB1 := hide (below_step HBU.out hbx)
  clear hw' hbx C1 C2 Q0 Q1 HOU HBU
  go_wp2_with fail
  obtain ⟨kt, hkt⟩ : ∃ kt, w.heap.size + 1 = kt := ⟨_, rfl⟩
  rw [hkt] at HX ⊢
  obtain ⟨kb, hkb⟩ : ∃ kb, w.heap.size = kb := ⟨_, rfl⟩
  rw [hkb] at HA ⊢
  have HKB := hide hkb
  have hks : kt + 1 = W.heap.size := by rw [HWS.out, ← hkt]
  rw [hks]
  clear hkt hkb hks
  have hk0 : (iat st.Fa en).toNat + (iat st.Fa sa).toNat ≤ 5000 := by have h1 := HV.out en hen; have h2 := HV.out sa hsa; omega
  go_loopg [7, 8, 9, 10] ((iat st.Fa en).toNat + (iat st.Fa sa).toNat) (fun gk t7 t8 t9 t10 wr => ∃ (cy dn : List Int) (p7 p8 : Option Addr) (c7 c8 a b : Nat), t7 = .slice p7 cy.length c7 ∧ t8 = .slice p8 dn.length c8 ∧ t9 = .int .i64 a ∧ t10 = .int .i64 b ∧ a < m ∧ b < m ∧ Hid (clo es st gk a b cy dn = R ∧ iat st.Fa a + iat st.Fa b ≤ gk ∧ 0 ≤ iat st.Fa a ∧ 0 ≤ iat st.Fa b ∧ root es st a = root es st b) ∧ Hid (cy.length + dn.length + gk ≤ 10000) ∧ Hid (IOwns wr W.heap.size (.slice p7 cy.length c7) cy) ∧ Hid (IOwns wr W.heap.size (.slice p8 dn.length c8) dn) ∧ Hid (∀ i, (Value.slice p7 cy.length c7).ownBlock = some i → (Value.slice p8 dn.length c8).ownBlock ≠ some i) ∧ Hid (Below W.heap.size W wr))
  case atStart => exact ⟨[(h : Int)], [], _, none, _, 0, en, sa, rfl, rfl, rfl, rfl, hen, hsa, ⟨HR.out, by have := HROOT.out; omega, HROOT.out⟩, by show _ ≤ _; simp; omega, HO1.out, IOwns.nil _ _, fun i _ hi => by simp [Value.ownBlock] at hi, HB1.out⟩
  case round =>
    clear HO1 HB1
    obtain ⟨cy, dn, p7, p8, c7, c8, a, b, rfl, rfl, rfl, rfl, ha, hb, HC, HLN, H7, H8, HDJ, HBr⟩ := hrel
    have a1 : (a : Int) < m := by omega
    have a2 : (0 : Int) ≤ a := by omega
    have b1 : (b : Int) < m := by omega
    have b2 : (0 : Int) ≤ b := by omega
    by_cases hab : a = b
    · subst hab
      have hRR : R = (cy, dn) := by rw [← HC.out.1]; exact clo_stop gk
      have hln := HLN.out
      have RV := hide (reverse58 p8 c8 W.heap.size dn wr H8.out (by omega))
      have HRR := hide hRR
      have t1 : ((a : Int) == a) = true := by simp
      clear hRR HC
      go_wp2_with fail
      refine RV.out.mono ?_
      rintro e w5 ⟨rfl, o8, f8⟩
      have o7 := f8.iowns H7.out (fun i hi h8 => HDJ.out i hi h8)
      have hsz := f8.size
      obtain ⟨p', c', hv', hI, _, hnil, _⟩ := o8.form
      rw [List.length_reverse] at hv'
      simp only [Value.slice.injEq, true_and] at hv'
      obtain ⟨rfl, rfl⟩ := hv'
      have hBw : Below W.heap.size W w5 := Below.trans HBr.out (f8.below HBr.out.size (fun i hi => (World.ownsRow.lt H8.out i hi).1))
      obtain ⟨v', D, ea, oD, gr⟩ := append_ints o7 p8 c8 dn.reverse hnil hI (by have := HBr.out.size; omega) (by simp; omega)
      rw [List.length_reverse] at ea
      have HOD := hide oD
      have HBD : Hid (Below W.heap.size W D) := below_grown hBw o7 (Nat.le_refl _) hBw.size gr
      clear RV o8 f8 o7 hI hnil hBw oD gr
      go_wp2_with (at_builtin; refine wpList_run_append rfl (.tmp 64) (.tmp 65) 33 rfl 33 rfl _ _ _ D rfl rfl ea ?_)
      clear ea
      go_wp2
      go_ret
      refine ⟨v', rfl, ?_, below_step HB.out HBD.out⟩
      rw [HRR.out]
      exact IOwns.base HOD.out (by have := HB.out.size; have := HKB.out; omega)
    · have t1 : ((a : Int) == b) = false := by simp; omega
      have t2 : ¬ (a : Int) = b := by omega
      obtain ⟨gk', rfl⟩ : ∃ k', gk = k' + 1 := by
        have h1 := HC.out
        by_cases h : iat st.Fa b ≤ iat st.Fa a
        · have := has_up h1.2.2.1 h1.2.2.2.1 h1.2.2.2.2 hab h
          exact ⟨gk - 1, by omega⟩
        · exact ⟨gk - 1, by omega⟩
      obtain ⟨x1', x2'⟩ := HX.out
      have x1 := later HBr.out x1'
      have x2 := later HBr.out x2'
      obtain ⟨r0, _⟩ := (HBY.out.later HBr.out).cell ha
      obtain ⟨r1, _⟩ := (HBY.out.later HBr.out).cell hb
      obtain ⟨r2, _⟩ := (HFA.out.later HBr.out).cell ha
      obtain ⟨r3, _⟩ := (HFA.out.later HBr.out).cell hb
      clear x1' x2'
      by_cases hle : iat st.Fa b ≤ iat st.Fa a
      · have h1 := HC.out
        have hpos := has_up h1.2.2.1 h1.2.2.2.1 h1.2.2.2.2 hab hle
        obtain ⟨k, hk1, hk2, hk3, hk4, hk5, hk6, hk7, hk8⟩ := root_par HTR.out ha hpos
        obtain ⟨tw, htw, htw2⟩ := twn_in hk1
        have hx1 := xor_one k (by omega)
        have hcl := clo_up (es := es) (st := st) (k := gk') (cy := cy) (dn := dn) hab hle
        rw [hk2, htw] at hcl
        rw [htw] at hx1
        have htwt : toL es tw = par es st a := by have := twn_to es k; rw [htw, Int.toNat_natCast] at this; rw [this]; exact hk4
        rw [hk2] at r0
        have HCN : Hid (clo es st gk' (par es st a) b (cy ++ [(tw : Int)]) dn = R ∧ iat st.Fa (par es st a) + iat st.Fa b ≤ gk' ∧ 0 ≤ iat st.Fa (par es st a) ∧ 0 ≤ iat st.Fa b ∧ root es st (par es st a) = root es st b) := ⟨by rw [← hcl]; exact h1.1, by omega, hk7, h1.2.2.2.1, by rw [hk8]; exact h1.2.2.2.2⟩
        obtain ⟨q, hq⟩ : ∃ q, par es st a = q := ⟨_, rfl⟩
        rw [hq] at HCN htwt hk5
        obtain ⟨fa, hfa⟩ : ∃ z, iat st.Fa a = z := ⟨_, rfl⟩
        obtain ⟨fb, hfb⟩ : ∃ z, iat st.Fa b = z := ⟨_, rfl⟩
        rw [hfa] at r2 hle
        rw [hfb] at r3 hle
        clear hk2 hk3 hk4 hk6 hk7 hk8 hq hfa hfb hpos h1 htw hcl HC
        go_wp2_with fail
        go_quiet (fail)
        obtain ⟨Z, hZ⟩ : ∃ Z, Z = wr.drewN nq := ⟨_, rfl⟩
        have hbZ : Below wr.heap.size wr Z := by rw [hZ]; exact below_drewN (Below.refl _ _)
        have HBZ := hide (below_step HBr.out hbZ)
        have x1z := later hbZ x1
        have r0z := later hbZ r0
        have H7z := hide (H7.out.later hbZ)
        have H8z := hide (H8.out.later hbZ)
        rw [← hZ]
        clear hZ hbZ x1 x2 r0 r1 r2 r3 H7 H8
        have hln := HLN.out
        obtain ⟨p9, c9, D, ea, o7, o8, hd, hbD⟩ := push2 H7z.out H8z.out HDJ.out (tw : Int) HBZ.out.size (by omega)
        have HBD : Hid (Below W.heap.size W D) := Below.trans HBZ.out hbD
        have HO7 := hide o7
        have HO8 := hide o8
        have HD2 := hide hd
        have CT := hide (comes54 m p es cp tw D (HH.out.later HBD.out) htw2 (by omega))
        rw [htwt] at CT
        obtain ⟨q0, q1, _, _⟩ := HA.out.later HBD.out
        clear o7 o8 hd hbD H7z H8z HDJ
        go_wp2_with (at_builtin; refine wpList_run_append rfl (.tmp 42) (.tmp 44) 33 rfl 33 rfl _ _ _ D rfl rfl ea ?_)
        clear ea x1z r0z
        go_wp2_with fail
        refine CT.out.mono ?_
        rintro e w4 ⟨rfl, hb4⟩
        have H74 := hide (HO7.out.later hb4)
        have H84 := hide (HO8.out.later hb4)
        have HB4 := hide (below_step HBD.out hb4)
        clear hb4 CT q0 q1 HO7 HO8
        go_wp2
        go_roundg gk'
        case measure => omega
        case rel =>
          refine ⟨cy ++ [(tw : Int)], dn, p9, p8, c9, c8, q, b, by simp, rfl, rfl, rfl, hk5, hb, HCN.out, ?_, ?_, H84.out, ?_, HB4.out⟩
          · show _ ≤ _; simp; omega
          · show IOwns _ _ _ _
            rw [show (cy ++ [(tw : Int)]).length = cy.length + 1 by simp]
            exact H74.out
          · rw [show (cy ++ [(tw : Int)]).length = cy.length + 1 by simp]
            exact HD2.out
      · have h1 := HC.out
        have hpos : 0 < iat st.Fa b := by have := h1.2.2.1; omega
        obtain ⟨k, hk1, hk2, hk3, hk4, hk5, hk6, hk7, hk8⟩ := root_par HTR.out hb hpos
        obtain ⟨tw, htw, htw2⟩ := twn_in hk1
        have hx1 := xor_one k (by omega)
        have hcl := clo_down (es := es) (st := st) (k := gk') (cy := cy) (dn := dn) hab hle
        rw [hk2] at hcl
        rw [htw] at hx1
        have htwt : toL es tw = par es st b := by have := twn_to es k; rw [htw, Int.toNat_natCast] at this; rw [this]; exact hk4
        rw [hk2] at r1
        have HCN : Hid (clo es st gk' a (par es st b) cy (dn ++ [(k : Int)]) = R ∧ iat st.Fa a + iat st.Fa (par es st b) ≤ gk' ∧ 0 ≤ iat st.Fa a ∧ 0 ≤ iat st.Fa (par es st b) ∧ root es st a = root es st (par es st b)) := ⟨by rw [← hcl]; exact h1.1, by omega, h1.2.2.1, hk7, by rw [hk8]; exact h1.2.2.2.2⟩
        obtain ⟨q, hq⟩ : ∃ q, par es st b = q := ⟨_, rfl⟩
        rw [hq] at HCN htwt hk5
        obtain ⟨fa, hfa⟩ : ∃ z, iat st.Fa a = z := ⟨_, rfl⟩
        obtain ⟨fb, hfb⟩ : ∃ z, iat st.Fa b = z := ⟨_, rfl⟩
        rw [hfa] at r2 hle
        rw [hfb] at r3 hle
        clear hk2 hk3 hk4 hk6 hk7 hk8 hq hfa hfb hpos h1 htw hcl HC
        go_wp2_with fail
        go_quiet (fail)
        obtain ⟨Z, hZ⟩ : ∃ Z, Z = wr.drewN nq := ⟨_, rfl⟩
        have hbZ : Below wr.heap.size wr Z := by rw [hZ]; exact below_drewN (Below.refl _ _)
        have HBZ := hide (below_step HBr.out hbZ)
        have x1z := later hbZ x1
        have r0z := later hbZ r1
        have H7z := hide (H7.out.later hbZ)
        have H8z := hide (H8.out.later hbZ)
        rw [← hZ]
        clear hZ hbZ x1 x2 r0 r1 r2 r3 H7 H8
        have hln := HLN.out
        obtain ⟨p9, c9, D, ea, o8, o7, hd, hbD⟩ := push2 H8z.out H7z.out (fun i hi h7 => HDJ.out i h7 hi) (k : Int) HBZ.out.size (by omega)
        have HBD : Hid (Below W.heap.size W D) := Below.trans HBZ.out hbD
        have HO7 := hide o7
        have HO8 := hide o8
        have HD2 := hide hd
        have CT := hide (comes54 m p es cp tw D (HH.out.later HBD.out) htw2 (by omega))
        rw [htwt] at CT
        obtain ⟨q0, q1, _, _⟩ := HA.out.later HBD.out
        clear o7 o8 hd hbD H7z H8z HDJ
        go_wp2_with (at_builtin; refine wpList_run_append rfl (.tmp 54) (.tmp 56) 33 rfl 33 rfl _ _ _ D rfl rfl ea ?_)
        clear ea x1z r0z
        go_wp2_with fail
        refine CT.out.mono ?_
        rintro e w4 ⟨rfl, hb4⟩
        have H74 := hide (HO7.out.later hb4)
        have H84 := hide (HO8.out.later hb4)
        have HB4 := hide (below_step HBD.out hb4)
        clear hb4 CT q0 q1 HO7 HO8
        go_wp2
        go_roundg gk'
        case measure => omega
        case rel =>
          refine ⟨cy, dn ++ [(k : Int)], p7, p9, c7, c9, a, q, rfl, by simp, rfl, rfl, ha, hk5, HCN.out, ?_, H74.out, ?_, ?_, HB4.out⟩
          · show _ ≤ _; simp; omega
          · show IOwns _ _ _ _
            rw [show (dn ++ [(k : Int)]).length = dn.length + 1 by simp]
            exact H84.out
          · rw [show (dn ++ [(k : Int)]).length = dn.length + 1 by simp]
            exact fun i h7 h8 => HD2.out i h8 h7
end Go.Proofs.Ytghffodjffkijaa
