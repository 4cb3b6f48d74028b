/- KuraLess' walk. -/
import Derived.Test.YtaebbfilgfkckaaKD4
namespace Go.Proofs.Ytaebbfilgfkckaa
open Go.RowKit Go.Sort
open Go
set_option maxRecDepth 100000 in
set_option maxHeartbeats 16000000 in
theorem less_walk (n : Int) (p q : Option Addr) (es : List Pt) (l : List Int) (cp cq : Nat) (out inn : Int) (w : World) (h : Has w p es) (k : IHas w q l) (hcq : l.length ≤ cq) (hml : l.length ≤ maxLen) : Calls Try.prog 5 #[nv n p es.length cp, .slice q l.length cq, .int .i64 out, .int .i64 inn] w fun e w' => e = .returned (.bool true) ∧ Below w.heap.size w w' := by
  obtain ⟨W, hW, hb0, a0⟩ := one_net w n p es.length cp
  have HB := hide hb0
  have HA := hide a0
  have HH := hide (h.later hb0)
  have HK := hide (k.later hb0)
  have HML := hide hml
  have HCQ := hide hcq
  have BG := hide (begun6 W)
  clear h k hb0 a0 hml hcq
  go_enter Try.func5, Try.ntmps5
  go_upto_region 1 with fail
  rw [← hW]
  clear hW
  go_wp2_with fail
  refine BG.out.mono ?_
  rintro r w1 ⟨rfl, hb1⟩
  have HB1 := hide hb1
  have LG := hide (light9 n p es cp w1 (HH.out.later hb1))
  obtain ⟨q0, q1, _, _⟩ := HA.out.later hb1
  clear BG hb1
  go_upto_region 3 with fail
  go_wp2_with fail
  refine LG.out.mono ?_
  rintro r w2 ⟨rfl, hb2⟩
  have HB2 := hide (below_step HB1.out hb2)
  clear LG hb2 q0 q1
  obtain ⟨q0, q1, _, _⟩ := HA.out.later HB2.out
  have HE := hide (below_step HB.out HB2.out)
  obtain ⟨lg, hlg⟩ : ∃ b, lightB n es = b := ⟨_, rfl⟩
  rw [hlg]
  cases lg
  · go_wp2
    go_ret
    exact ⟨retB (by rfl), HE.out⟩
  · by_cases h3 : l.length ≤ 300
    · by_cases h4 : out < 0
      · go_wp2
        go_ret
        exact ⟨retB (by rfl), HE.out⟩
      · have KK := hide (kind12 n p q es l cp cq w2 HML.out (HH.out.later HB2.out) (HK.out.later HB2.out))
        have t4 : 0 ≤ out := by omega
        go_upto_region 5 with fail
        go_wp2_with fail
        refine KK.out.mono ?_
        rintro r w3 ⟨rfl, hb3⟩
        have HB3 := hide (below_step HB2.out hb3)
        have HE3 := hide (below_step HB.out HB3.out)
        clear KK hb3 q0 q1 HE
        obtain ⟨q0, q1, _, _⟩ := HA.out.later HB3.out
        by_cases hk : isK n es l
        · have hkn : (knI n es l == 0) = false := by
            rw [beq_eq_false_iff_ne]
            unfold knI
            rw [if_pos hk]
            exact kd_ne hk
          have hpos := k_pos hk
          have HKK := hide hk
          rw [hk.1]
          obtain ⟨kn, hkn'⟩ : ∃ x, knI n es l = x := ⟨_, rfl⟩
          rw [hkn'] at hkn ⊢
          obtain ⟨a, ha⟩ : ∃ a, out.toNat % l.length = a := ⟨_, rfl⟩
          have hal : a < l.length := by rw [← ha]; exact Nat.mod_lt _ hpos
          have htm : Int.tmod out l.length = (a : Int) := by
            rw [Int.tmod_eq_emod_of_nonneg t4, ← ha]
            have e : out = (out.toNat : Int) := by omega
            rw [e, Int.toNat_natCast]
            exact (Int.natCast_emod _ _).symm
          obtain ⟨b, off, rfl, hL⟩ : ∃ b off, q = some ⟨b, off, none⟩ ∧ ILies W b off l := by
            rcases HK.out with e | e
            · rw [e] at hpos; simp at hpos
            · exact e
          have hn0 : ¬ l.length = 0 := by omega
          have HIL := hide hL
          clear hk hkn' ha hL
          go_upto_region 9 with fail
          have u1 : (a : Int) < l.length := by omega
          have u2 : (0 : Int) ≤ a := by omega
          have u3 : (a : Int) + 1 ≤ l.length := by omega
          have u4 : a ≤ cq := by have := HCQ.out; omega
          have u5 : (l.length : Int) ≤ cq := by have := HCQ.out; omega
          have hIt : IHas w3.drew (some ⟨b, off, none⟩) (l.take a) := by
            refine Or.inr ⟨b, off, rfl, fun j hj => ?_⟩
            rw [List.length_take] at hj
            have := later (below_step HB3.out (below_drew w3)) (HIL.out j (by omega))
            rw [show iat (l.take a) j = iat l j by unfold iat; rw [List.getD_eq_getElem?_getD, List.getD_eq_getElem?_getD, List.getElem?_take_of_lt (by omega)]]
            exact this
          obtain ⟨v1, D1, e1, o1, gr1⟩ := append_ints (w := w3.drew) (base := w3.drew.heap.size) (v := .slice none 0 0) (l := []) (IOwns.nil _ _) (some ⟨b, off, none⟩) cq (l.take a) (fun h => by cases h) hIt (Nat.le_refl _) (by simp; omega)
          have hb1 : Below w3.drew.heap.size w3.drew D1 := below_grown (Below.refl _ _) (IOwns.nil w3.drew w3.drew.heap.size) (Nat.le_refl _) (Nat.le_refl _) gr1
          rw [List.nil_append] at o1
          obtain ⟨p1, c1, rfl, _⟩ := o1.form
          have hta : (l.take a).length = a := by rw [List.length_take]; omega
          rw [hta] at e1 o1
          have jw : IntKind.i64.wrap ((a : Int) + 1) = a + 1 := by rw [IntKind.wrap_i64]; omega
          have j0 : (0 : Int) ≤ (a : Int) + 1 := by omega
          go_cut [12] (fun s12 wx => ∃ (p2 : Option Addr) (c2 : Nat), s12 = .slice p2 (lessL l a).length c2 ∧ Hid (IHas wx p2 (lessL l a)) ∧ Hid (Below w3.heap.size w3 wx))
          case first =>
           by_cases hca : cq = a + 1
           · have hle : l.length = a + 1 := by have := HCQ.out; omega
             have hIt2 : IHas D1 (some ⟨b, off, none⟩) (l.drop (a + 1)) := Or.inl (List.drop_of_length_le (by omega))
             have hT : (cq = a + 1) = True := eq_true hca
             clear hca
             obtain ⟨v2, D2, e2, o2, gr2⟩ := append_ints o1 (some ⟨b, off, none⟩) (cq - (a + 1)) (l.drop (a + 1)) (fun h => by cases h) hIt2 hb1.size (by simp; omega)
             have hb2 : Below w3.drew.heap.size w3.drew D2 := below_grown hb1 o1 (Nat.le_refl _) hb1.size gr2
             obtain ⟨p2, c2, rfl, _⟩ := o2.form
             rw [List.length_drop] at e2
             have HO2 : Hid (IOwns D2 w3.drew.heap.size (.slice p2 (lessL l a).length c2) (lessL l a)) := o2
             have HB4 : Hid (Below w3.heap.size w3 D2) := below_step (below_drew w3) hb2
             rw [show l.take a ++ l.drop (a + 1) = lessL l a from rfl] at e2
             clear hle
             clear o2 gr2 hb2 hIt2 hIt o1 gr1 hb1 hta
             go_region_held3 (fun V => True)
               (trivial)
               (first | (refine step_run_append (by rfl) (.const (.slice none 0 0)) (.tmp 50) 25 (by rfl) 25 (by rfl) (.slice none 0 0) (.slice (some ⟨b, off, none⟩) a cq) (.slice p1 a c1) D1 (by rfl) (by rfl) ?_ ?_; with_reducible exact e1) | (refine step_run_append (by rfl) (.tmp 51) (.tmp 55) 25 (by rfl) 25 (by rfl) (.slice p1 a c1) (.slice (some ⟨b, off, none⟩) (l.length - (a + 1)) (cq - (a + 1))) (.slice p2 (lessL l a).length c2) D2 (by rfl) (by rfl) ?_ ?_; with_reducible exact e2))
             rename_i hHeld
             clear hHeld
             go_wp2_with fail
             go_meet
             exact ⟨p2, c2, rfl, ihas_of HO2.out, HB4.out⟩

           · have hIt2 : IHas D1 (some ⟨b, off + (a + 1), none⟩) (l.drop (a + 1)) := by
               refine Or.inr ⟨b, off + (a + 1), rfl, fun j hj => ?_⟩
               rw [List.length_drop] at hj
               have := later hb1 (later (below_step HB3.out (below_drew w3)) (HIL.out (a + 1 + j) (by omega)))
               rw [show iat (l.drop (a + 1)) j = iat l (a + 1 + j) by unfold iat; rw [List.getD_eq_getElem?_getD, List.getD_eq_getElem?_getD, List.getElem?_drop]]
               rw [show off + (a + 1) + j = off + (a + 1 + j) by omega]
               exact this
             obtain ⟨v2, D2, e2, o2, gr2⟩ := append_ints o1 (some ⟨b, off + (a + 1), none⟩) (cq - (a + 1)) (l.drop (a + 1)) (fun h => by cases h) hIt2 hb1.size (by simp; omega)
             have hb2 : Below w3.drew.heap.size w3.drew D2 := below_grown hb1 o1 (Nat.le_refl _) hb1.size gr2
             obtain ⟨p2, c2, rfl, _⟩ := o2.form
             rw [List.length_drop] at e2
             have HO2 : Hid (IOwns D2 w3.drew.heap.size (.slice p2 (lessL l a).length c2) (lessL l a)) := o2
             have HB4 : Hid (Below w3.heap.size w3 D2) := below_step (below_drew w3) hb2
             rw [show l.take a ++ l.drop (a + 1) = lessL l a from rfl] at e2
             clear o2 gr2 hb2 hIt2 hIt o1 gr1 hb1 hta
             go_region_held3 (fun V => True)
               (trivial)
               (first | (refine step_run_append (by rfl) (.const (.slice none 0 0)) (.tmp 50) 25 (by rfl) 25 (by rfl) (.slice none 0 0) (.slice (some ⟨b, off, none⟩) a cq) (.slice p1 a c1) D1 (by rfl) (by rfl) ?_ ?_; with_reducible exact e1) | (refine step_run_append (by rfl) (.tmp 51) (.tmp 55) 25 (by rfl) 25 (by rfl) (.slice p1 a c1) (.slice (some ⟨b, off + (a + 1), none⟩) (l.length - (a + 1)) (cq - (a + 1))) (.slice p2 (lessL l a).length c2) D2 (by rfl) (by rfl) ?_ ?_; with_reducible exact e2))
             rename_i hHeld
             clear hHeld
             go_wp2_with fail
             go_meet
             exact ⟨p2, c2, rfl, ihas_of HO2.out, HB4.out⟩

          case rest =>
            obtain ⟨p2, c2, rfl, HI2, HBc⟩ := hcut
            have HB4 := hide (below_step HB3.out HBc.out)
            have HE4 := hide (below_step HB.out HB4.out)
            obtain ⟨q0, q1, _, _⟩ := HA.out.later HB4.out
            obtain ⟨n1, n2⟩ := kn_less HKK.out hal
            have C10 := hide (kind12 n p p2 es (lessL l a) cp c2 wc (by rw [lessL_length hal]; unfold maxLen; omega) (HH.out.later HB4.out) HI2.out)
            rw [n1, n2] at C10
            obtain ⟨ml, hml⟩ : ∃ z, (lessL l a).length = z := ⟨_, rfl⟩
            rw [hml] at C10 ⊢
            clear n1 n2 hml htm hkn
            go_wp2_with fail
            refine C10.out.mono ?_
            rintro r w5 ⟨rfl, hb5⟩
            have HB5 := hide (below_step HB4.out hb5)
            clear C10 hb5 q0 q1
            obtain ⟨q0, q1, _, _⟩ := HA.out.later HB5.out
            go_upto_region 13 with fail
            have HS : Hid (∀ V, Below w5.heap.size w5 V → V.cell? ⟨w.heap.size, 0, none⟩ = some (.int .i64 n) ∧ V.cell? ⟨w.heap.size, 1, none⟩ = some (.slice p es.length cp)) := fun V hV => by
              obtain ⟨x0, x1, _, _⟩ := (HA.out.later HB5.out).later hV
              exact ⟨x0, x1⟩
            obtain ⟨m1, m2⟩ := kn_more inn HKK.out
            have HM2 := hide m2
            have K13 : Hid (∀ V qq cc, Below w5.heap.size w5 V → IHas V qq (l ++ [inn]) → Calls Try.prog 12 #[nv n p es.length cp, .slice qq (l.length + 1) cc] V fun e w' => e = .returned (.tuple #[.int .i64 0, .int .i64 (subE n es (l ++ [inn]))]) ∧ Below V.heap.size V w') := fun V qq cc hV hq => by
              have := kind12 n p qq es (l ++ [inn]) cp cc V (by rw [List.length_append]; unfold maxLen; simp; omega) ((HH.out.later HB5.out).later hV) hq
              rw [m1] at this
              rw [show (l ++ [inn]).length = l.length + 1 by simp] at this
              exact this
            have hl0 : IHas w5 (some ⟨b, off, none⟩) l := Or.inr ⟨b, off, rfl, fun j hj => later HB5.out (HIL.out j hj)⟩
            -- the list first, then the literal
            obtain ⟨v1, D1, e1, o1, gr1⟩ := append_ints (w := w5.drew) (base := w5.drew.heap.size) (v := .slice none 0 0) (l := []) (IOwns.nil _ _) (some ⟨b, off, none⟩) cq l (fun h => by cases h) (hl0.later (below_drew w5)) (Nat.le_refl _) (by simp; omega)
            have hb1 : Below w5.drew.heap.size w5.drew D1 := below_grown (Below.refl _ _) (IOwns.nil w5.drew w5.drew.heap.size) (Nat.le_refl _) (Nat.le_refl _) gr1
            rw [List.nil_append] at o1
            obtain ⟨v2, D2, e2, o2, hb2⟩ := push_int o1 inn hb1.size (by omega)
            obtain ⟨p1, c1, rfl, _⟩ := o1.form
            obtain ⟨p2', c2', rfl, _⟩ := o2.form
            have HD1 : Hid (Below w5.heap.size w5 D1) := below_step (below_drew w5) hb1
            have HD1' : Hid (Below w5.heap.size w5 (D1.alloc (.cells #[.int .i64 inn] 3))) := below_step HD1.out (by go_grown)
            have HD2 : Hid (Below w5.heap.size w5 D2) := below_step (below_drew w5) (hb1.trans hb2)
            have HID2 := hide (ihas_of o2)
            rw [show (l ++ [inn]).length = l.length + 1 by simp] at e2
            -- the literal first
            have hbL : Below w5.heap.size w5 (w5.alloc (.cells #[.int .i64 inn] 3)).drew := by go_grown
            obtain ⟨v3, F1, e3, o3, gr3⟩ := append_ints (w := (w5.alloc (.cells #[.int .i64 inn] 3)).drew) (base := (w5.alloc (.cells #[.int .i64 inn] 3)).drew.heap.size) (v := .slice none 0 0) (l := []) (IOwns.nil _ _) (some ⟨b, off, none⟩) cq l (fun h => by cases h) (hl0.later hbL) (Nat.le_refl _) (by simp; omega)
            have hb3 : Below (w5.alloc (.cells #[.int .i64 inn] 3)).drew.heap.size (w5.alloc (.cells #[.int .i64 inn] 3)).drew F1 := below_grown (Below.refl _ _) (IOwns.nil (w5.alloc (.cells #[.int .i64 inn] 3)).drew (w5.alloc (.cells #[.int .i64 inn] 3)).drew.heap.size) (Nat.le_refl _) (Nat.le_refl _) gr3
            rw [List.nil_append] at o3
            have hlit : IHas F1 (some ⟨w5.heap.size, 0, none⟩) [inn] := Or.inr ⟨w5.heap.size, 0, rfl, fun j hj => by
              simp at hj
              subst hj
              exact later hb3 (show (w5.alloc (.cells #[.int .i64 inn] 3)).drew.cell? ⟨w5.heap.size, 0, none⟩ = some (.int .i64 inn) by go_cell)⟩
            obtain ⟨v4, F2, e4, o4, gr4⟩ := append_ints o3 (some ⟨w5.heap.size, 0, none⟩) 1 [inn] (fun h => by cases h) hlit hb3.size (by simp; omega)
            have hb4 : Below (w5.alloc (.cells #[.int .i64 inn] 3)).drew.heap.size (w5.alloc (.cells #[.int .i64 inn] 3)).drew F2 := below_grown hb3 o3 (Nat.le_refl _) hb3.size gr4
            obtain ⟨p3, c3, rfl, _⟩ := o3.form
            obtain ⟨p4, c4, rfl, _⟩ := o4.form
            have HDL := hide hbL
            have HF1 : Hid (Below w5.heap.size w5 F1) := below_step hbL hb3
            have HF2 : Hid (Below w5.heap.size w5 F2) := below_step hbL hb4
            have HIF2 := hide (ihas_of o4)
            rw [show (l ++ [inn]).length = l.length + 1 by simp] at e4
            simp only [List.length_cons, List.length_nil, Nat.zero_add] at e4
            clear o1 o2 o3 o4 gr1 gr3 gr4 hb1 hb2 hb3 hb4 hbL hlit hl0 m1 m2 hal t4 u1 u2 u3 u4 u5 jw j0
            go_cut [14, 15] (fun s14 s15 wx => s14 = .int .i64 0 ∧ s15 = .int .i64 (subE n es (l ++ [inn])) ∧ Hid (Below w5.heap.size w5 wx))
            case first =>
              go_region_held3 (fun V => V.cell? ⟨w.heap.size, 0, none⟩ = some (.int .i64 n) ∧ V.cell? ⟨w.heap.size, 1, none⟩ = some (.slice p es.length cp))
                (first | with_reducible exact HS.out _ (below_drew w5) | with_reducible exact HS.out _ HD1.out | with_reducible exact HS.out _ HD1'.out | with_reducible exact HS.out _ HD2.out | with_reducible exact HS.out _ HDL.out | with_reducible exact HS.out _ HF1.out | with_reducible exact HS.out _ HF2.out | with_reducible exact HS.out _ HV6.out | fail)
                (first | (refine step_run_append (by rfl) (.const (.slice none 0 0)) (.tmp 71) 25 (by rfl) 25 (by rfl) (.slice none 0 0) (.slice (some ⟨b, off, none⟩) l.length cq) (.slice p1 l.length c1) D1 (by rfl) (by rfl) ?_ ?_; with_reducible exact e1) | (refine step_run_append (by rfl) (.const (.slice none 0 0)) (.tmp 71) 25 (by rfl) 25 (by rfl) (.slice none 0 0) (.slice (some ⟨b, off, none⟩) l.length cq) (.slice p3 l.length c3) F1 (by rfl) (by rfl) ?_ ?_; with_reducible exact e3) | (refine step_run_append (by rfl) (.tmp 72) (.tmp 74) 25 (by rfl) 25 (by rfl) (.slice p1 l.length c1) (.slice (some ⟨D1.heap.size, 0, none⟩) 1 1) (.slice p2' (l.length + 1) c2') D2 (by rfl) (by rfl) ?_ ?_; with_reducible exact e2) | (refine step_run_append (by rfl) (.tmp 72) (.tmp 74) 25 (by rfl) 25 (by rfl) (.slice p3 l.length c3) (.slice (some ⟨w5.heap.size, 0, none⟩) 1 1) (.slice p4 (l.length + 1) c4) F2 (by rfl) (by rfl) ?_ ?_; with_reducible exact e4) | (go_at_call 12; (with_reducible refine (K13.out D2 _ _ HD2.out HID2.out).mono ?_); rintro e w6 ⟨rfl, hb6⟩; have HV6 := hide (below_step HD2.out hb6); clear hb6 q0 q1; obtain ⟨q0, q1⟩ := HS.out w6 HV6.out) | (go_at_call 12; (with_reducible refine (K13.out F2 _ _ HF2.out HIF2.out).mono ?_); rintro e w6 ⟨rfl, hb6⟩; have HV6 := hide (below_step HF2.out hb6); clear hb6 q0 q1; obtain ⟨q0, q1⟩ := HS.out w6 HV6.out))
              all_goals go_wp2_with fail
              all_goals go_meet
              all_goals exact ⟨rfl, rfl, HV6.out⟩
            case rest =>
              obtain ⟨rfl, rfl, HB6⟩ := hcut
              have HE6 := hide (below_step HB.out (below_step HB5.out HB6.out))
              obtain ⟨er, her⟩ : ∃ x, subE n es (l ++ [inn]) = x := ⟨_, rfl⟩
              have hm := HM2.out
              rw [her] at hm ⊢
              clear her
              rcases hm with rfl | rfl | rfl
              · go_wp2
                go_ret
                exact ⟨retB (by rfl), HE6.out⟩
              · go_wp2
                go_ret
                exact ⟨retB (by rfl), HE6.out⟩
              · go_wp2
                go_ret
                exact ⟨retB (by rfl), HE6.out⟩
        · have hkn : knI n es l = 0 := by unfold knI; rw [if_neg hk]
          rw [hkn]
          obtain ⟨er, her⟩ : ∃ x, subE n es l = x := ⟨_, rfl⟩
          rw [her]
          clear her hkn hk
          by_cases e0 : er = 0
          · subst e0
            go_wp2
            go_ret
            exact ⟨retB (by rfl), HE3.out⟩
          · have t5 : (er == 0) = false := by rw [beq_eq_false_iff_ne]; exact e0
            clear e0
            go_wp2
            all_goals go_ret
            all_goals exact ⟨retB (by rfl), HE3.out⟩
    · go_wp2
      go_ret
      exact ⟨retB (by rfl), HE.out⟩
end Go.Proofs.Ytaebbfilgfkckaa
