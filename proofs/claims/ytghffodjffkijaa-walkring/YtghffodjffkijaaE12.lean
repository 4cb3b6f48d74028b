/- begun: what the statements of the sixth layer ask first. -/
import Derived.Test.YtghffodjffkijaaE11
namespace Go.Proofs.Ytghffodjffkijaa
open Go.RowKit Go.Sort
open Go

theorem ringE_net : netB (4 : Nat) ringE = true := by decide
/-- What a net that lies there is. -/
theorem lies_has {w : World} {g : Nat} {es : List Pt} (h : Lies w g 0 es) : Has w (some ⟨g, 0, none⟩) es := Or.inr ⟨g, 0, rfl, h⟩
set_option maxRecDepth 100000 in
set_option maxHeartbeats 8000000 in
theorem begun9 (w : World) : Calls Try.prog 9 #[] w fun e w' => e = .returned (.bool true) ∧ Below w.heap.size w w' := by
  have hm : netB (4 : Nat) ringE = true := ringE_net
  have H13 : Hid (∀ (V : World) (g : Nat), Lies V g 0 ringE → Calls Try.prog 13 #[nv 4 (some ⟨g, 0, none⟩) 4 4, .int .i64 0] V fun e w' => ∃ v, e = .returned (.tuple #[v, .int .i64 0]) ∧ TR w' V.heap.size 4 v (bOne ringE 4 0) nilS ∧ Below V.heap.size V w') := fun V g hL => breadth13 4 (some ⟨g, 0, none⟩) ringE 4 0 V (lies_has hL) hm (by omega)
  have H14 : Hid (∀ (V : World) (g : Nat), Lies V g 0 ringE → Calls Try.prog 14 #[nv 4 (some ⟨g, 0, none⟩) 4 4, .int .i64 0] V fun e w' => ∃ v gl, e = .returned (.tuple #[v, .int .i64 0]) ∧ TR w' V.heap.size 4 v (dOneSt ringE 4 0) (.slice (some ⟨gl, 0, none⟩) 4 4) ∧ IRow w' V.heap.size gl 4 (lwN ringE (dOneSt ringE 4 0) 4 (dOneSt ringE 4 0).O.length) ∧ Below V.heap.size V w') := fun V g hL => depth14all 4 (some ⟨g, 0, none⟩) ringE 4 0 V (lies_has hL) hm (by omega)
  have H15 : Hid (∀ (V : World) (g : Nat), Lies V g 0 ringE → Calls Try.prog 15 #[nv 4 (some ⟨g, 0, none⟩) 4 4] V fun e w' => ∃ g', e = .returned (.tuple #[.slice (some ⟨g', 0, none⟩) 4 4, .int .i64 2, .int .i64 0]) ∧ w'.cell? ⟨g', 3, none⟩ = some (.int .i64 1) ∧ Below V.heap.size V w') := fun V g hL => (parts15 4 (some ⟨g, 0, none⟩) ringE 4 V (lies_has hL) hm).mono (by
    rintro e w' ⟨g', rfl, hg, hb⟩
    exact ⟨g', rfl, by have := (hg.cell (j := 3) (by omega)).1; rw [show iat (plab (everyN ringE 4 4).O (everyN ringE 4 4).By 4 (everyN ringE 4 4).O.length) 3 = 1 by decide] at this; exact this, hb⟩)
  have H31 : Hid (∀ (V : World) (g : Nat), Lies V g 0 ringE → Calls Try.prog 31 #[nv 4 (some ⟨g, 0, none⟩) 4 4] V fun e w' => ∃ p c, e = .returned (.tuple #[.slice p 2 c, .int .i64 0]) ∧ Below V.heap.size V w') := fun V g hL => (ring31 4 (some ⟨g, 0, none⟩) ringE 4 V (lies_has hL) hm).mono (by
    rintro e w' ⟨v, rfl, ho, hb⟩
    obtain ⟨p, c, rfl, _⟩ := ho.form
    exact ⟨p, c, by rw [show (rgN ringE 4 4).length = 2 by decide, if_neg (by decide)], hb⟩)
  have H28 : Hid (∀ (V : World) (g : Nat), Lies V g 0 ringE → Calls Try.prog 28 #[nv 4 (some ⟨g, 0, none⟩) 4 4] V fun e w' => ∃ p c, e = .returned (.tuple #[nilS, .slice p 3 c, .int .i64 0]) ∧ Below V.heap.size V w') := fun V g hL => (sides28 4 (some ⟨g, 0, none⟩) ringE 4 V (lies_has hL) hm).mono (by
    rintro e w' ⟨a, b, rfl, hs, hb⟩
    have a1 : alike ringE (everyN ringE 4 4).Fa 1 := by unfold alike; decide
    rcases hs with ⟨h, _⟩ | ⟨q, hq, hq1, hq2, rfl, ho⟩
    · exact absurd a1 (h 1 (by decide))
    · have e1 : q = 1 := by
        rcases (by omega : q = 0 ∨ q = 1 ∨ 1 < q) with h | h | h
        · exfalso
          rw [h] at hq2
          revert hq2
          unfold alike
          decide
        · exact h
        · exact absurd a1 (hq1 1 h)
      rw [e1] at ho
      obtain ⟨p, c, rfl, _⟩ := ho.form
      exact ⟨p, c, by rw [show (cloL ringE (everyN ringE 4 4) (2 * 1)).length = 3 by decide], hb⟩)
  have H35 : Hid (∀ (V : World) (g : Nat), Lies V g 0 ringE → Calls Try.prog 35 #[nv 4 (some ⟨g, 0, none⟩) 4 4, .int .i64 0] V fun e w' => ∃ k1 k2, e = .returned (.func (.func 51) #[] #[.pointer (some ⟨k1, 0, none⟩), .pointer (some ⟨k2, 0, none⟩)]) ∧ Below V.heap.size V w') := fun V g hL => (each35f 4 (some ⟨g, 0, none⟩) ringE 4 0 V (lies_has hL) hm (by omega)).mono (by
    rintro e w' ⟨k1, k2, _, _, _, rfl, _, _, _, _, hb⟩
    exact ⟨k1, k2, rfl, hb⟩)
  clear hm
  go_enter Try.func9, Try.ntmps9
  go_wp2_with fail
  refine (ring34 w).mono ?_
  rintro e w1 ⟨g1, rfl, hL1, hb1⟩
  have C1 := hide (H13.out w1 g1 hL1)
  have HB1 := hide hb1
  clear hb1 hL1
  go_wp2_with fail
  refine C1.out.mono ?_
  rintro e w2 ⟨v, rfl, ⟨vo, gb, gf, rfl, ho, _⟩, hb2⟩
  obtain ⟨po, co, rfl, _⟩ := ho.form
  rw [show (bOne ringE 4 0).O.length = 3 by decide]
  have HB2 := hide (below_step HB1.out hb2)
  clear hb2 C1 ho
  obtain ⟨X, hX⟩ : ∃ X, X = w2.alloc (.cells #[.slice po 3 co, .slice (some ⟨gb, 0, none⟩) 4 4, .slice (some ⟨gf, 0, none⟩) 4 4, nilS] 35) := ⟨_, rfl⟩
  have hbX : Below w2.heap.size w2 X := by rw [hX]; go_grown
  have k1 : X.cell? ⟨w2.heap.size, 0, none⟩ = some (.slice po 3 co) := by rw [hX]; go_cell
  have HBX := hide (below_step HB2.out hbX)
  have K1 := hide k1
  clear k1 hbX
  go_wp2_with fail
  rw [← hX]
  clear hX
  refine (ring34 X).mono ?_
  rintro e w3 ⟨g3, rfl, hL3, hb3⟩
  have C2 := hide (H14.out w3 g3 hL3)
  have HB3 := hide (below_step HBX.out hb3)
  have K2 := hide (later hb3 K1.out)
  clear hb3 hL3 K1
  go_wp2_with fail
  refine C2.out.mono ?_
  rintro e w4 ⟨v, gl, rfl, ⟨vo, gb4, gf4, rfl, ho, _⟩, hgl, hb4⟩
  obtain ⟨po4, co4, rfl, _⟩ := ho.form
  rw [show (dOneSt ringE 4 0).O.length = 3 by decide] at hgl ⊢
  have l4 : w4.cell? ⟨gl, 2, none⟩ = some (.int .i64 0) := by have := (hgl.cell (j := 2) (by omega)).1; rw [show iat (lwN ringE (dOneSt ringE 4 0) 4 3) 2 = 0 by decide] at this; exact this
  have HB4 := hide (below_step HB3.out hb4)
  have K3 := hide (later hb4 K2.out)
  obtain ⟨Y, hY⟩ : ∃ Y, Y = w4.alloc (.cells #[.slice po4 3 co4, .slice (some ⟨gb4, 0, none⟩) 4 4, .slice (some ⟨gf4, 0, none⟩) 4 4, .slice (some ⟨gl, 0, none⟩) 4 4] 35) := ⟨_, rfl⟩
  have hbY : Below w4.heap.size w4 Y := by rw [hY]; go_grown
  have y1 : Y.cell? ⟨w4.heap.size, 3, none⟩ = some (.slice (some ⟨gl, 0, none⟩) 4 4) := by rw [hY]; go_cell
  have HBY := hide (below_step HB4.out hbY)
  have K4 := hide (And.intro (later hbY K3.out) (And.intro y1 (later hbY l4)))
  clear hb4 C2 ho hgl l4 K2 K3 y1 hbY
  go_wp2_with fail
  rw [← hY]
  clear hY
  refine (ring34 Y).mono ?_
  rintro e w5 ⟨g5, rfl, hL5, hb5⟩
  have C3 := hide (H15.out w5 g5 hL5)
  have HB5 := hide (below_step HBY.out hb5)
  have K5 := hide (And.intro (later hb5 K4.out.1) (And.intro (later hb5 K4.out.2.1) (later hb5 K4.out.2.2)))
  clear hb5 hL5 K4
  go_wp2_with fail
  refine C3.out.mono ?_
  rintro e w6 ⟨g6, rfl, hg6, hb6⟩
  have HB6 := hide (below_step HB5.out hb6)
  have K6 := hide (And.intro hg6 (And.intro (later hb6 K5.out.1) (And.intro (later hb6 K5.out.2.1) (later hb6 K5.out.2.2))))
  clear hb6 hg6 C3 K5
  go_wp2_with fail
  refine (ring34 w6).mono ?_
  rintro e w7 ⟨g7, rfl, hL7, hb7⟩
  have C4 := hide (H31.out w7 g7 hL7)
  have HB7 := hide (below_step HB6.out hb7)
  have K7 := hide (And.intro (later hb7 K6.out.1) (And.intro (later hb7 K6.out.2.1) (And.intro (later hb7 K6.out.2.2.1) (later hb7 K6.out.2.2.2))))
  clear hb7 hL7 K6
  go_wp2_with fail
  refine C4.out.mono ?_
  rintro e w8 ⟨p8, c8, rfl, hb8⟩
  have HB8 := hide (below_step HB7.out hb8)
  have K8 := hide (And.intro (later hb8 K7.out.1) (And.intro (later hb8 K7.out.2.1) (And.intro (later hb8 K7.out.2.2.1) (later hb8 K7.out.2.2.2))))
  clear hb8 C4 K7
  go_wp2_with fail
  refine (ring34 w8).mono ?_
  rintro e w9 ⟨g9, rfl, hL9, hb9⟩
  have C5 := hide (H28.out w9 g9 hL9)
  have HB9 := hide (below_step HB8.out hb9)
  have K9 := hide (And.intro (later hb9 K8.out.1) (And.intro (later hb9 K8.out.2.1) (And.intro (later hb9 K8.out.2.2.1) (later hb9 K8.out.2.2.2))))
  clear hb9 hL9 K8
  go_wp2_with fail
  refine C5.out.mono ?_
  rintro e wa ⟨pa, ca, rfl, hba⟩
  have HBa := hide (below_step HB9.out hba)
  have Ka := hide (And.intro (later hba K9.out.1) (And.intro (later hba K9.out.2.1) (And.intro (later hba K9.out.2.2.1) (later hba K9.out.2.2.2))))
  clear hba C5 K9
  go_wp2_with fail
  refine (ring34 wa).mono ?_
  rintro e wb ⟨gb', rfl, hLb, hbb⟩
  have C6 := hide (H35.out wb gb' hLb)
  have HBb := hide (below_step HBa.out hbb)
  have Kb := hide (And.intro (later hbb Ka.out.1) (And.intro (later hbb Ka.out.2.1) (And.intro (later hbb Ka.out.2.2.1) (later hbb Ka.out.2.2.2))))
  clear hbb hLb Ka
  go_wp2_with fail
  refine C6.out.mono ?_
  rintro e wc ⟨q1, q2, rfl, hbc⟩
  have HBc := hide (below_step HBb.out hbc)
  have d1 := later hbc Kb.out.1
  have d2 := later hbc Kb.out.2.1
  have d3 := later hbc Kb.out.2.2.1
  have d4 := later hbc Kb.out.2.2.2
  have hq : (binOp .eql 62 (.func (.func 51) #[] #[.pointer (some ⟨q1, 0, none⟩), .pointer (some ⟨q2, 0, none⟩)]) .nilFunc).run Try.prog wc = .ok (.bool false) wc := rfl
  clear hbc C6 Kb
  go_wp2
  go_ret
  exact ⟨rfl, HBc.out⟩
end Go.Proofs.Ytghffodjffkijaa
