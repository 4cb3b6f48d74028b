/- kura's formed, in every world. -/
import Derived.Test.YtaebbfilgfkckaaKC4
import Derived.Test.YtaebbfilgfkckaaNS
namespace Go.Proofs.Ytaebbfilgfkckaa
open Go.RowKit Go.Sort
open Go
/-- A figure in its box. -/
def FOwn (W : World) (g : Nat) (a b c : Value) : Prop := W.cell? ⟨g, 0, none⟩ = some a ∧ W.cell? ⟨g, 1, none⟩ = some b ∧ W.cell? ⟨g, 2, none⟩ = some c ∧ W.frozen? ⟨g, 0, none⟩ = false ∧ W.frozen? ⟨g, 1, none⟩ = false ∧ W.frozen? ⟨g, 2, none⟩ = false
theorem FOwn.set {W : World} {g : Nat} {a b c : Value} (h : FOwn W g a b c) (x y z : Value) : FOwn (((W.setCell ⟨g, 0, none⟩ x).setCell ⟨g, 1, none⟩ y).setCell ⟨g, 2, none⟩ z) g x y z := by
  obtain ⟨h1, h2, h3, h4, h5, h6⟩ := h
  refine ⟨?_, ?_, ?_, ?_, ?_, ?_⟩
  all_goals go_cell
theorem load73 {V : World} {g : Nat} {a b c : Value} (h : FOwn V g a b c) : (loadVar 73 ⟨g, 0, none⟩).run Try.prog V = .ok (.agg #[a, b, c]) V := by
  obtain ⟨q0, q1, q2, _, _, _⟩ := h
  have l0 : (load ⟨g, 0, none⟩).run Try.prog V = .ok a V := by simp [go_sem, q0]
  have l1 : (load ⟨g, 1, none⟩).run Try.prog V = .ok b V := by simp [go_sem, q1]
  have l2 : (load ⟨g, 2, none⟩).run Try.prog V = .ok c V := by simp [go_sem, q2]
  simp only [loadVar, Sem.run_bind, Try.isAgg73, Result.andThen_ok, if_true, Try.sizeOf73]
  simp only [loadCells, go_sem]
  simp only [Sem.run_bind, Nat.zero_add, l0, l1, l2, Result.andThen_ok, Sem.run_pure]
  rfl
theorem ret_fig {fn : Func} {p u : Tmp} (hr : fn.results = #[.cell p 73, .tmp u]) {tmps : Array Value} {V : World} {g : Nat} {a b c e : Value} (h2 : tmps.getD p undef = .pointer (some ⟨g, 0, none⟩)) (h4 : tmps.getD u undef = e) (h : FOwn V g a b c) :
    (results fn tmps).run Try.prog V = .ok (.tuple #[.agg #[a, b, c], e]) V := by
  rw [results_cT hr, h2, h4, asA, Result.andThen_ok, load73 h, Result.andThen_ok]
abbrev nilFig : Obj := .cells #[.int .i64 0, .slice none 0 0, .slice none 0 0] 73
theorem FOwn.later {W V : World} {g : Nat} {a b c : Value} (h : FOwn W g a b c) (hb : Below W.heap.size W V) : FOwn V g a b c :=
  ⟨Go.Proofs.Ytaebbfilgfkckaa.later hb h.1, Go.Proofs.Ytaebbfilgfkckaa.later hb h.2.1, Go.Proofs.Ytaebbfilgfkckaa.later hb h.2.2.1, laterF hb h.1 h.2.2.2.1, laterF hb h.2.1 h.2.2.2.2.1, laterF hb h.2.2.1 h.2.2.2.2.2⟩
theorem net_fig (w : World) (n : Int) (p : Option Addr) (l c : Nat) : ∃ W, W = (w.alloc (nbx n p l c)).alloc nilFig ∧ Below w.heap.size w W ∧ NOwn W w.heap.size n p l c ∧ FOwn W (w.heap.size + 1) (.int .i64 0) (.slice none 0 0) (.slice none 0 0) :=
  ⟨_, rfl, by go_grown, ⟨by go_cell, by go_cell, by simp [go_sem], by simp [go_sem]⟩, by go_cell, by go_cell, by go_cell, by simp [go_sem], by simp [go_sem], by simp [go_sem]⟩
theorem FOwn.other {W : World} {g k i : Nat} {a b c : Value} (h : FOwn W g a b c) (hne : k ≠ g) (v : Value) : FOwn (W.setCell ⟨k, i, none⟩ v) g a b c := by
  obtain ⟨h1, h2, h3, h4, h5, h6⟩ := h
  have ne : ∀ j, (⟨k, i, none⟩ : Addr) ≠ ⟨g, j, none⟩ := fun j e => by injection e with e1 e2; exact hne e1
  exact ⟨by rw [World.cell?_setCell_other _ _ _ _ (ne 0)]; exact h1, by rw [World.cell?_setCell_other _ _ _ _ (ne 1)]; exact h2, by rw [World.cell?_setCell_other _ _ _ _ (ne 2)]; exact h3, by rw [World.frozen?_setCell]; exact h4, by rw [World.frozen?_setCell]; exact h5, by rw [World.frozen?_setCell]; exact h6⟩
/-- A figure's box is written. -/
theorem fig_put {w X : World} {g : Nat} {a b c : Value} (h : FOwn X g a b c) (hb : Below w.heap.size w X) (hg : w.heap.size ≤ g) (x y z : Value) : ∃ Y, Y = (((X.setCell ⟨g, 0, none⟩ x).setCell ⟨g, 1, none⟩ y).setCell ⟨g, 2, none⟩ z) ∧ FOwn Y g x y z ∧ Below w.heap.size w Y :=
  ⟨_, rfl, h.set x y z, ((hb.setCell (by simpa using hg) _).setCell (by simpa using hg) _).setCell (by simpa using hg) _⟩
/-- A cell below a row is written. -/
theorem Rows.other {w : World} {B g n k : Nat} {rv : Nat → Value} {L : Nat → List Int} (h : Rows w B g n rv L) (hk : k < B) (i : Nat) (v : Value) : Rows (w.setCell ⟨k, i, none⟩ v) B g n rv L := by
  refine ⟨ownsRow_setCell_other (a := ⟨k, i, none⟩) h.1 (fun e => ?_) _, h.2.1, fun x hx => ownsRow_setCell_other (a := ⟨k, i, none⟩) (h.2.2 x hx) (fun e => ?_) _⟩
  · have := (World.ownsRow.lt h.1 k e).1; omega
  · have := (World.ownsRow.lt (h.2.2 x hx) k e).1; omega
set_option maxRecDepth 100000 in
set_option maxHeartbeats 16000000 in
theorem formed39 (n : Int) (p q : Option Addr) (es : List Pt) (l : List Int) (cp cq : Nat) (w : World) (hl : l.length ≤ maxLen) (h : Has w p es) (k : IHas w q l) : Calls Try.prog 39 #[nv n p es.length cp, .slice q l.length cq] w fun e w' => FgPost n es l w e w' ∧ Below w.heap.size w w' := by
  obtain ⟨W, hW, hb0, a0, f0⟩ := net_fig w n p es.length cp
  have C1 := hide (sub27 n p q es l cp cq W hl (h.later hb0) (k.later hb0))
  have HB := hide hb0
  have HF := hide f0
  have HK := hide k
  obtain ⟨q0, q1, _, _⟩ := a0
  clear h k hb0 f0
  go_enter Try.func39, Try.ntmps39
  go_upto_region 1 with fail
  rw [← hW]
  have HWS : Hid (W.heap.size = w.heap.size + 2) := by show _ = _; rw [hW]; simp
  clear hW
  go_wp2_with fail
  refine C1.out.mono ?_
  rintro r w2 ⟨hp, hb2⟩
  have HB2 := hide hb2
  rcases hp with ⟨hs, g, rfl, hR⟩ | ⟨hs, rfl⟩
  · obtain ⟨hnm, hin, huq⟩ := sub_ok hs
    obtain ⟨n0, n1, he3, _⟩ := netB_is hnm
    obtain ⟨m, rfl⟩ : ∃ m : Nat, n = m := ⟨n.toNat, by omega⟩
    have hpm := net_pick hs
    have hll := sub_len hs
    have hpl := pick_length es l
    obtain ⟨pk, hpk⟩ : ∃ pk, pick es l = pk := ⟨_, rfl⟩
    have HPK := hide hpk
    rw [hpk] at hR hpm hpl
    have HS := hide hs
    have HIN := hide hin
    clear hpk hs hnm huq n0 hin
    go_upto_region 2 with fail
    obtain ⟨X, hX⟩ : ∃ X, X = w2.alloc (nbx m (some ⟨g, 0, none⟩) l.length l.length) := ⟨_, rfl⟩
    have hbX : Below w2.heap.size w2 X := by rw [hX]; go_grown
    have HN6 : Hid (NOwn X w2.heap.size m (some ⟨g, 0, none⟩) l.length l.length) := by show NOwn _ _ _ _ _ _; rw [hX]; exact ⟨by go_cell, by go_cell, by simp [go_sem], by simp [go_sem]⟩
    have HBX := hide (below_step HB2.out hbX)
    have HFX := hide ((HF.out.later hb2).later hbX)
    have HHP : Hid (Has X (some ⟨g, 0, none⟩) pk) := (hR.later hbX).has
    have HPM := hide hpm
    rw [← hX]
    obtain ⟨k6, hk6⟩ : ∃ k, w2.heap.size = k := ⟨_, rfl⟩
    rw [hk6] at HN6 ⊢
    obtain ⟨kf, hkf⟩ : ∃ k, w.heap.size + 1 = k := ⟨_, rfl⟩
    have HKF := hide hkf
    rw [hkf] at HFX ⊢
    have HPL := hide hpl
    have C2 : Hid (Calls Try.prog 58 #[nv m (some ⟨g, 0, none⟩) l.length l.length] X fun e w' => ∃ p' c, e = .returned (.tuple #[.int .i64 (kdS m pk), .slice p' (brS m pk).length c]) ∧ IOwns w' X.heap.size (.slice p' (brS m pk).length c) (brS m pk) ∧ Below X.heap.size X w') := by
      have := byDegrees58 m (some ⟨g, 0, none⟩) pk l.length X HHP.out hpm
      rw [← hpl] at this ⊢
      exact this
    obtain ⟨r0, r1, _, _⟩ := HN6.out
    clear C1 q0 q1 hX hbX hR hb2 hk6 hkf hpm hpl HF HB2
    go_wp2_with fail
    refine C2.out.mono ?_
    rintro r w3 ⟨p3, c3, rfl, o3, hb3⟩
    have HB3 := hide hb3
    have HO3 := hide o3
    have HFF := hide (HFX.out.later hb3)
    have HBW := hide (below_step HB.out (below_step HBX.out hb3))
    obtain ⟨r0, r1, _, _⟩ := HN6.out.later hb3
    have hks : w.heap.size ≤ kf := by have := HKF.out; omega
    clear C2 o3 hb3 HFX
    by_cases hk0 : kdS m pk = 0
    · have HNO : Hid (¬ okS m pk) := fun h => h.1 hk0
      rw [hk0]
      clear hk0
      obtain ⟨Y, hY, gY, bY⟩ := fig_put HFF.out HBW.out hks (.int .i64 0) (.slice none 0 0) (.slice none 0 0)
      have GY := hide gY
      have BY := hide bY
      obtain ⟨f1, f2, f3, f4, f5, f6⟩ := HFF.out
      clear gY bY
      go_wp2
      rw [← hY]
      exact bodyPost_ret (ret_fig Try.results39 rfl rfl GY.out) rfl ⟨Or.inr (Or.inl ⟨HS.out, by rw [HPK.out]; exact HNO.out, rfl⟩), BY.out⟩
    · have HKD := hide hk0
      have hb5 := bs_len hk0
      have hbr := bs_length m pk
      have hkb : (kdS m pk == 0) = false := by rw [beq_eq_false_iff_ne]; exact hk0
      have C3 : Hid (Calls Try.prog 59 #[nv m (some ⟨g, 0, none⟩) l.length l.length, .slice p3 (brS m pk).length c3] w3 fun e w' => ∃ b, e = .returned (.map (some b)) ∧ (∃ T, WM w' w3.heap.size T b (wyS m pk) ∧ T ≤ w'.heap.size) ∧ Below w3.heap.size w3 w') := by
        obtain ⟨p8, c8, h8, h9, _⟩ := HO3.out.form
        have := followed59 m (some ⟨g, 0, none⟩) l.length p3 (brS m pk) c3 w3 (HHP.out.later HB3.out) (by injection h8 with h81; rw [h81]; exact h9) HPM.out (by omega) (fun j hj => by
          obtain ⟨v, e, h1, h2⟩ := br_mem HPM.out (iat_mem hj)
          exact ⟨v, e, h1, by omega⟩)
        rw [HPL.out] at this
        exact this
      clear hk0
      go_upto_region 7 with fail
      go_wp2_with fail
      refine C3.out.mono ?_
      rintro r w4 ⟨bm, rfl, ⟨T, hM, hT⟩, hb4⟩
      have HB4 := hide hb4
      have HM4 := hide hM
      have HBW4 := hide (below_step HBW.out hb4)
      have HO4 := hide (HO3.out.later hb4)
      have hz3 : w3.heap.size ≤ w4.heap.size := hb4.size
      clear C3 hb4 hM
      have HB5 := hide hb5
      have HBR := hide hbr
      clear hb5 hbr
      go_upto_if 36 with fail
      go_cut [9] (fun s9 wx => ∃ (p9 : Option Addr) (c9 : Nat), s9 = .slice p9 (bsS m pk).length c9 ∧ Hid (IOwns wx X.heap.size (.slice p9 (bsS m pk).length c9) (bsS m pk)) ∧ Hid (Below w4.heap.size w4 wx) ∧ Hid (∀ j, (Value.slice p9 (bsS m pk).length c9).ownBlock = some j → j < w3.heap.size ∨ T ≤ j))
      case first =>
        rcases HB5.out with ⟨h5, h6⟩ | ⟨h5, h6⟩
        · have hbs : Hid (bsS m pk = brS m pk) := by show _ = _; unfold bsS; rw [if_neg (by rw [h5]; decide)]
          have ht : (kdS m pk == 33) = false := by rw [h5]; decide
          clear h5 h6
          go_wp2_with fail
          go_meet
          rw [hbs.out]
          exact ⟨p3, c3, rfl, HO4.out, Below.refl _ _, fun j hj => Or.inl (World.ownsRow.lt HO3.out j hj).2⟩
        · have hbs : Hid (sidesL (wyS m pk) (brS m pk) = bsS m pk) := by show _ = _; unfold bsS; rw [if_pos h5]
          have ht : (kdS m pk == 33) = true := by rw [h5]; decide
          have C4 : Hid (Calls Try.prog 60 #[.slice p3 (brS m pk).length c3, .map (some bm)] w4 fun e w' => ∃ p' c, e = .returned (.slice p' (bsS m pk).length c) ∧ IOwns w' w4.heap.size (.slice p' (bsS m pk).length c) (bsS m pk) ∧ Below w4.heap.size w4 w') := by
            obtain ⟨p8, c8, h8, h9, _⟩ := HO4.out.form
            have := bySides60 p3 (brS m pk) c3 w3.heap.size T bm (wyS m pk) w4 (by injection h8 with h81; rw [h81]; exact h9) HM4.out (by have := HBR.out; omega) (fun j hj => by
              obtain ⟨v, e, h1, _⟩ := br_mem HPM.out (iat_mem hj)
              rw [e]; omega)
            rw [hbs.out] at this
            exact this
          clear h5 h6
          go_wp2_with fail
          refine C4.out.mono ?_
          rintro r w5 ⟨p5, c5, rfl, o5, hb5⟩
          have HO5 := hide o5
          have HB5 := hide hb5
          clear C4 o5 hb5
          go_wp2_with fail
          go_meet
          refine ⟨p5, c5, rfl, HO5.out.base (by have := HB3.out.size; omega), HB5.out, fun j hj => Or.inr ?_⟩
          have := (World.ownsRow.lt HO5.out j hj).1
          omega
      case rest =>
        obtain ⟨p9, c9, rfl, HO9, HB9, HJ9⟩ := hcut
        have HJS : Hid (∀ i, i < (jsK (kdS m pk)).length → ∃ x y : Nat, at' (jsK (kdS m pk)) i = ⟨x, y⟩ ∧ x < (bsS m pk).length ∧ y < (bsS m pk).length) := fun i hi => by
          obtain ⟨x, y, e, h1, h2⟩ := js_at HKD.out hi
          exact ⟨x, y, e, by omega, h2⟩
        have HKI : Hid (∀ i j, i < (jsK (kdS m pk)).length → j < (jsK (kdS m pk)).length → keyP (bsS m pk) (jsK (kdS m pk)) i = keyP (bsS m pk) (jsK (kdS m pk)) j → i = j) := fun i j => key_inj HKD.out
        have HJL : Hid ((jsK (kdS m pk)).length ≤ 10) := by
          rcases js_pos HKD.out with h | h
          · exact Nat.le_of_eq h.1
          · exact Nat.le_trans (Nat.le_of_eq h.1) (by omega)
        have C5 : Hid (Calls Try.prog 41 #[.int .i64 (kdS m pk)] wc fun e w' => ∃ p' c, e = .returned (.slice p' (jsK (kdS m pk)).length c) ∧ Has w' p' (jsK (kdS m pk)) ∧ Below wc.heap.size wc w') := by
          rcases HB5.out with ⟨h5, _⟩ | ⟨h5, _⟩
          · rw [h5, show (jsK 5).length = 10 from j5_length]
            refine (joined41five wc).mono ?_
            rintro e w' ⟨p', c, rfl, o, hb⟩
            obtain ⟨p8, c8, h8, h9, _⟩ := o.form
            injection h8 with h81
            exact ⟨p', c, rfl, by rw [h81]; exact h9, hb⟩
          · rw [h5, show (jsK 33).length = 9 from j33_length]
            refine (joined41threes wc).mono ?_
            rintro e w' ⟨p', c, rfl, o, hb⟩
            obtain ⟨p8, c8, h8, h9, _⟩ := o.form
            injection h8 with h81
            exact ⟨p', c, rfl, by rw [h81]; exact h9, hb⟩
        have HPT := hide (pt_length m pk)
        have HPA : Hid (∀ i, i < (jsK (kdS m pk)).length → lat (ptS m pk) i = wyS m pk (keyP (bsS m pk) (jsK (kdS m pk)) i)) := fun i hi => pt_at hi
        have HOK : Hid ((∀ i, i < (jsK (kdS m pk)).length → wyS m pk (keyP (bsS m pk) (jsK (kdS m pk)) i) ≠ []) → covN (ptS m pk) (ptS m pk).length = pk.length → okS m pk) := fun h1 h2 => ⟨HKD.out, h1, h2⟩
        have HNOT : Hid ((∃ i, i < (jsK (kdS m pk)).length ∧ wyS m pk (keyP (bsS m pk) (jsK (kdS m pk)) i) = []) → ¬ okS m pk) := fun ⟨i, h1, h2⟩ h => h.2.1 i h1 h2
        obtain ⟨js, hjs⟩ : ∃ js, jsK (kdS m pk) = js := ⟨_, rfl⟩
        rw [hjs] at HJS HKI HJL C5 HPT HPA HOK HNOT
        clear hjs
        obtain ⟨b9, hb9⟩ : ∃ b9 : Nat, (bsS m pk).length = b9 := ⟨_, rfl⟩
        have HLB := hide hb9
        have HOB := HO9
        rw [hb9] at HOB HJ9 HJS ⊢
        clear hb9
        go_upto_region 10 with fail
        go_wp2_with fail
        refine C5.out.mono ?_
        rintro r w5 ⟨pj, cj, rfl, hj5, hb5⟩
        have HB45 := hide (below_step HB9.out hb5)
        have C6 : Hid (Calls Try.prog 61 #[.map (some bm), .slice p9 b9 c9, .slice pj js.length cj] w5 fun e w' => ∃ v, e = .returned v ∧ ChPost (wyS m pk) (bsS m pk) js w3.heap.size T v w' ∧ Below w5.heap.size w5 w') := by
          obtain ⟨p8, c8, h8, h9, _⟩ := (HO9.out.later hb5).form
          have hz4 := HB45.out.size
          have := chosen61 p9 (bsS m pk) c9 pj js cj w3.heap.size T bm (wyS m pk) w5 (by injection h8 with h81; rw [h81]; exact h9) hj5 (HM4.out.later HB45.out) (by omega) (fun j hj => by
            obtain ⟨v, e, h1, _⟩ := br_mem HPM.out ((bs_perm m pk).mem_iff.1 (iat_mem hj))
            rw [e]; omega) (fun i hi => by
            obtain ⟨x, y, h1, h2, h3⟩ := HJS.out i hi
            exact ⟨x, y, h1, by rw [HLB.out]; exact h2, by rw [HLB.out]; exact h3⟩) (by have := HJL.out; omega) HKI.out
          rw [HLB.out] at this
          exact this
        have HO5 : Hid (IOwns w5 X.heap.size (.slice p9 b9 c9) (bsS m pk)) := HOB.out.later hb5
        clear C5 hj5 hb5
        go_wp2_with fail
        refine C6.out.mono ?_
        rintro r w7 ⟨v, rfl, hch, hb7⟩
        have HB7 := hide (below_step HB45.out hb7)
        have HO7 := hide (HO5.out.later hb7)
        have hpos : 0 < l.length := by rw [← HPL.out]; exact pk_pos HPM.out HKD.out
        have hl3 : l.length ≤ 3072 := by omega
        clear C6 hb7
        rcases hch with ⟨hno, rfl⟩ | ⟨hall, g7, rv, rfl, hR7, hT7⟩
        · have HNO := hide (HNOT.out hno)
          have CV := hide (covered62 none [] 0 w7 (Or.inl rfl) (by simp) (fun v hv => by simp at hv))
          have hlb : ((0 : Int) == (l.length : Int)) = false := by rw [beq_eq_false_iff_ne]; omega
          clear hno
          go_wp2_with fail
          refine CV.out.mono ?_
          rintro r w8 ⟨rfl, hb8⟩
          have FO := hide (HFF.out.later (below_step (below_step (by exact Below.refl _ _) (below_step (below_step (by exact Below.refl _ _) (below_step HB4.out HB7.out)) hb8)) (Below.refl _ _)))
          have BO := hide (below_step HBW4.out (below_step HB7.out hb8))
          clear CV hb8
          rw [show ((covN ([] : List (List Int)) ([] : List (List Int)).length : Nat) : Int) = 0 from rfl]
          obtain ⟨Y, hY, gY, bY⟩ := fig_put FO.out BO.out hks (.int .i64 0) (.slice none 0 0) (.slice none 0 0)
          have GY := hide gY
          have BY := hide bY
          obtain ⟨f1, f2, f3, f4, f5, f6⟩ := FO.out
          clear gY bY
          go_wp2
          rw [← hY]
          exact bodyPost_ret (ret_fig Try.results39 rfl rfl GY.out) rfl ⟨Or.inr (Or.inl ⟨HS.out, by rw [HPK.out]; exact HNO.out, rfl⟩), BY.out⟩
        · have HALL := hide hall
          have HR7 : Hid (Rows w7 w3.heap.size g7 js.length rv (fun i => lat (ptS m pk) i)) := hR7.congr fun i hi => (HPA.out i hi).symm
          have HRH : Hid (RHas w7 (some ⟨g7, 0, none⟩) (ptS m pk)) := HR7.out.has HPT.out (fun v _ => rfl) (fun v hv => by
            have := pt_len (n := m) (pk := pk) (v := v) (by rw [HPT.out]; exact hv)
            have := HPL.out
            unfold maxLen; omega)
          have HT7 := hide hT7
          have hjl := HJL.out
          have CV : Hid (Calls Try.prog 62 #[.slice (some ⟨g7, 0, none⟩) js.length js.length] w7 fun e w' => e = .returned (.int .i64 (covN (ptS m pk) (ptS m pk).length : Nat)) ∧ Below w7.heap.size w7 w') := by
            have := covered62 (some ⟨g7, 0, none⟩) (ptS m pk) js.length w7 HRH.out (by rw [HPT.out]; omega) (fun v hv => by
              have := pt_len hv
              have := HPL.out
              omega)
            rw [HPT.out] at this ⊢
            exact this
          clear hall hR7 hT7
          go_wp2_with fail
          refine CV.out.mono ?_
          rintro r w8 ⟨rfl, hb8⟩
          have FO := hide (HFF.out.later (below_step (below_step HB4.out HB7.out) hb8))
          have BO := hide (below_step HBW4.out (below_step HB7.out hb8))
          have HB8 := hide (below_step (below_step HB4.out HB7.out) hb8)
          have HR8 := hide (HR7.out.later hb8)
          have HO8 := hide (HO7.out.later hb8)
          obtain ⟨cv, hcv⟩ : ∃ cv, covN (ptS m pk) (ptS m pk).length = cv := ⟨_, rfl⟩
          have HCV := hide hcv
          rw [hcv]
          clear CV hb8 hcv HR7 HO7
          by_cases hc : cv = l.length
          · have HYES : Hid (okS m pk) := HOK.out HALL.out (by rw [HCV.out, HPL.out, hc])
            have hcb : ((cv : Int) == (l.length : Int)) = true := by rw [beq_iff_eq]; omega
            have HNE : Hid (∀ i, i < js.length → lat (ptS m pk) i ≠ []) := fun i hi => by rw [HPA.out i hi]; exact HALL.out i hi
            have HPI : Hid (∀ i, i < js.length → (lat (ptS m pk) i).length ≤ 100000 ∧ ∀ j, j < (lat (ptS m pk) i).length → 0 ≤ iat (lat (ptS m pk) i) j ∧ iat (lat (ptS m pk) i) j < 2 * l.length) := fun i hi => by
              have hn := HNE.out i hi
              have h1 := pt_len (n := m) (pk := pk) (v := i) (by rw [HPT.out]; exact hi)
              have h2 := HPL.out
              refine ⟨by omega, fun j hj => ?_⟩
              rw [HPA.out i hi] at hn hj ⊢
              rcases lyB_is (es := pk) (br := brS m pk) (brS m pk).length (keyP (bsS m pk) js i) with h | ⟨h, h3, h4, _⟩
              · exact absurd h hn
              · have e : wyS m pk (keyP (bsS m pk) js i) = folL pk h := h4
                rw [e] at hj ⊢
                rw [← h2]
                exact fol_in HPM.out h3 hj
            clear hc HNOT HOK HALL HCV
            have hnb : ((cv : Int) != (l.length : Int)) = false := by simp [bne, hcb]
            go_wp2_with fail
            clear hnb hcb
            go_loopw [53] (fun t53 wr => ∃ k : Nat, k ≤ js.length ∧ t53 = .int .i64 k ∧ Hid (Below w3.heap.size w3 wr) ∧ Hid (IOwns wr X.heap.size (.slice p9 b9 c9) (bsS m pk)) ∧ Hid (Rows wr w3.heap.size g7 js.length rv (fun i => if i < k then (lat (ptS m pk) i).map (rnI l) else lat (ptS m pk) i))) (fun t53 _ => js.length - (intOf t53).toNat)
            case atStart => exact ⟨0, by omega, rfl, HB8.out, HO8.out, HR8.out.congr fun v _ => by simp⟩
            case round =>
              obtain ⟨k, hk, rfl, HBr, HOr, HRr⟩ := hrel
              clear HB8 HO8 HR8 FO BO
              by_cases hlt : k < js.length
              · have j1 : (k : Int) < js.length := by omega
                have j0 : (0 : Int) ≤ k := by omega
                obtain ⟨d0, d1⟩ := HRr.out.cell hlt
                have hok : IOwns wr w3.heap.size (rv k) (lat (ptS m pk) k) := by
                  have h := HRr.out.2.2 k hlt
                  simp only [Nat.lt_irrefl, if_false] at h
                  exact h
                have hne := HNE.out k hlt
                obtain ⟨hll1, hll2⟩ := HPI.out k hlt
                obtain ⟨L, hL⟩ : ∃ L, lat (ptS m pk) k = L := ⟨_, rfl⟩
                have HL := hide hL
                rw [hL] at hok hne hll1 hll2
                obtain ⟨gk, ck, hrv⟩ : ∃ gk ck, rv k = .slice (some ⟨gk, 0, none⟩) L.length ck := by
                  obtain ⟨p8, c8, h8, k1, _, _, k2⟩ := hok.form
                  cases p8 with
                  | none =>
                    rcases k1 with k1 | ⟨_, _, k1, _⟩
                    · exact absurd k1 hne
                    · cases k1
                  | some a =>
                    obtain ⟨a1, a2, _⟩ := k2 a rfl
                    obtain ⟨ab, ao, asp⟩ := a
                    simp only at a1 a2
                    subst a1 a2
                    exact ⟨ab, c8, h8⟩
                rw [hrv] at hok d0
                have hgk := World.ownsRow.lt hok gk rfl
                have hIH := HK.out.later (below_step HBW.out HBr.out)
                have hz3 := HBW.out.size
                have RN := hide (rename63 gk ck w3.heap.size L q l cq wr hok hIH (fun a ha => by
                  have := ihas_lt HK.out (fun e => by rw [e] at hpos; simp at hpos) a ha
                  omega) hll2 (fun j hj => by have := HIN.out j hj; omega) hll1 (by omega))
                have HRV := hide hrv
                have HGK := hide hgk
                clear hL hok hne hll2 hIH hgk hrv
                go_wp2_with fail
                refine RN.out.mono ?_
                rintro r w9 ⟨rfl, o9, gr9⟩
                have HB9' : Hid (Below w3.heap.size w3 w9) := HBr.out.grown gr9 HBr.out.size (fun x hx => by cases hx; exact HGK.out.1)
                have HO9' : Hid (IOwns w9 X.heap.size (.slice p9 b9 c9) (bsS m pk)) := World.ownsRow.kept HOr.out gr9 (by
                  cases hb : (Value.slice p9 b9 c9).ownBlock with
                  | none => exact Or.inl rfl
                  | some j =>
                    refine Or.inr fun e => ?_
                    injection e with e
                    have h1 := HJ9.out j hb
                    have h2 := HGK.out.1
                    have h3 := HT7.out k gk hlt (by rw [HRV.out]; rfl)
                    omega)
                have HR9' : Hid (Rows w9 w3.heap.size g7 js.length rv (fun i => if i < k + 1 then (lat (ptS m pk) i).map (rnI l) else lat (ptS m pk) i)) := by
                  refine (HRr.out.grown hlt (l' := L.map (rnI l)) (by rw [HRV.out]; exact gr9) (by rw [HRV.out]; exact o9)).congr fun v hv => ?_
                  by_cases hvk : v = k
                  · rw [hvk, upd_same, if_pos (by omega), HL.out]
                  · rw [upd_other _ _ hvk]
                    by_cases hl2 : v < k
                    · rw [if_pos hl2, if_pos (by omega)]
                    · rw [if_neg hl2, if_neg (by omega)]
                clear RN o9 gr9 d0 d1
                go_wp2_with fail
                go_roundw
                case rel => exact ⟨k + 1, by omega, by go_num, HB9'.out, HO9'.out, HR9'.out⟩
                case measure => simp [intOf]; omega
              · have j1 : ¬ (k : Int) < js.length := by omega
                have hke : k = js.length := by omega
                subst hke
                have HRF : Hid (Rows wr w3.heap.size g7 js.length rv (fun i => (lat (ptS m pk) i).map (rnI l))) := HRr.out.congr fun v hv => if_pos hv
                have FO := HFF.out.later HBr.out
                have BO := below_step HBW.out HBr.out
                obtain ⟨Y, hY, gY, bY⟩ := fig_put FO BO hks (.int .i64 (kdS m pk)) (.slice p9 b9 c9) (.slice (some ⟨g7, 0, none⟩) js.length js.length)
                have hk3 : kf < w3.heap.size := block_lt_of_cell HFF.out.1
                have hkX : kf < X.heap.size := by have h1 := HKF.out; have h2 := HWS.out; have h3 := HBX.out.size; omega
                have HOY : Hid (IOwns Y w.heap.size (.slice p9 b9 c9) (bsS m pk)) := by
                  show IOwns _ _ _ _
                  have hne : (Value.slice p9 b9 c9).ownBlock ≠ some kf := fun e => by have := (World.ownsRow.lt HOr.out kf e).1; omega
                  rw [hY]
                  exact IOwns.base (ownsRow_setCell_other (a := ⟨kf, 2, none⟩) (ownsRow_setCell_other (a := ⟨kf, 1, none⟩) (ownsRow_setCell_other (a := ⟨kf, 0, none⟩) HOr.out hne _) hne _) hne _) (by have h1 := HB.out.size; have h2 := HBX.out.size; omega)
                have HRY : Hid (Rows Y w3.heap.size g7 js.length rv (fun i => (lat (ptS m pk) i).map (rnI l))) := by
                  show Rows _ _ _ _ _ _
                  rw [hY]
                  exact ((HRF.out.other (by omega) 0 _).other (by omega) 1 _).other (by omega) 2 _
                have GY := hide gY
                have BY := hide bY
                obtain ⟨f1, f2, f3, f4, f5, f6⟩ := FO
                clear gY bY HRr HRF BO
                go_wp2
                rw [← hY]
                refine bodyPost_ret (ret_fig Try.results39 rfl rfl GY.out) rfl ⟨Or.inr (Or.inr ⟨HS.out, ?_, p9, c9, g7, rv, ?_, ?_, ?_⟩), BY.out⟩
                · rw [HPK.out]; exact HYES.out
                · rw [HPK.out, Int.toNat_natCast, HLB.out, HPT.out]; rfl
                · rw [HPK.out, Int.toNat_natCast, HLB.out]; exact HOY.out
                · rw [HPK.out, Int.toNat_natCast, HPT.out]; exact HRY.out.base (by omega)
          · have HNO : Hid (¬ okS m pk) := fun h => hc (by rw [← HCV.out, h.2.2, HPL.out])
            have hcb : ((cv : Int) == (l.length : Int)) = false := by rw [beq_eq_false_iff_ne]; omega
            clear hc
            obtain ⟨Y, hY, gY, bY⟩ := fig_put FO.out BO.out hks (.int .i64 0) (.slice none 0 0) (.slice none 0 0)
            have GY := hide gY
            have BY := hide bY
            obtain ⟨f1, f2, f3, f4, f5, f6⟩ := FO.out
            clear gY bY
            go_wp2
            rw [← hY]
            exact bodyPost_ret (ret_fig Try.results39 rfl rfl GY.out) rfl ⟨Or.inr (Or.inl ⟨HS.out, by rw [HPK.out]; exact HNO.out, rfl⟩), BY.out⟩
  · have HS := hide hs
    have hne : (subE n es l == 0) = false := by rw [beq_eq_false_iff_ne]; exact hs
    have hne' : (subE n es l != 0) = true := by simp [bne, hne]
    obtain ⟨er, her⟩ : ∃ x, subE n es l = x := ⟨_, rfl⟩
    have HER := hide her
    have hne0 : er ≠ 0 := by rw [← her]; exact hs
    rw [her] at hne hne' ⊢
    clear C1 hs her q0 q1
    go_upto_region 2 with fail
    obtain ⟨X, hX⟩ : ∃ X, X = w2.alloc (nbx 0 none 0 0) := ⟨_, rfl⟩
    have hbX : Below w2.heap.size w2 X := by rw [hX]; go_grown
    rw [← hX]
    obtain ⟨f1, f2, f3, f4, f5, f6⟩ := (HF.out.later hb2).later hbX
    have HBW := hide (below_step HB.out (below_step HB2.out hbX))
    obtain ⟨kf, hkf⟩ : ∃ k, w.heap.size + 1 = k := ⟨_, rfl⟩
    have HKF := hide hkf
    rw [hkf] at f1 f2 f3 f4 f5 f6 ⊢
    clear hX hbX hb2 hkf
    have f0 : FOwn X kf (.int .i64 0) (.slice none 0 0) (.slice none 0 0) := ⟨f1, f2, f3, f4, f5, f6⟩
    obtain ⟨Y, hY⟩ : ∃ Y, Y = (((X.setCell ⟨kf, 0, none⟩ (.int .i64 0)).setCell ⟨kf, 1, none⟩ (.slice none 0 0)).setCell ⟨kf, 2, none⟩ (.slice none 0 0)) := ⟨_, rfl⟩
    have g0 := f0.set (.int .i64 0) (.slice none 0 0) (.slice none 0 0)
    rw [← hY] at g0
    have HBY : Hid (Below w.heap.size w Y) := by
      show Below _ _ _
      rw [hY]
      have := HKF.out
      exact ((HBW.out.setCell (by simp; omega) _).setCell (by simp; omega) _).setCell (by simp; omega) _
    go_wp2
    rw [← hY]
    exact bodyPost_ret (ret_fig Try.results39 rfl rfl g0) rfl ⟨Or.inl ⟨by rw [HER.out]; exact hne0, by rw [HER.out]; rfl⟩, HBY.out⟩
end Go.Proofs.Ytaebbfilgfkckaa
