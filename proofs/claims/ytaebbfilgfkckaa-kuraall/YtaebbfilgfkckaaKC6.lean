/- kura's obstruction, Kind, Branch, Paths, in every world. -/
import Derived.Test.YtaebbfilgfkckaaKC5
namespace Go.Proofs.Ytaebbfilgfkckaa
open Go.RowKit Go.Sort
open Go
instance (n : Nat) (pk : List Pt) : Decidable (okS n pk) := by unfold okS; infer_instance
/-- The edges are such as may be named, and form a subdivision. -/
def isK (n : Int) (es : List Pt) (l : List Int) : Prop := subE n es l = 0 ∧ okS n.toNat (pick es l)
instance (n : Int) (es : List Pt) (l : List Int) : Decidable (isK n es l) := by unfold isK; infer_instance
/-- What Kind answers. -/
def knI (n : Int) (es : List Pt) (l : List Int) : Int := if isK n es l then kdS n.toNat (pick es l) else 0
/-- What the others answer besides. -/
def obE (n : Int) (es : List Pt) (l : List Int) : Int := if subE n es l ≠ 0 then subE n es l else if okS n.toNat (pick es l) then 0 else 14
theorem kd_ne {n : Int} {es : List Pt} {l : List Int} (h : isK n es l) : kdS n.toNat (pick es l) ≠ 0 := h.2.1
abbrev nilF : Value := .agg #[.int .i64 0, .slice none 0 0, .slice none 0 0]
/-- What a figure's three parts are. -/
def FigAt (n : Int) (es : List Pt) (l : List Int) (B : Nat) (k : Int) (b c : Value) (w' : World) : Prop :=
  (¬ isK n es l ∧ k = 0 ∧ b = .slice none 0 0 ∧ c = .slice none 0 0) ∨
  (isK n es l ∧ k = kdS n.toNat (pick es l) ∧ ∃ p cp g rv, b = .slice p (bsS n.toNat (pick es l)).length cp ∧ c = .slice (some ⟨g, 0, none⟩) (ptS n.toNat (pick es l)).length (ptS n.toNat (pick es l)).length ∧ IOwns w' B (.slice p (bsS n.toNat (pick es l)).length cp) (bsS n.toNat (pick es l)) ∧ Rows w' B g (ptS n.toNat (pick es l)).length rv (fun i => (lat (ptS n.toNat (pick es l)) i).map (rnI l)))
theorem FigAt.later {n : Int} {es : List Pt} {l : List Int} {B : Nat} {k : Int} {b c : Value} {w' w'' : World} (h : FigAt n es l B k b c w') (hb : Below w'.heap.size w' w'') : FigAt n es l B k b c w'' := by
  rcases h with h | ⟨h1, h2, p, cp, g, rv, h3, h4, h5, h6⟩
  · exact Or.inl h
  · exact Or.inr ⟨h1, h2, p, cp, g, rv, h3, h4, h5.later hb, h6.later hb⟩
theorem FigAt.base {n : Int} {es : List Pt} {l : List Int} {B B' : Nat} {k : Int} {b c : Value} {w' : World} (h : FigAt n es l B k b c w') (hb : B' ≤ B) : FigAt n es l B' k b c w' := by
  rcases h with h | ⟨h1, h2, p, cp, g, rv, h3, h4, h5, h6⟩
  · exact Or.inl h
  · exact Or.inr ⟨h1, h2, p, cp, g, rv, h3, h4, h5.base hb, h6.base hb⟩
theorem FigAt.form {n : Int} {es : List Pt} {l : List Int} {B : Nat} {k : Int} {b c : Value} {w' : World} (h : FigAt n es l B k b c w') : ∃ p lb cb q lc cc, b = .slice p lb cb ∧ c = .slice q lc cc := by
  rcases h with ⟨_, _, h1, h2⟩ | ⟨_, _, p, cp, g, rv, h1, h2, _⟩
  · exact ⟨_, _, _, _, _, _, h1, h2⟩
  · exact ⟨_, _, _, _, _, _, h1, h2⟩
/-- A figure's box, written by its parts elsewhere. -/
theorem FigAt.put {n : Int} {es : List Pt} {l : List Int} {B g : Nat} {k : Int} {b c : Value} {X : World} (h : FigAt n es l B k b c X) (hg : g < B) (x y z : Value) : FigAt n es l B k b c (((X.setCell ⟨g, 0, none⟩ x).setCell ⟨g, 1, none⟩ y).setCell ⟨g, 2, none⟩ z) := by
  rcases h with h | ⟨h1, h2, p, cp, g', rv, h3, h4, h5, h6⟩
  · exact Or.inl h
  · have hne : (Value.slice p (bsS n.toNat (pick es l)).length cp).ownBlock ≠ some g := fun e => by have := (World.ownsRow.lt h5 g e).1; omega
    exact Or.inr ⟨h1, h2, p, cp, g', rv, h3, h4, ownsRow_setCell_other (a := ⟨g, 2, none⟩) (ownsRow_setCell_other (a := ⟨g, 1, none⟩) (ownsRow_setCell_other (a := ⟨g, 0, none⟩) h5 hne _) hne _) hne _, ((h6.other hg 0 _).other hg 1 _).other hg 2 _⟩
theorem formed39u (n : Int) (p q : Option Addr) (es : List Pt) (l : List Int) (cp cq : Nat) (w : World) (hl : l.length ≤ maxLen) (h : Has w p es) (k : IHas w q l) : Calls Try.prog 39 #[nv n p es.length cp, .slice q l.length cq] w fun e w' => ∃ b c, e = .returned (.tuple #[.agg #[.int .i64 (knI n es l), b, c], .int .i64 (subE n es l)]) ∧ FigAt n es l w.heap.size (knI n es l) b c w' ∧ Below w.heap.size w w' := by
  refine (formed39 n p q es l cp cq w hl h k).mono ?_
  rintro e w' ⟨hf, hb⟩
  rcases hf with ⟨h1, rfl⟩ | ⟨h1, h2, rfl⟩ | ⟨h1, h2, p', c', g, rv, rfl, h3, h4⟩
  · have hn : ¬ isK n es l := fun hk => h1 hk.1
    have hz : knI n es l = 0 := by unfold knI; rw [if_neg hn]
    rw [hz]
    exact ⟨_, _, rfl, Or.inl ⟨hn, rfl, rfl, rfl⟩, hb⟩
  · have hn : ¬ isK n es l := fun hk => h2 hk.2
    have hz : knI n es l = 0 := by unfold knI; rw [if_neg hn]
    rw [hz, h1]
    exact ⟨_, _, rfl, Or.inl ⟨hn, rfl, rfl, rfl⟩, hb⟩
  · have hn : isK n es l := ⟨h1, h2⟩
    have hz : knI n es l = kdS n.toNat (pick es l) := by unfold knI; rw [if_pos hn]
    rw [hz, h1]
    exact ⟨_, _, rfl, Or.inr ⟨hn, rfl, p', c', g, rv, rfl, rfl, h3, h4⟩, hb⟩
set_option maxRecDepth 100000 in
set_option maxHeartbeats 16000000 in
theorem kind12 (n : Int) (p q : Option Addr) (es : List Pt) (l : List Int) (cp cq : Nat) (w : World) (hl : l.length ≤ maxLen) (h : Has w p es) (k : IHas w q l) : Calls Try.prog 12 #[nv n p es.length cp, .slice q l.length cq] w fun e w' => e = .returned (.tuple #[.int .i64 (knI n es l), .int .i64 (subE n es l)]) ∧ Below w.heap.size w w' := by
  obtain ⟨W, hW, hb0, a0⟩ := one_net w n p es.length cp
  have C1 := hide (formed39u n p q es l cp cq W hl (h.later hb0) (k.later hb0))
  have HB := hide hb0
  obtain ⟨q0, q1, _, _⟩ := a0
  clear h k hb0
  go_enter Try.func12, Try.ntmps12
  go_upto_region 1 with fail
  rw [← hW]
  clear hW
  go_wp2_with fail
  refine C1.out.mono ?_
  rintro r w2 ⟨b, c, rfl, hf, hb2⟩
  obtain ⟨pb, lb, cb, pc, lc, cc, rfl, rfl⟩ := hf.form
  have HB2 := hide (below_step HB.out hb2)
  obtain ⟨kn, hkn⟩ : ∃ z, knI n es l = z := ⟨_, rfl⟩
  obtain ⟨er, her⟩ : ∃ z, subE n es l = z := ⟨_, rfl⟩
  have HKN := hide hkn
  have HER := hide her
  rw [hkn, her]
  clear C1 hf hb2 q0 q1 hkn her
  go_upto_region 2 with fail
  obtain ⟨X, hX⟩ : ∃ X, X = w2.alloc (.cells #[.int .i64 kn, .slice pb lb cb, .slice pc lc cc] 73) := ⟨_, rfl⟩
  have HX : Hid (Below w.heap.size w X) := by show Below _ _ _; rw [hX]; exact HB2.out.alloc HB2.out.size _
  have g0 : X.cell? ⟨w2.heap.size, 0, none⟩ = some (.int .i64 kn) := by rw [hX]; go_cell
  rw [← hX]
  clear hX
  go_wp2
  go_ret2
  exact ⟨by rw [HKN.out, HER.out]; rfl, HX.out⟩
set_option maxRecDepth 100000 in
set_option maxHeartbeats 16000000 in
theorem obstruction40 (n : Int) (p q : Option Addr) (es : List Pt) (l : List Int) (cp cq : Nat) (w : World) (hl : l.length ≤ maxLen) (h : Has w p es) (k : IHas w q l) : Calls Try.prog 40 #[nv n p es.length cp, .slice q l.length cq] w fun e w' => ∃ b c, e = .returned (.tuple #[.agg #[.int .i64 (knI n es l), b, c], .int .i64 (obE n es l)]) ∧ FigAt n es l w.heap.size (knI n es l) b c w' ∧ Below w.heap.size w w' := by
  obtain ⟨W, hW, hb0, a0, f0⟩ := net_fig w n p es.length cp
  have C1 := hide (formed39u n p q es l cp cq W hl (h.later hb0) (k.later hb0))
  have HB := hide hb0
  have HF := hide f0
  obtain ⟨q0, q1, _, _⟩ := a0
  have HWS : Hid (W.heap.size = w.heap.size + 2) := by show _ = _; rw [hW]; simp
  clear h k hb0 f0
  go_enter Try.func40, Try.ntmps40
  go_upto_region 1 with fail
  rw [← hW]
  clear hW
  go_wp2_with fail
  refine C1.out.mono ?_
  rintro r w2 ⟨b, c, rfl, hf, hb2⟩
  obtain ⟨pb, lb, cb, pc, lc, cc, rfl, rfl⟩ := hf.form
  have HOB : Hid (obE n es l = if subE n es l = 0 ∧ knI n es l = 0 then 14 else subE n es l) := by
    show _ = _
    unfold obE knI
    by_cases h1 : subE n es l = 0
    · rw [if_neg (by simp [h1])]
      by_cases h2 : okS n.toNat (pick es l)
      · rw [if_pos h2, if_pos (show isK n es l from ⟨h1, h2⟩), if_neg (fun h => h2.1 h.2), h1]
      · rw [if_neg h2, if_neg (fun h : isK n es l => h2 h.2), if_pos ⟨h1, rfl⟩]
    · rw [if_pos h1, if_neg (fun h => h1 h.1)]
  obtain ⟨X, hX⟩ : ∃ X, X = w2.alloc (.cells #[.int .i64 (knI n es l), .slice pb lb cb, .slice pc lc cc] 73) := ⟨_, rfl⟩
  have hbX : Below w2.heap.size w2 X := by rw [hX]; go_grown
  have HX := hide (below_step HB.out (below_step hb2 hbX))
  have HFX := hide ((HF.out.later hb2).later hbX)
  have HFG := hide (hf.later hbX)
  have g0 : X.cell? ⟨w2.heap.size, 0, none⟩ = some (.int .i64 (knI n es l)) := by rw [hX]; go_cell
  have g1 : X.cell? ⟨w2.heap.size, 1, none⟩ = some (.slice pb lb cb) := by rw [hX]; go_cell
  have g2 : X.cell? ⟨w2.heap.size, 2, none⟩ = some (.slice pc lc cc) := by rw [hX]; go_cell
  obtain ⟨kn, hkn⟩ : ∃ z, knI n es l = z := ⟨_, rfl⟩
  obtain ⟨er, her⟩ : ∃ z, subE n es l = z := ⟨_, rfl⟩
  rw [hkn, her] at HOB
  rw [hkn] at hX g0 HFG
  have HKN := hide hkn
  rw [hkn, her]
  clear C1 hf hb2 q0 q1 hkn her hbX
  go_upto_region 2 with fail
  rw [← hX]
  clear hX
  obtain ⟨kb, hkb⟩ : ∃ k, w2.heap.size = k := ⟨_, rfl⟩
  rw [hkb] at g0 g1 g2 ⊢
  obtain ⟨kf, hkf⟩ : ∃ k, w.heap.size + 1 = k := ⟨_, rfl⟩
  have HKF := hide hkf
  rw [hkf] at HFX ⊢
  clear hkb hkf
  have hks : w.heap.size ≤ kf := by have := HKF.out; omega
  have hkW : kf < W.heap.size := by have := HKF.out; have := HWS.out; omega
  obtain ⟨Y, hY, gY, bY⟩ := fig_put HFX.out HX.out hks (.int .i64 kn) (.slice pb lb cb) (.slice pc lc cc)
  have GY := hide gY
  have BY := hide bY
  have HFY : Hid (FigAt n es l w.heap.size kn (.slice pb lb cb) (.slice pc lc cc) Y) := by
    show FigAt _ _ _ _ _ _ _ _
    rw [hY]
    exact (HFG.out.put hkW _ _ _).base HB.out.size
  obtain ⟨f1, f2, f3, f4, f5, f6⟩ := HFX.out
  clear gY bY HFG
  by_cases h1 : er = 0
  · subst h1
    by_cases h2 : kn = 0
    · have HOE : Hid (obE n es l = 14) := by show _ = _; rw [HOB.out, if_pos ⟨rfl, h2⟩]
      subst h2
      clear HOB
      go_wp2
      rw [← hY]
      refine bodyPost_ret (ret_fig Try.results40 rfl rfl GY.out) rfl ⟨_, _, ?_, by rw [HKN.out]; exact HFY.out, BY.out⟩
      rw [HOE.out, HKN.out]; rfl
    · have HOE : Hid (obE n es l = 0) := by show _ = _; rw [HOB.out, if_neg (fun h => h2 h.2)]
      have t1 : (kn == 0) = false := by rw [beq_eq_false_iff_ne]; exact h2
      clear HOB h2
      go_wp2
      rw [← hY]
      refine bodyPost_ret (ret_fig Try.results40 rfl rfl GY.out) rfl ⟨_, _, ?_, by rw [HKN.out]; exact HFY.out, BY.out⟩
      rw [HOE.out, HKN.out]; rfl
  · have HOE : Hid (obE n es l = er) := by show _ = _; rw [HOB.out, if_neg (fun h => h1 h.1)]
    have t1 : (er == 0) = false := by rw [beq_eq_false_iff_ne]; exact h1
    clear HOB h1
    go_wp2
    rw [← hY]
    refine bodyPost_ret (ret_fig Try.results40 rfl rfl GY.out) rfl ⟨_, _, ?_, by rw [HKN.out]; exact HFY.out, BY.out⟩
    rw [HOE.out, HKN.out]; rfl
set_option maxRecDepth 100000 in
set_option maxHeartbeats 16000000 in
theorem branch13 (n : Int) (p q : Option Addr) (es : List Pt) (l : List Int) (cp cq : Nat) (w : World) (hl : l.length ≤ maxLen) (h : Has w p es) (k : IHas w q l) : Calls Try.prog 13 #[nv n p es.length cp, .slice q l.length cq] w fun e w' => ∃ b c, e = .returned (.tuple #[b, .int .i64 (obE n es l)]) ∧ FigAt n es l w.heap.size (knI n es l) b c w' ∧ Below w.heap.size w w' := by
  obtain ⟨W, hW, hb0, a0⟩ := one_net w n p es.length cp
  have C1 := hide (obstruction40 n p q es l cp cq W hl (h.later hb0) (k.later hb0))
  have HB := hide hb0
  obtain ⟨q0, q1, _, _⟩ := a0
  clear h k hb0
  go_enter Try.func13, Try.ntmps13
  go_upto_region 1 with fail
  rw [← hW]
  clear hW
  go_wp2_with fail
  refine C1.out.mono ?_
  rintro r w2 ⟨b, c, rfl, hf, hb2⟩
  obtain ⟨pb, lb, cb, pc, lc, cc, rfl, rfl⟩ := hf.form
  have HB2 := hide (below_step HB.out hb2)
  obtain ⟨X, hX⟩ : ∃ X, X = w2.alloc (.cells #[.int .i64 (knI n es l), .slice pb lb cb, .slice pc lc cc] 73) := ⟨_, rfl⟩
  have HFX := hide ((hf.later (w'' := X) (by rw [hX]; go_grown)).base HB.out.size)
  obtain ⟨kn, hkn⟩ : ∃ z, knI n es l = z := ⟨_, rfl⟩
  obtain ⟨er, her⟩ : ∃ z, obE n es l = z := ⟨_, rfl⟩
  have HKN := hide hkn
  have HER := hide her
  rw [hkn] at hX ⊢
  rw [her]
  clear C1 hf hb2 q0 q1 hkn her
  go_upto_region 2 with fail
  have HX : Hid (Below w.heap.size w X) := by show Below _ _ _; rw [hX]; exact HB2.out.alloc HB2.out.size _
  have g0 : X.cell? ⟨w2.heap.size, 1, none⟩ = some (.slice pb lb cb) := by rw [hX]; go_cell
  rw [← hX]
  clear hX
  go_wp2
  go_ret2
  exact ⟨_, _, by rw [HER.out]; rfl, HFX.out, HX.out⟩
set_option maxRecDepth 100000 in
set_option maxHeartbeats 16000000 in
theorem paths14 (n : Int) (p q : Option Addr) (es : List Pt) (l : List Int) (cp cq : Nat) (w : World) (hl : l.length ≤ maxLen) (h : Has w p es) (k : IHas w q l) : Calls Try.prog 14 #[nv n p es.length cp, .slice q l.length cq] w fun e w' => ∃ b c, e = .returned (.tuple #[c, .int .i64 (obE n es l)]) ∧ FigAt n es l w.heap.size (knI n es l) b c w' ∧ Below w.heap.size w w' := by
  obtain ⟨W, hW, hb0, a0⟩ := one_net w n p es.length cp
  have C1 := hide (obstruction40 n p q es l cp cq W hl (h.later hb0) (k.later hb0))
  have HB := hide hb0
  obtain ⟨q0, q1, _, _⟩ := a0
  clear h k hb0
  go_enter Try.func14, Try.ntmps14
  go_upto_region 1 with fail
  rw [← hW]
  clear hW
  go_wp2_with fail
  refine C1.out.mono ?_
  rintro r w2 ⟨b, c, rfl, hf, hb2⟩
  obtain ⟨pb, lb, cb, pc, lc, cc, rfl, rfl⟩ := hf.form
  have HB2 := hide (below_step HB.out hb2)
  obtain ⟨X, hX⟩ : ∃ X, X = w2.alloc (.cells #[.int .i64 (knI n es l), .slice pb lb cb, .slice pc lc cc] 73) := ⟨_, rfl⟩
  have HFX := hide ((hf.later (w'' := X) (by rw [hX]; go_grown)).base HB.out.size)
  obtain ⟨kn, hkn⟩ : ∃ z, knI n es l = z := ⟨_, rfl⟩
  obtain ⟨er, her⟩ : ∃ z, obE n es l = z := ⟨_, rfl⟩
  have HKN := hide hkn
  have HER := hide her
  rw [hkn] at hX ⊢
  rw [her]
  clear C1 hf hb2 q0 q1 hkn her
  go_upto_region 2 with fail
  have HX : Hid (Below w.heap.size w X) := by show Below _ _ _; rw [hX]; exact HB2.out.alloc HB2.out.size _
  have g0 : X.cell? ⟨w2.heap.size, 2, none⟩ = some (.slice pc lc cc) := by rw [hX]; go_cell
  rw [← hX]
  clear hX
  go_wp2
  go_ret2
  exact ⟨_, _, by rw [HER.out]; rfl, HFX.out, HX.out⟩
end Go.Proofs.Ytaebbfilgfkckaa
