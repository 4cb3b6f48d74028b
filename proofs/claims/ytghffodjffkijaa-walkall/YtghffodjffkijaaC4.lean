/- Breadth, in every world. -/
import Derived.Test.YtghffodjffkijaaC3
import Derived.Deep.RegionHeld3
namespace Go.Proofs.Ytghffodjffkijaa
open Go.RowKit Go.Sort
open Go

abbrev nilS : Value := .slice none 0 0
/-- The net's box and the answer's. -/
theorem two_boxes35 (w : World) (n : Int) (p : Option Addr) (l c : Nat) : ∃ W, W = (w.alloc (nbx n p l c)).alloc (.cells #[nilS, nilS, nilS, nilS] 35) ∧ Below w.heap.size w W ∧ NOwn W w.heap.size n p l c ∧ W.ownsRow 0 35 4 (.slice (some ⟨w.heap.size + 1, 0, none⟩) 1 1) 1 [nilS, nilS, nilS, nilS] ∧ W.heap.size = w.heap.size + 2 := by
  refine ⟨_, rfl, by go_grown, ⟨by unfold nbx; go_cell, by unfold nbx; go_cell, by unfold nbx; go_cell, by unfold nbx; go_cell⟩, ?_, by simp⟩
  have := box35 (w.alloc (nbx n p l c)) nilS nilS nilS nilS
  rw [show (w.alloc (nbx n p l c)).heap.size = w.heap.size + 1 by simp] at this
  exact this
theorem box_later {w w' : World} {k : Nat} {a b c d : Value} (h : w.ownsRow 0 35 4 (.slice (some ⟨k, 0, none⟩) 1 1) 1 [a, b, c, d]) (hb : Below w.heap.size w w') : w'.ownsRow 0 35 4 (.slice (some ⟨k, 0, none⟩) 1 1) 1 [a, b, c, d] := World.ownsRow.kept h (grown_below hb) (Or.inr (by simp [Value.ownBlock]))
theorem box_cells {w : World} {k : Nat} {a b c d : Value} (h : w.ownsRow 0 35 4 (.slice (some ⟨k, 0, none⟩) 1 1) 1 [a, b, c, d]) : w.cell? ⟨k, 0, none⟩ = some a ∧ w.cell? ⟨k, 1, none⟩ = some b ∧ w.cell? ⟨k, 2, none⟩ = some c ∧ w.cell? ⟨k, 3, none⟩ = some d ∧ w.frozen? ⟨k, 0, none⟩ = false ∧ w.frozen? ⟨k, 1, none⟩ = false ∧ w.frozen? ⟨k, 2, none⟩ = false ∧ w.frozen? ⟨k, 3, none⟩ = false :=
  ⟨World.ownsRow.cellAt h 0 (by omega), World.ownsRow.cellAt h 1 (by omega), World.ownsRow.cellAt h 2 (by omega), World.ownsRow.cellAt h 3 (by omega), World.ownsRow.frozenAt h 0, World.ownsRow.frozenAt h 1, World.ownsRow.frozenAt h 2, World.ownsRow.frozenAt h 3⟩
set_option maxRecDepth 100000 in
set_option maxHeartbeats 8000000 in
theorem breadth13no (n : Int) (p : Option Addr) (es : List Pt) (cp : Nat) (s r : Int) (w : World) (h : Has w p es) (hr : refI n es s = r) (h0 : ¬ r = 0) : Calls Try.prog 13 #[nv n p es.length cp, .int .i64 s] w fun e w' => e = .returned (.tuple #[tv nilS nilS nilS nilS, .int .i64 r]) ∧ Below w.heap.size w w' := by
  obtain ⟨W, hW, hb, a0, x0, hs⟩ := two_boxes35 w n p es.length cp
  have RF := hide (refusal36 n p es cp s W (h.later hb))
  rw [hr] at RF
  have HB := hide hb
  have HX := hide x0
  clear h hb a0 x0 hr
  go_enter Try.func13, Try.ntmps13
  go_wp2_with fail
  rw [← hW]
  clear hW
  refine RF.out.mono ?_
  rintro e w1 ⟨rfl, hb1⟩
  have HX1 := hide (box_later HX.out hb1)
  have HB1 := hide (below_step HB.out hb1)
  obtain ⟨c0, c1, c2, c3, f0, f1, f2, f3⟩ := box_cells HX1.out
  clear hb1 RF
  go_wp2
  exact bodyPost_ret (ret_tour2 Try.results13 rfl rfl (set_box35 HX1.out)) rfl ⟨rfl, below_set4 HB1.out (by omega) _ _ _ _⟩
set_option maxRecDepth 100000 in
set_option maxHeartbeats 8000000 in
theorem breadth13 (m : Nat) (p : Option Addr) (es : List Pt) (cp s : Nat) (w : World) (h : Has w p es) (hm : netB m es = true) (hs : s < m) : Calls Try.prog 13 #[nv m p es.length cp, .int .i64 s] w fun e w' => ∃ v, e = .returned (.tuple #[v, .int .i64 0]) ∧ TR w' w.heap.size m v (bfs es m 0 (begin_ (st0 m) s)) nilS ∧ Below w.heap.size w w' := by
  obtain ⟨W, hW, hb, a0, x0, hsz⟩ := two_boxes35 w m p es.length cp
  have hr : refI m es s = 0 := by unfold refI; rw [hm, if_pos rfl, if_neg (by omega)]
  have RF := hide (refusal36 m p es cp s W (h.later hb))
  rw [hr] at RF
  obtain ⟨n0, n1, hes, _⟩ := netB_is hm
  have HPB : Hid (∀ a, p = some a → es = [] ∨ a.block < w.heap.size) := by
    intro a ha
    rcases h with h | ⟨b, off, hp, hL⟩
    · exact Or.inl h
    · rw [hp] at ha
      cases ha
      rcases Nat.eq_zero_or_pos es.length with h0 | h0
      · exact Or.inl (List.eq_nil_of_length_eq_zero h0)
      · exact Or.inr (block_lt_of_cell (hL 0 h0).1)
  have HM := hide hm
  have HH := hide (h.later hb)
  have HB := hide hb
  have HX := hide x0
  have HA := hide a0
  clear h hb a0 x0 hr hm
  go_enter Try.func13, Try.ntmps13
  go_wp2_with fail
  rw [← hW]
  clear hW
  refine RF.out.mono ?_
  rintro e w1 ⟨rfl, hb1⟩
  have U := hide (unfound37 m w1 (by omega))
  have HA1 := hide (HA.out.later hb1)
  obtain ⟨q0, q1, _, _⟩ := HA1.out
  have HB1 := hide hb1
  clear hb1 RF
  go_wp2_with fail
  refine U.out.mono ?_
  rintro e w2 ⟨v, rfl, ⟨vo, gb, gf, rfl, ho, hby, hfa, ne1, ne2, ne3⟩, hb2⟩
  obtain ⟨X, hX⟩ : ∃ X, X = w2.alloc (.cells #[vo, .slice (some ⟨gb, 0, none⟩) m m, .slice (some ⟨gf, 0, none⟩) m m, nilS] 35) := ⟨_, rfl⟩
  have hbX : Below w2.heap.size w2 X := by rw [hX]; go_grown
  have hXs : X.heap.size = w2.heap.size + 1 := by rw [hX]; simp
  have HTX : Hid (TB X w1.heap.size w2.heap.size m vo gb gf nilS [] (List.replicate m (-1)) (List.replicate m (-1))) := ⟨by rw [hX]; exact box35 _ _ _ _ _, ho.later hbX, hby.later hbX, hfa.later hbX, ne1, ne2, ne3⟩
  have hbWX := below_step HB1.out (below_step hb2 hbX)
  have HAX := hide (HA.out.later hbWX)
  have HHX := hide (HH.out.later hbWX)
  have HXX := hide (box_later HX.out hbWX)
  have HBX := hide (below_step HB.out hbWX)
  have s1 := HB1.out.size
  have s2 := hb2.size
  have lb := hby.lt
  have lf := hfa.lt
  have lo : ∀ i, vo.ownBlock = some i → w1.heap.size ≤ i ∧ i < w2.heap.size := fun i hi => World.ownsRow.lt ho i hi
  have HLO := hide (And.intro lb (And.intro lf lo))
  clear q0 q1 U ho hby hfa ne1 ne2 ne3 hb2 hbX hbWX lb lf lo
  obtain ⟨q0, q1, _, _⟩ := HAX.out
  obtain ⟨po, lo, co, rfl⟩ : ∃ po lo co, vo = .slice po lo co := by obtain ⟨a, b, hv, _⟩ := HTX.out.ord.form; exact ⟨_, _, _, hv⟩
  have HAW1 : Hid (∀ i, i < w1.heap.size → ¬ TBk w2.heap.size gb gf (.slice po lo co) i) := by
    intro i hi hk
    obtain ⟨h1, h2, h3⟩ := HLO.out
    rcases hk with h | h | h | h
    · omega
    · omega
    · omega
    · have := h3 i h; omega
  have HAW2 : Hid (∀ i, X.heap.size ≤ i → ¬ TBk w2.heap.size gb gf (.slice po lo co) i) := by
    intro i hi hk
    obtain ⟨h1, h2, h3⟩ := HLO.out
    rcases hk with h | h | h | h
    · omega
    · omega
    · omega
    · have := h3 i h; omega
  have hsn : iat (st0 m).Fa s < 0 := by show iat (List.replicate m (-1)) s < 0; rw [iat_fill hs]; omega
  have HSN := hide hsn
  clear hsn
  go_upto_region 5 with fail
  rw [← hX]
  clear hX
  go_region_held3 (fun V => V.cell? ⟨w.heap.size, 0, none⟩ = some (.int .i64 m) ∧ V.cell? ⟨w.heap.size, 1, none⟩ = some (.slice p es.length cp))
    (first | exact ⟨q0, q1⟩ | exact ⟨HA4.out.1, HA4.out.2.1⟩ | exact ⟨HA5.out.1, HA5.out.2.1⟩)
    (first
      | (go_at_call 39; refine (outs39 m p es cp X.drew (HHX.out.later (below_drew X)) HM.out).mono ?_; rintro e w4 ⟨g, rv, rfl, hR4, hb4'⟩; have hb4 := below_step (below_drew X) hb4'; have HA4 := hide (HAX.out.later hb4); have HH4 := hide (HHX.out.later hb4); have HT4 := hide (HTX.out.later hb4); have HX4 := hide (box_later HXX.out hb4); have HB4 := hide (below_step HBX.out hb4); have HR4 := hide hR4; have hs4 := hb4.size; clear hb4 hb4' hR4)
      | (go_at_call 38; refine (spread38 m p es cp X.heap.size g rv w1.heap.size w2.heap.size gb gf (.slice po lo co) nilS (st0 m) s w4 HM.out HH4.out HR4.out HT4.out (st0_ok m) hs HSN.out (by omega) (fun a ha => (HPB.out a ha).imp id (fun hh => HAW1.out _ (by omega))) (HAW2.out _ HR4.out.size.1) (fun u i hu hi => HAW2.out _ (World.ownsRow.lt (HR4.out.2.2 u hu) i hi).1)).mono ?_; rintro e w5 ⟨rfl, vo5, t5, f5, a5⟩; have HT5 := hide t5; have HF5 := hide f5; have HA5 := hide (f5.nown HA4.out (HAW1.out _ (by omega))); have HX5 : Hid (w5.ownsRow 0 35 4 (.slice (some ⟨w.heap.size + 1, 0, none⟩) 1 1) 1 [nilS, nilS, nilS, nilS]) := f5.row HX4.out (fun i hi => HAW1.out _ (by simp [Value.ownBlock] at hi; omega)); clear t5 f5 a5))
  rename_i hHeld
  clear hHeld q0 q1
  obtain ⟨p5, l5, c5, rfl⟩ : ∃ a b c, vo5 = .slice a b c := by obtain ⟨a, b, hv, _⟩ := HT5.out.ord.form; exact ⟨_, _, _, hv⟩
  obtain ⟨b0, b1, b2, b3, _, _⟩ := HT5.out.cells
  obtain ⟨c0, c1, c2, c3, f0, f1, f2, f3⟩ := box_cells HX5.out
  have HB5 : Hid (Below w.heap.size w w5) := Below.trans HB4.out (HF5.out.below HB4.out.size (fun i hi => by
    by_cases h : w.heap.size ≤ i
    · exact h
    · exact absurd hi (HAW1.out i (by omega))))
  have hne : (w.heap.size + 1) ≠ w2.heap.size := by omega
  go_wp2
  obtain ⟨cur, hk⟩ := row_kind HX5.out
  have t5 := HT5.out
  have k1 := row_apart hk t5.by_.2 (by decide)
  have k2 := row_apart hk t5.far.2 (by decide)
  have k3 := row_apart hk t5.ord (by decide)
  refine bodyPost_ret (ret_tour2 Try.results13 rfl rfl (set_box35 HX5.out)) rfl ⟨_, rfl, ⟨_, gb, gf, rfl, ?_, ?_, ?_, t5.ne1, t5.ne2, t5.ne3⟩, below_set4 HB5.out (by omega) _ _ _ _⟩
  · exact (IOwns.base (row_set4 t5.ord k3 _ _ _ _) (by omega))
  · exact (irow_set4 t5.by_ (fun e => k1 (by simp [Value.ownBlock, e])) _ _ _ _).base (by omega)
  · exact (irow_set4 t5.far (fun e => k2 (by simp [Value.ownBlock, e])) _ _ _ _).base (by omega)
end Go.Proofs.Ytghffodjffkijaa
