/- Unsplit. -/
import Derived.Test.YtgfiofogcnnkhaaGN
namespace Go.Proofs.Ytgfiofogcnnkhaa
open Go.RowKit Go.Sort
open Go

def unE (G : Gr) (v : Int) : Int := if v ∈ G.ns then (if btwB G v = true then 0 else 10) else 2
def un0 (G : Gr) (v : Int) : Nat := (iat (plAt G v) 0).toNat
def un1 (G : Gr) (v : Int) : Nat := (iat (plAt G v) 1).toNat
def unD (G : Gr) (v : Int) : Gr := ((G.setE (un0 G v) ((eat G.es (un0 G v)).side v) ((eat G.es (un1 G v)).far v)).takeE (un1 G v)).takeN (pl G.ns v)
def unG (G : Gr) (v : Int) : Gr := if unE G v = 0 then unD G v else G
def unV (G : Gr) (v : Int) : Value := if unE G v = 0 then .tuple #[.int .i64 (eat G.es (un0 G v)).id, .int .i64 0] else .tuple #[.int .i64 0, .int .i64 (unE G v)]
theorem side_lt (x : Ed) (v : Int) : x.side v < 2 := by unfold Ed.side; split <;> omega
theorem below_GB {w w' : World} {b : Nat} {s : GV} {G : Gr} (h : GAt w b s G) {p : Option Addr} {n c : Nat} {l : List Int} (o : IOwns w' w.heap.size (.slice p n c) l) : ∀ a, p = some a → ¬ GB b s a.block := fun a ha => h.fresh (World.ownsRow.lt o a.block (by rw [ha]; rfl)).1
set_option maxRecDepth 100000 in
set_option maxHeartbeats 8000000 in
theorem unsplit18 (b : Nat) (s : GV) (G : Gr) (v : Int) (w : World) (h : GAt w b s G) (hl : G.dn.length ≤ 4999000) (hm : G.ms.length ≤ 64) (hn : G.ns.length ≤ 1024) (he : G.es.length ≤ 3072) (hu : Up G.ns) : Calls Try.prog 18 #[ptr b, .int .i64 v] w (Turns w b s (unV G v) (unG G v)) := by
  have A := none50 b s G w h
  have PL := nodePlace55 b s G v w h (by omega) hu
  have PA := hide (placesAt56 b s G v w h (by omega))
  have H := hide h
  by_cases hx : v ∈ G.ns
  · rw [decide_eq_true hx] at PL
    cases hbt : btwB G v
    · have e0 : unE G v = 10 := by unfold unE; rw [if_pos hx, hbt]; rfl
      have e1 : unG G v = G := by unfold unG; rw [e0]; rfl
      have e2 : unV G v = .tuple #[.int .i64 0, .int .i64 10] := by unfold unV; rw [e0]; rfl
      rw [e1, e2]
      have HBT := hide hbt
      clear e0 e1 e2 hx h hbt
      go_enter Try.func18, Try.ntmps18
      go_wp2_with (first | (go_at_call 50; refine A.mono ?_; rintro e w' ⟨rfl, hw⟩; have hw2 := hw.symm; subst hw2) | (go_at_call 55; refine PL.mono ?_; rintro e w' ⟨rfl, hw⟩; have hw2 := hw.symm; subst hw2) | (go_at_call 56; refine PA.out.mono ?_; rintro e w1 ⟨p1, c1, rfl, o1, hb1⟩; have HB1 := hide hb1; have BT := hide (isBetween57 b s G v p1 c1 w1 (H.out.later hb1) (own_ihas o1) (by omega)); rw [HBT.out] at BT; clear hb1 o1) | (go_at_call 57; refine BT.out.mono ?_; rintro e w2 ⟨rfl, hb2⟩; have HB2 := hide (below_step HB1.out hb2); clear hb2))
      go_ret2
      exact ⟨rfl, s, H.out.later HB2.out, GFr.of_below HB2.out⟩
    · have h2 : (plAt G v).length = 2 := by
        by_cases h2 : (plAt G v).length = 2
        · exact h2
        · unfold btwB at hbt; rw [decide_eq_false h2] at hbt; cases hbt
      obtain ⟨p0, p1, e, h01, h1l⟩ := plAt_two h2
      obtain ⟨hpl, _⟩ := pl_mem hu hx
      have e0 : unE G v = 0 := by unfold unE; rw [if_pos hx, if_pos hbt]
      have eu0 : un0 G v = p0 := by unfold un0; rw [e]; simp [iat]
      have eu1 : un1 G v = p1 := by unfold un1; rw [e]; simp [iat]
      have e1 : unG G v = ((G.setE p0 ((eat G.es p0).side v) ((eat G.es p1).far v)).takeE p1).takeN (pl G.ns v) := by unfold unG unD; rw [e0, eu0, eu1]; rfl
      have e2 : unV G v = .tuple #[.int .i64 (eat G.es p0).id, .int .i64 0] := by unfold unV; rw [e0, eu0]; rfl
      rw [e1, e2]
      obtain ⟨x, hxx⟩ : ∃ x, eat G.es p0 = x := ⟨_, rfl⟩
      obtain ⟨y, hyy⟩ : ∃ y, eat G.es p1 = y := ⟨_, rfl⟩
      obtain ⟨q, hq⟩ : ∃ q, pl G.ns v = q := ⟨_, rfl⟩
      rw [hxx, hyy, hq]
      rw [hq] at PL hpl
      have HBT := hide hbt
      have HL2 := hide e
      obtain ⟨pn, cn, pe, ce, pm, cm, pd, cd, _, hs, _⟩ := h.form
      have oe := h.edg
      rw [hs] at oe
      obtain ⟨g, rfl, _, hg⟩ := own_some oe (by omega)
      have q2 : w.cell? ⟨b, 2, none⟩ = some (.slice (some ⟨g, 0, none⟩) G.es.length ce) := by have := h.cells.2.2.1; rw [hs] at this; exact this
      have EL : ELies w g G.es := by
        rcases own_ehas oe with h | ⟨g', h1, h2⟩
        · rw [h] at h1l; simp at h1l
        · cases h1; exact h2
      have X3 := EL p0 (by omega)
      have Y3 := EL p1 (by omega)
      rw [hxx] at X3
      rw [hyy] at Y3
      have HX3 := hide X3
      have HY3 := hide Y3
      have HQ2 := hide q2
      have i0 : (0 : Int) ≤ p0 := by omega
      have i1 : (p0 : Int) < G.es.length := by omega
      have i2 : (0 : Int) ≤ p1 := by omega
      have i3 : (p1 : Int) < G.es.length := by omega
      have HHS := hide hs
      have hsx := side_lt x v
      clear e0 e1 e2 eu0 eu1 hx h hbt e oe EL X3 Y3 q2 hxx hyy hq hs
      rw [h2] at PA
      go_enter Try.func18, Try.ntmps18
      go_wp2_with (first | (go_at_call 50; refine A.mono ?_; rintro e w' ⟨rfl, hw⟩; have hw2 := hw.symm; subst hw2) | (go_at_call 55; refine PL.mono ?_; rintro e w' ⟨rfl, hw⟩; have hw2 := hw.symm; subst hw2) | (go_at_call 56; refine PA.out.mono ?_; rintro e w1 ⟨pp, c1, rfl, o1, hb1⟩; have HB1 := hide hb1; have HO1 := hide o1; have BT := hide (isBetween57 b s G v pp c1 w1 (H.out.later hb1) (own_ihas o1) (by omega)); rw [HBT.out, h2] at BT; clear hb1 o1) | (go_at_call 57; refine BT.out.mono ?_; rintro e w2 ⟨rfl, hb2⟩; have HB2 := hide (below_step HB1.out hb2); have HO2 := hide (HO1.out.later hb2); clear hb2))
      clear A PL PA BT
      have hpp : ∃ gp, pp = some ⟨gp, 0, none⟩ ∧ w2.cell? ⟨gp, 0, none⟩ = some (.int .i64 p0) ∧ w2.cell? ⟨gp, 1, none⟩ = some (.int .i64 p1) ∧ w.heap.size ≤ gp := by
        obtain ⟨gp, rfl, _, _⟩ := own_some HO2.out (by omega)
        have hlie := own_ihas HO2.out
        rw [HL2.out] at hlie
        rcases hlie with k | ⟨b', o', k1, k2⟩
        · cases k
        · cases k1
          have d0 := k2 0 (by simp)
          have d1 := k2 1 (by simp)
          simp only [iat, List.getD_cons_zero, List.getD_cons_succ, Nat.add_zero, Nat.zero_add] at d0 d1
          exact ⟨gp, rfl, d0, d1, (World.ownsRow.lt HO2.out gp rfl).1⟩
      obtain ⟨gp, rfl, d0, d1, hgp⟩ := hpp
      obtain ⟨x0, x1, x2⟩ := HX3.out
      obtain ⟨y0, y1, y2⟩ := HY3.out
      have x0 := later HB2.out x0
      have x1 := later HB2.out x1
      have x2 := later HB2.out x2
      have y0 := later HB2.out y0
      have y1 := later HB2.out y1
      have y2 := later HB2.out y2
      have q2 := later HB2.out HQ2.out
      have n1 := World.new_ne w2 _ d0
      have n2 := World.new_ne w2 _ x0
      have n3 := World.new_ne w2 _ q2
      have l1 : gp < w2.heap.size := block_lt_of_cell d0
      have l2 : g < w2.heap.size := block_lt_of_cell x0
      have l3 : b < w2.heap.size := block_lt_of_cell q2
      have n4 : w2.heap.size + 1 ≠ gp := by omega
      have n5 : w2.heap.size + 1 ≠ g := by omega
      have n6 : w2.heap.size + 1 ≠ b := by omega
      go_region_held3 (fun V => V.cell? ⟨b, 2, none⟩ = some (.slice (some ⟨g, 0, none⟩) G.es.length ce) ∧ V.cell? ⟨gp, 0, none⟩ = some (.int .i64 p0) ∧ V.cell? ⟨gp, 1, none⟩ = some (.int .i64 p1) ∧ V.cell? ⟨g, p0 * 3, none⟩ = some (.int .i64 x.id) ∧ V.cell? ⟨g, p0 * 3 + 1, none⟩ = some (.int .i64 x.a) ∧ V.cell? ⟨g, p0 * 3 + 2, none⟩ = some (.int .i64 x.b) ∧ V.cell? ⟨g, p1 * 3, none⟩ = some (.int .i64 y.id) ∧ V.cell? ⟨g, p1 * 3 + 1, none⟩ = some (.int .i64 y.a) ∧ V.cell? ⟨g, p1 * 3 + 2, none⟩ = some (.int .i64 y.b)) (go_keep) (fail)
      · rename_i hHeld
        clear hHeld
        obtain ⟨X, hX⟩ : ∃ X, X = ((w2.alloc (.cells #[.int .i64 x.id, .int .i64 x.a, .int .i64 x.b] 76)).alloc (.cells #[.int .i64 y.id, .int .i64 y.a, .int .i64 y.b] 76)).drew := ⟨_, rfl⟩
        have hbX : Below w2.heap.size w2 X := by rw [hX]; go_grown
        have hx9 : X.cell? ⟨w2.heap.size, 0, none⟩ = some (.int .i64 x.id) ∧ X.cell? ⟨w2.heap.size, 1, none⟩ = some (.int .i64 x.a) ∧ X.cell? ⟨w2.heap.size, 2, none⟩ = some (.int .i64 x.b) := by
          rw [hX]
          exact ⟨by go_cell, by go_cell, by go_cell⟩
        have hx10 : X.cell? ⟨w2.heap.size + 1, 0, none⟩ = some (.int .i64 y.id) ∧ X.cell? ⟨w2.heap.size + 1, 1, none⟩ = some (.int .i64 y.a) ∧ X.cell? ⟨w2.heap.size + 1, 2, none⟩ = some (.int .i64 y.b) := by
          rw [hX]
          exact ⟨by go_cell, by go_cell, by go_cell⟩
        rw [← hX]
        clear hX n1 n2 n3 n4 n5 n6 x0 x1 x2 y0 y1 y2
        obtain ⟨kB, hkB⟩ : ∃ k, w2.heap.size + 1 = k := ⟨_, rfl⟩
        try rw [hkB] at hx9
        try rw [hkB] at hx10
        rw [hkB]
        obtain ⟨kA, hkA⟩ : ∃ k, w2.heap.size = k := ⟨_, rfl⟩
        have hgeA : w.heap.size ≤ kA := by have := HB2.out.size; omega
        have hgeB : w.heap.size ≤ kB := by have := HB2.out.size; omega
        try rw [hkA] at hx9
        try rw [hkA] at hx10
        rw [hkA]
        have hd0 := later hbX d0
        have hd1 := later hbX d1
        have HBX := hide (below_step HB2.out hbX)
        have HGX := hide (H.out.later HBX.out)
        have ng : ¬ GB b s gp := H.out.fresh hgp
        have n9 : ¬ GB b s kA := H.out.fresh (by omega)
        have n10 : ¬ GB b s kB := H.out.fresh (by omega)
        have HNG := hide ng
        have HN9 := hide n9
        have HD1 := hide hd1
        have HX9 := hide hx9
        have HS : Hid (∀ V, Frame X V (GB b s) → V.cell? ⟨gp, 0, none⟩ = some (.int .i64 p0) ∧ (V.cell? ⟨kA, 0, none⟩ = some (.int .i64 x.id) ∧ V.cell? ⟨kA, 1, none⟩ = some (.int .i64 x.a) ∧ V.cell? ⟨kA, 2, none⟩ = some (.int .i64 x.b)) ∧ V.cell? ⟨kB, 0, none⟩ = some (.int .i64 y.id) ∧ V.cell? ⟨kB, 1, none⟩ = some (.int .i64 y.a) ∧ V.cell? ⟨kB, 2, none⟩ = some (.int .i64 y.b)) := fun V hV => ⟨hV.cell hd0 ng, ⟨hV.cell hx9.1 n9, hV.cell hx9.2.1 n9, hV.cell hx9.2.2 n9⟩, hV.cell hx10.1 n10, hV.cell hx10.2.1 n10, hV.cell hx10.2.2 n10⟩
        have S58 := side58 x v
        have S59 := far59 y v
        unfold ev at S58 S59
        have hdn : (G.setE p0 (x.side v) (y.far v)).dn.length ≤ G.dn.length + 1 := rem_dn _ _
        have hdn2 : ((G.setE p0 (x.side v) (y.far v)).takeE p1).dn.length ≤ (G.setE p0 (x.side v) (y.far v)).dn.length + 1 := rem_dn _ _
        have hes : (G.setE p0 (x.side v) (y.far v)).es.length = G.es.length := by show (List.set _ _ _).length = _; rw [List.length_set]
        have HE1 : Hid (p1 < (G.setE p0 (x.side v) (y.far v)).es.length ∧ (G.setE p0 (x.side v) (y.far v)).es.length ≤ 5000) := by show _ ∧ _; rw [hes]; exact ⟨h1l, by omega⟩
        have HDN := hide (And.intro hdn hdn2)
        clear hkA hkB hbX hx9 hx10 hd0 hd1 ng n9 n10 hdn hdn2 hes d0 d1 q2 hgeA hgeB
        obtain ⟨S0, ⟨S1, S2, S3⟩, S4, S5, S6⟩ := HS.out X (Frame.of_below (Below.refl _ _) _)
        go_wp2_with fail
        clear S0 S1 S2 S3 S4 S5 S6
        go_region_held3 (fun V => V.cell? ⟨gp, 0, none⟩ = some (.int .i64 p0) ∧ (V.cell? ⟨kA, 0, none⟩ = some (.int .i64 x.id) ∧ V.cell? ⟨kA, 1, none⟩ = some (.int .i64 x.a) ∧ V.cell? ⟨kA, 2, none⟩ = some (.int .i64 x.b)) ∧ V.cell? ⟨kB, 0, none⟩ = some (.int .i64 y.id) ∧ V.cell? ⟨kB, 1, none⟩ = some (.int .i64 y.a) ∧ V.cell? ⟨kB, 2, none⟩ = some (.int .i64 y.b)) (first | exact HS.out _ (Frame.of_below (below_drew X) _) | exact HS.out _ HR5.out.fr | exact HS.out _ (Frame.of_below HB4.out _) | exact HS.out _ (Frame.of_below HB3.out _))
          (first | (go_at_call 58; refine (S58 _).mono ?_; rintro e w3 ⟨rfl, hb3⟩; have HB3 := hide (below_step (below_drew X) hb3); clear hb3) | (go_at_call 59; refine (S59 _).mono ?_; rintro e w4 ⟨rfl, hb4⟩; have HB4 := hide (below_step HB3.out hb4); clear hb4) | (go_at_call 54; refine (setEnd54 b s G p0 (x.side v) (y.far v) _ (HGX.out.later HB4.out) (by omega) hm (by omega) (by omega) hsx).mono ?_; rintro e w5 ⟨rfl, s5, g5, r5⟩; have HG5 := hide g5; have HR5 := hide ((GFr.of_below HB4.out).trans r5); clear g5 r5))
        rename_i hHeld
        clear hHeld
        have c1 := HR5.out.fr.cell HD1.out HNG.out
        have TE := hide (takeEdge60 b s5 (G.setE p0 (x.side v) (y.far v)) p1 w5 HG5.out (by have := HDN.out; omega) hm HE1.out.2 HE1.out.1)
        go_wp2_with (first | (go_at_call 60; refine TE.out.mono ?_; rintro e w6 ⟨rfl, s6, g6, r6⟩; have HR6 := hide (HR5.out.trans r6); have TN := hide (takeNode61 b s6 ((G.setE p0 (x.side v) (y.far v)).takeE p1) q w6 g6 (by have := HDN.out; omega) hm (show G.ns.length ≤ 5000 by omega) hpl); clear g6 r6) | (go_at_call 61; refine TN.out.mono ?_; rintro e w7 ⟨rfl, s7, g7, r7⟩; have HR7 := hide (HR6.out.trans r7); have HG7 := hide g7; have c9 := HR7.out.fr.cell HX9.out.1 HN9.out; clear g7 r7))
        go_ret2
        exact ⟨rfl, _, HG7.out, (GFr.of_below HBX.out).trans HR7.out⟩
      · rename_i hHeld
        clear hHeld
        obtain ⟨X, hX⟩ : ∃ X, X = ((w2.alloc (.cells #[.int .i64 y.id, .int .i64 y.a, .int .i64 y.b] 76)).alloc (.cells #[.int .i64 x.id, .int .i64 x.a, .int .i64 x.b] 76)).drew := ⟨_, rfl⟩
        have hbX : Below w2.heap.size w2 X := by rw [hX]; go_grown
        have hx9 : X.cell? ⟨w2.heap.size + 1, 0, none⟩ = some (.int .i64 x.id) ∧ X.cell? ⟨w2.heap.size + 1, 1, none⟩ = some (.int .i64 x.a) ∧ X.cell? ⟨w2.heap.size + 1, 2, none⟩ = some (.int .i64 x.b) := by
          rw [hX]
          exact ⟨by go_cell, by go_cell, by go_cell⟩
        have hx10 : X.cell? ⟨w2.heap.size, 0, none⟩ = some (.int .i64 y.id) ∧ X.cell? ⟨w2.heap.size, 1, none⟩ = some (.int .i64 y.a) ∧ X.cell? ⟨w2.heap.size, 2, none⟩ = some (.int .i64 y.b) := by
          rw [hX]
          exact ⟨by go_cell, by go_cell, by go_cell⟩
        rw [← hX]
        clear hX n1 n2 n3 n4 n5 n6 x0 x1 x2 y0 y1 y2
        obtain ⟨kB, hkB⟩ : ∃ k, w2.heap.size + 1 = k := ⟨_, rfl⟩
        try rw [hkB] at hx9
        try rw [hkB] at hx10
        rw [hkB]
        obtain ⟨kA, hkA⟩ : ∃ k, w2.heap.size = k := ⟨_, rfl⟩
        have hgeA : w.heap.size ≤ kA := by have := HB2.out.size; omega
        have hgeB : w.heap.size ≤ kB := by have := HB2.out.size; omega
        try rw [hkA] at hx9
        try rw [hkA] at hx10
        rw [hkA]
        have hd0 := later hbX d0
        have hd1 := later hbX d1
        have HBX := hide (below_step HB2.out hbX)
        have HGX := hide (H.out.later HBX.out)
        have ng : ¬ GB b s gp := H.out.fresh hgp
        have n9 : ¬ GB b s kB := H.out.fresh (by omega)
        have n10 : ¬ GB b s kA := H.out.fresh (by omega)
        have HNG := hide ng
        have HN9 := hide n9
        have HD1 := hide hd1
        have HX9 := hide hx9
        have HS : Hid (∀ V, Frame X V (GB b s) → V.cell? ⟨gp, 0, none⟩ = some (.int .i64 p0) ∧ (V.cell? ⟨kB, 0, none⟩ = some (.int .i64 x.id) ∧ V.cell? ⟨kB, 1, none⟩ = some (.int .i64 x.a) ∧ V.cell? ⟨kB, 2, none⟩ = some (.int .i64 x.b)) ∧ V.cell? ⟨kA, 0, none⟩ = some (.int .i64 y.id) ∧ V.cell? ⟨kA, 1, none⟩ = some (.int .i64 y.a) ∧ V.cell? ⟨kA, 2, none⟩ = some (.int .i64 y.b)) := fun V hV => ⟨hV.cell hd0 ng, ⟨hV.cell hx9.1 n9, hV.cell hx9.2.1 n9, hV.cell hx9.2.2 n9⟩, hV.cell hx10.1 n10, hV.cell hx10.2.1 n10, hV.cell hx10.2.2 n10⟩
        have S58 := side58 x v
        have S59 := far59 y v
        unfold ev at S58 S59
        have hdn : (G.setE p0 (x.side v) (y.far v)).dn.length ≤ G.dn.length + 1 := rem_dn _ _
        have hdn2 : ((G.setE p0 (x.side v) (y.far v)).takeE p1).dn.length ≤ (G.setE p0 (x.side v) (y.far v)).dn.length + 1 := rem_dn _ _
        have hes : (G.setE p0 (x.side v) (y.far v)).es.length = G.es.length := by show (List.set _ _ _).length = _; rw [List.length_set]
        have HE1 : Hid (p1 < (G.setE p0 (x.side v) (y.far v)).es.length ∧ (G.setE p0 (x.side v) (y.far v)).es.length ≤ 5000) := by show _ ∧ _; rw [hes]; exact ⟨h1l, by omega⟩
        have HDN := hide (And.intro hdn hdn2)
        clear hkA hkB hbX hx9 hx10 hd0 hd1 ng n9 n10 hdn hdn2 hes d0 d1 q2 hgeA hgeB
        obtain ⟨S0, ⟨S1, S2, S3⟩, S4, S5, S6⟩ := HS.out X (Frame.of_below (Below.refl _ _) _)
        go_wp2_with fail
        clear S0 S1 S2 S3 S4 S5 S6
        go_region_held3 (fun V => V.cell? ⟨gp, 0, none⟩ = some (.int .i64 p0) ∧ (V.cell? ⟨kB, 0, none⟩ = some (.int .i64 x.id) ∧ V.cell? ⟨kB, 1, none⟩ = some (.int .i64 x.a) ∧ V.cell? ⟨kB, 2, none⟩ = some (.int .i64 x.b)) ∧ V.cell? ⟨kA, 0, none⟩ = some (.int .i64 y.id) ∧ V.cell? ⟨kA, 1, none⟩ = some (.int .i64 y.a) ∧ V.cell? ⟨kA, 2, none⟩ = some (.int .i64 y.b)) (first | exact HS.out _ (Frame.of_below (below_drew X) _) | exact HS.out _ HR5.out.fr | exact HS.out _ (Frame.of_below HB4.out _) | exact HS.out _ (Frame.of_below HB3.out _))
          (first | (go_at_call 58; refine (S58 _).mono ?_; rintro e w3 ⟨rfl, hb3⟩; have HB3 := hide (below_step (below_drew X) hb3); clear hb3) | (go_at_call 59; refine (S59 _).mono ?_; rintro e w4 ⟨rfl, hb4⟩; have HB4 := hide (below_step HB3.out hb4); clear hb4) | (go_at_call 54; refine (setEnd54 b s G p0 (x.side v) (y.far v) _ (HGX.out.later HB4.out) (by omega) hm (by omega) (by omega) hsx).mono ?_; rintro e w5 ⟨rfl, s5, g5, r5⟩; have HG5 := hide g5; have HR5 := hide ((GFr.of_below HB4.out).trans r5); clear g5 r5))
        rename_i hHeld
        clear hHeld
        have c1 := HR5.out.fr.cell HD1.out HNG.out
        have TE := hide (takeEdge60 b s5 (G.setE p0 (x.side v) (y.far v)) p1 w5 HG5.out (by have := HDN.out; omega) hm HE1.out.2 HE1.out.1)
        go_wp2_with (first | (go_at_call 60; refine TE.out.mono ?_; rintro e w6 ⟨rfl, s6, g6, r6⟩; have HR6 := hide (HR5.out.trans r6); have TN := hide (takeNode61 b s6 ((G.setE p0 (x.side v) (y.far v)).takeE p1) q w6 g6 (by have := HDN.out; omega) hm (show G.ns.length ≤ 5000 by omega) hpl); clear g6 r6) | (go_at_call 61; refine TN.out.mono ?_; rintro e w7 ⟨rfl, s7, g7, r7⟩; have HR7 := hide (HR6.out.trans r7); have HG7 := hide g7; have c9 := HR7.out.fr.cell HX9.out.1 HN9.out; clear g7 r7))
        go_ret2
        exact ⟨rfl, _, HG7.out, (GFr.of_below HBX.out).trans HR7.out⟩
  · have e0 : unE G v = 2 := by unfold unE; rw [if_neg hx]
    have e1 : unG G v = G := by unfold unG; rw [e0]; rfl
    have e2 : unV G v = .tuple #[.int .i64 0, .int .i64 2] := by unfold unV; rw [e0]; rfl
    rw [e1, e2]
    rw [decide_eq_false hx] at PL
    clear e0 e1 e2 hx h
    go_enter Try.func18, Try.ntmps18
    go_wp2_with (first | (go_at_call 50; refine A.mono ?_; rintro e w' ⟨rfl, hw⟩; have hw2 := hw.symm; subst hw2) | (go_at_call 55; refine PL.mono ?_; rintro e w' ⟨rfl, hw⟩; have hw2 := hw.symm; subst hw2))
    go_ret2
    exact ⟨rfl, s, H.out, GFr.of_below (Below.refl _ _)⟩
end Go.Proofs.Ytgfiofogcnnkhaa
