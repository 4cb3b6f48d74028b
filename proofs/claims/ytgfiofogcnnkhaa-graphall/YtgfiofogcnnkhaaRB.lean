/- The document's Unsplit. -/
import Derived.Test.YtgfiofogcnnkhaaRA
import Derived.Test.YtgfiofogcnnkhaaR9
namespace Go.Proofs.Ytgfiofogcnnkhaa
open Go.RowKit Go.Sort
open Go

set_option maxRecDepth 100000 in
set_option maxHeartbeats 16000000 in
theorem rUnsplit41 (b : Nat) (V : RV) (G : Gr) (M : List (Int × Gr)) (L v : Int) (w : World) (h : RAt w b V G M L) (hn : G.ns.length ≤ 1024) (he : G.es.length ≤ 3072) (hun : Up G.ns) (hue : Up (eids G.es)) : Calls Try.prog 41 #[ptr b, .int .i64 v] w (RTurns w b V (unV G v) (unG G v) M L) := by
  have P := node76 b V G M L v w h (by omega) hun
  have HH := hide h
  by_cases hm : v ∈ G.ns
  · rw [ixI_pos hm] at P
    obtain ⟨m1, _⟩ := pl_mem hun hm
    obtain ⟨i, hi⟩ : ∃ k, pl G.ns v = k := ⟨_, rfl⟩
    rw [hi] at P m1
    obtain ⟨pn, cn, pe, ce, pm, cm, _, hV, _, _, _, _, _, _, zn, ze⟩ := h.form
    obtain ⟨_, q1, _⟩ := h.cells
    have oe := h.edg
    rw [hV] at q1 oe
    simp only at q1
    have HE := hide (own_e102 oe)
    have HQ1 : Hid (∀ X, Below w.heap.size w X → X.cell? ⟨b, 1, none⟩ = some (.slice pe G.es.length ce)) := fun X hX => later hX q1
    have HBAD : Hid (∀ X, Below w.heap.size w X → btwB G v = false → RTurns w b V (unV G v) (unG G v) M L (.returned (.tuple #[.int .i64 0, .int .i64 10])) X) := fun X hX hb => by
      have h10 : unE G v = 10 := by unfold unE; rw [if_pos hm, hb]; rfl
      exact ⟨by unfold unV; rw [h10]; rfl, V, by unfold unG; rw [h10]; exact HH.out.later hX, RFr.of_below hX⟩
    have HM := hide hm
    have j0 : ¬ (i : Int) < 0 := by omega
    clear h hV oe zn ze hm hi q1
    go_enter Try.func41, Try.ntmps41
    go_upto_region 4 with (go_at_call 76; refine P.mono ?_; rintro e w' ⟨rfl, hw⟩; have hw2 := hw.symm; subst hw2)
    clear P
    go_wp2_with fail
    go_loopw [6, 7] (fun t6 t7 wr => ∃ k : Nat, k ≤ G.es.length ∧ t7 = .int .i64 k ∧ Hid (Below w.heap.size w wr) ∧ Hid (IOwns wr w.heap.size t6 (atN G.es v k)) ∧ Hid (∀ j, j < k → ¬ ((eat G.es j).a = v ∧ (eat G.es j).b = v))) (fun _ t7 _ => G.es.length - (intOf t7).toNat)
    case atStart => exact ⟨0, by omega, rfl, Below.refl _ _, IOwns.nil _ _, fun j hj => by omega⟩
    case round =>
      obtain ⟨k, hk, rfl, HBr, HOr, HNr⟩ := hrel
      obtain ⟨p6, c6, h6, _⟩ := HOr.out.form
      subst h6
      have q1 := HQ1.out _ HBr.out
      by_cases hlt : k < G.es.length
      · rcases HE.out.later HBr.out with h0 | ⟨g, rfl, hc⟩
        · rw [h0] at hlt; simp at hlt
        obtain ⟨c0, c1, c2⟩ := hc k hlt
        clear hc
        have e1 : (k : Int) < G.es.length := by omega
        have e0 : (0 : Int) ≤ k := by omega
        have hak := atN_length G.es v k
        have HST : Hid (∀ m, m = k + 1 → atN G.es v m = atN G.es v k ++ (if (eat G.es k).a = v ∨ (eat G.es k).b = v then [(k : Int)] else [])) := by
          intro m hm; subst hm; rfl
        have HN2 : Hid (¬ ((eat G.es k).a = v ∧ (eat G.es k).b = v) → ∀ j, j < k + 1 → ¬ ((eat G.es j).a = v ∧ (eat G.es j).b = v)) := fun hn j hj => by
          by_cases hjk : j = k
          · subst hjk; exact hn
          · exact HNr.out j (by omega)
        have HBD : Hid ((eat G.es k).a = v → (eat G.es k).b = v → btwB G v = false) := fun ha hb => un_bad hlt ha hb
        generalize eat G.es k = x at c0 c1 c2 HST HN2 HBD
        by_cases ha : x.a = v
        · by_cases hb : x.b = v
          · have hbt := HBD.out ha hb
            have d1 : (x.a == v) = true := by simpa using ha
            have d2 : (x.b == v) = true := by simpa using hb
            clear HST HN2 HBD ha hb
            go_wp2_with fail
            go_ret2
            exact HBAD.out _ (below_step HBr.out (by go_grown)) hbt
          · have HT : Hid (atN G.es v (k + 1) = atN G.es v k ++ [(k : Int)]) := by show _ = _; rw [HST.out _ rfl, if_pos (Or.inl ha)]
            have HN3 := hide (HN2.out (fun z => hb z.2))
            have d1 : (x.a == v) = true := by simpa using ha
            have d2 : (x.b == v) = false := by simpa using hb
            clear HST HN2 HBD ha hb
            go_upto_region 11 with fail
            obtain ⟨W1, hW1⟩ : ∃ Z, Z = wr.alloc (.cells #[.int .i64 x.id, .int .i64 x.a, .int .i64 x.b] 102) := ⟨_, rfl⟩
            have hb1 : Below wr.heap.size wr W1 := by rw [hW1]; go_grown
            have HB1 := hide (below_step HBr.out hb1)
            have HO1 := hide (HOr.out.later hb1)
            rw [← hW1]
            clear hW1 hb1 d1 d2 c0 c1 c2 q1
            obtain ⟨p7, c7, D, e7, o7, gr7⟩ := push_int (x := (k : Int)) HO1.out HB1.out.size (by omega)
            have HO7 := hide o7
            have HB7 := hide (below_grown HB1.out HO1.out (Nat.le_refl _) HB1.out.size gr7)
            clear o7 gr7
            go_wp2_with (at_builtin; refine wpList_run_append rfl (.tmp 55) (.tmp 57) 38 rfl 38 rfl _ _ _ D rfl rfl e7 ?_)
            go_roundw
            case rel => exact ⟨k + 1, by omega, by go_num, HB7.out, by show IOwns _ _ _ _; rw [HT.out]; exact HO7.out, HN3.out⟩
            case measure => simp [intOf]; omega
        · by_cases hb : x.b = v
          · have HT : Hid (atN G.es v (k + 1) = atN G.es v k ++ [(k : Int)]) := by show _ = _; rw [HST.out _ rfl, if_pos (Or.inr hb)]
            have HN3 := hide (HN2.out (fun z => ha z.1))
            have d1 : (x.a == v) = false := by simpa using ha
            have d2 : (x.b == v) = true := by simpa using hb
            clear HST HN2 HBD ha hb
            go_upto_region 11 with fail
            obtain ⟨W1, hW1⟩ : ∃ Z, Z = wr.alloc (.cells #[.int .i64 x.id, .int .i64 x.a, .int .i64 x.b] 102) := ⟨_, rfl⟩
            have hb1 : Below wr.heap.size wr W1 := by rw [hW1]; go_grown
            have HB1 := hide (below_step HBr.out hb1)
            have HO1 := hide (HOr.out.later hb1)
            rw [← hW1]
            clear hW1 hb1 d1 d2 c0 c1 c2 q1
            obtain ⟨p7, c7, D, e7, o7, gr7⟩ := push_int (x := (k : Int)) HO1.out HB1.out.size (by omega)
            have HO7 := hide o7
            have HB7 := hide (below_grown HB1.out HO1.out (Nat.le_refl _) HB1.out.size gr7)
            clear o7 gr7
            go_wp2_with (at_builtin; refine wpList_run_append rfl (.tmp 55) (.tmp 57) 38 rfl 38 rfl _ _ _ D rfl rfl e7 ?_)
            go_roundw
            case rel => exact ⟨k + 1, by omega, by go_num, HB7.out, by show IOwns _ _ _ _; rw [HT.out]; exact HO7.out, HN3.out⟩
            case measure => simp [intOf]; omega
          · have HT : Hid (atN G.es v (k + 1) = atN G.es v k) := by show _ = _; rw [HST.out _ rfl, if_neg (fun z => z.elim ha hb), List.append_nil]
            have HN3 := hide (HN2.out (fun z => ha z.1))
            have d1 : (x.a == v) = false := by simpa using ha
            have d2 : (x.b == v) = false := by simpa using hb
            clear HST HN2 HBD ha hb
            go_wp2_with fail
            have hb1 : Below wr.heap.size wr (wr.alloc (.cells #[.int .i64 x.id, .int .i64 x.a, .int .i64 x.b] 102)) := by go_grown
            go_roundw
            case rel => exact ⟨k + 1, by omega, by go_num, below_step HBr.out hb1, by show IOwns _ _ _ _; rw [HT.out]; exact HOr.out.later hb1, HN3.out⟩
            case measure => simp [intOf]; omega
      · have hke : k = G.es.length := by omega
        subst hke
        by_cases h2 : (plAt G v).length = 2
        · obtain ⟨p0, p1, hp, h01, h1l⟩ := plAt_two h2
          have t0m : (p0 : Int) ∈ plAt G v := by rw [hp]; simp
          have t1m : (p1 : Int) ∈ plAt G v := by rw [hp]; simp
          have ht0 : (eat G.es p0).a = v ∨ (eat G.es p0).b = v := by
            obtain ⟨j, _, hj, ht⟩ := atN_mem.1 t0m
            have hj2 : p0 = j := by omega
            rw [hj2]
            exact ht
          have ht1 : (eat G.es p1).a = v ∨ (eat G.es p1).b = v := by
            obtain ⟨j, _, hj, ht⟩ := atN_mem.1 t1m
            have hj2 : p1 = j := by omega
            rw [hj2]
            exact ht
          have hne : ∀ z : Ed, (z.a = v ∨ z.b = v) → ¬ (z.a = v ∧ z.b = v) → z.a ≠ z.b := fun z h1 h2 e => h1.elim (fun h => h2 ⟨h, e ▸ h⟩) (fun h => h2 ⟨e.trans h, h⟩)
          have hx := hne _ ht0 (HNr.out p0 (by omega))
          have hy := hne _ ht1 (HNr.out p1 h1l)
          have HU := hide (un_core hue HM.out hp h01 h1l hx hy)
          have hbt : btwB G v = true := by unfold btwB; rw [hp]; simp [iat, hx, hy]
          have hu0 : un0 G v = p0 := by unfold un0; rw [hp]; rfl
          have hu1 : un1 G v = p1 := by unfold un1; rw [hp]; rfl
          have h00 : unE G v = 0 := by unfold unE; rw [if_pos HM.out, if_pos hbt]
          have HFIN : Hid (∀ U V', RAt U b V' (drG ((unH G v p0 p1).takeE p1) v) M L → RFr w U b V V' → RTurns w b V (unV G v) (unG G v) M L (.returned (.tuple #[.int .i64 (eat G.es p0).id, .int .i64 0])) U) := fun U V' hU hR => by
            refine ⟨by unfold unV; rw [if_pos h00, hu0], V', ?_, hR⟩
            unfold unG
            rw [if_pos h00]
            unfold unD
            rw [hu0, hu1]
            rw [HU.out.2.2.2.2] at hU
            exact hU.core rfl rfl rfl rfl
          have CE : Hid (∀ U V', RAt U b V' (unH G v p0 p1) M L → Calls Try.prog 39 #[ptr b, .int .i64 (eat G.es p1).id] U (RTurns U b V' (.int .i64 0) ((unH G v p0 p1).takeE p1) M L)) := fun U V' hU => by
            have c := rDropEdge39 b V' (unH G v p0 p1) M L (eat G.es p1).id U hU (by rw [HU.out.2.1]; exact he) HU.out.1
            rw [HU.out.2.2.1, HU.out.2.2.2.1] at c
            exact c
          obtain ⟨dv, hdv⟩ : ∃ dv, dv = drV ((unH G v p0 p1).takeE p1) v := ⟨_, rfl⟩
          have CN : Hid (∀ U V', RAt U b V' ((unH G v p0 p1).takeE p1) M L → Calls Try.prog 38 #[ptr b, .int .i64 v] U (RTurns U b V' dv (drG ((unH G v p0 p1).takeE p1) v) M L)) := fun U V' hU => by
            rw [hdv]
            exact rDropNode38 b V' _ M L v U hU hn (Nat.le_trans (List.length_eraseIdx_le _ _) (by rw [HU.out.2.1]; exact he)) hun
          clear hdv hbt hu0 hu1 h00 hne t0m t1m ht0 ht1 hx hy
          have hp' : atN G.es v G.es.length = [(p0 : Int), (p1 : Int)] := hp
          rw [hp'] at HOr ⊢
          obtain ⟨gp, hgp, hgs, hgl⟩ := own_some HOr.out (by simp)
          have IL : ILies wr gp 0 [(p0 : Int), (p1 : Int)] := by
            rcases own_ihas HOr.out with h0 | ⟨g', o', h1, h2⟩
            · cases h0
            · rw [hgp] at h1; cases h1; exact h2
          subst hgp
          have d0 : wr.cell? ⟨gp, 0, none⟩ = some (.int .i64 p0) := IL 0 (by simp)
          have d1 : wr.cell? ⟨gp, 1, none⟩ = some (.int .i64 p1) := IL 1 (by simp)
          obtain ⟨g, cg, hve, hq, _, _, _, _⟩ := (HH.out.later HBr.out).edge h1l
          rw [q1] at hq
          simp only [Option.some.injEq, Value.slice.injEq, true_and] at hq
          obtain ⟨rfl, rfl⟩ := hq
          have HPUT : Hid (∀ U, Below w.heap.size w U → RAt (U.setCell ⟨g, p0 * 3 + 1 + (eat G.es p0).side v, none⟩ (.int .i64 ((eat G.es p1).far v))) b V (unH G v p0 p1) M L ∧ RFr U (U.setCell ⟨g, p0 * 3 + 1 + (eat G.es p0).side v, none⟩ (.int .i64 ((eat G.es p1).far v))) b V V) := fun U hU => (HH.out.later hU).putE hve p0 _ _ (by omega) (side_lt _ _)
          have HXC : Hid (∀ U, Below w.heap.size w U → U.cell? ⟨g, p0 * 3, none⟩ = some (.int .i64 (eat G.es p0).id) ∧ U.cell? ⟨g, p0 * 3 + 1, none⟩ = some (.int .i64 (eat G.es p0).a) ∧ U.cell? ⟨g, p0 * 3 + 2, none⟩ = some (.int .i64 (eat G.es p0).b)) := fun U hU => by
            obtain ⟨g2, c2, hv2, _, hc2, _⟩ := (HH.out.later hU).edge (show p0 < G.es.length by omega)
            rw [hve] at hv2
            simp only [Value.slice.injEq, Option.some.injEq, Addr.mk.injEq, true_and, and_true] at hv2
            rw [hv2.1]
            exact hc2
          have HFZ : Hid (∀ U, Below w.heap.size w U → ∀ o, U.frozen? ⟨g, o, none⟩ = false) := fun U hU o => by
            obtain ⟨g2, c2, hv2, _, _, hf2, _⟩ := (HH.out.later hU).edge h1l
            rw [hve] at hv2
            simp only [Value.slice.injEq, Option.some.injEq, Addr.mk.injEq, true_and, and_true] at hv2
            rw [hv2.1]
            exact hf2 o
          obtain ⟨y0, y1, y2⟩ : wr.cell? ⟨g, p1 * 3, none⟩ = some (.int .i64 (eat G.es p1).id) ∧ wr.cell? ⟨g, p1 * 3 + 1, none⟩ = some (.int .i64 (eat G.es p1).a) ∧ wr.cell? ⟨g, p1 * 3 + 2, none⟩ = some (.int .i64 (eat G.es p1).b) := by
            obtain ⟨g2, c2, hv2, _, hc2, _⟩ := (HH.out.later HBr.out).edge h1l
            rw [hve] at hv2
            simp only [Value.slice.injEq, Option.some.injEq, Addr.mk.injEq, true_and, and_true] at hv2
            rw [hv2.1]
            exact hc2
          generalize eat G.es p0 = x at HXC HPUT HFIN
          generalize eat G.es p1 = y at y0 y1 y2 HPUT CE
          have HS1 : Hid (∀ U, Below wr.heap.size wr U → U.cell? ⟨b, 1, none⟩ = some (.slice (some ⟨g, 0, none⟩) G.es.length ce) ∧ U.cell? ⟨gp, 1, none⟩ = some (.int .i64 p1) ∧ U.cell? ⟨g, p1 * 3, none⟩ = some (.int .i64 y.id) ∧ U.cell? ⟨g, p1 * 3 + 1, none⟩ = some (.int .i64 y.a) ∧ U.cell? ⟨g, p1 * 3 + 2, none⟩ = some (.int .i64 y.b)) := fun U hU => ⟨later hU q1, later hU d1, later hU y0, later hU y1, later hU y2⟩
          have i0 : (0 : Int) ≤ p0 := by omega
          have i1 : (0 : Int) ≤ p1 := by omega
          have i2 : (p0 : Int) < G.es.length := by omega
          have i3 : (p1 : Int) < G.es.length := by omega
          clear IL hp hp' h2 hve HNr hlt hk HE HQ1 HBAD HU HM HH
          go_upto_region 14 with fail
          go_region_held3 (fun U => U.cell? ⟨b, 1, none⟩ = some (.slice (some ⟨g, 0, none⟩) G.es.length ce) ∧ U.cell? ⟨gp, 1, none⟩ = some (.int .i64 p1) ∧ U.cell? ⟨g, p1 * 3, none⟩ = some (.int .i64 y.id) ∧ U.cell? ⟨g, p1 * 3 + 1, none⟩ = some (.int .i64 y.a) ∧ U.cell? ⟨g, p1 * 3 + 2, none⟩ = some (.int .i64 y.b)) (first | exact HS1.out _ (Below.refl _ _) | exact HS1.out _ (by go_grown)) (fail)
          rename_i hHeld
          clear hHeld
          obtain ⟨X, hX⟩ : ∃ X, X = (wr.alloc (.cells #[.int .i64 y.id, .int .i64 y.a, .int .i64 y.b] 102)).drew := ⟨_, rfl⟩
          have hbX : Below wr.heap.size wr X := by rw [hX]; go_grown
          obtain ⟨k0, k1, k2⟩ : X.cell? ⟨wr.heap.size, 0, none⟩ = some (.int .i64 y.id) ∧ X.cell? ⟨wr.heap.size, 1, none⟩ = some (.int .i64 y.a) ∧ X.cell? ⟨wr.heap.size, 2, none⟩ = some (.int .i64 y.b) := by
            rw [hX]
            exact ⟨by go_cell, by go_cell, by go_cell⟩
          rw [← hX]
          obtain ⟨kA, hkA⟩ : ∃ k, wr.heap.size = k := ⟨_, rfl⟩
          rw [hkA] at k0 k1 k2 ⊢
          have HBX := hide (below_step HBr.out hbX)
          have HS2 : Hid (∀ U, Below X.heap.size X U → U.cell? ⟨b, 1, none⟩ = some (.slice (some ⟨g, 0, none⟩) G.es.length ce) ∧ U.cell? ⟨gp, 0, none⟩ = some (.int .i64 p0)) := fun U hU => ⟨later (below_step hbX hU) q1, later (below_step hbX hU) d0⟩
          have HK : Hid (∀ U, Below X.heap.size X U → U.cell? ⟨kA, 0, none⟩ = some (.int .i64 y.id) ∧ U.cell? ⟨kA, 1, none⟩ = some (.int .i64 y.a) ∧ U.cell? ⟨kA, 2, none⟩ = some (.int .i64 y.b)) := fun U hU => ⟨later hU k0, later hU k1, later hU k2⟩
          have ngk : g ≠ kA := by
            have hgw := block_lt_of_cell y0
            omega
          clear hX hbX q1 d0 d1 y0 y1 y2 HS1 hkA HBr HOr
          by_cases hya : y.a = v
          · by_cases hxa : x.a = v
            · skip
              have dy : (y.a == v) = true := by simpa using hya
              have dx : (x.a == v) = true := by simpa using hxa
              have HSD : Hid (x.side v = 0 ∧ y.far v = y.b) := by show _ ∧ _; unfold Ed.side Ed.far; exact ⟨if_pos hxa, if_pos hya⟩
              clear hya hxa
              go_upto_region 18 with fail
              go_region_held3 (fun U => U.cell? ⟨b, 1, none⟩ = some (.slice (some ⟨g, 0, none⟩) G.es.length ce) ∧ U.cell? ⟨gp, 0, none⟩ = some (.int .i64 p0)) (first | exact HS2.out _ (Below.refl _ _) | exact HS2.out _ (below_drew _)) (fail)
              rename_i hHeld
              clear hHeld
              obtain ⟨Z, hZ⟩ : ∃ Z, Z = X.drew := ⟨_, rfl⟩
              have hbZ : Below X.heap.size X Z := by rw [hZ]; exact below_drew _
              rw [← hZ]
              clear hZ
              have HBZ := hide (below_step HBX.out hbZ)
              obtain ⟨t0, t1, t2⟩ := HK.out Z hbZ
              obtain ⟨s0, s1, s2⟩ := HXC.out Z HBZ.out
              have ff := HFZ.out Z HBZ.out (p0 * 3 + 1)
              have HN := hide (HPUT.out Z HBZ.out)
              rw [HSD.out.1, HSD.out.2] at HN
              clear hbZ k0 k1 k2
              go_wp2_with (first | (go_at_call 39; refine (CE.out _ _ HN.out.1).mono ?_; rintro e w5 ⟨rfl, V5, g5, r5⟩; have HG5 := hide g5; have HR5 := hide r5; clear g5 r5) | (go_at_call 38; refine (CN.out _ _ HG5.out).mono ?_; rintro e w6 ⟨rfl, V6, g6, r6⟩; have HG6 := hide g6; have HR6 := hide r6; clear g6 r6))
              go_ret2
              exact HFIN.out _ _ HG6.out (((RFr.of_below HBZ.out).trans HN.out.2).trans (HR5.out.trans HR6.out))
            · skip
              have dy : (y.a == v) = true := by simpa using hya
              have dx : (x.a == v) = false := by simpa using hxa
              have HSD : Hid (x.side v = 1 ∧ y.far v = y.b) := by show _ ∧ _; unfold Ed.side Ed.far; exact ⟨if_neg hxa, if_pos hya⟩
              clear hya hxa
              go_upto_region 18 with fail
              go_region_held3 (fun U => U.cell? ⟨b, 1, none⟩ = some (.slice (some ⟨g, 0, none⟩) G.es.length ce) ∧ U.cell? ⟨gp, 0, none⟩ = some (.int .i64 p0)) (first | exact HS2.out _ (Below.refl _ _) | exact HS2.out _ (below_drew _)) (fail)
              rename_i hHeld
              clear hHeld
              obtain ⟨Z, hZ⟩ : ∃ Z, Z = X.drew := ⟨_, rfl⟩
              have hbZ : Below X.heap.size X Z := by rw [hZ]; exact below_drew _
              rw [← hZ]
              clear hZ
              have HBZ := hide (below_step HBX.out hbZ)
              obtain ⟨t0, t1, t2⟩ := HK.out Z hbZ
              obtain ⟨s0, s1, s2⟩ := HXC.out Z HBZ.out
              have ff := HFZ.out Z HBZ.out (p0 * 3 + 2)
              have HN := hide (HPUT.out Z HBZ.out)
              rw [HSD.out.1, HSD.out.2] at HN
              clear hbZ k0 k1 k2
              go_wp2_with (first | (go_at_call 39; refine (CE.out _ _ HN.out.1).mono ?_; rintro e w5 ⟨rfl, V5, g5, r5⟩; have HG5 := hide g5; have HR5 := hide r5; clear g5 r5) | (go_at_call 38; refine (CN.out _ _ HG5.out).mono ?_; rintro e w6 ⟨rfl, V6, g6, r6⟩; have HG6 := hide g6; have HR6 := hide r6; clear g6 r6))
              go_ret2
              exact HFIN.out _ _ HG6.out (((RFr.of_below HBZ.out).trans HN.out.2).trans (HR5.out.trans HR6.out))
          · by_cases hxa : x.a = v
            · skip
              have dy : (y.a == v) = false := by simpa using hya
              have dx : (x.a == v) = true := by simpa using hxa
              have HSD : Hid (x.side v = 0 ∧ y.far v = y.a) := by show _ ∧ _; unfold Ed.side Ed.far; exact ⟨if_pos hxa, if_neg hya⟩
              clear hya hxa
              go_upto_region 18 with fail
              go_region_held3 (fun U => U.cell? ⟨b, 1, none⟩ = some (.slice (some ⟨g, 0, none⟩) G.es.length ce) ∧ U.cell? ⟨gp, 0, none⟩ = some (.int .i64 p0)) (first | exact HS2.out _ (Below.refl _ _) | exact HS2.out _ (below_drew _)) (fail)
              rename_i hHeld
              clear hHeld
              obtain ⟨Z, hZ⟩ : ∃ Z, Z = X.drew := ⟨_, rfl⟩
              have hbZ : Below X.heap.size X Z := by rw [hZ]; exact below_drew _
              rw [← hZ]
              clear hZ
              have HBZ := hide (below_step HBX.out hbZ)
              obtain ⟨t0, t1, t2⟩ := HK.out Z hbZ
              obtain ⟨s0, s1, s2⟩ := HXC.out Z HBZ.out
              have ff := HFZ.out Z HBZ.out (p0 * 3 + 1)
              have HN := hide (HPUT.out Z HBZ.out)
              rw [HSD.out.1, HSD.out.2] at HN
              clear hbZ k0 k1 k2
              go_wp2_with (first | (go_at_call 39; refine (CE.out _ _ HN.out.1).mono ?_; rintro e w5 ⟨rfl, V5, g5, r5⟩; have HG5 := hide g5; have HR5 := hide r5; clear g5 r5) | (go_at_call 38; refine (CN.out _ _ HG5.out).mono ?_; rintro e w6 ⟨rfl, V6, g6, r6⟩; have HG6 := hide g6; have HR6 := hide r6; clear g6 r6))
              go_ret2
              exact HFIN.out _ _ HG6.out (((RFr.of_below HBZ.out).trans HN.out.2).trans (HR5.out.trans HR6.out))
            · skip
              have dy : (y.a == v) = false := by simpa using hya
              have dx : (x.a == v) = false := by simpa using hxa
              have HSD : Hid (x.side v = 1 ∧ y.far v = y.a) := by show _ ∧ _; unfold Ed.side Ed.far; exact ⟨if_neg hxa, if_neg hya⟩
              clear hya hxa
              go_upto_region 18 with fail
              go_region_held3 (fun U => U.cell? ⟨b, 1, none⟩ = some (.slice (some ⟨g, 0, none⟩) G.es.length ce) ∧ U.cell? ⟨gp, 0, none⟩ = some (.int .i64 p0)) (first | exact HS2.out _ (Below.refl _ _) | exact HS2.out _ (below_drew _)) (fail)
              rename_i hHeld
              clear hHeld
              obtain ⟨Z, hZ⟩ : ∃ Z, Z = X.drew := ⟨_, rfl⟩
              have hbZ : Below X.heap.size X Z := by rw [hZ]; exact below_drew _
              rw [← hZ]
              clear hZ
              have HBZ := hide (below_step HBX.out hbZ)
              obtain ⟨t0, t1, t2⟩ := HK.out Z hbZ
              obtain ⟨s0, s1, s2⟩ := HXC.out Z HBZ.out
              have ff := HFZ.out Z HBZ.out (p0 * 3 + 2)
              have HN := hide (HPUT.out Z HBZ.out)
              rw [HSD.out.1, HSD.out.2] at HN
              clear hbZ k0 k1 k2
              go_wp2_with (first | (go_at_call 39; refine (CE.out _ _ HN.out.1).mono ?_; rintro e w5 ⟨rfl, V5, g5, r5⟩; have HG5 := hide g5; have HR5 := hide r5; clear g5 r5) | (go_at_call 38; refine (CN.out _ _ HG5.out).mono ?_; rintro e w6 ⟨rfl, V6, g6, r6⟩; have HG6 := hide g6; have HR6 := hide r6; clear g6 r6))
              go_ret2
              exact HFIN.out _ _ HG6.out (((RFr.of_below HBZ.out).trans HN.out.2).trans (HR5.out.trans HR6.out))
        · have hbt : btwB G v = false := by unfold btwB; rw [decide_eq_false h2]; rfl
          have h2' : (atN G.es v G.es.length).length ≠ 2 := h2
          obtain ⟨n6, hn6⟩ : ∃ n, (atN G.es v G.es.length).length = n := ⟨_, rfl⟩
          rw [hn6] at h2' ⊢
          have d6 : ((n6 : Int) != 2) = true := by simp; omega
          clear hn6 h2 h2'
          go_wp2_with fail
          go_ret2
          exact HBAD.out _ HBr.out hbt
  · have h2 : unE G v = 2 := if_neg hm
    have HX : Hid (unV G v = .tuple #[.int .i64 0, .int .i64 2] ∧ unG G v = G) := by unfold unV unG; rw [h2]; exact ⟨rfl, rfl⟩
    have hix : ixI G.ns v = -1 := if_neg hm
    rw [hix] at P
    clear h hix hm hun hue h2
    go_enter Try.func41, Try.ntmps41
    go_wp2_with (go_at_call 76; refine P.mono ?_; rintro e w' ⟨rfl, hw⟩; have hw2 := hw.symm; subst hw2)
    go_ret2
    exact ⟨by rw [HX.out.1]; rfl, V, by rw [HX.out.2]; exact HH.out, RFr.of_below (Below.refl _ _)⟩
end Go.Proofs.Ytgfiofogcnnkhaa
