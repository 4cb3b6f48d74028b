/- The document's Split, Edges, Mark. -/
import Derived.Test.YtgfiofogcnnkhaaR4
namespace Go.Proofs.Ytgfiofogcnnkhaa
open Go.RowKit Go.Sort
open Go

set_option maxRecDepth 100000 in
set_option maxHeartbeats 8000000 in
theorem rSplit40 (b : Nat) (V : RV) (G : Gr) (M : List (Int × Gr)) (L e N : Int) (w : World) (h : RAt w b V G M L) (hF : Fine N G) (hN : N ≤ 100000000) : Calls Try.prog 40 #[ptr b, .int .i64 e] w (RTurns w b V (splV G e) (splG G e) M L) := by
  have P := edge78 b V G M L e w h (by have := hF.le; omega) hF.ue
  have HH := hide h
  obtain ⟨pn, cn, pe, ce, pm, cm, _, hV, _⟩ := h.form
  have q0 : w.cell? ⟨b, 0, none⟩ = some (.slice pn G.ns.length cn) := by have := h.cells.1; rw [hV] at this; exact this
  have q1 : w.cell? ⟨b, 1, none⟩ = some (.slice pe G.es.length ce) := by have := h.cells.2.1; rw [hV] at this; exact this
  have hl := hF.ln
  have hle := hF.le
  by_cases hm : e ∈ eids G.es
  · rw [ixI_pos hm] at P
    obtain ⟨m1, m2⟩ := pl_mem hF.ue hm
    rw [eids_length] at m1
    obtain ⟨k, hk⟩ : ∃ k, pl (eids G.es) e = k := ⟨_, rfl⟩
    rw [hk] at P m1
    have i0 : (0 : Int) ≤ k := by omega
    have i1 : (k : Int) < G.es.length := by omega
    have i2 : ¬ (k : Int) < 0 := by omega
    by_cases hf : 1024 ≤ G.ns.length ∨ 3072 ≤ G.es.length
    · have e0 : splE G e = 3 := by unfold splE; rw [if_pos hm, if_pos hf]
      have e1 : splG G e = G := by unfold splG; rw [e0]; rfl
      have e2 : splV G e = .tuple #[.int .i64 0, .int .i64 0, .int .i64 3] := by unfold splV; rw [e0]; rfl
      rw [e1, e2]
      by_cases hf1 : 1024 ≤ G.ns.length
      · have d1 : ((G.ns.length : Int) == 1024) = true := by rw [beq_iff_eq]; omega
        clear h hV hF hm m2 hk e0 e1 e2 hf
        go_enter Try.func40, Try.ntmps40
        go_wp2_with (go_at_call 78; refine P.mono ?_; rintro e w' ⟨rfl, hw⟩; have hw2 := hw.symm; subst hw2)
        refine bodyPost_ret (results_TTT Try.results40 _ _ _) rfl ⟨rfl, V, HH.out, RFr.of_below (Below.refl _ _)⟩
      · have d1 : ((G.ns.length : Int) == 1024) = false := by rw [beq_eq_false_iff_ne]; omega
        have d2 : ((G.es.length : Int) == 3072) = true := by rw [beq_iff_eq]; omega
        clear h hV hF hm m2 hk e0 e1 e2 hf
        go_enter Try.func40, Try.ntmps40
        go_wp2_with (go_at_call 78; refine P.mono ?_; rintro e w' ⟨rfl, hw⟩; have hw2 := hw.symm; subst hw2)
        refine bodyPost_ret (results_TTT Try.results40 _ _ _) rfl ⟨rfl, V, HH.out, RFr.of_below (Below.refl _ _)⟩
    · have e0 : splE G e = 0 := by unfold splE; rw [if_pos hm, if_neg hf]
      have e1 : splG G e = splD G e := by unfold splG; rw [e0]; rfl
      have e2 : splV G e = .tuple #[.int .i64 G.nn, .int .i64 G.ne, .int .i64 0] := by unfold splV; rw [e0]; rfl
      rw [e1, e2]
      have d1 : ((G.ns.length : Int) == 1024) = false := by rw [beq_eq_false_iff_ne]; omega
      have d2 : ((G.es.length : Int) == 3072) = false := by rw [beq_eq_false_iff_ne]; omega
      have A1 : Hid (Calls Try.prog 36 #[ptr b] w (RTurns w b V (.tuple #[.int .i64 G.nn, .int .i64 0]) G.layN M L)) := by
        have := rAddNode36 b V G M L w h hF.ln hF.n1 (by have := hF.n2; omega)
        rw [show addN G = G.layN from if_neg (by omega), show addNv G = .tuple #[.int .i64 G.nn, .int .i64 0] from if_neg (by omega)] at this
        exact this
      obtain ⟨G2, hG2⟩ : ∃ G2 : Gr, G2 = { G.layN with es := G.es.set k ((eat G.es k).put 1 G.nn) } := ⟨_, rfl⟩
      have hF2 : Fine (N + 1) G2 := by
        have := (hF.layN (by omega)).setE (p := k) 1 (v := G.nn) m1 (List.mem_append_right _ (List.mem_singleton.2 rfl))
        rw [hG2]
        exact ⟨this.un, this.ue, this.ln, this.le, this.bn, this.be, this.n1, this.n2, this.e1, this.e2⟩
      obtain ⟨xb, hxb⟩ : ∃ x, (eat G.es k).b = x := ⟨_, rfl⟩
      have hmb : xb ∈ G2.ns := by rw [hG2, ← hxb]; exact List.mem_append_left _ (hF.be _ (eat_mem m1)).2.2.2
      have hmn : G.nn ∈ G2.ns := by rw [hG2]; exact List.mem_append_right _ (List.mem_singleton.2 rfl)
      have hl2 : G2.es.length = G.es.length := by rw [hG2]; exact List.length_set
      have he2 : addEe G2 G.nn xb = 0 := by unfold addEe; rw [if_pos ⟨hmn, hmb⟩, if_neg (by rw [hl2]; omega)]
      have A2 : Hid (∀ W V', RAt W b V' G2 M L → Calls Try.prog 37 #[ptr b, .int .i64 G.nn, .int .i64 xb] W (RTurns W b V' (.tuple #[.int .i64 G.ne, .int .i64 0]) (G2.layE G.nn xb) M L)) := fun W V' hW => by
        have := rAddEdge37 b V' G2 M L G.nn xb W hW hF2.le hF2.ln hF2.un hF2.e1 (by have := hF2.e2; omega)
        have hne : G2.ne = G.ne := by rw [hG2]; rfl
        rw [show addE G2 G.nn xb = G2.layE G.nn xb from by unfold addE; rw [he2]; rfl, show addEv G2 G.nn xb = .tuple #[.int .i64 G.ne, .int .i64 0] from by unfold addEv; rw [he2, hne]; rfl] at this
        exact this
      have HEND : Hid (∀ W V', RAt W b V' (G2.layE G.nn xb) M L → RAt W b V' (splD G e) M L) := fun W V' hW => by
        refine hW.core ?_ ?_ ?_ ?_
        · rw [hG2]; unfold splD; rfl
        · rw [hG2]; unfold splD; rw [hk, hxb]; rfl
        · rw [hG2]; unfold splD; rfl
        · rw [hG2]; unfold splD; rfl
      have HPUT : Hid (∀ W V', RAt W b V' G.layN M L → ∃ g c, W.cell? ⟨b, 1, none⟩ = some (.slice (some ⟨g, 0, none⟩) G.es.length c) ∧ W.cell? ⟨g, k * 3 + 2, none⟩ = some (.int .i64 xb) ∧ W.frozen? ⟨g, k * 3 + 2, none⟩ = false ∧ g ≠ b ∧ RAt (W.setCell ⟨g, k * 3 + 2, none⟩ (.int .i64 G.nn)) b V' G2 M L ∧ RFr W (W.setCell ⟨g, k * 3 + 2, none⟩ (.int .i64 G.nn)) b V' V') := fun W V' hW => by
        obtain ⟨g, c, hv, q1, ⟨_, _, c2⟩, fz, hgb, _⟩ := hW.edge (k := k) m1
        obtain ⟨g2, r2⟩ := hW.putE hv k 1 G.nn m1 (by omega)
        have c2' : W.cell? ⟨g, k * 3 + 2, none⟩ = some (.int .i64 (eat G.es k).b) := c2
        rw [hxb] at c2'
        exact ⟨g, c, q1, c2', fz _, hgb, by rw [hG2]; exact g2, r2⟩
      clear h hV hm m2 hk e0 e1 e2 hf hF hG2 hF2 hxb hmb hmn hl2 he2 HH
      go_enter Try.func40, Try.ntmps40
      go_upto_region 7 with (first | (go_at_call 78; refine P.mono ?_; rintro e w' ⟨rfl, hw⟩; have hw2 := hw.symm; subst hw2) | (go_at_call 36; refine A1.out.mono ?_; rintro e w2 ⟨rfl, V2, h1, h2⟩; have HG := hide h1; have HR := hide h2; clear h1 h2))
      clear q0 q1 P
      obtain ⟨g, c, q1, c2, f2, hgb, g2, r2⟩ := HPUT.out _ _ HG.out
      obtain ⟨Y, hY⟩ : ∃ Y, Y = w2.setCell ⟨g, k * 3 + 2, none⟩ (.int .i64 G.nn) := ⟨_, rfl⟩
      rw [← hY] at g2 r2
      have HG2 := hide g2
      have HR2 := hide (HR.out.trans r2)
      have A3 := hide (A2.out _ _ HG2.out)
      clear g2 r2
      go_upto_region 9 with fail
      rw [← hY]
      clear hY q1 c2 f2 A1 A2 HPUT
      go_wp2_with (go_at_call 37; refine A3.out.mono ?_; rintro e w3 ⟨rfl, V3, h1, h2⟩; have HG3 := hide (HEND.out _ _ h1); have HR3 := hide (HR2.out.trans h2); clear h1 h2)
      refine bodyPost_ret (results_TTT Try.results40 _ _ _) rfl ⟨rfl, _, HG3.out, HR3.out⟩
  · have hix : ixI (eids G.es) e = -1 := if_neg hm
    rw [hix] at P
    have e0 : splE G e = 2 := if_neg hm
    have e1 : splG G e = G := by unfold splG; rw [e0]; rfl
    have e2 : splV G e = .tuple #[.int .i64 0, .int .i64 0, .int .i64 2] := by unfold splV; rw [e0]; rfl
    rw [e1, e2]
    clear h hV hix hm hF e0 e1 e2 q0 q1
    go_enter Try.func40, Try.ntmps40
    go_wp2_with (go_at_call 78; refine P.mono ?_; rintro e w' ⟨rfl, hw⟩; have hw2 := hw.symm; subst hw2)
    refine bodyPost_ret (results_TTT Try.results40 _ _ _) rfl ⟨rfl, V, HH.out, RFr.of_below (Below.refl _ _)⟩
/-- The ids of the edges at v among the first k. -/
def rE (l : List Ed) (v : Int) : Nat → List Int
  | 0 => []
  | k + 1 => rE l v k ++ (if (eat l k).a = v ∨ (eat l k).b = v then [(eat l k).id] else [])
theorem rE_length (l : List Ed) (v : Int) : ∀ k, (rE l v k).length ≤ k
  | 0 => Nat.le_refl _
  | k + 1 => by
    have := rE_length l v k
    simp only [rE, List.length_append]
    split <;> simp <;> omega
set_option maxRecDepth 100000 in
set_option maxHeartbeats 8000000 in
theorem rEdges79 (b : Nat) (V : RV) (G : Gr) (M : List (Int × Gr)) (L v : Int) (w : World) (h : RAt w b V G M L) (hl : G.es.length ≤ 5000) : Calls Try.prog 79 #[ptr b, .int .i64 v] w fun e w' => ∃ p c, e = .returned (.slice p (rE G.es v G.es.length).length c) ∧ IOwns w' w.heap.size (.slice p (rE G.es v G.es.length).length c) (rE G.es v G.es.length) ∧ Below w.heap.size w w' := by
  obtain ⟨_, q1, _⟩ := h.cells
  obtain ⟨pn, cn, pe, ce, pm, cm, _, hV, _⟩ := h.form
  have hn := h.edg
  rw [hV] at q1 hn
  have HE := hide (own_e102 hn)
  simp only at q1
  have Q1 := hide q1
  clear h hV hn
  go_enter Try.func79, Try.ntmps79
  go_wp2
  clear q1
  go_loopw [5, 6] (fun t5 t6 wr => ∃ k : Nat, k ≤ G.es.length ∧ t6 = .int .i64 k ∧ Hid (Below w.heap.size w wr) ∧ Hid (IOwns wr w.heap.size t5 (rE G.es v k))) (fun _ t6 _ => G.es.length - (intOf t6).toNat)
  case atStart => exact ⟨0, by omega, rfl, Below.refl _ _, IOwns.nil _ _⟩
  case round =>
    obtain ⟨k, hk, rfl, HBr, HOr⟩ := hrel
    obtain ⟨p5, c5, h5, _⟩ := HOr.out.form
    subst h5
    have q1 := later HBr.out Q1.out
    by_cases hlt : k < G.es.length
    · rcases HE.out.later HBr.out with h | ⟨g, rfl, hc⟩
      · rw [h] at hlt; simp at hlt
      obtain ⟨c0, c1, c2⟩ := hc k hlt
      clear hc
      have e1 : (k : Int) < G.es.length := by omega
      have e0 : (0 : Int) ≤ k := by omega
      have hak := rE_length G.es v k
      have HST : Hid (∀ m, m = k + 1 → rE G.es v m = rE G.es v k ++ (if (eat G.es k).a = v ∨ (eat G.es k).b = v then [(eat G.es k).id] else [])) := by
        intro m hm; subst hm; rfl
      generalize eat G.es k = x at c0 c1 c2 HST
      by_cases ht : x.a = v ∨ x.b = v
      · have HT : Hid (rE G.es v (k + 1) = rE G.es v k ++ [x.id]) := by show _ = _; rw [HST.out _ rfl, if_pos ht]
        obtain ⟨p6, c6, D, e6, o6, gr6⟩ := push_int (x := x.id) HOr.out HBr.out.size (by omega)
        have HO6 := hide o6
        have HB6 := hide (below_grown HBr.out HOr.out (Nat.le_refl _) HBr.out.size gr6)
        clear o6 gr6 HST
        by_cases ha : x.a = v
        · have d1 : (x.a == v) = true := by simpa using ha
          clear ha ht
          go_wp2_with (at_builtin; refine wpList_run_append rfl (.tmp 41) (.tmp 51) 38 rfl 38 rfl _ _ _ D rfl rfl e6 ?_)
          go_roundw
          case rel => exact ⟨k + 1, by omega, by go_num, HB6.out, by show IOwns _ _ _ _; rw [HT.out]; exact HO6.out⟩
          case measure => simp [intOf]; omega
        · have d1 : (x.a == v) = false := by simpa using ha
          have d2 : (x.b == v) = true := by rcases ht with h | h; · exact absurd h ha
                                            · simpa using h
          clear ha ht
          go_wp2_with (at_builtin; refine wpList_run_append rfl (.tmp 41) (.tmp 51) 38 rfl 38 rfl _ _ _ D rfl rfl e6 ?_)
          go_roundw
          case rel => exact ⟨k + 1, by omega, by go_num, HB6.out, by show IOwns _ _ _ _; rw [HT.out]; exact HO6.out⟩
          case measure => simp [intOf]; omega
      · have HT : Hid (rE G.es v (k + 1) = rE G.es v k) := by show _ = _; rw [HST.out _ rfl, if_neg ht, List.append_nil]
        have d1 : (x.a == v) = false := by rw [beq_eq_false_iff_ne]; exact fun e => ht (Or.inl e)
        have d2 : (x.b == v) = false := by rw [beq_eq_false_iff_ne]; exact fun e => ht (Or.inr e)
        clear HST ht
        go_wp2_with fail
        go_roundw
        case rel => exact ⟨k + 1, by omega, by go_num, HBr.out, by show IOwns _ _ _ _; rw [HT.out]; exact HOr.out⟩
        case measure => simp [intOf]; omega
    · have hke : k = G.es.length := by omega
      have e1 : ¬ (k : Int) < G.es.length := by omega
      have HE2 : Hid (IOwns wr w.heap.size (.slice p5 (rE G.es v G.es.length).length c5) (rE G.es v G.es.length) ∧ (rE G.es v k).length = (rE G.es v G.es.length).length) := by rw [← hke]; exact ⟨HOr.out, rfl⟩
      clear hke
      go_wp2_with fail
      go_ret
      exact ⟨p5, c5, by rw [HE2.out.2]; rfl, HE2.out.1, HBr.out⟩
end Go.Proofs.Ytgfiofogcnnkhaa
