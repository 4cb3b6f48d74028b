/- GraphIds' walk. -/
import Derived.Test.YtgfiofogcnnkhaaHF
import Derived.Test.YtgfiofogcnnkhaaHO
namespace Go.Proofs.Ytgfiofogcnnkhaa
open Go.RowKit Go.Sort
open Go

/-- No marks, nothing to undo. -/
def Plain (G : Gr) : Prop := G.ms = [] ∧ G.dn = []
theorem Plain.rem {G : Gr} (h : Plain G) (u : Un) : Plain (G.rem u) := by
  obtain ⟨h1, h2⟩ := h
  refine ⟨h1, ?_⟩
  unfold Gr.rem
  simp only [h1, List.length_nil, if_true]
  exact h2
theorem Plain.layN {G : Gr} (h : Plain G) : Plain G.layN := Plain.rem (G := { G with ns := G.ns ++ [G.nn], nn := G.nn + 1 }) h _
theorem Plain.layE {G : Gr} (h : Plain G) (u v : Int) : Plain (G.layE u v) := Plain.rem (G := { G with es := G.es ++ [⟨G.ne, u, v⟩], ne := G.ne + 1 }) h _
theorem Plain.takeN {G : Gr} (h : Plain G) (p : Nat) : Plain (G.takeN p) := Plain.rem (G := { G with ns := G.ns.eraseIdx p }) h _
theorem Plain.takeE {G : Gr} (h : Plain G) (p : Nat) : Plain (G.takeE p) := Plain.rem (G := { G with es := G.es.eraseIdx p }) h _
theorem Plain.setE {G : Gr} (h : Plain G) (p s : Nat) (v : Int) : Plain (G.setE p s v) := Plain.rem (G := { G with es := G.es.set p ((eat G.es p).put s v) }) h _
theorem Plain.addN {G : Gr} (h : Plain G) : Plain (addN G) := by
  unfold Ytgfiofogcnnkhaa.addN
  split
  · exact h
  · exact h.layN
theorem Plain.addE {G : Gr} (h : Plain G) (u v : Int) : Plain (addE G u v) := by
  unfold Ytgfiofogcnnkhaa.addE
  split
  · exact h.layE _ _
  · exact h
theorem Plain.spl {G : Gr} (h : Plain G) (e : Int) : Plain (splG G e) := by
  unfold splG
  split
  · exact (h.layN.setE _ _ _).layE _ _
  · exact h
theorem Plain.un_ {G : Gr} (h : Plain G) (v : Int) : Plain (unG G v) := by
  unfold unG
  split
  · exact ((h.setE _ _ _).takeE _).takeN _
  · exact h
theorem Plain.dp {G : Gr} (h : Plain G) : ∀ ps : List Int, Plain (dpE G ps)
  | [] => h
  | p :: r => (Plain.dp h r).takeE p.toNat
theorem Plain.dr {G : Gr} (h : Plain G) (v : Int) : Plain (drG G v) := by
  unfold drG
  split
  · exact (h.dp _).takeN _
  · exact h
theorem Plain.dc {G : Gr} (h : Plain G) (e : Int) : Plain (dcG G e) := by
  unfold dcG
  split
  · exact h.takeE _
  · exact h
theorem un_next (G : Gr) (v : Int) : (unG G v).nn = G.nn ∧ (unG G v).ne = G.ne := by
  unfold unG
  split
  · exact ⟨rfl, rfl⟩
  · exact ⟨rfl, rfl⟩
theorem dr_next (G : Gr) (v : Int) : (drG G v).nn = G.nn ∧ (drG G v).ne = G.ne := by
  unfold drG
  split
  · obtain ⟨_, h2, h3, _⟩ := dpE_rest G (plAt G v)
    exact ⟨h2, h3⟩
  · exact ⟨rfl, rfl⟩
theorem dc_next (G : Gr) (e : Int) : (dcG G e).nn = G.nn ∧ (dcG G e).ne = G.ne := by
  unfold dcG
  split
  · exact ⟨rfl, rfl⟩
  · exact ⟨rfl, rfl⟩
set_option maxRecDepth 100000 in
set_option maxHeartbeats 8000000 in
theorem ids_no (n : Int) (p : Option Addr) (es : List Pt) (cap : Nat) (q : Option Addr) (ops : List Opr) (cq : Nat) (w : World) (h : Has w p es) (hb : netB n es = false) : Calls Try.prog 7 #[nv n p es.length cap, .slice q ops.length cq] w fun e w' => e = .returned (.bool true) ∧ Below w.heap.size w w' := by
  obtain ⟨W, hW⟩ : ∃ W, W = w.alloc (nbx n p es.length cap) := ⟨_, rfl⟩
  have hbW : Below w.heap.size w W := by rw [hW]; go_grown
  have HQ : Hid (W.cell? ⟨w.heap.size, 0, none⟩ = some (.int .i64 n) ∧ W.cell? ⟨w.heap.size, 1, none⟩ = some (.slice p es.length cap)) := ⟨by rw [hW]; go_cell, by rw [hW]; go_cell⟩
  have HB0 := hide (begun8 W)
  have HBW := hide hbW
  have HH := hide (h.later hbW)
  have HW := hide hW
  clear h hbW hW
  go_enter Try.func7, Try.ntmps7
  go_wp2_with (first | (go_at_call 8; rw [← HW.out]; refine HB0.out.mono ?_; rintro e w1 ⟨rfl, hb⟩; have HB1 := hide hb; clear hb; have q0 := later HB1.out HQ.out.1; have q1 := later HB1.out HQ.out.2) | (go_at_call 11; refine Calls.mono (of11no n p es cap w1 (HH.out.later HB1.out) hb) ?_; rintro e w2 ⟨rfl, hb2⟩; have HB2 := hide hb2; clear hb2))
  go_ret
  exact ⟨rfl, below_step (below_step HBW.out HB1.out) HB2.out⟩
set_option maxRecDepth 100000 in
set_option maxHeartbeats 8000000 in
theorem ids_skip (n : Nat) (p : Option Addr) (es : List Pt) (cap : Nat) (q : Option Addr) (ops : List Opr) (cq : Nat) (w : World) (h : Has w p es) (hb : netB n es = true) (hs : 200 < n ∨ 200 < es.length) : Calls Try.prog 7 #[nv n p es.length cap, .slice q ops.length cq] w fun e w' => e = .returned (.bool true) ∧ Below w.heap.size w w' := by
  have HNB := hide hb
  clear hb
  obtain ⟨W, hW⟩ : ∃ W, W = w.alloc (nbx n p es.length cap) := ⟨_, rfl⟩
  have hbW : Below w.heap.size w W := by rw [hW]; go_grown
  have HQ : Hid (W.cell? ⟨w.heap.size, 0, none⟩ = some (.int .i64 n) ∧ W.cell? ⟨w.heap.size, 1, none⟩ = some (.slice p es.length cap)) := ⟨by rw [hW]; go_cell, by rw [hW]; go_cell⟩
  have HB0 := hide (begun8 W)
  have HBW := hide hbW
  have HH := hide (h.later hbW)
  have HW := hide hW
  clear h hbW hW
  by_cases h1 : 200 < n
  · have e1 : (200 : Int) < n := by omega
    clear hs
    go_enter Try.func7, Try.ntmps7
    go_wp2_with (first | (go_at_call 8; rw [← HW.out]; refine HB0.out.mono ?_; rintro e w1 ⟨rfl, hb⟩; have HB1 := hide hb; clear hb; have q0 := later HB1.out HQ.out.1; have q1 := later HB1.out HQ.out.2) | (go_at_call 11; refine Calls.mono (of11 n p es cap w1 (HH.out.later HB1.out) HNB.out) ?_; rintro e w2 ⟨b, s, rfl, hg⟩; have HG := hide hg; clear hg q0 q1; have q0 := later (below_step HB1.out HG.out.below) HQ.out.1; have q1 := later (below_step HB1.out HG.out.below) HQ.out.2))
    go_ret
    exact ⟨rfl, below_step (below_step HBW.out HB1.out) HG.out.below⟩
  · have e1 : ¬ (200 : Int) < n := by omega
    have e2 : (200 : Int) < es.length := by omega
    clear hs
    go_enter Try.func7, Try.ntmps7
    go_wp2_with (first | (go_at_call 8; rw [← HW.out]; refine HB0.out.mono ?_; rintro e w1 ⟨rfl, hb⟩; have HB1 := hide hb; clear hb; have q0 := later HB1.out HQ.out.1; have q1 := later HB1.out HQ.out.2) | (go_at_call 11; refine Calls.mono (of11 n p es cap w1 (HH.out.later HB1.out) HNB.out) ?_; rintro e w2 ⟨b, s, rfl, hg⟩; have HG := hide hg; clear hg q0 q1; have q0 := later (below_step HB1.out HG.out.below) HQ.out.1; have q1 := later (below_step HB1.out HG.out.below) HQ.out.2))
    go_ret
    exact ⟨rfl, below_step (below_step HBW.out HB1.out) HG.out.below⟩
set_option maxRecDepth 100000 in
set_option maxHeartbeats 32000000 in
theorem ids_yes (n : Nat) (p : Option Addr) (es : List Pt) (cap : Nat) (q : Option Addr) (ops : List Opr) (cq : Nat) (w : World) (h : Has w p es) (hb : netB n es = true) (h1 : n ≤ 200) (h2 : es.length ≤ 200) (hq : OHas w q ops) (hql : ops.length ≤ maxLen) : Calls Try.prog 7 #[nv n p es.length cap, .slice q ops.length cq] w fun e w' => e = .returned (.bool true) ∧ Below w.heap.size w w' := by
  have HNB := hide hb
  have HF0 := hide (of_fine hb)
  have HO := hide hq
  have e1 : ¬ (200 : Int) < n := by omega
  have e2 : ¬ (200 : Int) < es.length := by omega
  have hql2 : (ops.length : Int) ≤ 9223372036854775807 := by unfold maxLen at hql; omega
  clear hb hq hql
  obtain ⟨W, hW⟩ : ∃ W, W = w.alloc (nbx n p es.length cap) := ⟨_, rfl⟩
  have hbW : Below w.heap.size w W := by rw [hW]; go_grown
  have HQ : Hid (W.cell? ⟨w.heap.size, 0, none⟩ = some (.int .i64 n) ∧ W.cell? ⟨w.heap.size, 1, none⟩ = some (.slice p es.length cap)) := ⟨by rw [hW]; go_cell, by rw [hW]; go_cell⟩
  have HB0 := hide (begun8 W)
  have HBW := hide hbW
  have HH := hide (h.later hbW)
  have HW := hide hW
  clear h hbW hW
  go_enter Try.func7, Try.ntmps7
  go_upto_region 6 with (first
    | (go_at_call 8; rw [← HW.out]; refine HB0.out.mono ?_; rintro e w1 ⟨rfl, hb⟩; have HB1 := hide hb; clear hb; have q0 := later HB1.out HQ.out.1; have q1 := later HB1.out HQ.out.2)
    | (go_at_call 11; refine Calls.mono (of11 n p es cap w1 (HH.out.later HB1.out) HNB.out) ?_; rintro e w2 ⟨b, s, rfl, hg⟩; have HG := hide hg; clear hg q0 q1; have q0 := later (below_step HB1.out HG.out.below) HQ.out.1; have q1 := later (below_step HB1.out HG.out.below) HQ.out.2))
  have HS := hide (show w2.cell? ⟨w.heap.size, 0, none⟩ = some (.int .i64 n) ∧ w2.cell? ⟨w.heap.size, 1, none⟩ = some (.slice p es.length cap) from ⟨q0, q1⟩)
  go_region_held3 (fun V => V.cell? ⟨w.heap.size, 0, none⟩ = some (.int .i64 n) ∧ V.cell? ⟨w.heap.size, 1, none⟩ = some (.slice p es.length cap)) (exact HS.out) (fail)
  rename_i hHeld
  clear hHeld
  obtain ⟨w3, hw3⟩ : ∃ z, z = w2.drew := ⟨_, rfl⟩
  have HG3 : Hid (Mine w1 w3 b s (ofG n es es.length)) := by show Mine _ _ _ _ _; rw [hw3]; exact HG.out.later (below_drew _)
  rw [← hw3]
  clear hw3 HS q0 q1
  go_wp2_with fail
  go_loopw [7, 8, 9] (fun t7 t8 t9 wr => ∃ (k : Nat) (s1 : GV) (G : Gr) (v f : Int), k ≤ 100 ∧ 0 ≤ v ∧ v ≤ 10000 ∧ 0 ≤ f ∧ f ≤ 10000 ∧ t7 = .int .i64 v ∧ t8 = .int .i64 f ∧ t9 = .int .i64 k ∧ Hid (Mine w1 wr b s1 G) ∧ Hid (Fine (4000 + 2 * k) G ∧ Plain G ∧ (G.nn = v + 1 ∧ G.ne = f + 1))) (fun _ _ t9 _ => 100 - (intOf t9).toNat)
  case atStart => exact ⟨0, s, ofG n es es.length, n, es.length, by omega, by omega, by omega, by omega, by omega, rfl, rfl, rfl, HG3.out, ⟨HF0.out.mono (by omega), ⟨rfl, rfl⟩, rfl, rfl⟩⟩
  case round =>
    obtain ⟨k, s1, G, v, f, hk, hv0, hv1, hf0, hf1, rfl, rfl, rfl, HM, HX⟩ := hrel
    have HFG := hide HX.out.1
    have HPL := hide HX.out.2.1
    have HNX := hide HX.out.2.2
    have hvv : v ≤ 4000 + 2 * k := by have := HFG.out.n2; have := HNX.out.1; omega
    have hff : f ≤ 4000 + 2 * k := by have := HFG.out.e2; have := HNX.out.2; omega
    clear HX HG3 HG
    by_cases hlt : k < ops.length ∧ k < 100
    · obtain ⟨i1, i2⟩ : (k : Int) < ops.length ∧ (k : Int) < 100 := by omega
      have i0 : (0 : Int) ≤ k := by omega
      rcases HO.out.later (below_step HBW.out (below_step HB1.out HM.out.below)) with h | ⟨g, off, rfl, hc⟩
      · rw [h] at hlt; simp at hlt
      obtain ⟨c0, c1, c2, c3⟩ := hc k hlt.1
      obtain ⟨o, ho⟩ : ∃ o, oat ops k = o := ⟨_, rfl⟩
      rw [ho] at c0 c1 c2 c3
      clear hc ho hlt
      have zb : g < wr.heap.size := block_lt_of_cell c0
      obtain ⟨U, hU⟩ : ∃ U, U = wr.alloc (.cells #[.int .i64 o.k, .int .i64 o.a, .int .i64 o.b, .int .i64 o.c] 43) := ⟨_, rfl⟩
      have hbU : Below wr.heap.size wr U := by rw [hU]; go_grown
      have HMU := hide (HM.out.later hbU)
      have HU := hide hU
      have hdn : G.dn.length = 0 := by rw [HPL.out.2]; rfl
      have hms : G.ms.length = 0 := by rw [HPL.out.1]; rfl
      clear hU hbU
      by_cases h1 : o.k = 1
      · rw [h1] at HU c0
        by_cases hl : 1024 ≤ G.ns.length
        · have L := hide (addNode23 b s1 G U HMU.out.at_ (by omega) (by omega) HFG.out.ln (by have := HFG.out.n1; omega) (by have := HFG.out.n2; omega))
          unfold addNv at L
          rw [if_pos hl] at L
          go_wp2_with (go_at_call 23; rw [← HU.out]; refine Calls.mono (L.out) ?_; rintro e w4 ⟨rfl, s2, g2, r2⟩; have HM2 := hide (HMU.out.turn g2 r2); clear g2 r2)
          go_roundw
          case rel => exact ⟨k + 1, s2, (addN G), v, f, by omega, by omega, by omega, by omega, by omega, rfl, rfl, by go_num, HM2.out, ⟨(HFG.out.addN).mono (by omega), HPL.out.addN, by unfold addN; rw [if_pos hl]; exact HNX.out⟩⟩
          case measure => simp [intOf]; omega
        · have L := hide (addNode23 b s1 G U HMU.out.at_ (by omega) (by omega) HFG.out.ln (by have := HFG.out.n1; omega) (by have := HFG.out.n2; omega))
          unfold addNv at L
          rw [if_neg hl, HNX.out.1] at L
          go_wp2_with (go_at_call 23; rw [← HU.out]; refine Calls.mono (L.out) ?_; rintro e w4 ⟨rfl, s2, g2, r2⟩; have HM2 := hide (HMU.out.turn g2 r2); clear g2 r2)
          go_roundw
          case rel => exact ⟨k + 1, s2, (addN G), (v + 1), f, by omega, by omega, by omega, by omega, by omega, rfl, rfl, by go_num, HM2.out, ⟨(HFG.out.addN).mono (by omega), HPL.out.addN, by unfold addN; rw [if_neg hl]; exact ⟨by show G.nn + 1 = v + 1 + 1; rw [HNX.out.1], HNX.out.2⟩⟩⟩
          case measure => simp [intOf]; omega
      · have b1 : (o.k == 1) = false := by simpa using h1
        by_cases h2 : o.k = 2
        · rw [h2] at HU c0
          by_cases hl : addEe G o.a o.b = 0
          · have L := hide (addEdge24 b s1 G o.a o.b U HMU.out.at_ (by omega) (by omega) HFG.out.ln HFG.out.un HFG.out.le (by have := HFG.out.e1; omega) (by have := HFG.out.e2; omega))
            unfold addEv at L
            rw [if_pos hl, HNX.out.2] at L
            go_wp2_with (go_at_call 24; rw [← HU.out]; refine Calls.mono (L.out) ?_; rintro e w4 ⟨rfl, s2, g2, r2⟩; have HM2 := hide (HMU.out.turn g2 r2); clear g2 r2)
            go_roundw
            case rel => exact ⟨k + 1, s2, (addE G o.a o.b), v, (f + 1), by omega, by omega, by omega, by omega, by omega, rfl, rfl, by go_num, HM2.out, ⟨((HFG.out.addE o.a o.b)).mono (by omega), HPL.out.addE o.a o.b, by unfold addE; rw [if_pos hl]; exact ⟨HNX.out.1, by show G.ne + 1 = f + 1 + 1; rw [HNX.out.2]⟩⟩⟩
            case measure => simp [intOf]; omega
          · have L := hide (addEdge24 b s1 G o.a o.b U HMU.out.at_ (by omega) (by omega) HFG.out.ln HFG.out.un HFG.out.le (by have := HFG.out.e1; omega) (by have := HFG.out.e2; omega))
            unfold addEv at L
            rw [if_neg hl] at L
            obtain ⟨er, her⟩ : ∃ er, addEe G o.a o.b = er := ⟨_, rfl⟩
            have hb2 : (er == 0) = false := by rw [← her]; simpa using hl
            rw [her] at L
            clear her
            go_wp2_with (go_at_call 24; rw [← HU.out]; refine Calls.mono (L.out) ?_; rintro e w4 ⟨rfl, s2, g2, r2⟩; have HM2 := hide (HMU.out.turn g2 r2); clear g2 r2)
            go_roundw
            case rel => exact ⟨k + 1, s2, (addE G o.a o.b), v, f, by omega, by omega, by omega, by omega, by omega, rfl, rfl, by go_num, HM2.out, ⟨((HFG.out.addE o.a o.b)).mono (by omega), HPL.out.addE o.a o.b, by unfold addE; rw [if_neg hl]; exact HNX.out⟩⟩
            case measure => simp [intOf]; omega
        · have b2 : (o.k == 2) = false := by simpa using h2
          by_cases h5 : o.k = 5
          · rw [h5] at HU c0
            by_cases hl : splE G o.a = 0
            · have L := hide (split17 b s1 G o.a U HMU.out.at_ (by omega) (by omega) HFG.out.ln HFG.out.le HFG.out.ue (by have := HFG.out.e1; omega) (by have := HFG.out.e2; omega) (by have := HFG.out.n1; omega) (by have := HFG.out.n2; omega))
              unfold splV at L
              rw [if_pos hl, HNX.out.1, HNX.out.2] at L
              go_wp2_with (go_at_call 17; rw [← HU.out]; refine Calls.mono (L.out) ?_; rintro e w4 ⟨rfl, s2, g2, r2⟩; have HM2 := hide (HMU.out.turn g2 r2); clear g2 r2)
              go_roundw
              case rel => exact ⟨k + 1, s2, (splG G o.a), (v + 1), (f + 1), by omega, by omega, by omega, by omega, by omega, rfl, rfl, by go_num, HM2.out, ⟨((HFG.out.spl o.a)).mono (by omega), HPL.out.spl o.a, by unfold splG; rw [if_pos hl]; exact ⟨by show G.nn + 1 = v + 1 + 1; rw [HNX.out.1], by show G.ne + 1 = f + 1 + 1; rw [HNX.out.2]⟩⟩⟩
              case measure => simp [intOf]; omega
            · have L := hide (split17 b s1 G o.a U HMU.out.at_ (by omega) (by omega) HFG.out.ln HFG.out.le HFG.out.ue (by have := HFG.out.e1; omega) (by have := HFG.out.e2; omega) (by have := HFG.out.n1; omega) (by have := HFG.out.n2; omega))
              unfold splV at L
              rw [if_neg hl] at L
              obtain ⟨er, her⟩ : ∃ er, splE G o.a = er := ⟨_, rfl⟩
              have hb2 : (er == 0) = false := by rw [← her]; simpa using hl
              rw [her] at L
              clear her
              go_wp2_with (go_at_call 17; rw [← HU.out]; refine Calls.mono (L.out) ?_; rintro e w4 ⟨rfl, s2, g2, r2⟩; have HM2 := hide (HMU.out.turn g2 r2); clear g2 r2)
              go_roundw
              case rel => exact ⟨k + 1, s2, (splG G o.a), v, f, by omega, by omega, by omega, by omega, by omega, rfl, rfl, by go_num, HM2.out, ⟨((HFG.out.spl o.a)).mono (by omega), HPL.out.spl o.a, by unfold splG; rw [if_neg hl]; exact HNX.out⟩⟩
              case measure => simp [intOf]; omega
          · have b5 : (o.k == 5) = false := by simpa using h5
            by_cases h3 : o.k = 3
            · rw [h3] at HU c0
              have L := hide (dropNode25 b s1 G o.a U HMU.out.at_ (by omega) (by omega) HFG.out.ln HFG.out.le HFG.out.un)
              go_wp2_with (go_at_call 25; rw [← HU.out]; refine Calls.mono (L.out) ?_; rintro e w4 ⟨rfl, s2, g2, r2⟩; have HM2 := hide (HMU.out.turn g2 r2); clear g2 r2)
              go_roundw
              case rel => exact ⟨k + 1, s2, (drG G o.a), v, f, by omega, by omega, by omega, by omega, by omega, rfl, rfl, by go_num, HM2.out, ⟨((HFG.out.dr o.a)).mono (by omega), HPL.out.dr o.a, by rw [(dr_next G o.a).1, (dr_next G o.a).2]; exact HNX.out⟩⟩
              case measure => simp [intOf]; omega
            · have b3 : (o.k == 3) = false := by simpa using h3
              by_cases h4 : o.k = 4
              · rw [h4] at HU c0
                have L := hide (dropEdge27 b s1 G o.a U HMU.out.at_ (by omega) (by omega) HFG.out.le HFG.out.ue)
                go_wp2_with (go_at_call 27; rw [← HU.out]; refine Calls.mono (L.out) ?_; rintro e w4 ⟨rfl, s2, g2, r2⟩; have HM2 := hide (HMU.out.turn g2 r2); clear g2 r2)
                go_roundw
                case rel => exact ⟨k + 1, s2, (dcG G o.a), v, f, by omega, by omega, by omega, by omega, by omega, rfl, rfl, by go_num, HM2.out, ⟨((HFG.out.dc o.a)).mono (by omega), HPL.out.dc o.a, by rw [(dc_next G o.a).1, (dc_next G o.a).2]; exact HNX.out⟩⟩
                case measure => simp [intOf]; omega
              · have b4 : (o.k == 4) = false := by simpa using h4
                by_cases h6 : o.k = 6
                · rw [h6] at HU c0
                  have L := hide (unsplit18 b s1 G o.a U HMU.out.at_ (by omega) (by omega) HFG.out.ln HFG.out.le HFG.out.un)
                  go_wp2_with (go_at_call 18; rw [← HU.out]; refine Calls.mono (L.out) ?_; rintro e w4 ⟨rfl, s2, g2, r2⟩; have HM2 := hide (HMU.out.turn g2 r2); clear g2 r2)
                  go_roundw
                  case rel => exact ⟨k + 1, s2, (unG G o.a), v, f, by omega, by omega, by omega, by omega, by omega, rfl, rfl, by go_num, HM2.out, ⟨((HFG.out.un_ o.a)).mono (by omega), HPL.out.un_ o.a, by rw [(un_next G o.a).1, (un_next G o.a).2]; exact HNX.out⟩⟩
                  case measure => simp [intOf]; omega
                · have b6 : (o.k == 6) = false := by simpa using h6
                  go_wp2_with fail
                  try rw [← HU.out]
                  go_roundw
                  case rel => exact ⟨k + 1, s1, G, v, f, by omega, by omega, by omega, by omega, by omega, rfl, rfl, by go_num, HMU.out, ⟨HFG.out.mono (by omega), HPL.out, HNX.out⟩⟩
                  case measure => simp [intOf]; omega
    · have HEND := hide (numbered30 b s1 G v f (4000 + 2 * k) wr HM.out.at_ HFG.out (by omega) HNX.out.1 HNX.out.2)
      by_cases hlo : k < ops.length
      · have i1 : (k : Int) < ops.length := by omega
        have i2 : ¬ (k : Int) < 100 := by omega
        clear hlt
        go_wp2_with (go_at_call 30; refine HEND.out.mono ?_; rintro e w5 ⟨rfl, hb5⟩; have HB5 := hide hb5; clear hb5)
        go_ret
        exact ⟨rfl, below_step (below_step (below_step HBW.out HB1.out) HM.out.below) HB5.out⟩
      · have i1 : ¬ (k : Int) < ops.length := by omega
        clear hlt
        go_wp2_with (go_at_call 30; refine HEND.out.mono ?_; rintro e w5 ⟨rfl, hb5⟩; have HB5 := hide hb5; clear hb5)
        go_ret
        exact ⟨rfl, below_step (below_step (below_step HBW.out HB1.out) HM.out.below) HB5.out⟩
theorem ids_walk (n : Int) (p : Option Addr) (es : List Pt) (cap : Nat) (q : Option Addr) (ops : List Opr) (cq : Nat) (w : World) (h : Has w p es) (hq : OHas w q ops) (hql : ops.length ≤ maxLen) : Calls Try.prog 7 #[nv n p es.length cap, .slice q ops.length cq] w fun e w' => e = .returned (.bool true) ∧ Below w.heap.size w w' := by
  cases hb : netB n es
  · exact ids_no n p es cap q ops cq w h hb
  · obtain ⟨h0, _⟩ := netB_is hb
    obtain ⟨N, rfl⟩ : ∃ N : Nat, n = N := ⟨n.toNat, by omega⟩
    by_cases hs : 200 < N ∨ 200 < es.length
    · exact ids_skip N p es cap q ops cq w h hb hs
    · exact ids_yes N p es cap q ops cq w h hb (by omega) (by omega) hq hql
end Go.Proofs.Ytgfiofogcnnkhaa
