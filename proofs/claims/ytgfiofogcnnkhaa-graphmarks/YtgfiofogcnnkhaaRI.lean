/- GraphMarks' walk. -/
import Derived.Test.YtgfiofogcnnkhaaRK
import Derived.Test.YtgfiofogcnnkhaaHB
namespace Go.Proofs.Ytgfiofogcnnkhaa
open Go.RowKit Go.Sort
open Go

theorem Keeps.mono {k : Nat} {G R : Gr} {M : List (Int × Gr)} {L : Int} {mk : List Int} (h : Keeps k G R M L mk) : Keeps (k + 1) G R M L mk :=
  ⟨h.fg.mono (by omega), h.fr.mono (by omega), h.ms, h.l0, by have := h.l1; omega, by have := h.dn; omega, h.mM, h.L0, by have := h.L1; omega, by have := h.mkl; omega⟩
theorem Has.frame {w w' : World} {g : Nat} {ps : List Pt} {P : Nat → Prop} (h : Has w (some ⟨g, 0, none⟩) ps) (hf : Frame w w' P) (hp : ¬ P g) : Has w' (some ⟨g, 0, none⟩) ps := by
  rcases h with h | ⟨b, off, h1, h2⟩
  · exact Or.inl h
  · cases h1
    exact Or.inr ⟨g, 0, rfl, fun j hj => ⟨hf.cell (h2 j hj).1 hp, hf.cell (h2 j hj).2 hp⟩⟩
/-- Back to the mark that was set first. -/
theorem back_marks {n : Nat} {es : List Pt} {G : Gr} (h : Hist (mrkG (ofG n es es.length)) G) : backE G 1 = 0 ∧ (steps G 1 ≤ G.dn.length ∧ ∀ k, steps G 1 ≤ k → k < G.dn.length → G.fit k) ∧ (backG G 1).ns = ofN n ∧ (backG G 1).es = ofE es es.length ∧ (backG G 1).nn = (n : Int) + 1 ∧ (backG G 1).ms.length ≤ 64 ∧ (backG G 1).dn.length = 0 := by
  obtain ⟨r, hr⟩ := h.mks
  have h0 : (mrkG (ofG n es es.length)).ms = [(1, 0)] := rfl
  have hd : (mrkG (ofG n es es.length)).dn.length = 0 := rfl
  rw [h0] at hr
  have hm : mix G.ms 1 = 0 := by rw [hr]; rfl
  have hl : mix G.ms 1 < G.ms.length := by rw [hm, hr]; simp
  have hs : steps G 1 = 0 := by unfold steps; rw [hm, hr]; rfl
  have hc := h.core
  have hf := h.fit
  rw [hd] at hc hf
  have hb : backG G 1 = { G.bk (G.dn.length - 0) with ms := G.ms.take 1, dn := G.dn.take 0 } := by
    unfold backG
    rw [if_pos hl, hs, hm]
  refine ⟨if_pos hl, ⟨by omega, fun k _ h2 => hf k (by omega) h2⟩, ?_, ?_, ?_, ?_, ?_⟩
  · rw [hb]; exact hc.ns
  · rw [hb]; exact hc.es
  · rw [hb]; exact hc.nn
  · rw [hb]
    show (G.ms.take 1).length ≤ 64
    rw [List.length_take]
    omega
  · rw [hb]
    rfl
set_option maxRecDepth 100000 in
set_option maxHeartbeats 8000000 in
theorem marks_no (n : Int) (p : Option Addr) (es : List Pt) (cap : Nat) (q : Option Addr) (ops : List Opr) (cq : Nat) (w : World) (h : Has w p es) (hb : netB n es = false) : Calls Try.prog 5 #[nv n p es.length cap, .slice q ops.length cq] w fun e w' => e = .returned (.bool true) ∧ Below w.heap.size w w' := by
  obtain ⟨W, hW⟩ : ∃ W, W = w.alloc (nbx n p es.length cap) := ⟨_, rfl⟩
  have hbW : Below w.heap.size w W := by rw [hW]; go_grown
  have HQ : Hid (W.cell? ⟨w.heap.size, 0, none⟩ = some (.int .i64 n) ∧ W.cell? ⟨w.heap.size, 1, none⟩ = some (.slice p es.length cap)) := ⟨by rw [hW]; go_cell, by rw [hW]; go_cell⟩
  have HB0 := hide (begun8 W)
  have HBW := hide hbW
  have HH := hide (h.later hbW)
  have HW := hide hW
  clear h hbW hW
  go_enter Try.func5, Try.ntmps5
  go_wp2_with (first | (go_at_call 8; rw [← HW.out]; refine HB0.out.mono ?_; rintro e w1 ⟨rfl, hb⟩; have HB1 := hide hb; clear hb; have q0 := later HB1.out HQ.out.1; have q1 := later HB1.out HQ.out.2) | (go_at_call 11; refine Calls.mono (of11no n p es cap w1 (HH.out.later HB1.out) hb) ?_; rintro e w2 ⟨rfl, hb2⟩; have HB2 := hide hb2; clear hb2))
  go_ret
  exact ⟨rfl, below_step (below_step HBW.out HB1.out) HB2.out⟩
set_option maxRecDepth 100000 in
set_option maxHeartbeats 8000000 in
theorem marks_skip (n : Nat) (p : Option Addr) (es : List Pt) (cap : Nat) (q : Option Addr) (ops : List Opr) (cq : Nat) (w : World) (h : Has w p es) (hb : netB n es = true) (hs : 200 < n ∨ 200 < es.length) : Calls Try.prog 5 #[nv n p es.length cap, .slice q ops.length cq] w fun e w' => e = .returned (.bool true) ∧ Below w.heap.size w w' := by
  have HNB := hide hb
  clear hb
  obtain ⟨W, hW⟩ : ∃ W, W = w.alloc (nbx n p es.length cap) := ⟨_, rfl⟩
  have hbW : Below w.heap.size w W := by rw [hW]; go_grown
  have HQ : Hid (W.cell? ⟨w.heap.size, 0, none⟩ = some (.int .i64 n) ∧ W.cell? ⟨w.heap.size, 1, none⟩ = some (.slice p es.length cap)) := ⟨by rw [hW]; go_cell, by rw [hW]; go_cell⟩
  have HB0 := hide (begun8 W)
  have HBW := hide hbW
  have HH := hide (h.later hbW)
  have HW := hide hW
  clear h hbW hW
  by_cases h1 : 200 < n
  · have e1 : (200 : Int) < n := by omega
    clear hs
    go_enter Try.func5, Try.ntmps5
    go_wp2_with (first | (go_at_call 8; rw [← HW.out]; refine HB0.out.mono ?_; rintro e w1 ⟨rfl, hb⟩; have HB1 := hide hb; clear hb; have q0 := later HB1.out HQ.out.1; have q1 := later HB1.out HQ.out.2) | (go_at_call 11; refine Calls.mono (of11 n p es cap w1 (HH.out.later HB1.out) HNB.out) ?_; rintro e w2 ⟨b, s, rfl, hg⟩; have HG := hide hg; clear hg q0 q1; have q0 := later (below_step HB1.out HG.out.below) HQ.out.1; have q1 := later (below_step HB1.out HG.out.below) HQ.out.2))
    go_ret
    exact ⟨rfl, below_step (below_step HBW.out HB1.out) HG.out.below⟩
  · have e1 : ¬ (200 : Int) < n := by omega
    have e2 : (200 : Int) < es.length := by omega
    clear hs
    go_enter Try.func5, Try.ntmps5
    go_wp2_with (first | (go_at_call 8; rw [← HW.out]; refine HB0.out.mono ?_; rintro e w1 ⟨rfl, hb⟩; have HB1 := hide hb; clear hb; have q0 := later HB1.out HQ.out.1; have q1 := later HB1.out HQ.out.2) | (go_at_call 11; refine Calls.mono (of11 n p es cap w1 (HH.out.later HB1.out) HNB.out) ?_; rintro e w2 ⟨b, s, rfl, hg⟩; have HG := hide hg; clear hg q0 q1; have q0 := later (below_step HB1.out HG.out.below) HQ.out.1; have q1 := later (below_step HB1.out HG.out.below) HQ.out.2))
    go_ret
    exact ⟨rfl, below_step (below_step HBW.out HB1.out) HG.out.below⟩
set_option maxRecDepth 100000 in
set_option maxHeartbeats 32000000 in
theorem marks_yes (n : Nat) (p : Option Addr) (es : List Pt) (cap : Nat) (q : Option Addr) (ops : List Opr) (cq : Nat) (w : World) (h : Has w p es) (hb : netB n es = true) (h1 : n ≤ 200) (h2 : es.length ≤ 200) (hq : OHas w q ops) (hql : ops.length ≤ maxLen) : Calls Try.prog 5 #[nv n p es.length cap, .slice q ops.length cq] w fun e w' => e = .returned (.bool true) ∧ Below w.heap.size w w' := by
  have HNB := hide hb
  have HF0 := hide (of_fine hb)
  have HO := hide hq
  obtain ⟨_, _, _, hin⟩ := netB_is hb
  have HIN := hide hin
  have e1 : ¬ (200 : Int) < n := by omega
  have e2 : ¬ (200 : Int) < es.length := by omega
  have hql2 : (ops.length : Int) ≤ 9223372036854775807 := by unfold maxLen at hql; omega
  have HMK : Hid (∀ V b s, GAt V b s (ofG n es es.length) → Calls Try.prog 21 #[ptr b] V (Turns V b s (.int .i64 1) (mrkG (ofG n es es.length)))) := fun V b s hg => mark21 b s _ V hg (by simp [ofG]) (by simp [ofG]) (by simp [ofG])
  have HEND : Hid (∀ V b s G, Hist (mrkG (ofG n es es.length)) G → G.dn.length ≤ 5000000 → G.ms.length ≤ 64 → GAt V b s G → Calls Try.prog 22 #[ptr b, .int .i64 1] V (Turns V b s (.int .i64 0) (backG G 1))) := fun V b s G hh hd hm hg => by
    obtain ⟨k1, k2, _⟩ := back_marks hh
    rw [← k1]
    exact back22 b s G 1 V hg hd hm (fun _ => k2)
  have HNET : Hid (∀ V b s G, Hist (mrkG (ofG n es es.length)) G → GAt V b s (backG G 1) → Calls Try.prog 19 #[ptr b] V fun e w' => ∃ ge gi p2 c2, e = .returned (.tuple #[nv n (some ⟨ge, 0, none⟩) es.length es.length, .slice p2 n c2, .slice (some ⟨gi, 0, none⟩) es.length es.length]) ∧ (Has w' (some ⟨ge, 0, none⟩) es ∧ V.heap.size ≤ ge) ∧ Below V.heap.size V w') := fun V b s G hh hg => by
    obtain ⟨_, _, k1, k2, _⟩ := back_marks hh
    have e1 : (backG G 1).ns.length = n := by rw [k1, ofN_length]
    have e2 : (backG G 1).es.length = es.length := by rw [k2, ofE_length]
    refine (net19a b s _ V hg (by omega) (by omega) (by rw [k1]; exact up_ofN n)).mono ?_
    rintro e w' ⟨ge, gi, p2, c2, rfl, k3, _, _, k4⟩
    rw [e1, e2]
    have k5 := k3.has
    rw [netL_of k1 k2 HIN.out] at k5
    exact ⟨ge, gi, p2, c2, rfl, ⟨k5, k3.lt.1⟩, k4⟩
  have HADD : Hid (∀ V b s G, Hist (mrkG (ofG n es es.length)) G → GAt V b s (backG G 1) → Calls Try.prog 23 #[ptr b] V (Turns V b s (.tuple #[.int .i64 ((n : Int) + 1), .int .i64 0]) (addN (backG G 1)))) := fun V b s G hh hg => by
    obtain ⟨_, _, k1, _, k3, k4, k5⟩ := back_marks hh
    have e1 : (backG G 1).ns.length = n := by rw [k1, ofN_length]
    have e2 : addNv (backG G 1) = .tuple #[.int .i64 ((n : Int) + 1), .int .i64 0] := by
      unfold addNv
      rw [if_neg (by omega), k3]
    rw [← e2]
    exact addNode23 b s _ V hg (by omega) k4 (by omega) (by omega) (by omega)
  clear hb hq hql hin
  obtain ⟨W, hW⟩ : ∃ W, W = w.alloc (nbx n p es.length cap) := ⟨_, rfl⟩
  have hbW : Below w.heap.size w W := by rw [hW]; go_grown
  have HQ : Hid (W.cell? ⟨w.heap.size, 0, none⟩ = some (.int .i64 n) ∧ W.cell? ⟨w.heap.size, 1, none⟩ = some (.slice p es.length cap)) := ⟨by rw [hW]; go_cell, by rw [hW]; go_cell⟩
  have HB0 := hide (begun8 W)
  have HBW := hide hbW
  have HH := hide (h.later hbW)
  have HW := hide hW
  clear h hbW hW
  go_enter Try.func5, Try.ntmps5
  go_upto_region 7 with (first
    | (go_at_call 8; rw [← HW.out]; refine HB0.out.mono ?_; rintro e w1 ⟨rfl, hb⟩; have HB1 := hide hb; clear hb; have q0 := later HB1.out HQ.out.1; have q1 := later HB1.out HQ.out.2)
    | (go_at_call 11; refine Calls.mono (of11 n p es cap w1 (HH.out.later HB1.out) HNB.out) ?_; rintro e w2 ⟨b, s, rfl, hg⟩; have HG := hide hg; clear hg q0 q1; have q0 := later (below_step HB1.out HG.out.below) HQ.out.1; have q1 := later (below_step HB1.out HG.out.below) HQ.out.2)
    | (go_at_call 21; refine Calls.mono (HMK.out _ _ _ HG.out.at_) ?_; rintro e w3 ⟨rfl, s3, g3, r3⟩; have HG3 := hide (HG.out.turn g3 r3); clear g3 r3 q0 q1 HG))
  obtain ⟨s4, V4, HR⟩ := Run.begin HG3.out rfl
  have HR := hide HR
  obtain ⟨Z, hZ⟩ : ∃ Z, Z = ((w3.alloc (.cells #[.slice none 0 0, .slice none 0 0, .int .i64 0, .int .i64 0, .slice none 0 0, .int .i64 0] 58)).alloc (.cells #[ptr b, ptr w3.heap.size, .slice none 0 0] 40)) := ⟨_, rfl⟩
  rw [← hZ] at HR
  have HZ := hide hZ
  clear hZ HMK HG3
  go_wp2_with fail
  rw [← HZ.out]
  obtain ⟨br, hbr⟩ : ∃ br, w3.heap.size = br := ⟨_, rfl⟩
  rw [hbr] at HR ⊢
  obtain ⟨kr, hkr⟩ : ∃ kr, br + 1 = kr := ⟨_, rfl⟩
  rw [hkr] at HR ⊢
  clear hbr hkr HZ
  go_loopw [9] (fun t9 wr => ∃ (k : Nat) (s1 : GV) (V1 : RV) (G R : Gr) (M : List (Int × Gr)) (L : Int) (vk : Value) (mk : List Int), k ≤ 60 ∧ t9 = .int .i64 k ∧ Hid (Run w1 wr kr b br s1 V1 G R M L vk mk) ∧ Hid (Keeps k G R M L mk ∧ Hist (mrkG (ofG n es es.length)) G)) (fun t9 _ => 60 - (intOf t9).toNat)
  case atStart => exact ⟨0, s4, V4, _, G0, [], 0, .slice none 0 0, [], by omega, rfl, HR.out, ⟨⟨HF0.out.mrk, fine_G0.mono (by omega), (show 1 ≤ 64 by decide), (show (0 : Int) ≤ 1 by decide), (show (1 : Int) ≤ ((0 : Nat) : Int) + 1 by decide), (show 0 ≤ 3100 * 0 by decide), by decide, by decide, by decide, by decide⟩, Hist.refl (show 0 < 1 by decide)⟩⟩
  case round =>
    obtain ⟨k, s1, V1, G, R, M, L, vk, mk, hk, rfl, HM, HX⟩ := hrel
    clear HR
    by_cases hlt : k < ops.length ∧ k < 60
    · obtain ⟨i1, i2⟩ : (k : Int) < ops.length ∧ (k : Int) < 60 := by omega
      have i0 : (0 : Int) ≤ k := by omega
      rcases HO.out.later (below_step HBW.out (below_step HB1.out HM.out.bel)) with h | ⟨g, off, rfl, hc⟩
      · rw [h] at hlt; simp at hlt
      obtain ⟨c0, c1, c2, c3⟩ := hc k hlt.1
      obtain ⟨o, ho⟩ : ∃ o, oat ops k = o := ⟨_, rfl⟩
      rw [ho] at c0 c1 c2 c3
      clear hc ho hlt
      by_cases h11 : o.k = 11
      · rw [h11] at c0
        clear h11
        go_wp2_with fail
        go_roundw
        case rel => exact ⟨k + 1, s1, V1, G, R, M, L, vk, mk, by omega, by go_num, HM.out, ⟨HX.out.1.mono, HX.out.2⟩⟩
        case measure => simp [intOf]; omega
      · have d11 : (o.k != 11) = true := by simpa using h11
        have H11 := hide h11
        clear h11
        by_cases h12 : o.k = 12
        · rw [h12] at c0
          clear h12 d11
          go_wp2_with fail
          go_roundw
          case rel => exact ⟨k + 1, s1, V1, G, R, M, L, vk, mk, by omega, by go_num, HM.out, ⟨HX.out.1.mono, HX.out.2⟩⟩
          case measure => simp [intOf]; omega
        · have d12 : (o.k != 12) = true := by simpa using h12
          have H12 := hide h12
          clear h12
          have PL := hide (plays14 k kr b br s1 V1 G R M L vk mk o w1 wr HM.out HX.out.1 (by omega) H11.out H12.out)
          go_wp2_with (go_at_call 14; refine Calls.mono PL.out ?_; rintro e w4 ⟨rr, s5, V5, vk5, rfl, _, hr5⟩; have HM5 := hide hr5; clear hr5)
          go_roundw
          case rel => exact ⟨k + 1, s5, V5, opA o G, opG o R, opM o R M L, opL o M L, vk5, opK o G mk, by omega, by go_num, HM5.out, ⟨HX.out.1.op o, HX.out.2.opA HX.out.1.fg (by omega) o⟩⟩
          case measure => simp [intOf]; omega
    · have HMI : Hid (Mine w1 wr b s1 G) := ⟨HM.out.two.ga, HM.out.bel, HM.out.l2⟩
      have HDL : Hid (G.dn.length ≤ 5000000) := by show _ ≤ _; have := HX.out.1.dn; omega
      have HML := hide HX.out.1.ms
      have HHI := hide HX.out.2
      have e5 : IntKind.i64.wrap ((n : Int) + 1) = (n : Int) + 1 := by rw [IntKind.wrap_i64]; omega
      clear HM HX
      by_cases hlo : k < ops.length
      · have i1 : (k : Int) < ops.length := by omega
        have i2 : ¬ (k : Int) < 60 := by omega
        clear hlt
        go_upto_region 16 with (first
          | (go_at_call 22; refine Calls.mono (HEND.out _ _ _ _ HHI.out HDL.out HML.out HMI.out.at_) ?_; rintro e w5 ⟨rfl, s5, g5, r5⟩; have HG5 := hide (HMI.out.turn g5 r5); clear g5 r5)
          | (go_at_call 19; refine Calls.mono (HNET.out _ _ _ _ HHI.out HG5.out.at_) ?_; rintro e w6 ⟨ge, gi, p2, c2, rfl, k1, hb6⟩; have HK := hide k1; have HG6 := hide (HG5.out.later hb6); clear k1 hb6; have z6 : w.heap.size < w6.heap.size := Nat.lt_of_lt_of_le (block_lt_of_cell (later HB1.out HQ.out.1)) HG6.out.below.size))
        obtain ⟨Y, hY⟩ : ∃ Y, Y = w6.alloc (.cells #[.int .i64 n, .slice (some ⟨ge, 0, none⟩) es.length es.length] 24) := ⟨_, rfl⟩
        have hbY : Below w6.heap.size w6 Y := by rw [hY]; go_grown
        have HGY := hide (HG6.out.later hbY)
        have n0 : Y.cell? ⟨w6.heap.size, 0, none⟩ = some (.int .i64 n) := by rw [hY]; go_cell
        have n1 : Y.cell? ⟨w6.heap.size, 1, none⟩ = some (.slice (some ⟨ge, 0, none⟩) es.length es.length) := by rw [hY]; go_cell
        have HNN : Hid (∀ X, Frame Y X (GB b s5) → X.cell? ⟨w6.heap.size, 0, none⟩ = some (.int .i64 n) ∧ X.cell? ⟨w6.heap.size, 1, none⟩ = some (.slice (some ⟨ge, 0, none⟩) es.length es.length) ∧ Has X (some ⟨ge, 0, none⟩) es) := fun X hX => ⟨hX.cell n0 (HG6.out.at_.fresh (Nat.le_refl _)), hX.cell n1 (HG6.out.at_.fresh (Nat.le_refl _)), (HK.out.1.later hbY).frame hX (HG5.out.at_.fresh HK.out.2)⟩
        obtain ⟨ky, hky⟩ : ∃ ky, w6.heap.size = ky := ⟨_, rfl⟩
        rw [← hY]
        rw [hky] at HNN ⊢
        clear n0 n1 hbY hY hky z6 HK HG6 HG5
        go_upto_region 17 with (go_at_call 23; refine Calls.mono (HADD.out _ _ _ _ HHI.out HGY.out.at_) ?_; rintro e w7 ⟨rfl, s7, g7, r7⟩; have HG7 := hide (Mine.turn HGY.out g7 r7); have HN7 := hide (HNN.out _ r7.fr); clear g7 r7)
        obtain ⟨q0, q1⟩ : w7.cell? ⟨w.heap.size, 0, none⟩ = some (.int .i64 n) ∧ w7.cell? ⟨w.heap.size, 1, none⟩ = some (.slice p es.length cap) := ⟨later (below_step HB1.out HG7.out.below) HQ.out.1, later (below_step HB1.out HG7.out.below) HQ.out.2⟩
        obtain ⟨n0, n1, _⟩ := HN7.out
        go_wp2_with (go_at_call 20; refine Calls.mono (same20 n n (some ⟨ge, 0, none⟩) p es es es.length cap _ (by omega) HN7.out.2.2 ((HH.out.later (below_step HB1.out HG7.out.below)))) ?_; rintro e w8 ⟨rfl, hb8⟩; have HB8 := hide hb8; clear hb8; have hsm : sameB (n : Int) n es es = true := (by unfold sameB; simp); rw [hsm]; clear hsm q0 q1 n0 n1; have q0 := later (below_step (below_step HB1.out HG7.out.below) HB8.out) HQ.out.1; have q1 := later (below_step (below_step HB1.out HG7.out.below) HB8.out) HQ.out.2)
        go_ret
        exact ⟨rfl, below_step (below_step (below_step HBW.out HB1.out) HG7.out.below) HB8.out⟩
      · have i1 : ¬ (k : Int) < ops.length := by omega
        clear hlt
        go_upto_region 16 with (first
          | (go_at_call 22; refine Calls.mono (HEND.out _ _ _ _ HHI.out HDL.out HML.out HMI.out.at_) ?_; rintro e w5 ⟨rfl, s5, g5, r5⟩; have HG5 := hide (HMI.out.turn g5 r5); clear g5 r5)
          | (go_at_call 19; refine Calls.mono (HNET.out _ _ _ _ HHI.out HG5.out.at_) ?_; rintro e w6 ⟨ge, gi, p2, c2, rfl, k1, hb6⟩; have HK := hide k1; have HG6 := hide (HG5.out.later hb6); clear k1 hb6; have z6 : w.heap.size < w6.heap.size := Nat.lt_of_lt_of_le (block_lt_of_cell (later HB1.out HQ.out.1)) HG6.out.below.size))
        obtain ⟨Y, hY⟩ : ∃ Y, Y = w6.alloc (.cells #[.int .i64 n, .slice (some ⟨ge, 0, none⟩) es.length es.length] 24) := ⟨_, rfl⟩
        have hbY : Below w6.heap.size w6 Y := by rw [hY]; go_grown
        have HGY := hide (HG6.out.later hbY)
        have n0 : Y.cell? ⟨w6.heap.size, 0, none⟩ = some (.int .i64 n) := by rw [hY]; go_cell
        have n1 : Y.cell? ⟨w6.heap.size, 1, none⟩ = some (.slice (some ⟨ge, 0, none⟩) es.length es.length) := by rw [hY]; go_cell
        have HNN : Hid (∀ X, Frame Y X (GB b s5) → X.cell? ⟨w6.heap.size, 0, none⟩ = some (.int .i64 n) ∧ X.cell? ⟨w6.heap.size, 1, none⟩ = some (.slice (some ⟨ge, 0, none⟩) es.length es.length) ∧ Has X (some ⟨ge, 0, none⟩) es) := fun X hX => ⟨hX.cell n0 (HG6.out.at_.fresh (Nat.le_refl _)), hX.cell n1 (HG6.out.at_.fresh (Nat.le_refl _)), (HK.out.1.later hbY).frame hX (HG5.out.at_.fresh HK.out.2)⟩
        obtain ⟨ky, hky⟩ : ∃ ky, w6.heap.size = ky := ⟨_, rfl⟩
        rw [← hY]
        rw [hky] at HNN ⊢
        clear n0 n1 hbY hY hky z6 HK HG6 HG5
        go_upto_region 17 with (go_at_call 23; refine Calls.mono (HADD.out _ _ _ _ HHI.out HGY.out.at_) ?_; rintro e w7 ⟨rfl, s7, g7, r7⟩; have HG7 := hide (Mine.turn HGY.out g7 r7); have HN7 := hide (HNN.out _ r7.fr); clear g7 r7)
        obtain ⟨q0, q1⟩ : w7.cell? ⟨w.heap.size, 0, none⟩ = some (.int .i64 n) ∧ w7.cell? ⟨w.heap.size, 1, none⟩ = some (.slice p es.length cap) := ⟨later (below_step HB1.out HG7.out.below) HQ.out.1, later (below_step HB1.out HG7.out.below) HQ.out.2⟩
        obtain ⟨n0, n1, _⟩ := HN7.out
        go_wp2_with (go_at_call 20; refine Calls.mono (same20 n n (some ⟨ge, 0, none⟩) p es es es.length cap _ (by omega) HN7.out.2.2 ((HH.out.later (below_step HB1.out HG7.out.below)))) ?_; rintro e w8 ⟨rfl, hb8⟩; have HB8 := hide hb8; clear hb8; have hsm : sameB (n : Int) n es es = true := (by unfold sameB; simp); rw [hsm]; clear hsm q0 q1 n0 n1; have q0 := later (below_step (below_step HB1.out HG7.out.below) HB8.out) HQ.out.1; have q1 := later (below_step (below_step HB1.out HG7.out.below) HB8.out) HQ.out.2)
        go_ret
        exact ⟨rfl, below_step (below_step (below_step HBW.out HB1.out) HG7.out.below) HB8.out⟩
theorem marks_walk (n : Int) (p : Option Addr) (es : List Pt) (cap : Nat) (q : Option Addr) (ops : List Opr) (cq : Nat) (w : World) (h : Has w p es) (hq : OHas w q ops) (hql : ops.length ≤ maxLen) : Calls Try.prog 5 #[nv n p es.length cap, .slice q ops.length cq] w fun e w' => e = .returned (.bool true) ∧ Below w.heap.size w w' := by
  cases hb : netB n es
  · exact marks_no n p es cap q ops cq w h hb
  · obtain ⟨h0, _⟩ := netB_is hb
    obtain ⟨N, rfl⟩ : ∃ N : Nat, n = N := ⟨n.toNat, by omega⟩
    by_cases hs : 200 < N ∨ 200 < es.length
    · exact marks_skip N p es cap q ops cq w h hb hs
    · exact marks_yes N p es cap q ops cq w h hb (by omega) (by omega) hq hql
end Go.Proofs.Ytgfiofogcnnkhaa
