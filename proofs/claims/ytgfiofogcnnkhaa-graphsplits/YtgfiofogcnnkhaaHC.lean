/- GraphSplits' walk. -/
import Derived.Test.YtgfiofogcnnkhaaHB
namespace Go.Proofs.Ytgfiofogcnnkhaa
open Go.RowKit Go.Sort
open Go

set_option maxRecDepth 100000 in
set_option maxHeartbeats 8000000 in
theorem splits_no (n : Int) (p : Option Addr) (es : List Pt) (cap : Nat) (x : Int) (w : World) (h : Has w p es) (hb : netB n es = false) : Calls Try.prog 4 #[nv n p es.length cap, .int .i64 x] w fun e w' => e = .returned (.bool true) ∧ Below w.heap.size w w' := by
  obtain ⟨W, hW⟩ : ∃ W, W = w.alloc (nbx n p es.length cap) := ⟨_, rfl⟩
  have hbW : Below w.heap.size w W := by rw [hW]; go_grown
  have HQ : Hid (W.cell? ⟨w.heap.size, 0, none⟩ = some (.int .i64 n) ∧ W.cell? ⟨w.heap.size, 1, none⟩ = some (.slice p es.length cap)) := ⟨by rw [hW]; go_cell, by rw [hW]; go_cell⟩
  have HB0 := hide (begun8 W)
  have HBW := hide hbW
  have HH := hide (h.later hbW)
  have HW := hide hW
  clear h hbW hW
  go_enter Try.func4, Try.ntmps4
  go_wp2_with (first | (go_at_call 8; rw [← HW.out]; refine HB0.out.mono ?_; rintro e w1 ⟨rfl, hb⟩; have HB1 := hide hb; clear hb; have q0 := later HB1.out HQ.out.1; have q1 := later HB1.out HQ.out.2) | (go_at_call 11; refine Calls.mono (of11no n p es cap w1 (HH.out.later HB1.out) hb) ?_; rintro e w2 ⟨rfl, hb2⟩; have HB2 := hide hb2; clear hb2))
  go_ret
  exact ⟨rfl, below_step (below_step HBW.out HB1.out) HB2.out⟩
set_option maxRecDepth 100000 in
set_option maxHeartbeats 8000000 in
theorem splits_skip (n : Nat) (p : Option Addr) (es : List Pt) (cap : Nat) (x : Int) (w : World) (h : Has w p es) (hb : netB n es = true) (hs : es.length = 0 ∨ 300 < n ∨ 300 < es.length ∨ x < 0) : Calls Try.prog 4 #[nv n p es.length cap, .int .i64 x] w fun e w' => e = .returned (.bool true) ∧ Below w.heap.size w w' := by
  obtain ⟨W, hW⟩ : ∃ W, W = w.alloc (nbx n p es.length cap) := ⟨_, rfl⟩
  have hbW : Below w.heap.size w W := by rw [hW]; go_grown
  have HQ : Hid (W.cell? ⟨w.heap.size, 0, none⟩ = some (.int .i64 n) ∧ W.cell? ⟨w.heap.size, 1, none⟩ = some (.slice p es.length cap)) := ⟨by rw [hW]; go_cell, by rw [hW]; go_cell⟩
  have HB0 := hide (begun8 W)
  have HBW := hide hbW
  have HH := hide (h.later hbW)
  have HW := hide hW
  clear h hbW hW
  by_cases h0 : es.length = 0
  · have e0 : ((es.length : Int) == 0) = true := by rw [beq_iff_eq]; omega
    clear h0 hs
    go_enter Try.func4, Try.ntmps4
    go_wp2_with (first | (go_at_call 8; rw [← HW.out]; refine HB0.out.mono ?_; rintro e w1 ⟨rfl, hb⟩; have HB1 := hide hb; clear hb; have q0 := later HB1.out HQ.out.1; have q1 := later HB1.out HQ.out.2) | (go_at_call 11; refine Calls.mono (of11 n p es cap w1 (HH.out.later HB1.out) hb) ?_; rintro e w2 ⟨b, s, rfl, hg⟩; have HG := hide hg; clear hg q0 q1; have q0 := later (below_step HB1.out HG.out.below) HQ.out.1; have q1 := later (below_step HB1.out HG.out.below) HQ.out.2))
    go_ret
    exact ⟨rfl, below_step (below_step HBW.out HB1.out) HG.out.below⟩
  · have e0 : ((es.length : Int) == 0) = false := by rw [beq_eq_false_iff_ne]; omega
    by_cases h1 : 300 < n
    · have e1 : (300 : Int) < n := by omega
      clear h0 hs
      go_enter Try.func4, Try.ntmps4
      go_wp2_with (first | (go_at_call 8; rw [← HW.out]; refine HB0.out.mono ?_; rintro e w1 ⟨rfl, hb⟩; have HB1 := hide hb; clear hb; have q0 := later HB1.out HQ.out.1; have q1 := later HB1.out HQ.out.2) | (go_at_call 11; refine Calls.mono (of11 n p es cap w1 (HH.out.later HB1.out) hb) ?_; rintro e w2 ⟨b, s, rfl, hg⟩; have HG := hide hg; clear hg q0 q1; have q0 := later (below_step HB1.out HG.out.below) HQ.out.1; have q1 := later (below_step HB1.out HG.out.below) HQ.out.2))
      go_ret
      exact ⟨rfl, below_step (below_step HBW.out HB1.out) HG.out.below⟩
    · have e1 : ¬ (300 : Int) < n := by omega
      by_cases h2 : 300 < es.length
      · have e2 : (300 : Int) < es.length := by omega
        clear h0 hs
        go_enter Try.func4, Try.ntmps4
        go_wp2_with (first | (go_at_call 8; rw [← HW.out]; refine HB0.out.mono ?_; rintro e w1 ⟨rfl, hb⟩; have HB1 := hide hb; clear hb; have q0 := later HB1.out HQ.out.1; have q1 := later HB1.out HQ.out.2) | (go_at_call 11; refine Calls.mono (of11 n p es cap w1 (HH.out.later HB1.out) hb) ?_; rintro e w2 ⟨b, s, rfl, hg⟩; have HG := hide hg; clear hg q0 q1; have q0 := later (below_step HB1.out HG.out.below) HQ.out.1; have q1 := later (below_step HB1.out HG.out.below) HQ.out.2))
        go_ret
        exact ⟨rfl, below_step (below_step HBW.out HB1.out) HG.out.below⟩
      · have e2 : ¬ (300 : Int) < es.length := by omega
        have e3 : x < 0 := by omega
        clear h0 hs
        go_enter Try.func4, Try.ntmps4
        go_wp2_with (first | (go_at_call 8; rw [← HW.out]; refine HB0.out.mono ?_; rintro e w1 ⟨rfl, hb⟩; have HB1 := hide hb; clear hb; have q0 := later HB1.out HQ.out.1; have q1 := later HB1.out HQ.out.2) | (go_at_call 11; refine Calls.mono (of11 n p es cap w1 (HH.out.later HB1.out) hb) ?_; rintro e w2 ⟨b, s, rfl, hg⟩; have HG := hide hg; clear hg q0 q1; have q0 := later (below_step HB1.out HG.out.below) HQ.out.1; have q1 := later (below_step HB1.out HG.out.below) HQ.out.2))
        go_ret
        exact ⟨rfl, below_step (below_step HBW.out HB1.out) HG.out.below⟩
set_option maxRecDepth 100000 in
set_option maxHeartbeats 16000000 in
theorem splits_yes (n : Nat) (p : Option Addr) (es : List Pt) (cap : Nat) (x : Int) (w : World) (h : Has w p es) (hb : netB n es = true) (h0 : es.length ≠ 0) (h1 : n ≤ 300) (h2 : es.length ≤ 300) (h3 : 0 ≤ x) : Calls Try.prog 4 #[nv n p es.length cap, .int .i64 x] w fun e w' => e = .returned (.bool true) ∧ Below w.heap.size w w' := by
  obtain ⟨_, _, _, hin⟩ := netB_is hb
  have hF := of_fine hb
  obtain ⟨i, hi⟩ : ∃ i, x.toNat % es.length = i := ⟨_, rfl⟩
  have hil : i < es.length := by rw [← hi]; exact Nat.mod_lt _ (by omega)
  have hq : Int.tmod x es.length = i := by
    obtain ⟨k, rfl⟩ : ∃ k : Nat, x = k := ⟨x.toNat, by omega⟩
    rw [Int.toNat_natCast] at hi
    rw [← hi]
    rfl
  obtain ⟨hsp, hsv⟩ := spl_of (n := n) hil (by omega) (by omega)
  have hF2 : Fine 5000 (spG n es i) := by
    have := hF.spl ((i : Int) + 1)
    rw [hsp] at this
    exact this.mono (by omega)
  obtain ⟨huv, hun, hue⟩ := un_sp (n := n) hil hin
  have hF3 : Fine 5000 (unG (spG n es i) ((n : Int) + 1)) := hF2.un_ _
  have hnl := netL_of hun hue hin
  obtain ⟨ex1, ex2⟩ := ends_sp (n := n) hil
  have EA : Hid (∀ V b s, GAt V b s (ofG n es es.length) → Calls Try.prog 16 #[ptr b, .int .i64 ((i : Int) + 1)] V fun e' w' => e' = .returned (.tuple #[.int .i64 ((at' es i).x + 1), .int .i64 ((at' es i).y + 1), .int .i64 0]) ∧ Below V.heap.size V w') := fun V b s hg => by
    rw [← ends_of (n := n) hil]
    exact ends16 b s _ _ V hg (by have := hF.le; omega) hF.ue
  have ES : Hid (∀ V b s, GAt V b s (ofG n es es.length) → Calls Try.prog 17 #[ptr b, .int .i64 ((i : Int) + 1)] V (Turns V b s (.tuple #[.int .i64 ((n : Int) + 1), .int .i64 ((es.length : Int) + 1), .int .i64 0]) (spG n es i))) := fun V b s hg => by
    rw [← hsp, ← hsv]
    exact split17 b s _ _ V hg (by simp [ofG]) (by simp [ofG]) hF.ln hF.le hF.ue (by have := hF.e1; omega) (by have := hF.e2; omega) (by have := hF.n1; omega) (by have := hF.n2; omega)
  have EB : Hid (∀ V b s, GAt V b s (spG n es i) → Calls Try.prog 16 #[ptr b, .int .i64 ((i : Int) + 1)] V fun e' w' => e' = .returned (.tuple #[.int .i64 ((at' es i).x + 1), .int .i64 ((n : Int) + 1), .int .i64 0]) ∧ Below V.heap.size V w') := fun V b s hg => by
    rw [← ex1]
    exact ends16 b s _ _ V hg (by have := hF2.le; omega) hF2.ue
  have EC : Hid (∀ V b s, GAt V b s (spG n es i) → Calls Try.prog 16 #[ptr b, .int .i64 ((es.length : Int) + 1)] V fun e' w' => e' = .returned (.tuple #[.int .i64 ((n : Int) + 1), .int .i64 ((at' es i).y + 1), .int .i64 0]) ∧ Below V.heap.size V w') := fun V b s hg => by
    rw [← ex2]
    exact ends16 b s _ _ V hg (by have := hF2.le; omega) hF2.ue
  have EU : Hid (∀ V b s, GAt V b s (spG n es i) → Calls Try.prog 18 #[ptr b, .int .i64 ((n : Int) + 1)] V (Turns V b s (.tuple #[.int .i64 ((i : Int) + 1), .int .i64 0]) (unG (spG n es i) ((n : Int) + 1)))) := fun V b s hg => by
    rw [← huv]
    exact unsplit18 b s _ _ V hg (by simp [spG]) (by simp [spG]) hF2.ln hF2.le hF2.un
  have EN : Hid (∀ V b s, GAt V b s (unG (spG n es i) ((n : Int) + 1)) → Calls Try.prog 19 #[ptr b] V fun e w' => ∃ ge gi p2 c2, e = .returned (.tuple #[nv n (some ⟨ge, 0, none⟩) es.length es.length, .slice p2 n c2, .slice (some ⟨gi, 0, none⟩) es.length es.length]) ∧ Has w' (some ⟨ge, 0, none⟩) es ∧ Below V.heap.size V w') := fun V b s hg => by
    have e1 : (unG (spG n es i) ((n : Int) + 1)).ns.length = n := by rw [hun, ofN_length]
    have e2 : (unG (spG n es i) ((n : Int) + 1)).es.length = es.length := by rw [hue, ofE_length]
    refine (net19a b s _ V hg hF3.ln hF3.le hF3.un).mono ?_
    rintro e w' ⟨ge, gi, p2, c2, rfl, k1, _, _, k2⟩
    rw [e1, e2]
    have k3 := k1.has
    rw [hnl] at k3
    exact ⟨ge, gi, p2, c2, rfl, k3, k2⟩
  obtain ⟨xx, hxx⟩ : ∃ a, (at' es i).x + 1 = a := ⟨_, rfl⟩
  obtain ⟨yy, hyy⟩ : ∃ a, (at' es i).y + 1 = a := ⟨_, rfl⟩
  rw [hxx, hyy] at EA
  rw [hxx] at EB
  rw [hyy] at EC
  have HHB := hide hb
  have e0 : ((es.length : Int) == 0) = false := by rw [beq_eq_false_iff_ne]; omega
  have e1 : ¬ (300 : Int) < n := by omega
  have e2 : ¬ (300 : Int) < es.length := by omega
  have e3 : ¬ x < 0 := by omega
  have e4 : ¬ es.length = 0 := h0
  have e5 : IntKind.i64.wrap ((i : Int) + 1) = (i : Int) + 1 := by rw [IntKind.wrap_i64]; omega
  clear hb hxx hyy hF hF2 hF3 hnl hun hue huv hsp hsv ex1 ex2 hin hi
  obtain ⟨W, hW⟩ : ∃ W, W = w.alloc (nbx n p es.length cap) := ⟨_, rfl⟩
  have hbW : Below w.heap.size w W := by rw [hW]; go_grown
  have HQ : Hid (W.cell? ⟨w.heap.size, 0, none⟩ = some (.int .i64 n) ∧ W.cell? ⟨w.heap.size, 1, none⟩ = some (.slice p es.length cap)) := ⟨by rw [hW]; go_cell, by rw [hW]; go_cell⟩
  have HB0 := hide (begun8 W)
  have HBW := hide hbW
  have HH := hide (h.later hbW)
  have HW := hide hW
  clear h hbW hW
  go_enter Try.func4, Try.ntmps4
  go_wp2_with (first
    | (go_at_call 8; rw [← HW.out]; refine HB0.out.mono ?_; rintro e w1 ⟨rfl, hb⟩; have HB1 := hide hb; clear hb; have q0 := later HB1.out HQ.out.1; have q1 := later HB1.out HQ.out.2)
    | (go_at_call 11; refine Calls.mono (of11 n p es cap w1 (HH.out.later HB1.out) HHB.out) ?_; rintro e w2 ⟨b, s, rfl, hg⟩; have HG := hide hg; clear hg q0 q1; have q0 := later (below_step HB1.out HG.out.below) HQ.out.1; have q1 := later (below_step HB1.out HG.out.below) HQ.out.2)
    | (go_at_call 16; (with_reducible refine (EA.out _ _ _ HG.out.at_).mono ?_); rintro e w2 ⟨rfl, hb2⟩; have HG := hide (HG.out.later hb2); clear hb2 q0 q1; have q0 := later (below_step HB1.out HG.out.below) HQ.out.1; have q1 := later (below_step HB1.out HG.out.below) HQ.out.2)
    | (go_at_call 16; (with_reducible refine (EB.out _ _ _ HG.out.at_).mono ?_); rintro e w2 ⟨rfl, hb2⟩; have HG := hide (HG.out.later hb2); clear hb2 q0 q1; have q0 := later (below_step HB1.out HG.out.below) HQ.out.1; have q1 := later (below_step HB1.out HG.out.below) HQ.out.2)
    | (go_at_call 16; (with_reducible refine (EC.out _ _ _ HG.out.at_).mono ?_); rintro e w2 ⟨rfl, hb2⟩; have HG := hide (HG.out.later hb2); clear hb2 q0 q1; have q0 := later (below_step HB1.out HG.out.below) HQ.out.1; have q1 := later (below_step HB1.out HG.out.below) HQ.out.2)
    | (go_at_call 17; (with_reducible refine (ES.out _ _ _ HG.out.at_).mono ?_); rintro e w2 ⟨rfl, s2, h1, h2⟩; have HG := hide (HG.out.turn h1 h2); clear h1 h2 q0 q1; have q0 := later (below_step HB1.out HG.out.below) HQ.out.1; have q1 := later (below_step HB1.out HG.out.below) HQ.out.2)
    | (go_at_call 18; (with_reducible refine (EU.out _ _ _ HG.out.at_).mono ?_); rintro e w2 ⟨rfl, s2, h1, h2⟩; have HG := hide (HG.out.turn h1 h2); clear h1 h2 q0 q1; have q0 := later (below_step HB1.out HG.out.below) HQ.out.1; have q1 := later (below_step HB1.out HG.out.below) HQ.out.2)
    | (go_at_call 19; (with_reducible refine (EN.out _ _ _ HG.out.at_).mono ?_); rintro e w2 ⟨ge, gi, p2, c2, rfl, k1, hb2⟩; have HK := hide k1; have HG := hide (HG.out.later hb2); clear k1 hb2 q0 q1; have q0 := later (below_step HB1.out HG.out.below) HQ.out.1; have q1 := later (below_step HB1.out HG.out.below) HQ.out.2; have z0 : w.heap.size < w2.heap.size := block_lt_of_cell q0)
    | (go_at_call 20; refine Calls.mono (same20 n n (some ⟨ge, 0, none⟩) p es es es.length cap _ (by omega) (HK.out.later (by go_grown)) ((HH.out.later (below_step HB1.out HG.out.below)).later (by go_grown))) ?_; rintro e w3 ⟨rfl, hb3⟩; have HB3 := hide (below_step (show Below w2.heap.size w2 _ from by go_grown) hb3); clear hb3; have hsm : sameB (n : Int) n es es = true := (by unfold sameB; simp); rw [hsm]; clear hsm))
  go_ret
  exact ⟨rfl, below_step (below_step (below_step HBW.out HB1.out) HG.out.below) HB3.out⟩
theorem splits_walk (n : Int) (p : Option Addr) (es : List Pt) (cap : Nat) (x : Int) (w : World) (h : Has w p es) : Calls Try.prog 4 #[nv n p es.length cap, .int .i64 x] w fun e w' => e = .returned (.bool true) ∧ Below w.heap.size w w' := by
  cases hb : netB n es
  · exact splits_no n p es cap x w h hb
  · obtain ⟨h0, _⟩ := netB_is hb
    obtain ⟨N, rfl⟩ : ∃ N : Nat, n = N := ⟨n.toNat, by omega⟩
    by_cases hs : es.length = 0 ∨ 300 < N ∨ 300 < es.length ∨ x < 0
    · exact splits_skip N p es cap x w h hb hs
    · exact splits_yes N p es cap x w h hb (by omega) (by omega) (by omega) (by omega)
end Go.Proofs.Ytgfiofogcnnkhaa
