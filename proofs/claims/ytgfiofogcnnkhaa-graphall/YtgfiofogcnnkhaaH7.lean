/- Of, Ends. -/
import Derived.Test.YtgfiofogcnnkhaaH6
namespace Go.Proofs.Ytgfiofogcnnkhaa
open Go.RowKit Go.Sort
open Go

def ofN (n : Nat) : List Int := (List.range n).map (fun (i : Nat) => (i : Int) + 1)
def ofE (es : List Pt) (k : Nat) : List Ed := (List.range k).map (fun (i : Nat) => ⟨(i : Int) + 1, (at' es i).x + 1, (at' es i).y + 1⟩)
def ofG (n : Nat) (es : List Pt) (k : Nat) : Gr := ⟨ofN n, ofE es k, (n : Int) + 1, (k : Int) + 1, [], 0, []⟩
theorem ofN_length (n : Nat) : (ofN n).length = n := by simp [ofN]
theorem ofE_length (es : List Pt) (k : Nat) : (ofE es k).length = k := by simp [ofE]
theorem ofN_at {n i : Nat} (h : i < n) : iat (ofN n) i = (i : Int) + 1 := by
  unfold iat ofN
  rw [List.getD_eq_getElem?_getD, List.getElem?_map, List.getElem?_range h]
  rfl
theorem ofE_at {es : List Pt} {k i : Nat} (h : i < k) : eat (ofE es k) i = ⟨(i : Int) + 1, (at' es i).x + 1, (at' es i).y + 1⟩ := by
  unfold eat ofE
  rw [List.getD_eq_getElem?_getD, List.getElem?_map, List.getElem?_range h]
  rfl
theorem ofG_node (n : Nat) (es : List Pt) : (ofG n es 0).layN = ofG (n + 1) es 0 := by
  unfold Gr.layN Gr.rem ofG
  simp [ofN, ofE, List.range_succ]
theorem ofG_edge (n : Nat) (es : List Pt) (k : Nat) : (ofG n es k).layE ((at' es k).x + 1) ((at' es k).y + 1) = ofG n es (k + 1) := by
  unfold Gr.layE Gr.rem ofG
  simp [ofE, List.range_succ]
theorem results_TT {fn : Func} {t u : Tmp} (h : fn.results = #[.tmp t, .tmp u]) (tmps : Array Value) (P : Program) (w : World) :
    (results fn tmps).run P w = .ok (.tuple #[tmps.getD t undef, tmps.getD u undef]) w := by
  simp only [results, h]
  simp
theorem of11no (n : Int) (p : Option Addr) (es : List Pt) (cap : Nat) (w : World) (h : Has w p es) (hb : netB n es = false) : Calls Try.prog 11 #[nv n p es.length cap] w fun e w' => e = .returned (.tuple #[.pointer none, .int .i64 1]) ∧ Below w.heap.size w w' := by
  obtain ⟨W, hW⟩ : ∃ W, W = w.alloc (nbx n p es.length cap) := ⟨_, rfl⟩
  have hbW : Below w.heap.size w W := by rw [hW]; go_grown
  have M := may13 n p es cap W (h.later hbW)
  rw [hb] at M
  have HW := hide hW
  have HBW := hide hbW
  clear h hb hbW hW
  go_enter Try.func11, Try.ntmps11
  go_wp2_with (go_at_call 33; rw [← HW.out]; refine M.mono ?_; rintro e w' ⟨rfl, hb⟩; have HB := hide (below_step HBW.out hb); clear hb)
  go_ret2
  exact ⟨rfl, HB.out⟩
set_option maxRecDepth 100000 in
set_option maxHeartbeats 8000000 in
theorem of11 (n : Nat) (p : Option Addr) (es : List Pt) (cap : Nat) (w : World) (h : Has w p es) (hb : netB n es = true) : Calls Try.prog 11 #[nv n p es.length cap] w fun e w' => ∃ b s, e = .returned (.tuple #[ptr b, .int .i64 0]) ∧ Mine w w' b s (ofG n es es.length) := by
  obtain ⟨W, hW⟩ : ∃ W, W = w.alloc (nbx n p es.length cap) := ⟨_, rfl⟩
  have hbW : Below w.heap.size w W := by rw [hW]; go_grown
  have M := may13 n p es cap W (h.later hbW)
  rw [hb] at M
  obtain ⟨_, hn, hl, hin⟩ := netB_is hb
  have HW := hide hW
  have HBW := hide hbW
  have HH := hide (h.later hbW)
  have HQ : Hid (W.cell? ⟨w.heap.size, 0, none⟩ = some (.int .i64 n) ∧ W.cell? ⟨w.heap.size, 1, none⟩ = some (.slice p es.length cap)) := ⟨by rw [hW]; go_cell, by rw [hW]; go_cell⟩
  have HIN := hide hin
  clear h hb hbW hW hin
  go_enter Try.func11, Try.ntmps11
  go_upto_region 4 with (first | (go_at_call 33; rw [← HW.out]; refine M.mono ?_; rintro e w1 ⟨rfl, hb⟩; have HB1 := hide hb; clear hb) | (go_at_call 31; refine (new31 _).mono ?_; rintro e w2 ⟨b, s, rfl, h1, h2, h3⟩; have HG := hide (show Mine w1 w2 b s (ofG 0 es 0) from ⟨h1, h2, h3⟩); clear h1 h2 h3))
  have q0 := later (below_step HB1.out HG.out.below) HQ.out.1
  have q1 := later (below_step HB1.out HG.out.below) HQ.out.2
  clear M HW
  go_wp2_with fail
  go_loopw [13] (fun t13 wr => ∃ (k : Nat) (s1 : GV), k ≤ n ∧ t13 = .int .i64 k ∧ Hid (Mine w1 wr b s1 (ofG k es 0))) (fun t13 _ => n - (intOf t13).toNat)
  case atStart => exact ⟨0, s, by omega, rfl, HG.out⟩
  case round =>
    obtain ⟨k, s1, hk, rfl, HM⟩ := hrel
    clear HG q0 q1
    by_cases hlt : k < n
    · have e1 : (k : Int) < n := by omega
      have L := hide (layNode34 b s1 (ofG k es 0) wr HM.out.at_ (by simp [ofG]) (by simp [ofG]) (by show (ofN k).length ≤ 5000; rw [ofN_length]; omega) (by simp [ofG]; omega) (by simp [ofG]; omega))
      rw [ofG_node] at L
      go_wp2_with (go_at_call 34; refine L.out.mono ?_; rintro e w3 ⟨rfl, s2, h1, h2⟩; have HM2 := hide (HM.out.turn h1 h2); clear h1 h2)
      go_roundw
      case rel => exact ⟨k + 1, s2, by omega, by go_num, HM2.out⟩
      case measure => simp [intOf]; omega
    · have hke : k = n := by omega
      have e1 : ¬ (k : Int) < n := by omega
      rw [hke] at HM
      clear hke
      have q1 := later (below_step HB1.out HM.out.below) HQ.out.2
      go_wp2_with fail
      clear q1
      go_loopw [21] (fun t21 wq => ∃ (j : Nat) (s1 : GV), j ≤ es.length ∧ t21 = .int .i64 j ∧ Hid (Mine w1 wq b s1 (ofG n es j))) (fun t21 _ => es.length - (intOf t21).toNat)
      case atStart => exact ⟨0, _, by omega, rfl, HM.out⟩
      case round =>
        obtain ⟨j, s3, hj, rfl, HMq⟩ := hrel
        clear HM
        by_cases hjl : j < es.length
        · have e2 : (j : Int) < es.length := by omega
          have e0 : (0 : Int) ≤ j := by omega
          rcases HH.out.later (below_step HB1.out HMq.out.below) with h | ⟨g, off, rfl, hL⟩
          · rw [h] at hjl; simp at hjl
          obtain ⟨c0, c1⟩ := hL j hjl
          clear hL
          obtain ⟨b0, b1, b2, b3⟩ := HIN.out j hjl
          obtain ⟨x, hx⟩ : ∃ x, at' es j = x := ⟨_, rfl⟩
          rw [hx] at c0 c1 b0 b1 b2 b3
          have HX := hide hx
          clear hx
          have zb : g < wr.heap.size := block_lt_of_cell c0
          obtain ⟨U, hU⟩ : ∃ U, U = wr.alloc (.cells #[.int .i64 x.x, .int .i64 x.y] 68) := ⟨_, rfl⟩
          have hbU : Below wr.heap.size wr U := by rw [hU]; go_grown
          have HMU := hide (HMq.out.later hbU)
          have L := hide (layEdge35 b s3 (ofG n es j) (x.x + 1) (x.y + 1) U HMU.out.at_ (by simp [ofG]) (by simp [ofG]) (by show (ofE es j).length ≤ 5000; rw [ofE_length]; omega) (by simp [ofG]; omega) (by simp [ofG]; omega))
          have HE : Hid ((ofG n es j).layE (x.x + 1) (x.y + 1) = ofG n es (j + 1)) := by show _ = _; rw [← HX.out]; exact ofG_edge n es j
          rw [HE.out] at L
          have HU := hide hU
          clear hU hbU
          go_wp2_with (go_at_call 35; rw [← HU.out]; refine L.out.mono ?_; rintro e w3 ⟨rfl, s4, h1, h2⟩; have HM2 := hide (HMU.out.turn h1 h2); clear h1 h2)
          go_roundw
          case rel => exact ⟨j + 1, s4, by omega, by go_num, HM2.out⟩
          case measure => simp [intOf]; omega
        · have hje : j = es.length := by omega
          have e2 : ¬ (j : Int) < es.length := by omega
          rw [hje] at HMq
          clear hje
          go_wp2_with fail
          go_ret2
          have hw := below_step HBW.out HB1.out
          exact ⟨b, rfl, s3, HMq.out.at_, below_step hw HMq.out.below, fun k hk => Nat.le_trans hw.size (HMq.out.lie k hk)⟩
def endsV (G : Gr) (e : Int) : Value := if e ∈ eids G.es then .tuple #[.int .i64 (eat G.es (pl (eids G.es) e)).a, .int .i64 (eat G.es (pl (eids G.es) e)).b, .int .i64 0] else .tuple #[.int .i64 0, .int .i64 0, .int .i64 2]
set_option maxRecDepth 100000 in
set_option maxHeartbeats 8000000 in
theorem ends16 (b : Nat) (s : GV) (G : Gr) (e : Int) (w : World) (h : GAt w b s G) (he : G.es.length ≤ 5000) (hu : Up (eids G.es)) : Calls Try.prog 16 #[ptr b, .int .i64 e] w fun e' w' => e' = .returned (endsV G e) ∧ Below w.heap.size w w' := by
  have A := none50 b s G w h
  have P := edgePlace51 b s G e w h he hu
  obtain ⟨pn, cn, pe, ce, pm, cm, pd, cd, _, hs, _⟩ := h.form
  unfold endsV
  by_cases hm : e ∈ eids G.es
  · rw [if_pos hm]
    rw [decide_eq_true hm] at P
    obtain ⟨m1, m2⟩ := pl_mem hu hm
    rw [eids_length] at m1
    obtain ⟨k, hk⟩ : ∃ k, pl (eids G.es) e = k := ⟨_, rfl⟩
    rw [hk] at P m1 m2 ⊢
    obtain ⟨x, hx⟩ : ∃ x, eat G.es k = x := ⟨_, rfl⟩
    rw [hx]
    have HC : Hid (∀ V, Below w.heap.size w V → ∃ g, pe = some ⟨g, 0, none⟩ ∧ V.cell? ⟨b, 2, none⟩ = some (.slice (some ⟨g, 0, none⟩) G.es.length ce) ∧ V.cell? ⟨g, k * 3 + 1, none⟩ = some (.int .i64 x.a) ∧ V.cell? ⟨g, k * 3 + 2, none⟩ = some (.int .i64 x.b)) := fun V hV => by
      have hg := h.later hV
      have oe := hg.edg
      have q2 := hg.cells.2.2.1
      rw [hs] at oe q2
      rcases own_ehas oe with h0 | ⟨g, rfl, hc⟩
      · rw [h0] at m1; simp at m1
      obtain ⟨_, c1, c2⟩ := hc k m1
      rw [hx] at c1 c2
      exact ⟨g, rfl, q2, c1, c2⟩
    have i0 : (0 : Int) ≤ k := by omega
    have i1 : (k : Int) < G.es.length := by omega
    clear h hs m2 hk hx hm hu
    go_enter Try.func16, Try.ntmps16
    go_upto_region 6 with (first | (go_at_call 50; refine A.mono ?_; rintro e w' ⟨rfl, hw⟩; have hw2 := hw.symm; subst hw2) | (go_at_call 51; refine P.mono ?_; rintro e w1 ⟨rfl, hb⟩; have HB := hide hb; clear hb))
    obtain ⟨g, rfl, q2, c1, c2⟩ := HC.out _ HB.out
    have HS := hide (show w1.cell? ⟨b, 2, none⟩ = some (.slice (some ⟨g, 0, none⟩) G.es.length ce) ∧ w1.cell? ⟨g, k * 3 + 1, none⟩ = some (.int .i64 x.a) ∧ w1.cell? ⟨g, k * 3 + 2, none⟩ = some (.int .i64 x.b) from ⟨q2, c1, c2⟩)
    clear A P HC
    go_region_held3 (fun V => V.cell? ⟨b, 2, none⟩ = some (.slice (some ⟨g, 0, none⟩) G.es.length ce) ∧ V.cell? ⟨g, k * 3 + 1, none⟩ = some (.int .i64 x.a) ∧ V.cell? ⟨g, k * 3 + 2, none⟩ = some (.int .i64 x.b)) (exact HS.out) (fail)
    rename_i hHeld
    clear hHeld
    go_wp2_with fail
    refine bodyPost_ret (results_TTT Try.results16 _ _ _) rfl ⟨rfl, ?_⟩
    exact below_step HB.out (below_drew _)
  · rw [if_neg hm]
    rw [decide_eq_false hm] at P
    clear h hs
    go_enter Try.func16, Try.ntmps16
    go_wp2_with (first | (go_at_call 50; refine A.mono ?_; rintro e w' ⟨rfl, hw⟩; have hw2 := hw.symm; subst hw2) | (go_at_call 51; refine P.mono ?_; rintro e w1 ⟨rfl, hb⟩; have HB := hide hb; clear hb))
    refine bodyPost_ret (results_TTT Try.results16 _ _ _) rfl ⟨rfl, HB.out⟩
end Go.Proofs.Ytgfiofogcnnkhaa
