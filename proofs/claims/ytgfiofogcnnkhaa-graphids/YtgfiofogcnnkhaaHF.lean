/- numbered: the ids rise and tell the net. -/
import Derived.Test.YtgfiofogcnnkhaaHB
namespace Go.Proofs.Ytgfiofogcnnkhaa
open Go.RowKit Go.Sort
open Go

theorem netL_length (G : Gr) : (netL G).length = G.es.length := netN_length G _
theorem netL_at (G : Gr) {j : Nat} (hj : j < G.es.length) : at' (netL G) j = nE G j := netN_at G _ (Nat.le_refl _) j hj
theorem net_fine {N : Int} {G : Gr} (h : Fine N G) : netB G.ns.length (netL G) = true := by
  refine net_yes (by omega) ?_ (fun j hj => ?_)
  · have h1 := h.ln
    have h2 := h.le
    rw [netL_length]
    simp only [fitsB, Bool.and_eq_true, decide_eq_true_eq]
    omega
  · rw [netL_length] at hj
    obtain ⟨_, _, h3, h4⟩ := h.be _ (eat_mem hj)
    have p1 := (pl_mem h.un h3).1
    have p2 := (pl_mem h.un h4).1
    rw [netL_at G hj]
    unfold nE
    simp only [edB, belowB, Bool.and_eq_true, decide_eq_true_eq]
    omega
theorem own_cells {w : World} {B : Nat} {p : Option Addr} {n c : Nat} {l : List Int} (o : IOwns w B (.slice p n c) l) (h : 0 < l.length) : ∃ g, p = some ⟨g, 0, none⟩ ∧ ∀ j, j < l.length → w.cell? ⟨g, j, none⟩ = some (.int .i64 (iat l j)) := by
  obtain ⟨g, rfl, _, _⟩ := own_some o h
  rcases own_ihas o with h0 | ⟨g', o', h1, h2⟩
  · rw [h0] at h; simp at h
  · cases h1
    refine ⟨g, rfl, fun j hj => ?_⟩
    have := h2 j hj
    rw [Nat.zero_add] at this
    exact this
set_option maxRecDepth 100000 in
set_option maxHeartbeats 16000000 in
theorem numbered30 (b : Nat) (s : GV) (G : Gr) (v f N : Int) (w : World) (h : GAt w b s G) (hF : Fine N G) (hN : N ≤ 1000000) (hv : G.nn = v + 1) (hf : G.ne = f + 1) : Calls Try.prog 30 #[ptr b, .int .i64 v, .int .i64 f] w fun e w' => e = .returned (.bool true) ∧ Below w.heap.size w w' := by
  have NE := hide (net19a b s G w h hF.ln hF.le hF.un)
  have HH := hide h
  have HFF := hide hF
  obtain ⟨n, hn⟩ : ∃ n, G.ns.length = n := ⟨_, rfl⟩
  obtain ⟨m, hm⟩ : ∃ m, G.es.length = m := ⟨_, rfl⟩
  have hn1 : n ≤ 1024 := by rw [← hn]; exact hF.ln
  have hm1 : m ≤ 3072 := by rw [← hm]; exact hF.le
  have HNM := hide (show G.ns.length = n ∧ G.es.length = m from ⟨hn, hm⟩)
  rw [hn, hm] at NE
  have HV := hide (show G.nn = v + 1 ∧ G.ne = f + 1 from ⟨hv, hf⟩)
  have hv0 : 0 ≤ v := by have := hF.n1; omega
  have hv1 : v ≤ 1000000 := by have := hF.n2; omega
  have hf0 : 0 ≤ f := by have := hF.e1; omega
  have hf1 : f ≤ 1000000 := by have := hF.e2; omega
  clear h hF hn hm hv hf hN
  go_enter Try.func30, Try.ntmps30
  go_upto_region 2 with (go_at_call 19; refine NE.out.mono ?_; rintro e w1 ⟨ge, gi, pn, cn, rfl, k1, k2, k3, k4⟩; have HP := hide k1; have HI := hide k2; have HJ := hide k3; have HB1 := hide k4; clear k1 k2 k3 k4)
  obtain ⟨V, hV⟩ : ∃ V, V = w1.alloc (nbx n (some ⟨ge, 0, none⟩) m m) := ⟨_, rfl⟩
  have hb : Below w1.heap.size w1 V := by rw [hV]; go_grown
  have HQ : Hid (V.cell? ⟨w1.heap.size, 0, none⟩ = some (.int .i64 n) ∧ V.cell? ⟨w1.heap.size, 1, none⟩ = some (.slice (some ⟨ge, 0, none⟩) m m)) := ⟨by rw [hV]; go_cell, by rw [hV]; go_cell⟩
  rw [← hV]
  have HBV := hide (below_step HB1.out hb)
  have HPV := hide (HP.out.later hb)
  have HIV := hide (HI.out.later hb)
  have HJV := hide (HJ.out.later hb)
  clear hV hb HB1 HP HI HJ NE
  go_wp2_with fail
  go_loopw [10] (fun t10 wr => ∃ i : Nat, i ≤ n ∧ t10 = .int .i64 i ∧ Hid (Below V.heap.size V wr)) (fun t10 _ => n - (intOf t10).toNat)
  case atStart => exact ⟨0, by omega, rfl, Below.refl _ _⟩
  case round =>
    obtain ⟨i, hi, rfl, HBr⟩ := hrel
    by_cases hlt : i < n
    · have o := HIV.out.later HBr.out
      obtain ⟨g, rfl, hL⟩ := own_cells o (by rw [HNM.out.1]; omega)
      have c0 := hL i (by rw [HNM.out.1]; exact hlt)
      obtain ⟨x, hx⟩ : ∃ x, iat G.ns i = x := ⟨_, rfl⟩
      obtain ⟨x1, x2⟩ := HFF.out.bn _ (iat_mem (l := G.ns) (j := i) (by rw [HNM.out.1]; exact hlt))
      rw [hx] at c0 x1 x2
      have x3 : ¬ x < 1 := by omega
      have x4 : ¬ v < x := by have := HV.out.1; omega
      have e1 : (i : Int) < n := by omega
      have e0 : (0 : Int) ≤ i := by omega
      by_cases hi0 : i = 0
      · subst hi0
        have C0 := cell_regrown c0
        have d3 : decide (x < 1) = false := decide_eq_false x3
        have d4 : decide (v < x) = false := decide_eq_false x4
        clear hL c0
        go_wp2_with fail
        refine wp_region_quiet_below (by kernel_rfl) (by kernel_rfl) ?_
        repeat (go_big_quiet_step (fail))
        refine wpQuiet_nil ?_
        rintro w' ⟨pp, rfl⟩
        have HB2 := hide (below_step HBr.out (below_regrown wr pp.d pp.os))
        go_wp2_with fail
        go_roundw
        case rel => exact ⟨1, by omega, by go_num, HB2.out⟩
        case measure => simp [intOf]; omega
      · obtain ⟨k, rfl⟩ : ∃ k, i = k + 1 := ⟨i - 1, by omega⟩
        have c1 := hL k (by rw [HNM.out.1]; omega)
        obtain ⟨y, hy⟩ : ∃ y, iat G.ns k = y := ⟨_, rfl⟩
        have hxy := HFF.out.un.lt (i := k) (j := k + 1) (by omega) (by rw [HNM.out.1]; exact hlt)
        rw [hx, hy] at hxy
        rw [hy] at c1
        have x5 : ¬ x ≤ y := by omega
        have e2 : (0 : Int) < ((k + 1 : Nat) : Int) := by omega
        have e3 : (k : Int) < n := by omega
        have e4 : (0 : Int) ≤ k := by omega
        have e5 : ((k + 1 : Nat) : Int) - 1 = k := by omega
        have C0 := cell_regrown c0
        have C1 := cell_regrown c1
        have d3 : decide (x < 1) = false := decide_eq_false x3
        have d4 : decide (v < x) = false := decide_eq_false x4
        have d5 : decide (x ≤ y) = false := decide_eq_false x5
        have d6 : decide ((0 : Int) < (k : Int) + 1) = true := decide_eq_true (by omega)
        have d7 : (0 : Int) < (k : Int) + 1 := by omega
        clear c0 c1
        have hwk : IntKind.i64.wrap (k : Int) = k := by rw [IntKind.wrap_i64]; omega
        clear hL e5
        go_wp2_with fail
        refine wp_region_quiet_below (by kernel_rfl) (by kernel_rfl) ?_
        repeat (go_big_quiet_step (fail))
        refine wpQuiet_nil ?_
        rintro w' ⟨pp, rfl⟩
        have HB2 := hide (below_step HBr.out (below_regrown wr pp.d pp.os))
        go_wp2_with fail
        go_roundw
        case rel => exact ⟨k + 1 + 1, by omega, by go_num, HB2.out⟩
        case measure => simp [intOf]; omega
    · have e1 : ¬ (i : Int) < n := by omega
      have HES := hide (fun (V' : World) (hV' : Below V.heap.size V V') => show GAt V' b s G from HH.out.later (below_step HBV.out hV'))
      go_wp2_with fail
      go_loopw [11] (fun t11 wq => ∃ j : Nat, j ≤ m ∧ t11 = .int .i64 j ∧ Hid (Below V.heap.size V wq)) (fun t11 _ => m - (intOf t11).toNat)
      case atStart => exact ⟨0, by omega, rfl, HBr.out⟩
      case round =>
        obtain ⟨j, hj, rfl, HBq⟩ := hrel
        by_cases hjm : j < m
        · have hjG : j < G.es.length := by rw [HNM.out.2]; exact hjm
          obtain ⟨y, hy⟩ : ∃ y, eat G.es j = y := ⟨_, rfl⟩
          have be := HFF.out.be _ (eat_mem hjG)
          rw [hy] at be
          obtain ⟨y1, y2, y3, y4⟩ := be
          have hid : iat (eids G.es) j = y.id := by rw [eids_at hjG, hy]
          have hen : endsV G y.id = .tuple #[.int .i64 y.a, .int .i64 y.b, .int .i64 0] := by
            unfold endsV
            have hm : y.id ∈ eids G.es := by rw [← hid]; exact iat_mem (by rw [eids_length]; exact hjG)
            have hp : pl (eids G.es) y.id = j := by rw [← hid]; exact pl_of HFF.out.ue (by rw [eids_length]; exact hjG)
            rw [if_pos hm, hp, hy]
          have cj := (HJV.out.later HBq.out).cell (j := j) hjm
          rw [hid] at cj
          obtain ⟨cj, _⟩ := cj
          have e1 : (j : Int) < m := by omega
          have e0 : (0 : Int) ≤ j := by omega
          have EN := hide (fun V' (hV' : Below V.heap.size V V') => ends16 b s G y.id V' (HES.out V' hV') (by have := HFF.out.le; omega) HFF.out.ue)
          rw [hen] at EN
          obtain ⟨pa, hpa1, hpa2⟩ : ∃ pa : Nat, pl G.ns y.a = pa ∧ pa < n ∧ iat G.ns pa = y.a := ⟨_, rfl, by have := (pl_mem HFF.out.un y3).1; rw [HNM.out.1] at this; exact this, (pl_mem HFF.out.un y3).2⟩
          obtain ⟨pb, hpb1, hpb2⟩ : ∃ pb : Nat, pl G.ns y.b = pb ∧ pb < n ∧ iat G.ns pb = y.b := ⟨_, rfl, by have := (pl_mem HFF.out.un y4).1; rw [HNM.out.1] at this; exact this, (pl_mem HFF.out.un y4).2⟩
          have hnE : at' (netL G) j = ⟨(pa : Int), (pb : Int)⟩ := by rw [netL_at G hjG]; unfold nE; rw [hy, hpa1, hpb1]
          have HPJ := hide hnE
          have HPA := hide (show pa < n ∧ iat G.ns pa = y.a ∧ pb < n ∧ iat G.ns pb = y.b from ⟨hpa2.1, hpa2.2, hpb2.1, hpb2.2⟩)
          have HID := hide hid
          have hyf : ¬ f < y.id := by have := HV.out.2; omega
          clear hen hy hnE hpa1 hpb1 hpa2 hpb2 hid y1 y2 y3 y4 hjG
          go_upto_region 11 with (go_at_call 16; refine (EN.out _ HBq.out).mono ?_; rintro e w3 ⟨rfl, hb3⟩; have HB3 := hide (below_step HBq.out hb3); clear hb3)
          obtain ⟨gn, hgn, hLn⟩ := own_cells (HIV.out.later HB3.out) (by rw [HNM.out.1]; have := HPA.out.1; omega)
          obtain ⟨a1, a2, a3, a4⟩ := HPA.out
          have c0 : w3.cell? ⟨gi, j, none⟩ = some (.int .i64 y.id) := by have := ((HJV.out.later HB3.out).cell (j := j) hjm).1; rw [HID.out] at this; exact this
          have p0 : w3.cell? ⟨ge, j * 2, none⟩ = some (.int .i64 pa) := by have := ((HPV.out.later HB3.out).cell (j := j) hjm).1; rw [HPJ.out] at this; exact this
          have p1 : w3.cell? ⟨ge, j * 2 + 1, none⟩ = some (.int .i64 pb) := by have := ((HPV.out.later HB3.out).cell (j := j) hjm).2.1; rw [HPJ.out] at this; exact this
          have q1 : w3.cell? ⟨w1.heap.size, 1, none⟩ = some (.slice (some ⟨ge, 0, none⟩) m m) := later HB3.out HQ.out.2
          have na : w3.cell? ⟨gn, pa, none⟩ = some (.int .i64 y.a) := by have := hLn pa (by rw [HNM.out.1]; exact a1); rw [a2] at this; exact this
          have nb : w3.cell? ⟨gn, pb, none⟩ = some (.int .i64 y.b) := by have := hLn pb (by rw [HNM.out.1]; exact a3); rw [a4] at this; exact this
          have C0 := cell_regrown c0
          have P0 := cell_regrown p0
          have P1 := cell_regrown p1
          have Q1 := cell_regrown q1
          have NA := cell_regrown na
          have NB := cell_regrown nb
          have d1 : decide (f < y.id) = false := decide_eq_false (by omega)
          have i2 : (pa : Int) < n := by omega
          have i3 : (pb : Int) < n := by omega
          have i4 : (0 : Int) ≤ pa := by omega
          have i5 : (0 : Int) ≤ pb := by omega
          subst hgn
          clear hLn a1 a2 a3 a4 c0 p0 p1 q1 na nb cj EN
          by_cases hj0 : j = 0
          · subst hj0
            simp only [Nat.zero_mul, Nat.zero_add] at P0 P1
            refine wp_region_quiet_below (by kernel_rfl) (by kernel_rfl) ?_
            repeat (go_big_quiet_step (fail))
            refine wpQuiet_nil ?_
            rintro w' ⟨pp, rfl⟩
            have HB2 := hide (below_step HB3.out (below_regrown w3 pp.d pp.os))
            clear C0 P0 P1 Q1 NA NB
            go_wp2_with fail
            go_roundw
            case rel => exact ⟨1, by omega, by go_num, HB2.out⟩
            case measure => simp [intOf]; omega
          · obtain ⟨k, rfl⟩ : ∃ k, j = k + 1 := ⟨j - 1, by omega⟩
            obtain ⟨z, hz⟩ : ∃ z, iat (eids G.es) k = z := ⟨_, rfl⟩
            have c1 := ((HJV.out.later HB3.out).cell (j := k) (by omega)).1
            rw [hz] at c1
            have C1 := cell_regrown c1
            have hzy := HFF.out.ue.lt (i := k) (j := k + 1) (by omega) (by rw [eids_length, HNM.out.2]; exact hjm)
            rw [HID.out, hz] at hzy
            have d5 : decide (y.id ≤ z) = false := decide_eq_false (by omega)
            have d6 : decide ((0 : Int) < (k : Int) + 1) = true := decide_eq_true (by omega)
            have d7 : (0 : Int) < (k : Int) + 1 := by omega
            have d8 : (k : Int) < m := by omega
            have d9 : (0 : Int) ≤ k := by omega
            clear c1 hz
            refine wp_region_quiet_below (by kernel_rfl) (by kernel_rfl) ?_
            repeat (go_big_quiet_step (fail))
            refine wpQuiet_nil ?_
            rintro w' ⟨pp, rfl⟩
            have HB2 := hide (below_step HB3.out (below_regrown w3 pp.d pp.os))
            clear C0 C1 P0 P1 Q1 NA NB
            go_wp2_with fail
            go_roundw
            case rel => exact ⟨k + 1 + 1, by omega, by go_num, HB2.out⟩
            case measure => simp [intOf]; omega
        · have e1 : ¬ (j : Int) < m := by omega
          have hnb := net_fine HFF.out
          have hnl : netL (ofG G.ns.length (netL G) (netL G).length) = netL G := by
            obtain ⟨_, _, _, hin⟩ := netB_is hnb
            exact netL_of rfl rfl hin
          have hF2 := of_fine hnb
          rw [HNM.out.1] at hnb hnl hF2
          have hml : (netL G).length = m := by rw [netL_length]; exact HNM.out.2
          obtain ⟨E, hE⟩ : ∃ E, netL G = E := ⟨_, rfl⟩
          rw [hE] at hnb hnl hF2 hml
          subst hml
          have HPE : Hid (∀ V', Below V.heap.size V V' → Has V' (some ⟨ge, 0, none⟩) E) := fun V' hV' => by
            have := (HPV.out.later hV').has
            rw [hE] at this
            exact this
          have q0 := later HBq.out HQ.out.1
          have q1 := later HBq.out HQ.out.2
          have HNB := hide hnb
          have HNL := hide hnl
          have HF2 := hide hF2
          clear hnb hnl hF2 hE
          go_wp2_with (first
            | (go_at_call 11; refine Calls.mono (of11 n (some ⟨ge, 0, none⟩) E E.length _ (HPE.out _ HBq.out) HNB.out) ?_; rintro e w4 ⟨b4, s4, rfl, hg⟩; have HG4 := hide hg; clear hg q0 q1)
            | (go_at_call 19; refine Calls.mono (net19a b4 s4 (ofG n E E.length) _ HG4.out.at_ HF2.out.ln HF2.out.le HF2.out.un) ?_; rintro e w5 ⟨g5, i5, p5, c5, rfl, k1, _, _, k2⟩; have hEl : (ofG n E E.length).es.length = E.length := ofE_length _ _; have hNl : (ofG n E E.length).ns.length = n := ofN_length _; rw [hEl] at k1; rw [hEl, hNl]; have k3 := k1.has; rw [HNL.out] at k3; have HK5 := hide k3; have HB5 := hide (below_step HG4.out.below k2); clear k1 k2 k3 hEl hNl; have q0 := later (below_step HBq.out HB5.out) HQ.out.1; have q1 := later (below_step HBq.out HB5.out) HQ.out.2; have z0 : w1.heap.size < w5.heap.size := block_lt_of_cell q0)
            | (go_at_call 20; refine Calls.mono (same20 n n (some ⟨g5, 0, none⟩) (some ⟨ge, 0, none⟩) E E E.length E.length _ (by omega) (HK5.out.later (by go_grown)) ((HPE.out _ (below_step HBq.out HB5.out)).later (by go_grown))) ?_; rintro e w6 ⟨rfl, hb6⟩; have HB6 := hide (below_step (show Below w5.heap.size w5 _ from by go_grown) hb6); clear hb6; have hsm : sameB (n : Int) n E E = true := (by unfold sameB; simp); rw [hsm]; clear hsm))
          go_ret
          exact ⟨rfl, below_step (below_step (below_step HBV.out HBq.out) HB5.out) HB6.out⟩
end Go.Proofs.Ytgfiofogcnnkhaa
