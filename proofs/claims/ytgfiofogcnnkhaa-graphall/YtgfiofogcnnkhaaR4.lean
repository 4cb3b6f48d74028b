/- The document's Ends, Move; the program's Move. -/
import Derived.Test.YtgfiofogcnnkhaaR3
namespace Go.Proofs.Ytgfiofogcnnkhaa
open Go.RowKit Go.Sort
open Go

set_option maxRecDepth 100000 in
set_option maxHeartbeats 8000000 in
theorem move28 (b : Nat) (s : GV) (G : Gr) (e sd v : Int) (w : World) (h : GAt w b s G) (hl : G.dn.length ≤ 4990000) (hm : G.ms.length ≤ 64) (hn : G.ns.length ≤ 1024) (he : G.es.length ≤ 3072) (hu : Up G.ns) (hue : Up (eids G.es)) : Calls Try.prog 28 #[ptr b, .int .i64 e, .int .i64 sd, .int .i64 v] w (Turns w b s (.int .i64 (mvE G e sd v)) (mvG G e sd v)) := by
  have A := none50 b s G w h
  have P := edgePlace51 b s G e w h (by omega) hue
  have HH := hide h
  have HN : Hid (∀ V, Below w.heap.size w V → Calls Try.prog 66 #[ptr b, .int .i64 v] V fun e w' => e = .returned (.bool (decide (v ∈ G.ns))) ∧ w' = V) := fun V hV => hasNode66 b s G v V (HH.out.later hV) (by omega) hu
  obtain ⟨bn, hbn⟩ : ∃ x, decide (v ∈ G.ns) = x := ⟨_, rfl⟩
  rw [hbn] at HN
  by_cases hin : e ∈ eids G.es
  · rw [decide_eq_true hin] at P
    obtain ⟨m1, m2⟩ := pl_mem hue hin
    rw [eids_length] at m1
    obtain ⟨k, hk⟩ : ∃ k, pl (eids G.es) e = k := ⟨_, rfl⟩
    rw [hk] at P m1
    cases bn with
    | true =>
      have hvn : v ∈ G.ns := of_decide_eq_true hbn
      by_cases hs0 : sd < 0
      · have e0 : mvE G e sd v = 2 := if_neg (fun hh => by omega)
        have e1 : mvG G e sd v = G := by unfold mvG; rw [e0]; rfl
        rw [e0, e1]
        clear h hk m2 hin hu hue e0 e1 hbn hvn
        go_enter Try.func28, Try.ntmps28
        go_wp2_with (first | (go_at_call 50; refine A.mono ?_; rintro e w' ⟨rfl, hw⟩; have hw2 := hw.symm; subst hw2) | (go_at_call 51; refine P.mono ?_; rintro e w1 ⟨rfl, hb⟩; have HB := hide hb; clear hb) | (go_at_call 66; refine (HN.out _ HB.out).mono ?_; rintro e w' ⟨rfl, hw⟩; have hw2 := hw.symm; subst hw2))
        go_ret
        exact ⟨rfl, s, HH.out.later HB.out, GFr.of_below HB.out⟩
      · by_cases hs1 : 1 < sd
        · have e0 : mvE G e sd v = 2 := if_neg (fun hh => by omega)
          have e1 : mvG G e sd v = G := by unfold mvG; rw [e0]; rfl
          rw [e0, e1]
          clear h hk m2 hin hu hue e0 e1 hbn hvn
          go_enter Try.func28, Try.ntmps28
          go_wp2_with (first | (go_at_call 50; refine A.mono ?_; rintro e w' ⟨rfl, hw⟩; have hw2 := hw.symm; subst hw2) | (go_at_call 51; refine P.mono ?_; rintro e w1 ⟨rfl, hb⟩; have HB := hide hb; clear hb) | (go_at_call 66; refine (HN.out _ HB.out).mono ?_; rintro e w' ⟨rfl, hw⟩; have hw2 := hw.symm; subst hw2))
          go_ret
          exact ⟨rfl, s, HH.out.later HB.out, GFr.of_below HB.out⟩
        · have e0 : mvE G e sd v = 0 := if_pos ⟨hin, hvn, by omega, by omega⟩
          have e1 : mvG G e sd v = G.setE k sd.toNat v := by unfold mvG; rw [e0, hk]; rfl
          rw [e0, e1]
          obtain ⟨t, rfl⟩ : ∃ t : Nat, sd = t := ⟨sd.toNat, by omega⟩
          rw [Int.toNat_natCast]
          clear h hk m2 hin hu hue e0 e1 hbn hvn
          go_enter Try.func28, Try.ntmps28
          go_wp2_with (first | (go_at_call 50; refine A.mono ?_; rintro e w' ⟨rfl, hw⟩; have hw2 := hw.symm; subst hw2) | (go_at_call 51; refine P.mono ?_; rintro e w1 ⟨rfl, hb⟩; have HB := hide hb; clear hb) | (go_at_call 66; refine (HN.out _ HB.out).mono ?_; rintro e w' ⟨rfl, hw⟩; have hw2 := hw.symm; subst hw2) | (go_at_call 54; refine (setEnd54 b s G k t v w1 (HH.out.later HB.out) (by omega) hm (by omega) m1 (by omega)).mono ?_; rintro e w2 ⟨rfl, s2, h1, h2⟩; have HG := hide h1; have HR := hide ((GFr.of_below HB.out).trans h2); clear h1 h2))
          go_ret
          exact ⟨rfl, _, HG.out, HR.out⟩
    | false =>
      have hvn : ¬ v ∈ G.ns := of_decide_eq_false hbn
      have e0 : mvE G e sd v = 2 := if_neg (fun hh => hvn hh.2.1)
      have e1 : mvG G e sd v = G := by unfold mvG; rw [e0]; rfl
      rw [e0, e1]
      clear h hk m2 hin hu hue e0 e1 hbn hvn
      go_enter Try.func28, Try.ntmps28
      go_wp2_with (first | (go_at_call 50; refine A.mono ?_; rintro e w' ⟨rfl, hw⟩; have hw2 := hw.symm; subst hw2) | (go_at_call 51; refine P.mono ?_; rintro e w1 ⟨rfl, hb⟩; have HB := hide hb; clear hb) | (go_at_call 66; refine (HN.out _ HB.out).mono ?_; rintro e w' ⟨rfl, hw⟩; have hw2 := hw.symm; subst hw2))
      go_ret
      exact ⟨rfl, s, HH.out.later HB.out, GFr.of_below HB.out⟩
  · rw [decide_eq_false hin] at P
    have e0 : mvE G e sd v = 2 := if_neg (fun hh => hin hh.1)
    have e1 : mvG G e sd v = G := by unfold mvG; rw [e0]; rfl
    rw [e0, e1]
    clear h hin hu hue e0 e1 hbn
    go_enter Try.func28, Try.ntmps28
    go_wp2_with (first | (go_at_call 50; refine A.mono ?_; rintro e w' ⟨rfl, hw⟩; have hw2 := hw.symm; subst hw2) | (go_at_call 51; refine P.mono ?_; rintro e w1 ⟨rfl, hb⟩; have HB := hide hb; clear hb))
    go_ret
    exact ⟨rfl, s, HH.out.later HB.out, GFr.of_below HB.out⟩
theorem RAt.putE {w : World} {b : Nat} {V : RV} {G : Gr} {M : List (Int × Gr)} {L : Int} {g c : Nat} (h : RAt w b V G M L) (hv : V.ve = .slice (some ⟨g, 0, none⟩) G.es.length c) (p e : Nat) (v : Int) (hp : p < G.es.length) (he : e < 2) : RAt (w.setCell ⟨g, p * 3 + 1 + e, none⟩ (.int .i64 v)) b V { G with es := G.es.set p ((eat G.es p).put e v) } M L ∧ RFr w (w.setCell ⟨g, p * 3 + 1 + e, none⟩ (.int .i64 v)) b V V := by
  obtain ⟨mv, od, k, tb⟩ := h.mks
  have oe := h.edg
  rw [hv] at oe
  have hf : Frame w (w.setCell ⟨g, p * 3 + 1 + e, none⟩ (.int .i64 v)) (fun i => V.ve.ownBlock = some i) := Frame.set _ _ _ (by rw [hv]; rfl)
  have oe2 := (World.ownsRow.stored oe (p * 3 + 1 + e) (.int .i64 v)).1
  rw [ecells_set _ _ _ _ he hp] at oe2
  refine ⟨⟨hf.row h.box (fun i e => apart h.box h.edg (by decide) e), hf.row h.nod (fun i e => apart h.nod h.edg (by decide) e), ?_, mv, hf.row od (fun i e => apart od h.edg (by decide) e), k.keep hf (fun k _ e => Or.inl (Or.inr (Or.inr (Or.inl e)))) (fun _ h => Or.inl h), fun i hi => Nat.lt_of_lt_of_le (tb i hi) hf.size⟩, hf.mono (fun k _ e => Or.inr (Or.inr (Or.inl e))), fun _ h => Or.inl h, rfl⟩
  rw [hv]
  show World.ownsRow _ 0 102 3 _ (G.es.set p _).length _
  rw [List.length_set]
  exact oe2
/-- An edge of the document's graph: where it lies. -/
theorem RAt.edge {w : World} {b : Nat} {V : RV} {G : Gr} {M : List (Int × Gr)} {L : Int} (h : RAt w b V G M L) {k : Nat} (hk : k < G.es.length) : ∃ g c, V.ve = .slice (some ⟨g, 0, none⟩) G.es.length c ∧ w.cell? ⟨b, 1, none⟩ = some (.slice (some ⟨g, 0, none⟩) G.es.length c) ∧ (w.cell? ⟨g, k * 3, none⟩ = some (.int .i64 (eat G.es k).id) ∧ w.cell? ⟨g, k * 3 + 1, none⟩ = some (.int .i64 (eat G.es k).a) ∧ w.cell? ⟨g, k * 3 + 2, none⟩ = some (.int .i64 (eat G.es k).b)) ∧ (∀ i, w.frozen? ⟨g, i, none⟩ = false) ∧ g ≠ b ∧ g < w.heap.size := by
  have oe := h.edg
  obtain ⟨p, c, hv, _⟩ := row_form oe
  rw [hv] at oe
  obtain ⟨g, rfl, _, hg⟩ := own_some oe (by omega)
  have q := h.cells.2.1
  rw [hv] at q
  have hc : w.cell? ⟨g, k * 3, none⟩ = some (.int .i64 (eat G.es k).id) ∧ w.cell? ⟨g, k * 3 + 1, none⟩ = some (.int .i64 (eat G.es k).a) ∧ w.cell? ⟨g, k * 3 + 2, none⟩ = some (.int .i64 (eat G.es k).b) := by
    rcases own_e102 oe with h0 | ⟨g', h1, h2⟩
    · rw [h0] at hk; simp at hk
    · cases h1; exact h2 k hk
  exact ⟨g, c, hv, q, hc, fun i => World.ownsRow.frozenAt oe i, fun e => h.ne.2.1 (by rw [hv, e]; rfl), hg⟩
set_option maxRecDepth 100000 in
set_option maxHeartbeats 8000000 in
theorem rEnds43 (b : Nat) (V : RV) (G : Gr) (M : List (Int × Gr)) (L e : Int) (w : World) (h : RAt w b V G M L) (he : G.es.length ≤ 5000) (hu : Up (eids G.es)) : Calls Try.prog 43 #[ptr b, .int .i64 e] w fun e' w' => e' = .returned (endsV G e) ∧ Below w.heap.size w w' := by
  have P := edge78 b V G M L e w h he hu
  unfold endsV
  by_cases hm : e ∈ eids G.es
  · rw [if_pos hm]
    rw [ixI_pos hm] at P
    obtain ⟨m1, m2⟩ := pl_mem hu hm
    rw [eids_length] at m1
    obtain ⟨k, hk⟩ : ∃ k, pl (eids G.es) e = k := ⟨_, rfl⟩
    rw [hk] at P m1 ⊢
    obtain ⟨g, c, _, q1, ⟨_, c1, c2⟩, _, hgb, _⟩ := h.edge m1
    obtain ⟨x, hx⟩ : ∃ x, eat G.es k = x := ⟨_, rfl⟩
    rw [hx] at c1 c2 ⊢
    have HS := hide (show w.cell? ⟨b, 1, none⟩ = some (.slice (some ⟨g, 0, none⟩) G.es.length c) ∧ w.cell? ⟨g, k * 3 + 1, none⟩ = some (.int .i64 x.a) ∧ w.cell? ⟨g, k * 3 + 2, none⟩ = some (.int .i64 x.b) from ⟨q1, c1, c2⟩)
    have i0 : (0 : Int) ≤ k := by omega
    have i1 : (k : Int) < G.es.length := by omega
    clear h m2 hk hx hm hu
    go_enter Try.func43, Try.ntmps43
    go_upto_region 4 with (go_at_call 78; refine P.mono ?_; rintro e w' ⟨rfl, hw⟩; have hw2 := hw.symm; subst hw2)
    go_region_held3 (fun V => V.cell? ⟨b, 1, none⟩ = some (.slice (some ⟨g, 0, none⟩) G.es.length c) ∧ V.cell? ⟨g, k * 3 + 1, none⟩ = some (.int .i64 x.a) ∧ V.cell? ⟨g, k * 3 + 2, none⟩ = some (.int .i64 x.b)) (exact HS.out) (fail)
    rename_i hHeld
    clear hHeld
    go_wp2_with fail
    refine bodyPost_ret (results_TTT Try.results43 _ _ _) rfl ⟨rfl, below_drew _⟩
  · rw [if_neg hm]
    have hix : ixI (eids G.es) e = -1 := if_neg hm
    rw [hix] at P
    clear h hix
    go_enter Try.func43, Try.ntmps43
    go_wp2_with (go_at_call 78; refine P.mono ?_; rintro e w' ⟨rfl, hw⟩; have hw2 := hw.symm; subst hw2)
    refine bodyPost_ret (results_TTT Try.results43 _ _ _) rfl ⟨rfl, Below.refl _ _⟩
set_option maxRecDepth 100000 in
set_option maxHeartbeats 8000000 in
theorem rMove42 (b : Nat) (V : RV) (G : Gr) (M : List (Int × Gr)) (L e sd v : Int) (w : World) (h : RAt w b V G M L) (hn : G.ns.length ≤ 1024) (he : G.es.length ≤ 3072) (hun : Up G.ns) (hu : Up (eids G.es)) : Calls Try.prog 42 #[ptr b, .int .i64 e, .int .i64 sd, .int .i64 v] w (RTurns w b V (.int .i64 (mvE G e sd v)) (mvG G e sd v) M L) := by
  have P := edge78 b V G M L e w h (by omega) hu
  have Q := node76 b V G M L v w h (by omega) hun
  have HH := hide h
  by_cases hm : e ∈ eids G.es
  · rw [ixI_pos hm] at P
    obtain ⟨m1, m2⟩ := pl_mem hu hm
    rw [eids_length] at m1
    obtain ⟨k, hk⟩ : ∃ k, pl (eids G.es) e = k := ⟨_, rfl⟩
    rw [hk] at P m1
    have i0 : (0 : Int) ≤ k := by omega
    have i1 : (k : Int) < G.es.length := by omega
    have i2 : ¬ (k : Int) < 0 := by omega
    obtain ⟨iv, hiv⟩ : ∃ i, ixI G.ns v = i := ⟨_, rfl⟩
    have nv2 := ixI_neg (l := G.ns) (x := v)
    rw [hiv] at Q nv2
    by_cases hvn : v ∈ G.ns
    · have iv0 : ¬ iv < 0 := fun hh => (nv2.1 hh) hvn
      by_cases hs0 : sd < 0 ∨ 1 < sd
      · have e0 : mvE G e sd v = 2 := if_neg (fun hh => by omega)
        have e1 : mvG G e sd v = G := by unfold mvG; rw [e0]; rfl
        rw [e0, e1]
        clear h hk m2 hm hun hu e0 e1 nv2 hiv hvn
        by_cases hs1 : sd < 0
        · go_enter Try.func42, Try.ntmps42
          go_wp2_with (first | (go_at_call 78; refine P.mono ?_; rintro e w' ⟨rfl, hw⟩; have hw2 := hw.symm; subst hw2) | (go_at_call 76; refine Q.mono ?_; rintro e w' ⟨rfl, hw⟩; have hw2 := hw.symm; subst hw2))
          go_ret
          exact ⟨rfl, V, HH.out, RFr.of_below (Below.refl _ _)⟩
        · have hs2 : 1 < sd := by omega
          clear hs0
          go_enter Try.func42, Try.ntmps42
          go_wp2_with (first | (go_at_call 78; refine P.mono ?_; rintro e w' ⟨rfl, hw⟩; have hw2 := hw.symm; subst hw2) | (go_at_call 76; refine Q.mono ?_; rintro e w' ⟨rfl, hw⟩; have hw2 := hw.symm; subst hw2))
          go_ret
          exact ⟨rfl, V, HH.out, RFr.of_below (Below.refl _ _)⟩
      · have e0 : mvE G e sd v = 0 := if_pos ⟨hm, hvn, by omega, by omega⟩
        have e1 : mvG G e sd v = G.setE k sd.toNat v := by unfold mvG; rw [e0, hk]; rfl
        rw [e0, e1]
        obtain ⟨t, rfl⟩ : ∃ t : Nat, sd = t := ⟨sd.toNat, by omega⟩
        rw [Int.toNat_natCast]
        obtain ⟨g, c, hv, q1, ⟨_, c1, c2⟩, fz, hgb, _⟩ := h.edge m1
        obtain ⟨g2, r2⟩ := h.putE hv k t v m1 (by omega)
        have HG := hide g2
        have HR := hide r2
        have f1 := fz (k * 3 + 1)
        have f2 := fz (k * 3 + 2)
        clear h hk m2 hm hun hu e0 e1 nv2 hiv hvn g2 r2 hv fz
        obtain rfl | rfl : t = 0 ∨ t = 1 := by omega
        · go_enter Try.func42, Try.ntmps42
          go_wp2_with (first | (go_at_call 78; refine P.mono ?_; rintro e w' ⟨rfl, hw⟩; have hw2 := hw.symm; subst hw2) | (go_at_call 76; refine Q.mono ?_; rintro e w' ⟨rfl, hw⟩; have hw2 := hw.symm; subst hw2))
          go_ret
          exact ⟨rfl, _, HG.out.core rfl rfl rfl rfl, HR.out⟩
        · go_enter Try.func42, Try.ntmps42
          go_wp2_with (first | (go_at_call 78; refine P.mono ?_; rintro e w' ⟨rfl, hw⟩; have hw2 := hw.symm; subst hw2) | (go_at_call 76; refine Q.mono ?_; rintro e w' ⟨rfl, hw⟩; have hw2 := hw.symm; subst hw2))
          go_ret
          exact ⟨rfl, _, HG.out.core rfl rfl rfl rfl, HR.out⟩
    · have iv0 : iv < 0 := nv2.2 hvn
      have e0 : mvE G e sd v = 2 := if_neg (fun hh => hvn hh.2.1)
      have e1 : mvG G e sd v = G := by unfold mvG; rw [e0]; rfl
      rw [e0, e1]
      clear h hk m2 hm hun hu e0 e1 nv2 hiv hvn
      go_enter Try.func42, Try.ntmps42
      go_wp2_with (first | (go_at_call 78; refine P.mono ?_; rintro e w' ⟨rfl, hw⟩; have hw2 := hw.symm; subst hw2) | (go_at_call 76; refine Q.mono ?_; rintro e w' ⟨rfl, hw⟩; have hw2 := hw.symm; subst hw2))
      go_ret
      exact ⟨rfl, V, HH.out, RFr.of_below (Below.refl _ _)⟩
  · have hix : ixI (eids G.es) e = -1 := if_neg hm
    rw [hix] at P
    have e0 : mvE G e sd v = 2 := if_neg (fun hh => hm hh.1)
    have e1 : mvG G e sd v = G := by unfold mvG; rw [e0]; rfl
    rw [e0, e1]
    clear h hix hm hun hu e0 e1 Q
    go_enter Try.func42, Try.ntmps42
    go_wp2_with (go_at_call 78; refine P.mono ?_; rintro e w' ⟨rfl, hw⟩; have hw2 := hw.symm; subst hw2)
    go_ret
    exact ⟨rfl, V, HH.out, RFr.of_below (Below.refl _ _)⟩
end Go.Proofs.Ytgfiofogcnnkhaa
