/- Tree. -/
import Derived.Test.YtobkejnlkjieoaaZC22
import Derived.Deep.DeepCutAuto
namespace Go.Proofs.Ytobkejnlkjieoaa
open Go.RowKit Go.Sort
open Go
theorem cut_up (n : Nat) (es : List Pt) (of : Nat → Int) : Up (cutB n es of) := by
  unfold cutB Up
  rw [List.pairwise_map]
  exact (List.pairwise_lt_range.filter _).imp fun h => by omega
theorem cut_len (n : Nat) (es : List Pt) (of : Nat → Int) : (cutB n es of).length ≤ n := by
  unfold cutB
  rw [List.length_map]
  exact Nat.le_trans (List.length_filter_le _ _) (by rw [List.length_range]; exact Nat.le_refl _)
/-- The tree of a net: how many nodes, which edges. -/
def trN (m : Nat) (es : List Pt) : Int := (ctsB m es : Int) + ((cutsB m es).length : Int)
def trE (m : Nat) (es : List Pt) : List Pt := joB es (ofB m es) (cutsB m es) (ctsB m es)
/-- What Tree answers. -/
def TrPost (n : Int) (es : List Pt) (w : World) (e : Ending) (w' : World) : Prop :=
  (netB n es = false ∧ e = .returned (.tuple #[nv 0 none 0 0, .int .i64 1])) ∨
  (netB n es = true ∧ netB (trN n.toNat es) (trE n.toNat es) = false ∧ e = .returned (.tuple #[nv 0 none 0 0, .int .i64 3])) ∨
  (netB n es = true ∧ netB (trN n.toNat es) (trE n.toNat es) = true ∧ ∃ q c, e = .returned (.tuple #[nv (trN n.toNat es) q (trE n.toNat es).length c, .int .i64 0]) ∧ Owns w' w.heap.size (.slice q (trE n.toNat es).length c) (trE n.toNat es))
theorem own_fresh (w : World) : NOwn (w.alloc (nbx 0 none 0 0)) w.heap.size 0 none 0 0 := ⟨by unfold nbx; go_cell, by unfold nbx; go_cell, by unfold nbx; go_cell, by unfold nbx; go_cell⟩
set_option maxRecDepth 100000 in
set_option maxHeartbeats 16000000 in
theorem tree13 (n : Int) (p : Option Addr) (es : List Pt) (cp : Nat) (w : World) (h : Has w p es) : Calls Try.prog 13 #[nv n p es.length cp] w fun e w' => TrPost n es w e w' ∧ Below w.heap.size w w' := by
  obtain ⟨W, hW, hb, a0, b0⟩ := two_nets w n p es.length cp
  have HH := hide (h.later hb)
  have HB := hide hb
  have HA := hide a0
  have HN := hide b0
  have hws : w.heap.size + 1 < W.heap.size := block_lt_of_cell b0.1
  have C1 := hide (blocks11 n p es cp W (h.later hb))
  have HSZ := hide hws
  obtain ⟨q0, q1, _, _⟩ := a0
  clear h hb b0 hws
  go_enter Try.func13, Try.ntmps13
  go_upto_region 1 with fail
  rw [← hW]
  clear hW
  go_wp2_with fail
  refine C1.out.mono ?_
  rintro e w1 ⟨hpost, hb1⟩
  have HB1 := hide hb1
  clear C1 q0 q1
  rcases hpost with ⟨hm, g, v, rfl, hI, hO⟩ | ⟨hm, rfl⟩
  · obtain ⟨n0, n1, hes, hE⟩ := netB_is hm
    obtain ⟨m, rfl⟩ : ∃ m : Nat, n = m := ⟨n.toNat, by omega⟩
    rw [show ((m : Nat) : Int).toNat = m from Int.toNat_natCast m] at *
    have HM := hide hm
    obtain ⟨pv, cv, rfl, _⟩ := hO.form
    have hcl := cts_le (n := m) hm
    have hlc := cut_len m es (ofB m es)
    have HUP : Hid (Up (cutsB m es)) := cut_up m es (ofB m es)
    have HTN : Hid (trN m es = (ctsB m es : Int) + ((cutsB m es).length : Int)) := rfl
    have HTE : Hid (trE m es = joB es (ofB m es) (cutsB m es) (ctsB m es)) := rfl
    change (cutsB m es).length ≤ m at hlc
    obtain ⟨ct, hct⟩ : ∃ c, ctsB m es = c := ⟨_, rfl⟩
    obtain ⟨of, hof⟩ : ∃ f, ofB m es = f := ⟨_, rfl⟩
    obtain ⟨cu, hcu⟩ : ∃ f, cutsB m es = f := ⟨_, rfl⟩
    obtain ⟨E, hEE⟩ : ∃ f, trE m es = f := ⟨_, rfl⟩
    obtain ⟨N, hNN⟩ : ∃ f, trN m es = f := ⟨_, rfl⟩
    rw [hof] at hI
    rw [hcu] at hO hlc HUP
    rw [hct] at hcl
    rw [hct, hcu, hNN] at HTN
    rw [hct, hcu, hof, hEE] at HTE
    rw [hcu, hct]
    have HEE := hide hEE
    have HNN := hide hNN
    have HI := hide hI
    have HO := hide hO
    unfold blV
    clear hm hE hI hO hct hof hcu hEE hNN hb1
    go_upto_region 2 with fail
    obtain ⟨V, hV⟩ : ∃ V, V = w1.alloc (.cells #[.slice (some ⟨g, 0, none⟩) es.length es.length, .slice pv cu.length cv, .int .i64 ct] 34) := ⟨_, rfl⟩
    have hbV : Below w1.heap.size w1 V := by rw [hV]; go_grown
    obtain ⟨kt, hkt⟩ : ∃ k, w1.heap.size = k := ⟨_, rfl⟩
    have t0 : V.cell? ⟨kt, 0, none⟩ = some (.slice (some ⟨g, 0, none⟩) es.length es.length) := by rw [hV, ← hkt]; go_cell
    have t1 : V.cell? ⟨kt, 1, none⟩ = some (.slice pv cu.length cv) := by rw [hV, ← hkt]; go_cell
    have t2 : V.cell? ⟨kt, 2, none⟩ = some (.int .i64 ct) := by rw [hV, ← hkt]; go_cell
    have HBV := hide (below_step HB1.out hbV)
    have HIV := hide (HI.out.later hbV)
    have HOV := hide (HO.out.later hbV)
    have HNV := hide (HN.out.later HBV.out)
    obtain ⟨kb, hkb⟩ : ∃ kb, w.heap.size = kb := ⟨_, rfl⟩
    have HKB := hide hkb
    obtain ⟨s0, s1, _, _⟩ := HA.out.later HBV.out
    rw [hkb] at s0 s1
    have SK : Hid (∀ X, Below V.heap.size V X → Below V.heap.size V X ∧ X.cell? ⟨kb, 0, none⟩ = some (.int .i64 m) ∧ X.cell? ⟨kb, 1, none⟩ = some (.slice p es.length cp) ∧ X.cell? ⟨kt, 0, none⟩ = some (.slice (some ⟨g, 0, none⟩) es.length es.length) ∧ X.cell? ⟨kt, 1, none⟩ = some (.slice pv cu.length cv) ∧ X.cell? ⟨kt, 2, none⟩ = some (.int .i64 ct)) := fun X hX => ⟨hX, later hX s0, later hX s1, later hX t0, later hX t1, later hX t2⟩
    have PK : Hid (∀ X, Below V.heap.size V X → Calls Try.prog 40 #[nv m p es.length cp, .agg #[.slice (some ⟨g, 0, none⟩) es.length es.length, .slice pv cu.length cv, .int .i64 ct]] X fun e w' => ∃ q c, e = .returned (.slice q E.length c) ∧ Owns w' X.heap.size (.slice q E.length c) E ∧ Below X.heap.size X w') := fun X hX => by
      obtain ⟨p1, c1, hp1, hh1, _⟩ := (HOV.out.later hX).form
      simp only [Value.slice.injEq, true_and] at hp1
      obtain ⟨rfl, rfl⟩ := hp1
      refine (joints40 m p (some ⟨g, 0, none⟩) pv es of cu ct cp es.length cv X ((HH.out.later HBV.out).later hX) (HIV.out.later hX).has hh1 HUP.out HM.out (by omega) (by omega)).mono ?_
      rintro e w' ⟨v, rfl, o, hb⟩
      rw [← HTE.out] at o
      obtain ⟨q, c, rfl, _⟩ := o.form
      exact ⟨q, c, rfl, o, hb⟩
    have wv : IntKind.i64.wrap ((ct : Int) + (cu.length : Int)) = N := by rw [IntKind.wrap_i64, HTN.out]; omega
    rw [← hV]
    try rw [hkt]
    try rw [hkb]
    clear hV hbV hkt hkb HI HO HB1 s0 s1 t0 t1 t2
    go_upto_region 4 with fail
    go_cut [6] (fun s6 wx => ∃ (kx : Nat) (q : Option Addr) (c : Nat), s6 = .pointer (some ⟨kx, 0, none⟩) ∧ Hid (Below V.heap.size V wx) ∧ Hid (NOwn wx kx N q E.length c) ∧ Hid (Owns wx V.heap.size (.slice q E.length c) E))
    case first =>
      go_region_held3 (fun X => Below V.heap.size V X ∧ X.cell? ⟨kb, 0, none⟩ = some (.int .i64 m) ∧ X.cell? ⟨kb, 1, none⟩ = some (.slice p es.length cp) ∧ X.cell? ⟨kt, 0, none⟩ = some (.slice (some ⟨g, 0, none⟩) es.length es.length) ∧ X.cell? ⟨kt, 1, none⟩ = some (.slice pv cu.length cv) ∧ X.cell? ⟨kt, 2, none⟩ = some (.int .i64 ct))
        (first | exact SK.out _ (by assumption) | exact SK.out _ (below_drew _) | exact SK.out _ (by go_grown) | exact SK.out _ (Below.alloc (‹Below V.heap.size V _ ∧ _›).1 (Below.size (‹Below V.heap.size V _ ∧ _›).1) _))
        (first | (go_at_call 40; have hB := (‹Below V.heap.size V _ ∧ _›).1; (with_reducible refine (PK.out _ hB).mono ?_); rintro e w4 ⟨q, c, rfl, o, hb⟩; have hz := hb.size; have hy := hB.size; have hB4 := below_step hB hb; have hs4 := hB4.size; (try (have y1 : NOwn w4 V.heap.size 0 none 0 0 := NOwn.later (by first | exact own_fresh _ | exact NOwn.later (own_fresh _) (below_drew _)) hb; obtain ⟨_, _, _, _⟩ := y1))))
      · go_wp2_with fail
        go_meet
        refine ⟨_, q, c, rfl, (‹Below V.heap.size V _ ∧ _›).1, ⟨by go_cell, by go_cell, by go_cell, by go_cell⟩, (o.base hy).later (by go_grown)⟩
      · go_wp2_with fail
        go_meet
        refine ⟨_, q, c, rfl, (‹Below V.heap.size V _ ∧ _›).1, NOwn.set (by first | exact ⟨by assumption, by assumption, by assumption, by assumption⟩) _ _ _ _, (owns_other (owns_other o (by simp) _) (by simp) _).base hy⟩
    case rest =>
      obtain ⟨kx, q, c, rfl, HBX, HNX, HOX⟩ := hcut
      have HVS : Hid (W.heap.size ≤ V.heap.size) := HBV.out.size
      have HBW := hide (below_step HBV.out HBX.out)
      have HNW := hide (HN.out.later HBW.out)
      clear SK PK wv HIV HOV HNV HBV
      obtain ⟨q1, c1, hq1, hhas, _⟩ := HOX.out.form
      simp only [Value.slice.injEq, true_and] at hq1
      obtain ⟨rfl, rfl⟩ := hq1
      have C36 := hide (may13 N q E c _ hhas)
      obtain ⟨y0, y1, _, _⟩ := HNX.out
      clear hhas
      go_wp2_with fail
      refine C36.out.mono ?_
      rintro e w5 ⟨rfl, hb5⟩
      have HB5 := hide (below_step HBW.out hb5)
      have HN5 := hide (HNX.out.later hb5)
      have HO5 := hide (HOX.out.later hb5)
      have HR5 := hide (HNW.out.later hb5)
      clear C36 hb5 y0 y1 HBX HNX HOX HBW HNW
      obtain ⟨y0, y1, _, _⟩ := HN5.out
      obtain ⟨z0, z1, z2, z3⟩ := HR5.out
      rw [HKB.out] at z0 z1 z2 z3
      have HBF := hide (below_step HB.out HB5.out)
      cases hNE : netB N E
      · have HNE := hide hNE
        clear hNE
        go_wp2
        refine bodyPost_ret (ret_net Try.results13 rfl rfl (by have := HR5.out.set 0 none 0 0; rw [HKB.out] at this; exact this)) rfl ⟨?_, ?_⟩
        · refine Or.inr (Or.inl ⟨HM.out, ?_, rfl⟩)
          rw [Int.toNat_natCast, HEE.out, HNN.out]
          exact HNE.out
        · have hk := HKB.out
          exact (HBF.out.setCell (p := ⟨kb + 1, 0, none⟩) (by simp; omega) _).setCell (p := ⟨kb + 1, 1, none⟩) (by simp; omega) _
      · have HNE := hide hNE
        clear hNE
        go_wp2
        refine bodyPost_ret (ret_net Try.results13 rfl rfl (by have := HR5.out.set N q E.length c; rw [HKB.out] at this; exact this)) rfl ⟨?_, ?_⟩
        · refine Or.inr (Or.inr ⟨HM.out, ?_, q, c, ?_, ?_⟩)
          · rw [Int.toNat_natCast, HEE.out, HNN.out]
            exact HNE.out
          · rw [Int.toNat_natCast, HEE.out, HNN.out]
            first | rfl | skip
          · rw [Int.toNat_natCast, HEE.out]
            have h1 := HVS.out
            have h2 := HSZ.out
            have h3 := HKB.out
            exact (owns_other (owns_other HO5.out (by omega) _) (by omega) _).base (by omega)
        · have hk := HKB.out
          exact (HBF.out.setCell (p := ⟨kb + 1, 0, none⟩) (by simp; omega) _).setCell (p := ⟨kb + 1, 1, none⟩) (by simp; omega) _
  · have HM := hide hm
    clear hm
    unfold blV
    go_upto_region 2 with fail
    obtain ⟨V, hV⟩ : ∃ V, V = w1.alloc (.cells #[.slice none 0 0, .slice none 0 0, .int .i64 0] 34) := ⟨_, rfl⟩
    have hbV : Below w1.heap.size w1 V := by rw [hV]; go_grown
    have HBV := hide (below_step HB1.out hbV)
    have HNV := hide (HN.out.later HBV.out)
    have HBW := hide (below_step HB.out HBV.out)
    rw [← hV]
    clear hV hbV
    obtain ⟨z0, z1, z2, z3⟩ := HNV.out
    go_wp2
    refine bodyPost_ret (ret_net Try.results13 rfl rfl (HNV.out.set 0 none 0 0)) rfl ⟨Or.inl ⟨HM.out, rfl⟩, ?_⟩
    exact (HBW.out.setCell (p := ⟨w.heap.size + 1, 0, none⟩) (by simp) _).setCell (p := ⟨w.heap.size + 1, 1, none⟩) (by simp) _
end Go.Proofs.Ytobkejnlkjieoaa
