/- Depth, where it does not refuse: given what lows answers. -/
import Derived.Test.YtobkejnlkjieoaaZC02
import Derived.Test.YtobkejnlkjieoaaZC06
import Derived.Test.YtobkejnlkjieoaaZC07
import Derived.Test.YtobkejnlkjieoaaZC08
namespace Go.Proofs.Ytobkejnlkjieoaa
open Go.RowKit Go.Sort
open Go

/-- Depth first from one node. -/
abbrev dOneSt (es : List Pt) (m s : Nat) : St := (dfs es (dM es m (d0 m s (st0 m))) (d0 m s (st0 m))).st
/-- What lows answers, at one tour. -/
def LowsAt (m : Nat) (p : Option Addr) (es : List Pt) (cp : Nat) (D : St) : Prop :=
  ∀ (V : World) (Bo g : Nat) (rv : Nat → Value) (B gb gf : Nat) (po : Option Addr) (lo co : Nat), Has V p es → Rows V Bo g m rv (outL es (2 * es.length)) → IOwns V B (.slice po lo co) D.O → IRow V B gb m D.By → IRow V B gf m D.Fa →
    Calls Try.prog 84 #[nv m p es.length cp, .slice (some ⟨g, 0, none⟩) m m, tv (.slice po lo co) (.slice (some ⟨gb, 0, none⟩) m m) (.slice (some ⟨gf, 0, none⟩) m m) nilS] V fun e w' => ∃ gl, e = .returned (.slice (some ⟨gl, 0, none⟩) m m) ∧ IRow w' V.heap.size gl m (lwN es D m D.O.length) ∧ Below V.heap.size V w'
set_option maxRecDepth 100000 in
set_option maxHeartbeats 8000000 in
theorem depth14u (m : Nat) (p : Option Addr) (es : List Pt) (cp s : Nat) (w : World) (h : Has w p es) (hm : netB m es = true) (hs : s < m) (hl : LowsAt m p es cp (dOneSt es m s)) : Calls Try.prog 68 #[nv m p es.length cp, .int .i64 s] w fun e w' => ∃ v gl, e = .returned (.tuple #[v, .int .i64 0]) ∧ TR w' w.heap.size m v (dOneSt es m s) (.slice (some ⟨gl, 0, none⟩) m m) ∧ IRow w' w.heap.size gl m (lwN es (dOneSt es m s) m (dOneSt es m s).O.length) ∧ Below w.heap.size w w' ∧ (∀ vo b f l, v = tv vo (.slice (some ⟨b, 0, none⟩) m m) (.slice (some ⟨f, 0, none⟩) m m) l → b ≠ gl ∧ f ≠ gl ∧ vo.ownBlock ≠ some gl) := by
  obtain ⟨W0, hW, hb, a0, x0, hsz⟩ := two_boxes35 w m p es.length cp
  have hr : refI m es s = 0 := by unfold refI; rw [hm, if_pos rfl, if_neg (by omega)]
  have RF := hide (refusal36 m p es cp s W0 (h.later hb))
  rw [hr] at RF
  obtain ⟨n0, n1, hes, _⟩ := netB_is hm
  have HPB : Hid (∀ a, p = some a → es = [] ∨ a.block < w.heap.size) := by
    intro a ha
    rcases h with h | ⟨b, off, hp, hL⟩
    · exact Or.inl h
    · rw [hp] at ha
      cases ha
      rcases Nat.eq_zero_or_pos es.length with h0 | h0
      · exact Or.inl (List.eq_nil_of_length_eq_zero h0)
      · exact Or.inr (block_lt_of_cell (hL 0 h0).1)
  obtain ⟨D, hD⟩ : ∃ D, dOneSt es m s = D := ⟨_, rfl⟩
  rw [hD] at hl ⊢
  have HD := hide hD
  clear hD
  have HLS := hide hl
  have HM := hide hm
  have HH0 := hide (h.later hb)
  have HBB := hide hb
  have HX0 := hide x0
  have HA0 := hide a0
  clear h hb x0 a0 hm hr hl
  go_enter Try.func68, Try.ntmps68
  go_wp2_with fail
  rw [← hW]
  clear hW
  refine RF.out.mono ?_
  rintro e W ⟨rfl, hb1⟩
  have HH := hide (HH0.out.later hb1)
  have HB := hide (below_step HBB.out hb1)
  have HX := hide (box_later HX0.out hb1)
  have HA := hide (HA0.out.later hb1)
  have hsz1 := hb1.size
  clear RF hb1
  obtain ⟨q0, q1, _, _⟩ := HA.out
  go_upto_region 4 with fail
  have HAL : ∀ V, Below W.heap.size W V → Hid (V.cell? ⟨w.heap.size, 0, none⟩ = some (.int .i64 m) ∧ V.cell? ⟨w.heap.size, 1, none⟩ = some (.slice p es.length cp)) := fun V hV => ⟨later hV q0, later hV q1⟩
  have HAL2 := hide HAL
  clear HAL q0 q1
  go_cut [7, 8] (fun s7 s8 wx => ∃ (kt g gb gf : Nat) (rv : Nat → Value) (vo : Value), s7 = .pointer (some ⟨kt, 0, none⟩) ∧ s8 = .slice (some ⟨g, 0, none⟩) m m ∧ Hid (TB wx W.heap.size kt m vo gb gf nilS [] (List.replicate m (-1)) (List.replicate m (-1))) ∧ Hid (Rows wx 0 g m rv (outL es (2 * es.length))) ∧ Hid (Away m kt gb gf g 0 vo rv wx.heap.size) ∧ Hid (W.heap.size ≤ kt) ∧ Hid (Below W.heap.size W wx))
  case first =>
    obtain ⟨q0, q1⟩ := (HAL2.out W.drew (by go_grown)).out
    refine wp_region_held_drew (S := (fun V => V.cell? ⟨w.heap.size, 0, none⟩ = some (.int .i64 m) ∧ V.cell? ⟨w.heap.size, 1, none⟩ = some (.slice p es.length cp))) (by kernel_rfl) (by exact ⟨q0, q1⟩) (fun hHeld => ?_)
    obtain ⟨V0, hV0⟩ : ∃ V, V = W.drew := ⟨_, rfl⟩
    have HB0 : Hid (Below W.heap.size W V0) := by show Below _ _ _; rw [hV0]; exact below_drew _
    rw [← hV0] at hHeld q0 q1 ⊢
    clear hV0
    refine wpAnyH_take (i := 0) (v := ?v1) rfl (by kernel_rfl) (by kernel_rfl) (by kernel_rfl) (fun _ _ _ h => h) (Or.inl ⟨by rfl, ?hy1⟩) (by assumption) ?rest1
    case hy1 => (intro w hSw; (try dsimp only at hSw); go_simp; try with_reducible rfl)
    try simp only [Act.put, List.setIfInBounds_toArray]
    refine wpAnyH_take (i := 1) (v := ?v2) rfl (by kernel_rfl) (by kernel_rfl) (by kernel_rfl) (fun _ _ _ h => h) (Or.inl ⟨by rfl, ?hy2⟩) (by assumption) ?rest2
    case hy2 => (intro w hSw; (try dsimp only at hSw); go_simp; try with_reducible rfl)
    try simp only [Act.put]
    refine wpAnyH_take (i := 3) (v := ?v3) rfl (by kernel_rfl) (by kernel_rfl) (by kernel_rfl) (fun _ _ _ h => h) (Or.inl ⟨by rfl, ?hy3⟩) (by assumption) ?rest3
    case hy3 => (intro w hSw; (try dsimp only at hSw); go_simp; try with_reducible rfl)
    try simp only [Act.put]
    refine wpAnyH_ready (rs := [2, 5]) (by kernel_rfl) (by simp) ?_
    refine AllReadyH.cons rfl (fun K hK => ?_) ?_
    · clear hHeld
      go_simp
      refine (unfound37 m V0 (by omega)).mono ?_
      rintro e V1 ⟨v, rfl, ⟨vo, gb, gf, rfl, ho, hby, hfa, e1, e2, e3⟩, hb⟩
      obtain ⟨po, lo, co, rfl⟩ := IOwns.slice ho
      have HT1 := hide (And.intro ho (And.intro hby hfa))
      have HNE := hide (And.intro e1 (And.intro e2 e3))
      have HS37 := hide (And.intro HB0.out.size (Nat.le_refl V1.heap.size))
      have HB1 := hide (below_step HB0.out hb)
      have HLO : Hid (V0.heap.size ≤ gb ∧ gb < V1.heap.size ∧ V0.heap.size ≤ gf ∧ gf < V1.heap.size ∧ ∀ i, (Value.slice po lo co).ownBlock = some i → V0.heap.size ≤ i ∧ i < V1.heap.size) := ⟨hby.lt.1, hby.lt.2, hfa.lt.1, hfa.lt.2, fun i hi => World.ownsRow.lt ho i hi⟩
      obtain ⟨s37, hs37⟩ : ∃ s, V1.heap.size = s := ⟨_, rfl⟩
      have HSS : Hid (s37 ≤ V1.heap.size) := Nat.le_of_eq hs37.symm
      rw [hs37] at HLO
      have HBU : Hid (W.heap.size ≤ V0.heap.size) := HB0.out.size
      clear hs37 HS37 ho hby hfa e1 e2 e3 hb
      clear q0 q1
      obtain ⟨q0, q1⟩ := (HAL2.out _ HB1.out).out
      refine hK.out _ _ (by exact ⟨q0, q1⟩) (fun hHeld => ?_)
      clear hK K
      try simp only [Act.put, List.setIfInBounds_toArray, List.set_cons_zero, List.set_cons_succ]
      refine wpAnyH_ready (rs := [4, 5]) (by kernel_rfl) (by simp) ?_
      refine AllReadyH.cons rfl (fun K hK => ?_) ?_
      · clear hHeld
        go_simp
        refine (outs39W m p es cp V1 (HH.out.later HB1.out) HM.out).mono ?_
        rintro e V2 ⟨g, rv, rfl, hR, hb⟩
        have HR2 := hide hR
        have HRB : Hid (s37 ≤ V1.heap.size ∧ (∀ x y, x < m → (rv x).ownBlock = some y → V1.heap.size ≤ y) ∧ V1.heap.size ≤ g) := ⟨HSS.out, fun x y hx hy => (World.ownsRow.lt (hR.2.2 x hx) y hy).1, hR.size.1⟩
        have HB2 := hide (below_step HB1.out hb)
        have HT2 := hide (And.intro (HT1.out.1.later hb) (And.intro (HT1.out.2.1.later hb) (HT1.out.2.2.later hb)))
        clear hR hb
        clear q0 q1
        obtain ⟨q0, q1⟩ := (HAL2.out _ HB2.out).out
        refine hK.out _ _ (by exact ⟨q0, q1⟩) (fun hHeld => ?_)
        clear hK K
        try simp only [Act.put, List.setIfInBounds_toArray, List.set_cons_zero, List.set_cons_succ]
        refine wpAnyH_ready (rs := [5]) (by kernel_rfl) (by simp) ?_
        refine AllReadyH.cons rfl (fun K hK => ?_) ?_
        · clear hHeld
          go_simp
          obtain ⟨V3, hV⟩ : ∃ V, V = V2.alloc (.cells #[nilS, nilS, nilS, nilS] 60) := ⟨_, rfl⟩
          have hb : Below V2.heap.size V2 V3 := by rw [hV]; go_grown
          have HX3 : Hid (V3.ownsRow 0 60 4 (.slice (some ⟨V2.heap.size, 0, none⟩) 1 1) 1 [nilS, nilS, nilS, nilS]) := by show World.ownsRow _ _ _ _ _ _ _; rw [hV]; exact box35 V2 _ _ _ _
          rw [← hV]
          have HB3 := hide (below_step HB2.out hb)
          have HT3 := hide (And.intro (HT2.out.1.later hb) (And.intro (HT2.out.2.1.later hb) (HT2.out.2.2.later hb)))
          have HR3 := hide (HR2.out.later hb)
          have HSY : Hid (V2.heap.size ≤ V3.heap.size) := hb.size
          obtain ⟨kt, hkt⟩ : ∃ kt, V2.heap.size = kt := ⟨_, rfl⟩
          have HKT : Hid (W.heap.size ≤ kt) := by show _ ≤ _; rw [← hkt]; exact HB2.out.size
          rw [hkt] at HX3 ⊢
          clear hkt hV hb
          clear q0 q1
          obtain ⟨q0, q1⟩ := (HAL2.out _ HB3.out).out
          refine hK.out _ _ (by exact ⟨q0, q1⟩) (fun hHeld => ?_)
          clear hK K
          try simp only [Act.put, List.setIfInBounds_toArray, List.set_cons_zero, List.set_cons_succ]
          refine wpAnyH_ready (rs := [6]) (by kernel_rfl) (by simp) ?_
          refine AllReadyH.cons rfl (fun K hK => ?_) ?_
          · clear hHeld
            obtain ⟨c0, c1, c2, c3, f0, f1, f2, f3⟩ := box_cells HX3.out
            go_simp
            have hkb : w.heap.size ≠ kt := by have := HKT.out; omega
            obtain ⟨V4, hV4⟩ : ∃ V, V = (((V3.setCell ⟨kt, 0, none⟩ (.slice po lo co)).setCell ⟨kt, 1, none⟩ (.slice (some ⟨gb, 0, none⟩) m m)).setCell ⟨kt, 2, none⟩ (.slice (some ⟨gf, 0, none⟩) m m)).setCell ⟨kt, 3, none⟩ (.slice none 0 0) := ⟨_, rfl⟩
            have q2 : V4.cell? ⟨w.heap.size, 0, none⟩ = some (.int .i64 m) := by rw [hV4]; exact cell_set4 q0 hkb
            have q3 : V4.cell? ⟨w.heap.size, 1, none⟩ = some (.slice p es.length cp) := by rw [hV4]; exact cell_set4 q1 hkb
            rw [← hV4]
            have HV4 := hide hV4
            clear c0 c1 c2 c3 f0 f1 f2 f3 q0 q1 hV4
            have q0 := q2
            have q1 := q3
            clear q2 q3
            refine hK.out _ _ (by exact ⟨q0, q1⟩) (fun hHeld => ?_)
            clear hK K
            try simp only [Act.put, List.setIfInBounds_toArray, List.set_cons_zero, List.set_cons_succ]
            refine wpAnyH_ready (rs := [7]) (by kernel_rfl) (by simp) ?_
            refine AllReadyH.cons rfl (fun K hK => ?_) ?_
            · clear hHeld
              go_simp
              refine hK.out _ _ (by exact ⟨q0, q1⟩) (fun hHeld => ?_)
              clear hK K
              try simp only [Act.put, List.setIfInBounds_toArray, List.set_cons_zero, List.set_cons_succ]
              refine wpAnyH_done (by kernel_rfl) ?_ _
              clear hHeld
              go_wp2_with fail
              go_meet
              exact every_first HV4.out HB3.out HT3.out HR3.out HX3.out HNE.out HLO.out HKT.out HRB.out HBU.out
            exact AllReadyH.nil
          exact AllReadyH.nil
        exact AllReadyH.nil
      refine AllReadyH.cons rfl (fun K hK => ?_) ?_
      · clear hHeld
        go_simp
        obtain ⟨V2, hV⟩ : ∃ V, V = V1.alloc (.cells #[nilS, nilS, nilS, nilS] 60) := ⟨_, rfl⟩
        have hb : Below V1.heap.size V1 V2 := by rw [hV]; go_grown
        have HX2 : Hid (V2.ownsRow 0 60 4 (.slice (some ⟨V1.heap.size, 0, none⟩) 1 1) 1 [nilS, nilS, nilS, nilS]) := by show World.ownsRow _ _ _ _ _ _ _; rw [hV]; exact box35 V1 _ _ _ _
        rw [← hV]
        have HB2 := hide (below_step HB1.out hb)
        have HT2 := hide (And.intro (HT1.out.1.later hb) (And.intro (HT1.out.2.1.later hb) (HT1.out.2.2.later hb)))
        have HSY : Hid (V1.heap.size ≤ V2.heap.size) := hb.size
        obtain ⟨kt, hkt⟩ : ∃ kt, V1.heap.size = kt := ⟨_, rfl⟩
        have HKT : Hid (W.heap.size ≤ kt) := by show _ ≤ _; rw [← hkt]; exact HB1.out.size
        rw [hkt] at HX2 ⊢
        clear hkt hV hb
        clear q0 q1
        obtain ⟨q0, q1⟩ := (HAL2.out _ HB2.out).out
        refine hK.out _ _ (by exact ⟨q0, q1⟩) (fun hHeld => ?_)
        clear hK K
        try simp only [Act.put, List.setIfInBounds_toArray, List.set_cons_zero, List.set_cons_succ]
        refine wpAnyH_ready (rs := [4]) (by kernel_rfl) (by simp) ?_
        refine AllReadyH.cons rfl (fun K hK => ?_) ?_
        · clear hHeld
          go_simp
          refine (outs39W m p es cp V2 (HH.out.later HB2.out) HM.out).mono ?_
          rintro e V3 ⟨g, rv, rfl, hR, hb⟩
          have HR3 := hide hR
          have HRB : Hid (s37 ≤ V2.heap.size ∧ (∀ x y, x < m → (rv x).ownBlock = some y → V2.heap.size ≤ y) ∧ V2.heap.size ≤ g) := ⟨(Nat.le_trans HSS.out HSY.out), fun x y hx hy => (World.ownsRow.lt (hR.2.2 x hx) y hy).1, hR.size.1⟩
          have HB3 := hide (below_step HB2.out hb)
          have HT3 := hide (And.intro (HT2.out.1.later hb) (And.intro (HT2.out.2.1.later hb) (HT2.out.2.2.later hb)))
          have HX3 := hide (box_later HX2.out hb)
          clear hR hb
          clear q0 q1
          obtain ⟨q0, q1⟩ := (HAL2.out _ HB3.out).out
          refine hK.out _ _ (by exact ⟨q0, q1⟩) (fun hHeld => ?_)
          clear hK K
          try simp only [Act.put, List.setIfInBounds_toArray, List.set_cons_zero, List.set_cons_succ]
          refine wpAnyH_ready (rs := [6]) (by kernel_rfl) (by simp) ?_
          refine AllReadyH.cons rfl (fun K hK => ?_) ?_
          · clear hHeld
            obtain ⟨c0, c1, c2, c3, f0, f1, f2, f3⟩ := box_cells HX3.out
            go_simp
            have hkb : w.heap.size ≠ kt := by have := HKT.out; omega
            obtain ⟨V4, hV4⟩ : ∃ V, V = (((V3.setCell ⟨kt, 0, none⟩ (.slice po lo co)).setCell ⟨kt, 1, none⟩ (.slice (some ⟨gb, 0, none⟩) m m)).setCell ⟨kt, 2, none⟩ (.slice (some ⟨gf, 0, none⟩) m m)).setCell ⟨kt, 3, none⟩ (.slice none 0 0) := ⟨_, rfl⟩
            have q2 : V4.cell? ⟨w.heap.size, 0, none⟩ = some (.int .i64 m) := by rw [hV4]; exact cell_set4 q0 hkb
            have q3 : V4.cell? ⟨w.heap.size, 1, none⟩ = some (.slice p es.length cp) := by rw [hV4]; exact cell_set4 q1 hkb
            rw [← hV4]
            have HV4 := hide hV4
            clear c0 c1 c2 c3 f0 f1 f2 f3 q0 q1 hV4
            have q0 := q2
            have q1 := q3
            clear q2 q3
            refine hK.out _ _ (by exact ⟨q0, q1⟩) (fun hHeld => ?_)
            clear hK K
            try simp only [Act.put, List.setIfInBounds_toArray, List.set_cons_zero, List.set_cons_succ]
            refine wpAnyH_ready (rs := [7]) (by kernel_rfl) (by simp) ?_
            refine AllReadyH.cons rfl (fun K hK => ?_) ?_
            · clear hHeld
              go_simp
              refine hK.out _ _ (by exact ⟨q0, q1⟩) (fun hHeld => ?_)
              clear hK K
              try simp only [Act.put, List.setIfInBounds_toArray, List.set_cons_zero, List.set_cons_succ]
              refine wpAnyH_done (by kernel_rfl) ?_ _
              clear hHeld
              go_wp2_with fail
              go_meet
              exact every_first HV4.out HB3.out HT3.out HR3.out HX3.out HNE.out HLO.out HKT.out HRB.out HBU.out
            exact AllReadyH.nil
          exact AllReadyH.nil
        exact AllReadyH.nil
      exact AllReadyH.nil
    refine AllReadyH.cons rfl (fun K hK => ?_) ?_
    · clear hHeld
      go_simp
      obtain ⟨V1, hV⟩ : ∃ V, V = V0.alloc (.cells #[nilS, nilS, nilS, nilS] 60) := ⟨_, rfl⟩
      have hb : Below V0.heap.size V0 V1 := by rw [hV]; go_grown
      have HX1 : Hid (V1.ownsRow 0 60 4 (.slice (some ⟨V0.heap.size, 0, none⟩) 1 1) 1 [nilS, nilS, nilS, nilS]) := by show World.ownsRow _ _ _ _ _ _ _; rw [hV]; exact box35 V0 _ _ _ _
      rw [← hV]
      have HB1 := hide (below_step HB0.out hb)
      obtain ⟨kt, hkt⟩ : ∃ kt, V0.heap.size = kt := ⟨_, rfl⟩
      have HKT : Hid (W.heap.size ≤ kt) := by show _ ≤ _; rw [← hkt]; exact HB0.out.size
      rw [hkt] at HX1 ⊢
      clear hkt hV hb
      clear q0 q1
      obtain ⟨q0, q1⟩ := (HAL2.out _ HB1.out).out
      refine hK.out _ _ (by exact ⟨q0, q1⟩) (fun hHeld => ?_)
      clear hK K
      try simp only [Act.put, List.setIfInBounds_toArray, List.set_cons_zero, List.set_cons_succ]
      refine wpAnyH_ready (rs := [2]) (by kernel_rfl) (by simp) ?_
      refine AllReadyH.cons rfl (fun K hK => ?_) ?_
      · clear hHeld
        go_simp
        refine (unfound37 m V1 (by omega)).mono ?_
        rintro e V2 ⟨v, rfl, ⟨vo, gb, gf, rfl, ho, hby, hfa, e1, e2, e3⟩, hb⟩
        obtain ⟨po, lo, co, rfl⟩ := IOwns.slice ho
        have HT2 := hide (And.intro ho (And.intro hby hfa))
        have HNE := hide (And.intro e1 (And.intro e2 e3))
        have HS37 := hide (And.intro HB1.out.size (Nat.le_refl V2.heap.size))
        have HB2 := hide (below_step HB1.out hb)
        have HX2 := hide (box_later HX1.out hb)
        have HLO : Hid (V1.heap.size ≤ gb ∧ gb < V2.heap.size ∧ V1.heap.size ≤ gf ∧ gf < V2.heap.size ∧ ∀ i, (Value.slice po lo co).ownBlock = some i → V1.heap.size ≤ i ∧ i < V2.heap.size) := ⟨hby.lt.1, hby.lt.2, hfa.lt.1, hfa.lt.2, fun i hi => World.ownsRow.lt ho i hi⟩
        obtain ⟨s37, hs37⟩ : ∃ s, V2.heap.size = s := ⟨_, rfl⟩
        have HSS : Hid (s37 ≤ V2.heap.size) := Nat.le_of_eq hs37.symm
        rw [hs37] at HLO
        have HBU : Hid (W.heap.size ≤ V1.heap.size) := HB1.out.size
        clear hs37 HS37 ho hby hfa e1 e2 e3 hb
        clear q0 q1
        obtain ⟨q0, q1⟩ := (HAL2.out _ HB2.out).out
        refine hK.out _ _ (by exact ⟨q0, q1⟩) (fun hHeld => ?_)
        clear hK K
        try simp only [Act.put, List.setIfInBounds_toArray, List.set_cons_zero, List.set_cons_succ]
        refine wpAnyH_ready (rs := [4]) (by kernel_rfl) (by simp) ?_
        refine AllReadyH.cons rfl (fun K hK => ?_) ?_
        · clear hHeld
          go_simp
          refine (outs39W m p es cp V2 (HH.out.later HB2.out) HM.out).mono ?_
          rintro e V3 ⟨g, rv, rfl, hR, hb⟩
          have HR3 := hide hR
          have HRB : Hid (s37 ≤ V2.heap.size ∧ (∀ x y, x < m → (rv x).ownBlock = some y → V2.heap.size ≤ y) ∧ V2.heap.size ≤ g) := ⟨HSS.out, fun x y hx hy => (World.ownsRow.lt (hR.2.2 x hx) y hy).1, hR.size.1⟩
          have HB3 := hide (below_step HB2.out hb)
          have HT3 := hide (And.intro (HT2.out.1.later hb) (And.intro (HT2.out.2.1.later hb) (HT2.out.2.2.later hb)))
          have HX3 := hide (box_later HX2.out hb)
          clear hR hb
          clear q0 q1
          obtain ⟨q0, q1⟩ := (HAL2.out _ HB3.out).out
          refine hK.out _ _ (by exact ⟨q0, q1⟩) (fun hHeld => ?_)
          clear hK K
          try simp only [Act.put, List.setIfInBounds_toArray, List.set_cons_zero, List.set_cons_succ]
          refine wpAnyH_ready (rs := [6]) (by kernel_rfl) (by simp) ?_
          refine AllReadyH.cons rfl (fun K hK => ?_) ?_
          · clear hHeld
            obtain ⟨c0, c1, c2, c3, f0, f1, f2, f3⟩ := box_cells HX3.out
            go_simp
            have hkb : w.heap.size ≠ kt := by have := HKT.out; omega
            obtain ⟨V4, hV4⟩ : ∃ V, V = (((V3.setCell ⟨kt, 0, none⟩ (.slice po lo co)).setCell ⟨kt, 1, none⟩ (.slice (some ⟨gb, 0, none⟩) m m)).setCell ⟨kt, 2, none⟩ (.slice (some ⟨gf, 0, none⟩) m m)).setCell ⟨kt, 3, none⟩ (.slice none 0 0) := ⟨_, rfl⟩
            have q2 : V4.cell? ⟨w.heap.size, 0, none⟩ = some (.int .i64 m) := by rw [hV4]; exact cell_set4 q0 hkb
            have q3 : V4.cell? ⟨w.heap.size, 1, none⟩ = some (.slice p es.length cp) := by rw [hV4]; exact cell_set4 q1 hkb
            rw [← hV4]
            have HV4 := hide hV4
            clear c0 c1 c2 c3 f0 f1 f2 f3 q0 q1 hV4
            have q0 := q2
            have q1 := q3
            clear q2 q3
            refine hK.out _ _ (by exact ⟨q0, q1⟩) (fun hHeld => ?_)
            clear hK K
            try simp only [Act.put, List.setIfInBounds_toArray, List.set_cons_zero, List.set_cons_succ]
            refine wpAnyH_ready (rs := [7]) (by kernel_rfl) (by simp) ?_
            refine AllReadyH.cons rfl (fun K hK => ?_) ?_
            · clear hHeld
              go_simp
              refine hK.out _ _ (by exact ⟨q0, q1⟩) (fun hHeld => ?_)
              clear hK K
              try simp only [Act.put, List.setIfInBounds_toArray, List.set_cons_zero, List.set_cons_succ]
              refine wpAnyH_done (by kernel_rfl) ?_ _
              clear hHeld
              go_wp2_with fail
              go_meet
              exact every_first HV4.out HB3.out HT3.out HR3.out HX3.out HNE.out HLO.out HKT.out HRB.out HBU.out
            exact AllReadyH.nil
          exact AllReadyH.nil
        exact AllReadyH.nil
      exact AllReadyH.nil
    exact AllReadyH.nil
  case rest =>
    obtain ⟨kt, g, gb, gf, rv, vo, rfl, rfl, HT, HR, HAw, HKT, HBx⟩ := hcut
    obtain ⟨W2, hW2⟩ : ∃ W2, W2 = wc := ⟨_, rfl⟩
    rw [← hW2] at HT HR HAw HBx ⊢
    clear hW2
    obtain ⟨q0, q1⟩ := (HAL2.out W2 HBx.out).out
    have HA2 := hide (HA.out.later HBx.out)
    have HX2 := hide (box_later HX.out HBx.out)
    have HH2 := hide (HH.out.later HBx.out)
    have sW := HBx.out.size
    have HLOV : Hid (∀ i, i < W.heap.size → ¬ TBk kt gb gf vo i) := by
      intro i hi hk
      have h1 := HKT.out
      have h2 := HT.out.by_.lt.1
      have h3 := HT.out.far.lt.1
      rcases hk with h | h | h | h
      · omega
      · omega
      · omega
      · have := (World.ownsRow.lt HT.out.ord i h).1; omega
    have DV := hide (dive40 m p es cp 0 g rv W.heap.size kt gb gf vo nilS (st0 m) s W2 HM.out HH2.out HR.out HT.out (st0_ok m) hs (by show iat (List.replicate m (-1)) s < 0; rw [iat_fill hs]; omega) sW (fun a ha => (HPB.out a ha).imp id (fun hh => HLOV.out _ (by omega))) HAw.out.hg HAw.out.hr)
    have hD' : (dfs es (dM es m (d0 m s (st0 m))) (d0 m s (st0 m))).st = D := HD.out
    rw [hD'] at DV
    clear hD'
    go_wp2_with fail
    refine DV.out.mono ?_
    rintro e w5 ⟨rfl, vo5, t5, f5, a5⟩
    have HT5 := hide t5
    have HA5 := hide (f5.nown HA2.out (HLOV.out _ (by omega)))
    have HX5 : Hid (w5.ownsRow 0 60 4 (.slice (some ⟨w.heap.size + 1, 0, none⟩) 1 1) 1 [nilS, nilS, nilS, nilS]) := f5.row HX2.out (fun i hi => HLOV.out _ (by simp [Value.ownBlock] at hi; omega))
    have HH5 := hide (f5.has HH2.out (fun a ha => (HPB.out a ha).imp id (fun hh => HLOV.out _ (by omega))))
    have HR5 := hide (f5.rows HR.out HAw.out.hg HAw.out.hr)
    have HB5 : Hid (Below w.heap.size w w5) := Below.trans (below_step HB.out HBx.out) (f5.below (by have := HB.out.size; omega) (fun i hi => by
      by_cases h : w.heap.size ≤ i
      · exact h
      · exact absurd hi (HLOV.out i (by omega))))
    clear q0 q1 t5 f5 a5 DV
    obtain ⟨p5, l5, c5, rfl⟩ : ∃ a b c, vo5 = .slice a b c := by obtain ⟨a, b, hv, _⟩ := HT5.out.ord.form; exact ⟨_, _, _, hv⟩
    have LO := hide (HLS.out w5 0 g rv W.heap.size gb gf p5 l5 c5 HH5.out HR5.out HT5.out.ord HT5.out.by_ HT5.out.far)
    obtain ⟨q0, q1, _, _⟩ := HA5.out
    obtain ⟨b0, b1, b2, b3, _, _⟩ := HT5.out.cells
    have hkt5 : kt < w5.heap.size := block_lt_of_cell b0
    go_wp2_with fail
    refine LO.out.mono ?_
    rintro e w6 ⟨gl, rfl, hgl, hb6⟩
    have HT6 := hide (HT5.out.later hb6)
    have HX6 := hide (box_later HX5.out hb6)
    have HGL := hide hgl
    have HB6 := hide (below_step HB5.out hb6)
    clear q0 q1 b0 b1 b2 b3 LO hb6 hgl
    obtain ⟨b0, b1, b2, b3, _, _⟩ := HT6.out.cells
    obtain ⟨c0, c1, c2, c3, f0, f1, f2, f3⟩ := box_cells HX6.out
    obtain ⟨e0, e1, e2, e3, g0, g1, g2, g3⟩ := box_cells HT6.out.box
    have hk0 := HKT.out
    have hne : (w.heap.size + 1) ≠ kt := by omega
    have hne2 : kt ≠ (w.heap.size + 1) := by omega
    go_wp2
    obtain ⟨n1', n2', n3'⟩ := HT6.out.kne
    obtain ⟨Z, hZ⟩ : ∃ Z, Z = w6.setCell ⟨kt, 3, none⟩ (.slice (some ⟨gl, 0, none⟩) m m) := ⟨_, rfl⟩
    have XZ : Z.ownsRow 0 60 4 (.slice (some ⟨w.heap.size + 1, 0, none⟩) 1 1) 1 [nilS, nilS, nilS, nilS] := by rw [hZ]; exact ownsRow_setCell_other HX6.out (by simp [Value.ownBlock]; omega) _
    have OZ : IOwns Z W.heap.size (.slice p5 l5 c5) D.O := by rw [hZ]; exact ownsRow_setCell_other HT6.out.ord n3' _
    have BZ : IRow Z W.heap.size gb m D.By := by rw [hZ]; exact irow_other HT6.out.by_ (fun e => n1' e.symm) _
    have FZ : IRow Z W.heap.size gf m D.Fa := by rw [hZ]; exact irow_other HT6.out.far (fun e => n2' e.symm) _
    have GZ : IRow Z w5.heap.size gl m (lwN es D m D.O.length) := by rw [hZ]; exact irow_other HGL.out (by have := HGL.out.lt.1; omega) _
    have sB := HB.out.size
    have sB5 := HB5.out.size
    have LZ : Below w.heap.size w Z := by rw [hZ]; exact HB6.out.setCell (p := ⟨kt, 3, none⟩) (by show _ ≤ kt; omega) _
    rw [← hZ]
    clear hZ
    obtain ⟨cur, hk⟩ := row_kind XZ
    have k1 := row_apart hk BZ.2 (by decide)
    have k2 := row_apart hk FZ.2 (by decide)
    have k3 := row_apart hk OZ (by decide)
    have k4 := row_apart hk GZ.2 (by decide)
    refine bodyPost_ret (ret_tour2 Try.results68 rfl rfl (set_box35 XZ)) rfl ⟨_, gl, rfl, ⟨_, gb, gf, rfl, ?_, ?_, ?_, HT6.out.ne1, HT6.out.ne2, HT6.out.ne3⟩, ?_, below_set4 LZ (by omega) _ _ _ _, ?_⟩
    · exact (IOwns.base (row_set4 OZ k3 _ _ _ _) (by omega))
    · exact (irow_set4 BZ (fun e => k1 (by simp [Value.ownBlock, e])) _ _ _ _).base (by omega)
    · exact (irow_set4 FZ (fun e => k2 (by simp [Value.ownBlock, e])) _ _ _ _).base (by omega)
    · exact (irow_set4 GZ (fun e => k4 (by simp [Value.ownBlock, e])) _ _ _ _).base (by omega)
    · have z1 := HGL.out.lt.1
      have z2 := HT5.out.by_.lt.2
      have z3 := HT5.out.far.lt.2
      have z4 := HT5.out.ord
      rintro vo b f l hv
      unfold tv at hv
      injection hv with hv
      simp only [Array.mk.injEq, List.cons.injEq, Value.slice.injEq, Option.some.injEq, Addr.mk.injEq, and_true] at hv
      obtain ⟨h1, h2, h3, _⟩ := hv
      subst h1 h2 h3
      refine ⟨by omega, by omega, fun e => ?_⟩
      have := (World.ownsRow.lt z4 _ e).2
      omega
theorem depth14 (m : Nat) (p : Option Addr) (es : List Pt) (cp s : Nat) (w : World) (h : Has w p es) (hm : netB m es = true) (hs : s < m) (hl : LowsAt m p es cp (dOneSt es m s)) : Calls Try.prog 68 #[nv m p es.length cp, .int .i64 s] w fun e w' => ∃ v gl, e = .returned (.tuple #[v, .int .i64 0]) ∧ TR w' w.heap.size m v (dOneSt es m s) (.slice (some ⟨gl, 0, none⟩) m m) ∧ IRow w' w.heap.size gl m (lwN es (dOneSt es m s) m (dOneSt es m s).O.length) ∧ Below w.heap.size w w' :=
  (depth14u m p es cp s w h hm hs hl).mono fun _ _ ⟨v, gl, h1, h2, h3, h4, _⟩ => ⟨v, gl, h1, h2, h3, h4⟩
end Go.Proofs.Ytobkejnlkjieoaa
