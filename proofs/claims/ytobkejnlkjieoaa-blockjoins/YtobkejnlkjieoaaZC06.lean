/- everywhere: breadth first through each component. -/
import Derived.Test.YtobkejnlkjieoaaZC02
import Derived.Test.YtobkejnlkjieoaaZC05
import Derived.Deep.DeepCutAuto
import Derived.Test.YtobkejnlkjieoaaZC04
namespace Go.Proofs.Ytobkejnlkjieoaa
open Go.RowKit Go.Sort
open Go

theorem Ok.bfs {n : Nat} {es : List Pt} (hm : netB n es = true) : ∀ (k j : Nat) (st : St), Ok n st → Ok n (bfs es k j st)
  | 0, _, _, o => o
  | k + 1, j, st, o => by
    simp only [Ytobkejnlkjieoaa.bfs]
    split
    · rename_i hj
      obtain ⟨h0, h1⟩ := o.mem j hj
      exact Ok.bfs hm k (j + 1) _ (o.row hm (by omega) (o.fnd j hj) _ (Nat.le_refl _)).1
    · exact o
/-- The tour behind so many nodes. -/
def everyN (es : List Pt) (n : Nat) : Nat → St
  | 0 => st0 n
  | s + 1 => if iat (everyN es n s).Fa s < 0 then bfs es n (everyN es n s).O.length (begin_ (everyN es n s) s) else everyN es n s
theorem everyN_ok {n : Nat} {es : List Pt} (hm : netB n es = true) : ∀ s, s ≤ n → Ok n (everyN es n s)
  | 0, _ => st0_ok n
  | s + 1, hs => by
    have ih := everyN_ok hm s (by omega)
    simp only [everyN]
    split
    · rename_i h; exact Ok.bfs hm _ _ _ (ih.begin_ (by omega) h)
    · exact ih
/-- Rows that lie apart from a tour. -/
structure Away (m k gb gf g Br : Nat) (vo : Value) (rv : Nat → Value) (T : Nat) : Prop where
  hg : ¬ TBk k gb gf vo g
  hr : ∀ v i, v < m → (rv v).ownBlock = some i → ¬ TBk k gb gf vo i
  lg : g < T
  lr : ∀ v i, v < m → (rv v).ownBlock = some i → i < T
theorem Away.next {m k gb gf g Br T : Nat} {vo vo' : Value} {rv : Nat → Value} (_h : Away m k gb gf g Br vo rv T) (a : vo'.ownBlock = vo.ownBlock ∨ ∃ i, vo'.ownBlock = some i ∧ T ≤ i) {i : Nat} (hi : i < T) (hn : ¬ TBk k gb gf vo i) : ¬ TBk k gb gf vo' i := by
  rintro (h1 | h1 | h1 | h1)
  · exact hn (Or.inl h1)
  · exact hn (Or.inr (Or.inl h1))
  · exact hn (Or.inr (Or.inr (Or.inl h1)))
  · rcases a with a | ⟨x, hx, hx2⟩
    · exact hn (Or.inr (Or.inr (Or.inr (by rw [← a]; exact h1))))
    · rw [hx] at h1; injection h1 with h1; omega
theorem cell_set4 {V : World} {k : Nat} {A : Addr} {v a b c d : Value} (h : V.cell? A = some v) (hk : A.block ≠ k) : (set4 V k a b c d).cell? A = some v := cell_other (cell_other (cell_other (cell_other h hk) hk) hk) hk
theorem IOwns.slice {w : World} {B : Nat} {v : Value} {l : List Int} (h : IOwns w B v l) : ∃ a b c, v = .slice a b c := by
  obtain ⟨a, b, hv, _⟩ := h.form
  exact ⟨_, _, _, hv⟩
theorem every_first {W V3 V4 : World} {m kt g gb gf s37 BR Bu Br : Nat} {rv : Nat → Value} {vo : Value} {L : Nat → List Int} {By Fa : List Int}
    (hV : V4 = (((V3.setCell ⟨kt, 0, none⟩ vo).setCell ⟨kt, 1, none⟩ (.slice (some ⟨gb, 0, none⟩) m m)).setCell ⟨kt, 2, none⟩ (.slice (some ⟨gf, 0, none⟩) m m)).setCell ⟨kt, 3, none⟩ (.slice none 0 0))
    (hB : Below W.heap.size W V3) (hT : IOwns V3 Bu vo [] ∧ IRow V3 Bu gb m By ∧ IRow V3 Bu gf m Fa) (hR : Rows V3 Br g m rv L) (hX : V3.ownsRow 0 60 4 (.slice (some ⟨kt, 0, none⟩) 1 1) 1 [nilS, nilS, nilS, nilS]) (hne : gb ≠ gf ∧ vo.ownBlock ≠ some gb ∧ vo.ownBlock ≠ some gf)
    (hlo : Bu ≤ gb ∧ gb < s37 ∧ Bu ≤ gf ∧ gf < s37 ∧ ∀ i, vo.ownBlock = some i → Bu ≤ i ∧ i < s37) (hkt : W.heap.size ≤ kt) (hrb : s37 ≤ BR ∧ (∀ x y, x < m → (rv x).ownBlock = some y → BR ≤ y) ∧ BR ≤ g) (hBu : W.heap.size ≤ Bu) :
    ∃ (kt' g' gb' gf' : Nat) (rv' : Nat → Value) (vo' : Value), Value.pointer (some ⟨kt, 0, none⟩) = .pointer (some ⟨kt', 0, none⟩) ∧ Value.slice (some ⟨g, 0, none⟩) m m = .slice (some ⟨g', 0, none⟩) m m ∧ Hid (TB V4 W.heap.size kt' m vo' gb' gf' nilS [] By Fa) ∧ Hid (Rows V4 0 g' m rv' L) ∧ Hid (Away m kt' gb' gf' g' 0 vo' rv' V4.heap.size) ∧ Hid (W.heap.size ≤ kt') ∧ Hid (Below W.heap.size W V4) := by
  obtain ⟨t1, t2, t3⟩ := hT
  obtain ⟨cur, hk⟩ := row_kind hX
  have k1 := row_apart hk t2.2 (by decide)
  have k2 := row_apart hk t3.2 (by decide)
  have k3 := row_apart hk t1 (by decide)
  have k4 := row_apart hk hR.1 (by decide)
  have k5 : ∀ v, v < m → (rv v).ownBlock ≠ some kt := fun v hv => row_apart hk (hR.2.2 v hv) (by decide)
  have kg : g ≠ kt := fun e => k4 (by simp [Value.ownBlock, e])
  have hsz : V4.heap.size = V3.heap.size := by rw [hV]; simp
  have hV' : V4 = set4 V3 kt vo (.slice (some ⟨gb, 0, none⟩) m m) (.slice (some ⟨gf, 0, none⟩) m m) nilS := hV
  refine ⟨kt, g, gb, gf, rv, vo, rfl, rfl, ?_, ?_, ?_, hkt, ?_⟩
  · rw [hV']
    exact ⟨set_box35 hX, (IOwns.base (row_set4 t1 k3 _ _ _ _) hBu), (irow_set4 t2 (fun e => k1 (by simp [Value.ownBlock, e])) _ _ _ _).base hBu, (irow_set4 t3 (fun e => k2 (by simp [Value.ownBlock, e])) _ _ _ _).base hBu, hne.1, hne.2.1, hne.2.2⟩
  · rw [hV']
    exact ⟨owns_base (row_set4 hR.1 k4 _ _ _ _) (Nat.zero_le _), hR.2.1, fun v hv => IOwns.base (row_set4 (hR.2.2 v hv) (k5 v hv) _ _ _ _) (Nat.zero_le _)⟩
  · refine ⟨?_, ?_, ?_, ?_⟩
    · rintro (h | h | h | h)
      · exact kg h
      · omega
      · omega
      · have := hlo.2.2.2.2 g h; omega
    · intro v i hv hi hk'
      have hb := hrb.2.1 v i hv hi
      rcases hk' with h | h | h | h
      · exact k5 v hv (by rw [hi, h])
      · omega
      · omega
      · have := hlo.2.2.2.2 i h; omega
    · rw [hsz]; exact hR.size.2
    · intro v i hv hi
      rw [hsz]
      exact (World.ownsRow.lt (hR.2.2 v hv) i hi).2
  · rw [hV']; exact below_set4 hB hkt _ _ _ _
set_option maxRecDepth 100000 in
set_option maxHeartbeats 8000000 in
theorem everywhere43 (m : Nat) (p : Option Addr) (es : List Pt) (cp : Nat) (w : World) (h : Has w p es) (hm : netB m es = true) : Calls Try.prog 67 #[nv m p es.length cp] w fun e w' => ∃ v, e = .returned v ∧ TR w' w.heap.size m v (everyN es m m) nilS ∧ Below w.heap.size w w' := by
  obtain ⟨W, hW, hb, a0, x0, hsz⟩ := two_boxes35 w m p es.length cp
  obtain ⟨n0, n1, hes, _⟩ := netB_is hm
  have HPB : Hid (∀ a, p = some a → es = [] ∨ a.block < w.heap.size) := by
    intro a ha
    rcases h with h | ⟨b, off, hp, hL⟩
    · exact Or.inl h
    · rw [hp] at ha
      cases ha
      rcases Nat.eq_zero_or_pos es.length with h0 | h0
      · exact Or.inl (List.eq_nil_of_length_eq_zero h0)
      · exact Or.inr (block_lt_of_cell (hL 0 h0).1)
  have HM := hide hm
  have HH := hide (h.later hb)
  have HB := hide hb
  have HX := hide x0
  have HA := hide a0
  obtain ⟨q0, q1, _, _⟩ := a0
  clear h hb x0 hm
  go_enter Try.func67, Try.ntmps67
  go_upto_region 1 with fail
  rw [← hW]
  clear hW
  have HAL : ∀ V, Below W.heap.size W V → Hid (V.cell? ⟨w.heap.size, 0, none⟩ = some (.int .i64 m) ∧ V.cell? ⟨w.heap.size, 1, none⟩ = some (.slice p es.length cp)) := fun V hV => ⟨later hV q0, later hV q1⟩
  have HAL2 := hide HAL
  clear HAL q0 q1
  go_cut [3, 4] (fun s3 s4 wx => ∃ (kt g gb gf : Nat) (rv : Nat → Value) (vo : Value), s3 = .pointer (some ⟨kt, 0, none⟩) ∧ s4 = .slice (some ⟨g, 0, none⟩) m m ∧ Hid (TB wx W.heap.size kt m vo gb gf nilS [] (List.replicate m (-1)) (List.replicate m (-1))) ∧ Hid (Rows wx 0 g m rv (outL es (2 * es.length))) ∧ Hid (Away m kt gb gf g 0 vo rv wx.heap.size) ∧ Hid (W.heap.size ≤ kt) ∧ Hid (Below W.heap.size W wx))
  case first =>
    obtain ⟨q0, q1⟩ := (HAL2.out W.drew (by go_grown)).out
    refine wp_region_held_drew (S := (fun V => V.cell? ⟨w.heap.size, 0, none⟩ = some (.int .i64 m) ∧ V.cell? ⟨w.heap.size, 1, none⟩ = some (.slice p es.length cp))) (by kernel_rfl) (by exact ⟨q0, q1⟩) (fun hHeld => ?_)
    obtain ⟨V0, hV0⟩ : ∃ V, V = W.drew := ⟨_, rfl⟩
    have HB0 : Hid (Below W.heap.size W V0) := by show Below _ _ _; rw [hV0]; exact below_drew _
    rw [← hV0] at hHeld q0 q1 ⊢
    clear hV0
    refine wpAnyH_take (i := 0) (v := ?v1) rfl (by kernel_rfl) (by kernel_rfl) (by kernel_rfl) (fun _ _ _ h => h) (Or.inl ⟨by rfl, ?hy1⟩) (by assumption) ?rest1
    case hy1 => (intro w hSw; (try dsimp only at hSw); go_simp; try with_reducible rfl)
    try simp only [Act.put, List.setIfInBounds_toArray]
    refine wpAnyH_take (i := 1) (v := ?v2) rfl (by kernel_rfl) (by kernel_rfl) (by kernel_rfl) (fun _ _ _ h => h) (Or.inl ⟨by rfl, ?hy2⟩) (by assumption) ?rest2
    case hy2 => (intro w hSw; (try dsimp only at hSw); go_simp; try with_reducible rfl)
    try simp only [Act.put]
    refine wpAnyH_take (i := 3) (v := ?v3) rfl (by kernel_rfl) (by kernel_rfl) (by kernel_rfl) (fun _ _ _ h => h) (Or.inl ⟨by rfl, ?hy3⟩) (by assumption) ?rest3
    case hy3 => (intro w hSw; (try dsimp only at hSw); go_simp; try with_reducible rfl)
    try simp only [Act.put]
    refine wpAnyH_ready (rs := [2, 5]) (by kernel_rfl) (by simp) ?_
    refine AllReadyH.cons rfl (fun K hK => ?_) ?_
    · clear hHeld
      go_simp
      refine (unfound37 m V0 (by omega)).mono ?_
      rintro e V1 ⟨v, rfl, ⟨vo, gb, gf, rfl, ho, hby, hfa, e1, e2, e3⟩, hb⟩
      obtain ⟨po, lo, co, rfl⟩ := IOwns.slice ho
      have HT1 := hide (And.intro ho (And.intro hby hfa))
      have HNE := hide (And.intro e1 (And.intro e2 e3))
      have HS37 := hide (And.intro HB0.out.size (Nat.le_refl V1.heap.size))
      have HB1 := hide (below_step HB0.out hb)
      have HLO : Hid (V0.heap.size ≤ gb ∧ gb < V1.heap.size ∧ V0.heap.size ≤ gf ∧ gf < V1.heap.size ∧ ∀ i, (Value.slice po lo co).ownBlock = some i → V0.heap.size ≤ i ∧ i < V1.heap.size) := ⟨hby.lt.1, hby.lt.2, hfa.lt.1, hfa.lt.2, fun i hi => World.ownsRow.lt ho i hi⟩
      obtain ⟨s37, hs37⟩ : ∃ s, V1.heap.size = s := ⟨_, rfl⟩
      have HSS : Hid (s37 ≤ V1.heap.size) := Nat.le_of_eq hs37.symm
      rw [hs37] at HLO
      have HBU : Hid (W.heap.size ≤ V0.heap.size) := HB0.out.size
      clear hs37 HS37 ho hby hfa e1 e2 e3 hb
      clear q0 q1
      obtain ⟨q0, q1⟩ := (HAL2.out _ HB1.out).out
      refine hK.out _ _ (by exact ⟨q0, q1⟩) (fun hHeld => ?_)
      clear hK K
      try simp only [Act.put, List.setIfInBounds_toArray, List.set_cons_zero, List.set_cons_succ]
      refine wpAnyH_ready (rs := [4, 5]) (by kernel_rfl) (by simp) ?_
      refine AllReadyH.cons rfl (fun K hK => ?_) ?_
      · clear hHeld
        go_simp
        refine (outs39W m p es cp V1 (HH.out.later HB1.out) HM.out).mono ?_
        rintro e V2 ⟨g, rv, rfl, hR, hb⟩
        have HR2 := hide hR
        have HRB : Hid (s37 ≤ V1.heap.size ∧ (∀ x y, x < m → (rv x).ownBlock = some y → V1.heap.size ≤ y) ∧ V1.heap.size ≤ g) := ⟨HSS.out, fun x y hx hy => (World.ownsRow.lt (hR.2.2 x hx) y hy).1, hR.size.1⟩
        have HB2 := hide (below_step HB1.out hb)
        have HT2 := hide (And.intro (HT1.out.1.later hb) (And.intro (HT1.out.2.1.later hb) (HT1.out.2.2.later hb)))
        clear hR hb
        clear q0 q1
        obtain ⟨q0, q1⟩ := (HAL2.out _ HB2.out).out
        refine hK.out _ _ (by exact ⟨q0, q1⟩) (fun hHeld => ?_)
        clear hK K
        try simp only [Act.put, List.setIfInBounds_toArray, List.set_cons_zero, List.set_cons_succ]
        refine wpAnyH_ready (rs := [5]) (by kernel_rfl) (by simp) ?_
        refine AllReadyH.cons rfl (fun K hK => ?_) ?_
        · clear hHeld
          go_simp
          obtain ⟨V3, hV⟩ : ∃ V, V = V2.alloc (.cells #[nilS, nilS, nilS, nilS] 60) := ⟨_, rfl⟩
          have hb : Below V2.heap.size V2 V3 := by rw [hV]; go_grown
          have HX3 : Hid (V3.ownsRow 0 60 4 (.slice (some ⟨V2.heap.size, 0, none⟩) 1 1) 1 [nilS, nilS, nilS, nilS]) := by show World.ownsRow _ _ _ _ _ _ _; rw [hV]; exact box35 V2 _ _ _ _
          rw [← hV]
          have HB3 := hide (below_step HB2.out hb)
          have HT3 := hide (And.intro (HT2.out.1.later hb) (And.intro (HT2.out.2.1.later hb) (HT2.out.2.2.later hb)))
          have HR3 := hide (HR2.out.later hb)
          have HSY : Hid (V2.heap.size ≤ V3.heap.size) := hb.size
          obtain ⟨kt, hkt⟩ : ∃ kt, V2.heap.size = kt := ⟨_, rfl⟩
          have HKT : Hid (W.heap.size ≤ kt) := by show _ ≤ _; rw [← hkt]; exact HB2.out.size
          rw [hkt] at HX3 ⊢
          clear hkt hV hb
          clear q0 q1
          obtain ⟨q0, q1⟩ := (HAL2.out _ HB3.out).out
          refine hK.out _ _ (by exact ⟨q0, q1⟩) (fun hHeld => ?_)
          clear hK K
          try simp only [Act.put, List.setIfInBounds_toArray, List.set_cons_zero, List.set_cons_succ]
          refine wpAnyH_ready (rs := [6]) (by kernel_rfl) (by simp) ?_
          refine AllReadyH.cons rfl (fun K hK => ?_) ?_
          · clear hHeld
            obtain ⟨c0, c1, c2, c3, f0, f1, f2, f3⟩ := box_cells HX3.out
            go_simp
            have hkb : w.heap.size ≠ kt := by have := HKT.out; omega
            obtain ⟨V4, hV4⟩ : ∃ V, V = (((V3.setCell ⟨kt, 0, none⟩ (.slice po lo co)).setCell ⟨kt, 1, none⟩ (.slice (some ⟨gb, 0, none⟩) m m)).setCell ⟨kt, 2, none⟩ (.slice (some ⟨gf, 0, none⟩) m m)).setCell ⟨kt, 3, none⟩ (.slice none 0 0) := ⟨_, rfl⟩
            have q2 : V4.cell? ⟨w.heap.size, 0, none⟩ = some (.int .i64 m) := by rw [hV4]; exact cell_set4 q0 hkb
            have q3 : V4.cell? ⟨w.heap.size, 1, none⟩ = some (.slice p es.length cp) := by rw [hV4]; exact cell_set4 q1 hkb
            rw [← hV4]
            have HV4 := hide hV4
            clear c0 c1 c2 c3 f0 f1 f2 f3 q0 q1 hV4
            have q0 := q2
            have q1 := q3
            clear q2 q3
            refine hK.out _ _ (by exact ⟨q0, q1⟩) (fun hHeld => ?_)
            clear hK K
            try simp only [Act.put, List.setIfInBounds_toArray, List.set_cons_zero, List.set_cons_succ]
            refine wpAnyH_ready (rs := [7]) (by kernel_rfl) (by simp) ?_
            refine AllReadyH.cons rfl (fun K hK => ?_) ?_
            · clear hHeld
              go_simp
              refine hK.out _ _ (by exact ⟨q0, q1⟩) (fun hHeld => ?_)
              clear hK K
              try simp only [Act.put, List.setIfInBounds_toArray, List.set_cons_zero, List.set_cons_succ]
              refine wpAnyH_done (by kernel_rfl) ?_ _
              clear hHeld
              go_wp2_with fail
              go_meet
              exact every_first HV4.out HB3.out HT3.out HR3.out HX3.out HNE.out HLO.out HKT.out HRB.out HBU.out
            exact AllReadyH.nil
          exact AllReadyH.nil
        exact AllReadyH.nil
      refine AllReadyH.cons rfl (fun K hK => ?_) ?_
      · clear hHeld
        go_simp
        obtain ⟨V2, hV⟩ : ∃ V, V = V1.alloc (.cells #[nilS, nilS, nilS, nilS] 60) := ⟨_, rfl⟩
        have hb : Below V1.heap.size V1 V2 := by rw [hV]; go_grown
        have HX2 : Hid (V2.ownsRow 0 60 4 (.slice (some ⟨V1.heap.size, 0, none⟩) 1 1) 1 [nilS, nilS, nilS, nilS]) := by show World.ownsRow _ _ _ _ _ _ _; rw [hV]; exact box35 V1 _ _ _ _
        rw [← hV]
        have HB2 := hide (below_step HB1.out hb)
        have HT2 := hide (And.intro (HT1.out.1.later hb) (And.intro (HT1.out.2.1.later hb) (HT1.out.2.2.later hb)))
        have HSY : Hid (V1.heap.size ≤ V2.heap.size) := hb.size
        obtain ⟨kt, hkt⟩ : ∃ kt, V1.heap.size = kt := ⟨_, rfl⟩
        have HKT : Hid (W.heap.size ≤ kt) := by show _ ≤ _; rw [← hkt]; exact HB1.out.size
        rw [hkt] at HX2 ⊢
        clear hkt hV hb
        clear q0 q1
        obtain ⟨q0, q1⟩ := (HAL2.out _ HB2.out).out
        refine hK.out _ _ (by exact ⟨q0, q1⟩) (fun hHeld => ?_)
        clear hK K
        try simp only [Act.put, List.setIfInBounds_toArray, List.set_cons_zero, List.set_cons_succ]
        refine wpAnyH_ready (rs := [4]) (by kernel_rfl) (by simp) ?_
        refine AllReadyH.cons rfl (fun K hK => ?_) ?_
        · clear hHeld
          go_simp
          refine (outs39W m p es cp V2 (HH.out.later HB2.out) HM.out).mono ?_
          rintro e V3 ⟨g, rv, rfl, hR, hb⟩
          have HR3 := hide hR
          have HRB : Hid (s37 ≤ V2.heap.size ∧ (∀ x y, x < m → (rv x).ownBlock = some y → V2.heap.size ≤ y) ∧ V2.heap.size ≤ g) := ⟨(Nat.le_trans HSS.out HSY.out), fun x y hx hy => (World.ownsRow.lt (hR.2.2 x hx) y hy).1, hR.size.1⟩
          have HB3 := hide (below_step HB2.out hb)
          have HT3 := hide (And.intro (HT2.out.1.later hb) (And.intro (HT2.out.2.1.later hb) (HT2.out.2.2.later hb)))
          have HX3 := hide (box_later HX2.out hb)
          clear hR hb
          clear q0 q1
          obtain ⟨q0, q1⟩ := (HAL2.out _ HB3.out).out
          refine hK.out _ _ (by exact ⟨q0, q1⟩) (fun hHeld => ?_)
          clear hK K
          try simp only [Act.put, List.setIfInBounds_toArray, List.set_cons_zero, List.set_cons_succ]
          refine wpAnyH_ready (rs := [6]) (by kernel_rfl) (by simp) ?_
          refine AllReadyH.cons rfl (fun K hK => ?_) ?_
          · clear hHeld
            obtain ⟨c0, c1, c2, c3, f0, f1, f2, f3⟩ := box_cells HX3.out
            go_simp
            have hkb : w.heap.size ≠ kt := by have := HKT.out; omega
            obtain ⟨V4, hV4⟩ : ∃ V, V = (((V3.setCell ⟨kt, 0, none⟩ (.slice po lo co)).setCell ⟨kt, 1, none⟩ (.slice (some ⟨gb, 0, none⟩) m m)).setCell ⟨kt, 2, none⟩ (.slice (some ⟨gf, 0, none⟩) m m)).setCell ⟨kt, 3, none⟩ (.slice none 0 0) := ⟨_, rfl⟩
            have q2 : V4.cell? ⟨w.heap.size, 0, none⟩ = some (.int .i64 m) := by rw [hV4]; exact cell_set4 q0 hkb
            have q3 : V4.cell? ⟨w.heap.size, 1, none⟩ = some (.slice p es.length cp) := by rw [hV4]; exact cell_set4 q1 hkb
            rw [← hV4]
            have HV4 := hide hV4
            clear c0 c1 c2 c3 f0 f1 f2 f3 q0 q1 hV4
            have q0 := q2
            have q1 := q3
            clear q2 q3
            refine hK.out _ _ (by exact ⟨q0, q1⟩) (fun hHeld => ?_)
            clear hK K
            try simp only [Act.put, List.setIfInBounds_toArray, List.set_cons_zero, List.set_cons_succ]
            refine wpAnyH_ready (rs := [7]) (by kernel_rfl) (by simp) ?_
            refine AllReadyH.cons rfl (fun K hK => ?_) ?_
            · clear hHeld
              go_simp
              refine hK.out _ _ (by exact ⟨q0, q1⟩) (fun hHeld => ?_)
              clear hK K
              try simp only [Act.put, List.setIfInBounds_toArray, List.set_cons_zero, List.set_cons_succ]
              refine wpAnyH_done (by kernel_rfl) ?_ _
              clear hHeld
              go_wp2_with fail
              go_meet
              exact every_first HV4.out HB3.out HT3.out HR3.out HX3.out HNE.out HLO.out HKT.out HRB.out HBU.out
            exact AllReadyH.nil
          exact AllReadyH.nil
        exact AllReadyH.nil
      exact AllReadyH.nil
    refine AllReadyH.cons rfl (fun K hK => ?_) ?_
    · clear hHeld
      go_simp
      obtain ⟨V1, hV⟩ : ∃ V, V = V0.alloc (.cells #[nilS, nilS, nilS, nilS] 60) := ⟨_, rfl⟩
      have hb : Below V0.heap.size V0 V1 := by rw [hV]; go_grown
      have HX1 : Hid (V1.ownsRow 0 60 4 (.slice (some ⟨V0.heap.size, 0, none⟩) 1 1) 1 [nilS, nilS, nilS, nilS]) := by show World.ownsRow _ _ _ _ _ _ _; rw [hV]; exact box35 V0 _ _ _ _
      rw [← hV]
      have HB1 := hide (below_step HB0.out hb)
      obtain ⟨kt, hkt⟩ : ∃ kt, V0.heap.size = kt := ⟨_, rfl⟩
      have HKT : Hid (W.heap.size ≤ kt) := by show _ ≤ _; rw [← hkt]; exact HB0.out.size
      rw [hkt] at HX1 ⊢
      clear hkt hV hb
      clear q0 q1
      obtain ⟨q0, q1⟩ := (HAL2.out _ HB1.out).out
      refine hK.out _ _ (by exact ⟨q0, q1⟩) (fun hHeld => ?_)
      clear hK K
      try simp only [Act.put, List.setIfInBounds_toArray, List.set_cons_zero, List.set_cons_succ]
      refine wpAnyH_ready (rs := [2]) (by kernel_rfl) (by simp) ?_
      refine AllReadyH.cons rfl (fun K hK => ?_) ?_
      · clear hHeld
        go_simp
        refine (unfound37 m V1 (by omega)).mono ?_
        rintro e V2 ⟨v, rfl, ⟨vo, gb, gf, rfl, ho, hby, hfa, e1, e2, e3⟩, hb⟩
        obtain ⟨po, lo, co, rfl⟩ := IOwns.slice ho
        have HT2 := hide (And.intro ho (And.intro hby hfa))
        have HNE := hide (And.intro e1 (And.intro e2 e3))
        have HS37 := hide (And.intro HB1.out.size (Nat.le_refl V2.heap.size))
        have HB2 := hide (below_step HB1.out hb)
        have HX2 := hide (box_later HX1.out hb)
        have HLO : Hid (V1.heap.size ≤ gb ∧ gb < V2.heap.size ∧ V1.heap.size ≤ gf ∧ gf < V2.heap.size ∧ ∀ i, (Value.slice po lo co).ownBlock = some i → V1.heap.size ≤ i ∧ i < V2.heap.size) := ⟨hby.lt.1, hby.lt.2, hfa.lt.1, hfa.lt.2, fun i hi => World.ownsRow.lt ho i hi⟩
        obtain ⟨s37, hs37⟩ : ∃ s, V2.heap.size = s := ⟨_, rfl⟩
        have HSS : Hid (s37 ≤ V2.heap.size) := Nat.le_of_eq hs37.symm
        rw [hs37] at HLO
        have HBU : Hid (W.heap.size ≤ V1.heap.size) := HB1.out.size
        clear hs37 HS37 ho hby hfa e1 e2 e3 hb
        clear q0 q1
        obtain ⟨q0, q1⟩ := (HAL2.out _ HB2.out).out
        refine hK.out _ _ (by exact ⟨q0, q1⟩) (fun hHeld => ?_)
        clear hK K
        try simp only [Act.put, List.setIfInBounds_toArray, List.set_cons_zero, List.set_cons_succ]
        refine wpAnyH_ready (rs := [4]) (by kernel_rfl) (by simp) ?_
        refine AllReadyH.cons rfl (fun K hK => ?_) ?_
        · clear hHeld
          go_simp
          refine (outs39W m p es cp V2 (HH.out.later HB2.out) HM.out).mono ?_
          rintro e V3 ⟨g, rv, rfl, hR, hb⟩
          have HR3 := hide hR
          have HRB : Hid (s37 ≤ V2.heap.size ∧ (∀ x y, x < m → (rv x).ownBlock = some y → V2.heap.size ≤ y) ∧ V2.heap.size ≤ g) := ⟨HSS.out, fun x y hx hy => (World.ownsRow.lt (hR.2.2 x hx) y hy).1, hR.size.1⟩
          have HB3 := hide (below_step HB2.out hb)
          have HT3 := hide (And.intro (HT2.out.1.later hb) (And.intro (HT2.out.2.1.later hb) (HT2.out.2.2.later hb)))
          have HX3 := hide (box_later HX2.out hb)
          clear hR hb
          clear q0 q1
          obtain ⟨q0, q1⟩ := (HAL2.out _ HB3.out).out
          refine hK.out _ _ (by exact ⟨q0, q1⟩) (fun hHeld => ?_)
          clear hK K
          try simp only [Act.put, List.setIfInBounds_toArray, List.set_cons_zero, List.set_cons_succ]
          refine wpAnyH_ready (rs := [6]) (by kernel_rfl) (by simp) ?_
          refine AllReadyH.cons rfl (fun K hK => ?_) ?_
          · clear hHeld
            obtain ⟨c0, c1, c2, c3, f0, f1, f2, f3⟩ := box_cells HX3.out
            go_simp
            have hkb : w.heap.size ≠ kt := by have := HKT.out; omega
            obtain ⟨V4, hV4⟩ : ∃ V, V = (((V3.setCell ⟨kt, 0, none⟩ (.slice po lo co)).setCell ⟨kt, 1, none⟩ (.slice (some ⟨gb, 0, none⟩) m m)).setCell ⟨kt, 2, none⟩ (.slice (some ⟨gf, 0, none⟩) m m)).setCell ⟨kt, 3, none⟩ (.slice none 0 0) := ⟨_, rfl⟩
            have q2 : V4.cell? ⟨w.heap.size, 0, none⟩ = some (.int .i64 m) := by rw [hV4]; exact cell_set4 q0 hkb
            have q3 : V4.cell? ⟨w.heap.size, 1, none⟩ = some (.slice p es.length cp) := by rw [hV4]; exact cell_set4 q1 hkb
            rw [← hV4]
            have HV4 := hide hV4
            clear c0 c1 c2 c3 f0 f1 f2 f3 q0 q1 hV4
            have q0 := q2
            have q1 := q3
            clear q2 q3
            refine hK.out _ _ (by exact ⟨q0, q1⟩) (fun hHeld => ?_)
            clear hK K
            try simp only [Act.put, List.setIfInBounds_toArray, List.set_cons_zero, List.set_cons_succ]
            refine wpAnyH_ready (rs := [7]) (by kernel_rfl) (by simp) ?_
            refine AllReadyH.cons rfl (fun K hK => ?_) ?_
            · clear hHeld
              go_simp
              refine hK.out _ _ (by exact ⟨q0, q1⟩) (fun hHeld => ?_)
              clear hK K
              try simp only [Act.put, List.setIfInBounds_toArray, List.set_cons_zero, List.set_cons_succ]
              refine wpAnyH_done (by kernel_rfl) ?_ _
              clear hHeld
              go_wp2_with fail
              go_meet
              exact every_first HV4.out HB3.out HT3.out HR3.out HX3.out HNE.out HLO.out HKT.out HRB.out HBU.out
            exact AllReadyH.nil
          exact AllReadyH.nil
        exact AllReadyH.nil
      exact AllReadyH.nil
    exact AllReadyH.nil
  case rest =>
    obtain ⟨kt, g, gb, gf, rv, vo, rfl, rfl, HT, HR, HAw, HKT, HBx⟩ := hcut
    obtain ⟨W2, hW2⟩ : ∃ W2, W2 = wc := ⟨_, rfl⟩
    rw [← hW2] at HT HR HAw HBx ⊢
    clear hW2
    obtain ⟨q0, q1⟩ := (HAL2.out W2 HBx.out).out
    have HA2 := hide (HA.out.later HBx.out)
    have HX2 := hide (box_later HX.out HBx.out)
    have HH2 := hide (HH.out.later HBx.out)
    have sW := HBx.out.size
    go_wp2_with fail
    clear q0 q1
    go_loopw [13] (fun t wr => ∃ s : Nat, s ≤ m ∧ t = .int .i64 s ∧ Hid (SMW W2 wr W.heap.size kt m gb gf vo nilS (everyN es m s))) (fun t _ => m - (intOf t).toNat)
    case atStart => exact ⟨0, by omega, rfl, vo, HT.out, FrameW.of_below (Below.refl _ _) _, Or.inl rfl⟩
    case round =>
      obtain ⟨s, hs, rfl, HS⟩ := hrel
      obtain ⟨vo', tr, fr, ar⟩ := HS.out
      have HTR := hide tr
      have HFR := hide fr
      have HAR := hide ar
      have HLOW : Hid (∀ i, i < W.heap.size → ¬ TBk kt gb gf vo' i) := by
        intro i hi hk
        have h1 := HKT.out
        have h2 := tr.by_.lt.1
        have h3 := tr.far.lt.1
        rcases hk with h | h | h | h
        · omega
        · omega
        · omega
        · have := (World.ownsRow.lt tr.ord i h).1; omega
      have HLOV : Hid (∀ i, i < W.heap.size → ¬ TBk kt gb gf vo i) := by
        intro i hi hk
        have h1 := HKT.out
        have h2 := HT.out.by_.lt.1
        have h3 := HT.out.far.lt.1
        rcases hk with h | h | h | h
        · omega
        · omega
        · omega
        · have := (World.ownsRow.lt HT.out.ord i h).1; omega
      obtain ⟨x0, x1, x2, x3, _, _⟩ := tr.cells
      clear tr fr ar
      by_cases hlt : s < m
      · have i1 : (s : Int) < m := by omega
        have i2 : (0 : Int) ≤ s := by omega
        obtain ⟨y0, _⟩ := HTR.out.far.cell hlt
        have HST : Hid (everyN es m (s + 1) = if iat (everyN es m s).Fa s < 0 then bfs es m (everyN es m s).O.length (begin_ (everyN es m s) s) else everyN es m s) := rfl
        have HOK := hide (everyN_ok HM.out s hs)
        obtain ⟨S, hS⟩ : ∃ S, everyN es m s = S := ⟨_, rfl⟩
        rw [hS] at HS HTR HST HOK y0
        clear hS
        by_cases hneg : iat S.Fa s < 0
        · rw [if_pos hneg] at HST
          have hNr := HFR.out.nown HA2.out (HLOV.out _ (by omega))
          have SP := hide (spread38 m p es cp 0 g rv W.heap.size kt gb gf vo' nilS S s wr HM.out (HFR.out.has HH2.out (fun a ha => (HPB.out a ha).imp id (fun hh => HLOV.out _ (by omega)))) (HFR.out.rows HR.out HAw.out.hg HAw.out.hr) HTR.out HOK.out hlt hneg (by have := HFR.out.size; omega) (fun a ha => (HPB.out a ha).imp id (fun hh => HLOW.out _ (by omega))) (HAw.out.next HAR.out HAw.out.lg HAw.out.hg) (fun u i hu hi => HAw.out.next HAR.out (HAw.out.lr u i hu hi) (HAw.out.hr u i hu hi)))
          obtain ⟨q0, q1, _, _⟩ := hNr
          obtain ⟨fv, hfv⟩ : ∃ fv, iat S.Fa s = fv := ⟨_, rfl⟩
          rw [hfv] at y0 hneg
          clear hfv
          go_wp2_with fail
          refine SP.out.mono ?_
          rintro e w3 ⟨rfl, vo3, t3, f3, a3⟩
          have HS3 : Hid (SMW W2 w3 W.heap.size kt m gb gf vo nilS (bfs es m S.O.length (begin_ S s))) := SMW.found HFR.out HAR.out t3 f3 a3
          clear t3 f3 a3 SP q0 q1 x0 x1 x2 x3 y0 HFR HTR HAR HS
          go_wp2
          go_roundw
          case rel => exact ⟨s + 1, by omega, by go_num, by rw [HST.out]; exact HS3.out⟩
          case measure => simp [intOf]; omega
        · rw [if_neg hneg] at HST
          obtain ⟨fv, hfv⟩ : ∃ fv, iat S.Fa s = fv := ⟨_, rfl⟩
          rw [hfv] at y0 hneg
          clear hfv HFR HTR HAR
          go_wp2
          go_roundw
          case rel => exact ⟨s + 1, by omega, by go_num, by rw [HST.out]; exact HS.out⟩
          case measure => simp [intOf]; omega
      · have hsm : s = m := by omega
        have i1 : ¬ (s : Int) < m := by omega
        rw [hsm] at HTR
        obtain ⟨S, hS⟩ : ∃ S, everyN es m m = S := ⟨_, rfl⟩
        rw [hS] at HTR
        have HSS := hide hS
        have HX5 : Hid (wr.ownsRow 0 60 4 (.slice (some ⟨w.heap.size + 1, 0, none⟩) 1 1) 1 [nilS, nilS, nilS, nilS]) := HFR.out.row HX2.out (fun i hi => HLOV.out _ (by simp [Value.ownBlock] at hi; omega))
        have HB5 : Hid (Below w.heap.size w wr) := Below.trans (below_step HB.out HBx.out) (HFR.out.below (by have := HB.out.size; omega) (fun i hi => by
          by_cases h : w.heap.size ≤ i
          · exact h
          · exact absurd hi (HLOV.out i (by omega))))
        obtain ⟨p5, l5, c5, rfl⟩ := IOwns.slice HTR.out.ord
        obtain ⟨c0, c1, c2, c3, f0, f1, f2, f3⟩ := box_cells HX5.out
        have hne : (w.heap.size + 1) ≠ kt := by have := HKT.out; omega
        clear hsm hS HS
        go_wp2
        obtain ⟨cur, hk⟩ := row_kind HX5.out
        have t5 := HTR.out
        have k1 := row_apart hk t5.by_.2 (by decide)
        have k2 := row_apart hk t5.far.2 (by decide)
        have k3 := row_apart hk t5.ord (by decide)
        refine bodyPost_ret (ret_tour1 Try.results67 rfl (set_box35 HX5.out)) rfl ⟨_, rfl, ⟨_, gb, gf, rfl, ?_, ?_, ?_, t5.ne1, t5.ne2, t5.ne3⟩, below_set4 HB5.out (by omega) _ _ _ _⟩
        · rw [HSS.out]; exact (IOwns.base (row_set4 t5.ord k3 _ _ _ _) (by omega))
        · rw [HSS.out]; exact (irow_set4 t5.by_ (fun e => k1 (by simp [Value.ownBlock, e])) _ _ _ _).base (by omega)
        · rw [HSS.out]; exact (irow_set4 t5.far (fun e => k2 (by simp [Value.ownBlock, e])) _ _ _ _).base (by omega)
end Go.Proofs.Ytobkejnlkjieoaa

/- Depth first, as a function: what is found, how many half-edges each node has gone out by, and the nodes from where the walk is up to its beginning. -/
namespace Go.Proofs.Ytobkejnlkjieoaa
open Go.RowKit Go.Sort
open Go

structure Ds where
  st : St
  G : List Int
  S : List Nat
def dOne (es : List Pt) (d : Ds) (u : Nat) (r : List Nat) : Ds :=
  if iat d.G u = (outL es (2 * es.length) u).length then ⟨d.st, d.G, r⟩
  else if iat d.st.Fa (toL es (iat (outL es (2 * es.length) u) (iat d.G u).toNat).toNat).toNat < 0 then
    ⟨⟨d.st.O ++ [toL es (iat (outL es (2 * es.length) u) (iat d.G u).toNat).toNat], d.st.By.set (toL es (iat (outL es (2 * es.length) u) (iat d.G u).toNat).toNat).toNat (iat (outL es (2 * es.length) u) (iat d.G u).toNat), d.st.Fa.set (toL es (iat (outL es (2 * es.length) u) (iat d.G u).toNat).toNat).toNat (iat d.st.Fa u + 1)⟩, d.G.set u (iat d.G u + 1), (toL es (iat (outL es (2 * es.length) u) (iat d.G u).toNat).toNat).toNat :: u :: r⟩
  else ⟨d.st, d.G.set u (iat d.G u + 1), u :: r⟩
def dfs (es : List Pt) : Nat → Ds → Ds
  | 0, d => d
  | k + 1, d => match d.S with
    | [] => d
    | u :: r => dfs es k (dOne es d u r)
/-- How many half-edges have not been gone out by. -/
def remN (es : List Pt) (G : List Int) : Nat → Nat
  | 0 => 0
  | u + 1 => remN es G u + ((outL es (2 * es.length) u).length - (iat G u).toNat)
theorem rem_same (es : List Pt) (G : List Int) (u : Nat) (x : Int) : ∀ n, n ≤ u → remN es (G.set u x) n = remN es G n
  | 0, _ => rfl
  | n + 1, h => by
    simp only [remN]
    rw [rem_same es G u x n (by omega), iat_put_neW (by omega)]
theorem rem_set (es : List Pt) (G : List Int) (u : Nat) (hu : u < G.length) (h0 : 0 ≤ iat G u) (hl : iat G u < (outL es (2 * es.length) u).length) : ∀ n, u < n → remN es (G.set u (iat G u + 1)) n + 1 = remN es G n
  | 0, h => by omega
  | n + 1, h => by
    simp only [remN]
    by_cases e : u = n
    · subst e
      rw [rem_same es G u _ u (Nat.le_refl _), iat_putW hu]
      omega
    · have := rem_set es G u hu h0 hl n (by omega)
      rw [iat_put_neW (by omega)]
      omega
def dM (es : List Pt) (n : Nat) (d : Ds) : Nat := d.S.length + 2 * unl d.st.Fa + remN es d.G n
/-- What holds of it under way. -/
structure Dk (es : List Pt) (n : Nat) (d : Ds) : Prop where
  ok : Ok n d.st
  lg : d.G.length = n
  gv : ∀ u, u < n → 0 ≤ iat d.G u ∧ iat d.G u ≤ (outL es (2 * es.length) u).length
  sm : ∀ u, u ∈ d.S → u < n ∧ 0 ≤ iat d.st.Fa u
  sl : d.S.length ≤ d.st.O.length
theorem Dk.one {es : List Pt} {n : Nat} {d : Ds} {u : Nat} {r : List Nat} (k : Dk es n d) (hm : netB n es = true) (hS : d.S = u :: r) : Dk es n (dOne es d u r) ∧ dM es n (dOne es d u r) + 1 ≤ dM es n d := by
  obtain ⟨hu, hf⟩ := k.sm u (by rw [hS]; simp)
  obtain ⟨g0, g1⟩ := k.gv u hu
  have hSl : d.S.length = r.length + 1 := by rw [hS]; rfl
  unfold dOne
  by_cases he : iat d.G u = (outL es (2 * es.length) u).length
  · rw [if_pos he]
    refine ⟨⟨k.ok, k.lg, k.gv, fun v hv => k.sm v (by rw [hS]; simp [hv]), by have := k.sl; simp only; omega⟩, ?_⟩
    unfold dM
    simp only
    omega
  · rw [if_neg he]
    obtain ⟨h, hh, hh2, hh3⟩ := outL_at (es := es) (h := 2 * es.length) (v := u) (j := (iat d.G u).toNat) (by omega)
    rw [hh, Int.toNat_natCast]
    obtain ⟨t1, t2⟩ := toL_in hm h hh2
    obtain ⟨x, hx⟩ : ∃ x : Nat, toL es h = x := ⟨(toL es h).toNat, by omega⟩
    rw [hx, Int.toNat_natCast]
    have hrem := rem_set es d.G u (by rw [k.lg]; exact hu) g0 (by omega) n hu
    have gv' : ∀ v, v < n → 0 ≤ iat (d.G.set u (iat d.G u + 1)) v ∧ iat (d.G.set u (iat d.G u + 1)) v ≤ (outL es (2 * es.length) v).length := by
      intro v hv
      by_cases e : v = u
      · rw [e, iat_putW (by rw [k.lg]; exact hu)]; omega
      · rw [iat_put_neW e]; exact k.gv v hv
    have hxn : x < n := by omega
    by_cases hneg : iat d.st.Fa x < 0
    · rw [if_pos hneg]
      have hval := k.ok.val u hu
      have hun := unl_set d.st.Fa x (iat d.st.Fa u + 1) (by rw [k.ok.lf]; exact hxn) (by omega) (by omega)
      refine ⟨⟨k.ok.find hxn hneg (by omega) (by omega), by rw [List.length_set]; exact k.lg, gv', ?_, by have := k.sl; simp only [List.length_cons, List.length_append, List.length_nil]; omega⟩, ?_⟩
      · intro v hv
        simp only [List.mem_cons] at hv
        by_cases e : v = x
        · rw [e]; exact ⟨hxn, by simp only [iat_putW (show x < d.st.Fa.length by rw [k.ok.lf]; exact hxn)]; omega⟩
        · simp only [iat_put_neW e]
          exact k.sm v (by rw [hS]; simp only [List.mem_cons]; rcases hv with h | h | h; exact absurd h e; exact Or.inl h; exact Or.inr h)
      · unfold dM
        simp only [List.length_cons]
        omega
    · rw [if_neg hneg]
      refine ⟨⟨k.ok, by rw [List.length_set]; exact k.lg, gv', fun v hv => k.sm v (by rw [hS]; exact hv), by have := k.sl; simp only [List.length_cons]; omega⟩, ?_⟩
      unfold dM
      simp only [List.length_cons]
      omega
end Go.Proofs.Ytobkejnlkjieoaa
