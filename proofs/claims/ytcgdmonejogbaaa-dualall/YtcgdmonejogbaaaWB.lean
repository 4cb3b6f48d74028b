/- dual.Lay, in every world. -/
import Derived.Test.YtcgdmonejogbaaaWA
import Derived.Test.YtcgdmonejogbaaaH4
import Derived.Deep.DeepCutAuto
import Derived.Deep.QuietTactic
open List renaming setIfInBounds_toArray → lD, set_cons_zero → lE, set_cons_succ → lF
namespace Go.Proofs.Ytcgdmonejogbaaa
open Go.RowKit Go.Sort
open Go
theorem other3 {U : World} {g i j : Nat} {a b v : Value} {A : Addr} (h : U.cell? A = some v) (hne : A.block ≠ g) : ((U.setCell ⟨g, i, none⟩ a).setCell ⟨g, j, none⟩ b).cell? A = some v := by
  rw [World.cell?_setCell_other _ _ _ _ (fun e => hne (by rw [← e])), World.cell?_setCell_other _ _ _ _ (fun e => hne (by rw [← e]))]
  exact h
theorem has_lit (w : World) (a b : Int) : Has (w.alloc (.cells #[.int .i64 a, .int .i64 b] 64)) (some ⟨w.heap.size, 0, none⟩) [⟨a, b⟩] := Or.inr ⟨w.heap.size, 0, rfl, fun j hj => by
  have hj0 : j = 0 := by simpa using hj
  subst hj0
  exact ⟨(show (w.alloc (.cells #[.int .i64 a, .int .i64 b] 64)).cell? ⟨w.heap.size, 0, none⟩ = some (.int .i64 a) by go_cell), (show (w.alloc (.cells #[.int .i64 a, .int .i64 b] 64)).cell? ⟨w.heap.size, 1, none⟩ = some (.int .i64 b) by go_cell)⟩⟩
theorem NOwn.grown {V D : World} {k : Nat} {n : Int} {p : Option Addr} {l c : Nat} {r : Option Nat} (h : NOwn V k n p l c) (gr : V.grownBy D r) (hne : some k ≠ r) : NOwn D k n p l c := by
  obtain ⟨h0, h1, h2, h3⟩ := h
  have hk := block_lt_of_cell h0
  have hb := gr.block k hk hne
  exact ⟨gr.cell h0 hne, gr.cell h1 hne, (World.frozen?_of_block (a := ⟨k, 0, none⟩) hb).trans h2, (World.frozen?_of_block (a := ⟨k, 1, none⟩) hb).trans h3⟩
theorem Has.other {w : World} {p : Option Addr} {ps : List Pt} (h : Has w p ps) {k i : Nat} (hk : ∀ a, p = some a → a.block ≠ k) (u : Value) : Has (w.setCell ⟨k, i, none⟩ u) p ps := by
  rcases h with h | ⟨b, off, h1, h2⟩
  · exact Or.inl h
  · have hb : b ≠ k := hk _ h1
    refine Or.inr ⟨b, off, h1, fun j hj => ?_⟩
    rw [World.cell?_setCell_other _ _ _ _ (fun e => hb (by injection e with e; exact e.symm)), World.cell?_setCell_other _ _ _ _ (fun e => hb (by injection e with e; exact e.symm))]
    exact h2 j hj
/-- The net with the edge more, in its box. -/
def LR (Wc wx : World) (n : Int) (es2 : List Pt) (kx : Nat) (px : Option Addr) (cx : Nat) : Prop := Below Wc.heap.size Wc wx ∧ NOwn wx kx n px es2.length cx ∧ Owns wx Wc.heap.size (.slice px es2.length cx) es2 ∧ Wc.heap.size ≤ kx
theorem lay_end {Wc V : World} {n : Int} {es : List Pt} {pt : Pt} {kn : Nat} {p5 : Option Addr} {c5 : Nat} (hB : Below Wc.heap.size Wc V) (hN : NOwn V kn 0 none 0 0) (hO : Owns V Wc.heap.size (.slice p5 (es.length + 1) c5) (es ++ [pt])) (hne : (Value.slice p5 (es.length + 1) c5).ownBlock ≠ some kn) (hk : Wc.heap.size ≤ kn) : LR Wc ((V.setCell ⟨kn, 0, none⟩ (.int .i64 n)).setCell ⟨kn, 1, none⟩ (.slice p5 (es.length + 1) c5)) n (es ++ [pt]) kn p5 c5 := by
  have hl : (es ++ [pt]).length = es.length + 1 := by simp
  refine ⟨(hB.setCell (p := ⟨kn, 0, none⟩) hk _).setCell (p := ⟨kn, 1, none⟩) hk _, ?_, ?_, hk⟩
  · rw [hl]; exact hN.set n p5 _ c5
  · rw [hl]
    exact ownsRow_setCell_other (a := ⟨kn, 1, none⟩) (ownsRow_setCell_other (a := ⟨kn, 0, none⟩) hO hne _) hne _
theorem lay_boxes (w : World) (n : Int) (p : Option Addr) (l c : Nat) (va aa vb ab : Int) : ∃ W, W = (((w.alloc (nbx n p l c)).alloc (cbx va aa)).alloc (cbx vb ab)).alloc (nbx 0 none 0 0) ∧ Below w.heap.size w W ∧ NOwn W w.heap.size n p l c ∧ (W.cell? ⟨w.heap.size + 1, 0, none⟩ = some (.int .i64 va) ∧ W.cell? ⟨w.heap.size + 1, 1, none⟩ = some (.int .i64 aa)) ∧ (W.cell? ⟨w.heap.size + 2, 0, none⟩ = some (.int .i64 vb) ∧ W.cell? ⟨w.heap.size + 2, 1, none⟩ = some (.int .i64 ab)) ∧ NOwn W (w.heap.size + 3) 0 none 0 0 :=
  ⟨_, rfl, by go_grown, ⟨by go_cell, by go_cell, by simp [go_sem], by simp [go_sem]⟩, ⟨by go_cell, by go_cell⟩, ⟨by go_cell, by go_cell⟩, by go_cell, by go_cell, by simp [go_sem], by simp [go_sem]⟩
/-- The parts' numbers. -/
def ptL (n : Nat) (es : List Pt) : List Int := plab (everyN es n n).O (everyN es n n).By n (everyN es n n).O.length
/-- The edge would raise the genus. -/
def layG (n : Nat) (es : List Pt) (rs : List (List Int)) (va : Nat) (aa : Int) (vb : Nat) (ab : Int) : Prop := iat (ptL n es) va = iat (ptL n es) vb ∧ faceI rs (ofL es rs) va aa ≠ faceI rs (ofL es rs) vb ab
def LayPost (n : Nat) (es : List Pt) (rs : List (List Int)) (va : Nat) (aa : Int) (vb : Nat) (ab : Int) (w : World) (r : Ending) (w' : World) : Prop :=
  (¬ es.length + 1 ≤ 3072 ∧ r = .returned (.tuple #[nv 0 none 0 0, .slice none 0 0, .int .i64 3])) ∨ (es.length + 1 ≤ 3072 ∧ layG n es rs va aa vb ab ∧ r = .returned (.tuple #[nv 0 none 0 0, .slice none 0 0, .int .i64 5])) ∨ (es.length + 1 ≤ 3072 ∧ ¬ layG n es rs va aa vb ab ∧ ∃ px cx g rv, r = .returned (.tuple #[nv n px (es.length + 1) cx, .slice (some ⟨g, 0, none⟩) rs.length rs.length, .int .i64 0]) ∧ Has w' px (layN es va vb) ∧ ((px = none → cx = 0) ∧ ∀ a, px = some a → w.heap.size ≤ a.block) ∧ Rows w' w.heap.size g rs.length rv (fun v => lat (canonL (betR rs va aa vb ab (2 * es.length : Nat))) v))
set_option maxRecDepth 100000 in
set_option maxHeartbeats 32000000 in
theorem lay16 (n : Nat) (p : Option Addr) (es : List Pt) (cp : Nat) (q : Option Addr) (rs : List (List Int)) (cq va vb : Nat) (aa ab : Int) (w : World) (h : Has w p es) (hpn : p = none → cp = 0) (hr : RHas w q rs) (hcap : rs.length ≤ cq) (h0 : rotI n es rs = 0) (hca : corB rs va aa = true) (hcb : corB rs vb ab = true) (hva : va < n) (hvb : vb < n) : Calls Try.prog 16 #[nv n p es.length cp, .slice q rs.length cq, cv va aa, cv vb ab] w fun r w' => LayPost n es rs va aa vb ab w r w' ∧ Below w.heap.size w w' := by
  obtain ⟨W, hW, hb0, a0, ⟨s2, s2'⟩, ⟨s3, s3'⟩, z0⟩ := lay_boxes w n p es.length cp va aa vb ab
  obtain ⟨n0, n1, hes, _⟩ := netB_is (rot_is h0).1
  obtain ⟨_, z2⟩ := rot_bounds h0
  have OF := hide (of40 n p es cp q rs cq W (h.later hb0) (hr.later hb0) h0)
  have HRT := hide h0
  have HH := hide (h.later hb0)
  have HR := hide (hr.later hb0)
  have HB := hide hb0
  have HA := hide a0
  have HZ := hide z0
  have HZ2 := hide z2
  have HSA := hide (And.intro s2 s2')
  have HSB := hide (And.intro s3 s3')
  have HCA := hide hca
  have HCB := hide hcb
  obtain ⟨g0, g1, _, _⟩ := a0
  clear h hr hb0 z0 h0 z2 hca hcb
  go_enter Try.func16, Try.ntmps16
  go_wp2_with fail
  rw [← hW]
  clear hW
  go_wp2_with fail
  refine OF.out.mono ?_
  rintro r w1 ⟨go, rfl, hrow, hb1⟩
  have HB1 := hide hb1
  have HO1 := hide hrow
  have C1 := corner48 q rs cq va aa w1 (HR.out.later hb1) (fun u hu => by have := HZ2.out u hu; omega)
  rw [HCA.out] at C1
  have C1 := hide C1
  clear OF hrow hb1 g0 g1 s2 s2' s3 s3'
  obtain ⟨s2, s2'⟩ := HSA.out
  have s2 := later HB1.out s2
  have s2' := later HB1.out s2'
  go_wp2_with fail
  refine C1.out.mono ?_
  rintro r w2 ⟨rfl, hb2⟩
  have HB2 := hide (below_step HB1.out hb2)
  have HC2 := hide hb2
  have C2 := corner48 q rs cq vb ab w2 (HR.out.later HB2.out) (fun u hu => by have := HZ2.out u hu; omega)
  rw [HCB.out] at C2
  have C2 := hide C2
  clear C1 hb2 s2 s2'
  obtain ⟨s3, s3'⟩ := HSB.out
  have s3 := later HB2.out s3
  have s3' := later HB2.out s3'
  go_wp2_with fail
  refine C2.out.mono ?_
  rintro r w3 ⟨rfl, hb3⟩
  have HB3 := hide (below_step HB2.out hb3)
  have HC3 := hide (below_step HC2.out hb3)
  clear HC2
  clear C2 hb3 s3 s3'
  obtain ⟨Wc, hWc⟩ : ∃ x, x = w3 := ⟨_, rfl⟩
  subst hWc
  have HS : Hid (∀ V, Below Wc.heap.size Wc V → V.cell? ⟨w.heap.size, 0, none⟩ = some (.int .i64 n) ∧ V.cell? ⟨w.heap.size, 1, none⟩ = some (.slice p es.length cp) ∧ V.cell? ⟨w.heap.size + 1, 0, none⟩ = some (.int .i64 va) ∧ V.cell? ⟨w.heap.size + 2, 0, none⟩ = some (.int .i64 vb)) := fun V hV => by
    have hb := below_step HB3.out hV
    obtain ⟨x0, x1, _, _⟩ := HA.out.later hb
    exact ⟨x0, x1, later hb HSA.out.1, later hb HSB.out.1⟩
  have CL : Hid (∀ V, Below Wc.heap.size Wc V → Calls Try.prog 50 #[.slice p es.length cp] V fun e w' => ∃ pc cc, e = .returned (.slice pc es.length cc) ∧ Owns w' V.heap.size (.slice pc es.length cc) es ∧ Below V.heap.size V w') := fun V hV => (clone50 p es cp V ((HH.out.later HB3.out).later hV) hpn (by omega)).mono fun e w' ⟨v, he, ho, hb⟩ => by
    obtain ⟨pc, cc, hv, _⟩ := ho.form
    subst hv
    exact ⟨pc, cc, he, ho, hb⟩
  have HKL : Hid (w.heap.size < Wc.heap.size ∧ w.heap.size + 1 < Wc.heap.size ∧ w.heap.size + 2 < Wc.heap.size) := by
    obtain ⟨x0, _, x2, x3⟩ := HS.out Wc (Below.refl _ _)
    exact ⟨block_lt_of_cell x0, block_lt_of_cell x2, block_lt_of_cell x3⟩
  have HNK : Hid (∀ k kn : Nat, Wc.heap.size ≤ kn → k < Wc.heap.size → k ≠ kn) := fun k kn h1 h2 => by omega
  go_upto_region 6 with fail
  go_cut [13] (fun s13 wx => ∃ kx px cx, s13 = .pointer (some ⟨kx, 0, none⟩) ∧ LR Wc wx n (layN es va vb) kx px cx)
  case first =>
    obtain ⟨s0, s1, s2, s3⟩ := HS.out _ (below_drew Wc)
    refine wp_region_held_drew (S := (fun V => V.cell? ⟨w.heap.size, 0, none⟩ = some (.int .i64 n) ∧ V.cell? ⟨w.heap.size, 1, none⟩ = some (.slice p es.length cp) ∧ V.cell? ⟨w.heap.size + 1, 0, none⟩ = some (.int .i64 va) ∧ V.cell? ⟨w.heap.size + 2, 0, none⟩ = some (.int .i64 vb))) (by kernel_rfl) (by exact HS.out _ (below_drew _)) (fun hHeld => ?_)
    obtain ⟨V0, hV0⟩ : ∃ V, V = Wc.drew := ⟨_, rfl⟩
    have HB0 : Hid (Below Wc.heap.size Wc V0) := by show Below _ _ _; rw [hV0]; exact below_drew _
    rw [← hV0] at hHeld s0 s1 s2 s3 ⊢
    clear hV0
    refine wpAnyH_take (i := 0) (v := ?v1) rfl (by kernel_rfl) (by kernel_rfl) (by kernel_rfl) (fun _ _ _ h => h) (Or.inl ⟨by rfl, ?hy1⟩) (by assumption) ?rest1
    case hy1 => (intro w hSw; (try dsimp only at hSw); go_simp; try with_reducible rfl)
    try simp only [Act.put, lD]
    refine wpAnyH_take (i := 1) (v := ?v2) rfl (by kernel_rfl) (by kernel_rfl) (by kernel_rfl) (fun _ _ _ h => h) (Or.inl ⟨by rfl, ?hy2⟩) (by assumption) ?rest2
    case hy2 => (intro w hSw; (try dsimp only at hSw); go_simp; try with_reducible rfl)
    try simp only [Act.put]
    refine wpAnyH_take (i := 2) (v := ?v3) rfl (by kernel_rfl) (by kernel_rfl) (by kernel_rfl) (fun _ _ _ h => h) (Or.inl ⟨by rfl, ?hy3⟩) (by assumption) ?rest3
    case hy3 => (intro w hSw; (try dsimp only at hSw); go_simp; try with_reducible rfl)
    try simp only [Act.put]
    refine wpAnyH_take (i := 3) (v := ?v4) rfl (by kernel_rfl) (by kernel_rfl) (by kernel_rfl) (fun _ _ _ h => h) (Or.inl ⟨by rfl, ?hy4⟩) (by assumption) ?rest4
    case hy4 => (intro w hSw; (try dsimp only at hSw); go_simp; try with_reducible rfl)
    try simp only [Act.put]
    refine wpAnyH_take (i := 5) (v := ?v5) rfl (by kernel_rfl) (by kernel_rfl) (by kernel_rfl) (fun _ _ _ h => h) (Or.inl ⟨by rfl, ?hy5⟩) (by assumption) ?rest5
    case hy5 => (intro w hSw; (try dsimp only at hSw); go_simp; try with_reducible rfl)
    try simp only [Act.put]
    refine wpAnyH_take (i := 6) (v := ?v6) rfl (by kernel_rfl) (by kernel_rfl) (by kernel_rfl) (fun _ _ _ h => h) (Or.inl ⟨by rfl, ?hy6⟩) (by assumption) ?rest6
    case hy6 => (intro w hSw; (try dsimp only at hSw); go_simp; try with_reducible rfl)
    try simp only [Act.put]
    refine wpAnyH_take (i := 7) (v := ?v7) rfl (by kernel_rfl) (by kernel_rfl) (by kernel_rfl) (fun _ _ _ h => h) (Or.inl ⟨by rfl, ?hy7⟩) (by assumption) ?rest7
    case hy7 => (intro w hSw; (try dsimp only at hSw); go_simp; try with_reducible rfl)
    try simp only [Act.put]
    refine wpAnyH_take (i := 8) (v := ?v8) rfl (by kernel_rfl) (by kernel_rfl) (by kernel_rfl) (fun _ _ _ h => h) (Or.inl ⟨by rfl, ?hy8⟩) (by assumption) ?rest8
    case hy8 => (intro w hSw; (try dsimp only at hSw); go_simp; try with_reducible rfl)
    try simp only [Act.put]
    refine wpAnyH_take (i := 9) (v := ?v9) rfl (by kernel_rfl) (by kernel_rfl) (by kernel_rfl) (fun _ _ _ h => h) (Or.inl ⟨by rfl, ?hy9⟩) (by assumption) ?rest9
    case hy9 => (intro w hSw; (try dsimp only at hSw); go_simp; try with_reducible rfl)
    try simp only [Act.put]
    refine wpAnyH_ready (rs := [4, 10, 13]) (by kernel_rfl) (by simp) ?_
    refine AllReadyH.cons rfl (fun K hK => ?_) ?_
    · clear hHeld
      go_simp
      refine (CL.out V0 HB0.out).mono ?_
      rintro e V1 ⟨pc, cc, rfl, ho, hb2⟩
      have HB1 := hide (below_step HB0.out hb2)
      have HO1 : Hid (Owns V1 Wc.heap.size (.slice pc es.length cc) es) := ho.base HB0.out.size
      clear hb2 ho
      clear s0 s1 s2 s3
      obtain ⟨s0, s1, s2, s3⟩ := HS.out _ HB1.out
      refine hK.out _ _ (by first | with_reducible exact ⟨s0, s1, s2, s3⟩ | (dsimp only; with_reducible exact ⟨s0, s1, s2, s3⟩) | exact ⟨other3 s0 (HNK.out _ _ HKN.out HKL.out.1), other3 s1 (HNK.out _ _ HKN.out HKL.out.1), other3 s2 (HNK.out _ _ HKN.out HKL.out.2.1), other3 s3 (HNK.out _ _ HKN.out HKL.out.2.2)⟩) (fun hHeld => ?_)
      clear hK K
      try simp only [Act.put, lD, lE, lF]
      refine wpAnyH_ready (rs := [10, 13]) (by kernel_rfl) (by simp) ?_
      refine AllReadyH.cons rfl (fun K hK => ?_) ?_
      · clear hHeld
        go_simp
        obtain ⟨V2, hV⟩ : ∃ V, V = V1.alloc (.cells #[.int .i64 va, .int .i64 vb] 64) := ⟨_, rfl⟩
        obtain ⟨kl, hkl⟩ : ∃ k, V1.heap.size = k := ⟨_, rfl⟩
        have hb2 : Below V1.heap.size V1 V2 := by rw [hV]; go_grown
        have HL2 : Hid (Has V2 (some ⟨kl, 0, none⟩) [⟨(va : Int), (vb : Int)⟩]) := by rw [hV, ← hkl]; exact has_lit V1 va vb
        rw [← hV, hkl]
        have HB2 := hide (below_step HB1.out hb2)
        have HO2 := hide (HO1.out.later hb2)
        clear hV hb2 hkl
        clear s0 s1 s2 s3
        obtain ⟨s0, s1, s2, s3⟩ := HS.out _ HB2.out
        refine hK.out _ _ (by first | with_reducible exact ⟨s0, s1, s2, s3⟩ | (dsimp only; with_reducible exact ⟨s0, s1, s2, s3⟩) | exact ⟨other3 s0 (HNK.out _ _ HKN.out HKL.out.1), other3 s1 (HNK.out _ _ HKN.out HKL.out.1), other3 s2 (HNK.out _ _ HKN.out HKL.out.2.1), other3 s3 (HNK.out _ _ HKN.out HKL.out.2.2)⟩) (fun hHeld => ?_)
        clear hK K
        try simp only [Act.put, lD, lE, lF]
        refine wpAnyH_ready (rs := [11, 13]) (by kernel_rfl) (by simp) ?_
        refine AllReadyH.cons rfl (fun K hK => ?_) ?_
        · clear hHeld
          obtain ⟨v5, V3, e5, o5, gr5⟩ := append_prs HO2.out (some ⟨kl, 0, none⟩) 1 [⟨(va : Int), (vb : Int)⟩] (by simp) HL2.out HB2.out.size (by simp; omega)
          rw [List.length_singleton] at e5
          obtain ⟨p5, c5, h5, hs5, _⟩ := o5.form
          rw [List.length_append, List.length_singleton] at h5
          subst h5
          have HB3 : Hid (Below Wc.heap.size Wc V3) := below_grown HB2.out HO2.out (Nat.le_refl _) HB2.out.size gr5
          have HO3 : Hid (Owns V3 Wc.heap.size (.slice p5 (es.length + 1) c5) (es ++ [⟨(va : Int), (vb : Int)⟩])) := o5
          have HH3 := hide hs5
          refine step_run_append (by rfl) (.tmp 43) (.tmp 49) 22 (by rfl) 22 (by rfl) (.slice pc es.length cc) (.slice (some ⟨kl, 0, none⟩) 1 1) (.slice p5 (es.length + 1) c5) V3 (by rfl) (by rfl) ?_ ?_
          with_reducible exact e5
          clear e5 o5 gr5 hs5
          clear s0 s1 s2 s3
          obtain ⟨s0, s1, s2, s3⟩ := HS.out _ HB3.out
          refine hK.out _ _ (by first | with_reducible exact ⟨s0, s1, s2, s3⟩ | (dsimp only; with_reducible exact ⟨s0, s1, s2, s3⟩) | exact ⟨other3 s0 (HNK.out _ _ HKN.out HKL.out.1), other3 s1 (HNK.out _ _ HKN.out HKL.out.1), other3 s2 (HNK.out _ _ HKN.out HKL.out.2.1), other3 s3 (HNK.out _ _ HKN.out HKL.out.2.2)⟩) (fun hHeld => ?_)
          clear hK K
          try simp only [Act.put, lD]
          refine wpAnyH_take (i := 12) (v := ?v10) rfl (by kernel_rfl) (by kernel_rfl) (by kernel_rfl) (fun _ _ _ h => h) (Or.inl ⟨by rfl, ?hy10⟩) (by assumption) ?rest10
          case hy10 => (intro w hSw; (try dsimp only at hSw); go_simp; try with_reducible rfl)
          try simp only [Act.put]
          refine wpAnyH_ready (rs := [13]) (by kernel_rfl) (by simp) ?_
          refine AllReadyH.cons rfl (fun K hK => ?_) ?_
          · clear hHeld
            go_simp
            obtain ⟨V4, hV⟩ : ∃ V, V = V3.alloc (nbx 0 none 0 0) := ⟨_, rfl⟩
            obtain ⟨kn, hkn⟩ : ∃ k, V3.heap.size = k := ⟨_, rfl⟩
            have hb2 : Below V3.heap.size V3 V4 := by rw [hV]; go_grown
            have HN4 : Hid (NOwn V4 kn 0 none 0 0) := by show NOwn _ _ _ _ _ _; rw [hV, ← hkn]; exact ⟨by go_cell, by go_cell, by simp [go_sem], by simp [go_sem]⟩
            have HK4 : Hid (∃ cur, V4.heap[kn]? = some (.cells cur 24 (0, 0))) := ⟨_, by rw [hV, ← hkn]; exact heap_alloc_new V3 _⟩
            have HKN : Hid (Wc.heap.size ≤ kn) := by show _ ≤ _; rw [← hkn]; exact HB3.out.size
            rw [← hV, hkn]
            have HB4 := hide (below_step HB3.out hb2)
            have HO4 := hide (HO3.out.later hb2)
            clear hV hb2 hkn
            clear s0 s1 s2 s3
            obtain ⟨s0, s1, s2, s3⟩ := HS.out _ HB4.out
            refine hK.out _ _ (by first | with_reducible exact ⟨s0, s1, s2, s3⟩ | (dsimp only; with_reducible exact ⟨s0, s1, s2, s3⟩) | exact ⟨other3 s0 (HNK.out _ _ HKN.out HKL.out.1), other3 s1 (HNK.out _ _ HKN.out HKL.out.1), other3 s2 (HNK.out _ _ HKN.out HKL.out.2.1), other3 s3 (HNK.out _ _ HKN.out HKL.out.2.2)⟩) (fun hHeld => ?_)
            clear hK K
            try simp only [Act.put, lD, lE, lF]
            refine wpAnyH_ready (rs := [14]) (by kernel_rfl) (by simp) ?_
            refine AllReadyH.cons rfl (fun K hK => ?_) ?_
            · clear hHeld
              obtain ⟨n0, n1, n2, n3⟩ := HN4.out
              go_simp
              clear n0 n1 n2 n3
              refine hK.out _ _ (by first | with_reducible exact ⟨s0, s1, s2, s3⟩ | (dsimp only; with_reducible exact ⟨s0, s1, s2, s3⟩) | exact ⟨other3 s0 (HNK.out _ _ HKN.out HKL.out.1), other3 s1 (HNK.out _ _ HKN.out HKL.out.1), other3 s2 (HNK.out _ _ HKN.out HKL.out.2.1), other3 s3 (HNK.out _ _ HKN.out HKL.out.2.2)⟩) (fun hHeld => ?_)
              clear hK K
              try simp only [Act.put, lD, lE, lF]
              refine wpAnyH_done (by kernel_rfl) ?_ _
              clear hHeld
              obtain ⟨cur, hk⟩ := HK4.out
              have hne : (Value.slice p5 (es.length + 1) c5).ownBlock ≠ some kn := row_apart hk HO4.out (by decide)
              have hkn := HKN.out
              have hrel := lay_end (n := n) HB4.out HN4.out HO4.out hne hkn
              clear hk hne hkn
              go_wp2_with fail
              go_meet
              exact ⟨kn, p5, c5, rfl, hrel⟩
            exact AllReadyH.nil
          exact AllReadyH.nil
        refine AllReadyH.cons rfl (fun K hK => ?_) ?_
        · clear hHeld
          go_simp
          obtain ⟨V3, hV⟩ : ∃ V, V = V2.alloc (nbx 0 none 0 0) := ⟨_, rfl⟩
          obtain ⟨kn, hkn⟩ : ∃ k, V2.heap.size = k := ⟨_, rfl⟩
          have hb2 : Below V2.heap.size V2 V3 := by rw [hV]; go_grown
          have HN3 : Hid (NOwn V3 kn 0 none 0 0) := by show NOwn _ _ _ _ _ _; rw [hV, ← hkn]; exact ⟨by go_cell, by go_cell, by simp [go_sem], by simp [go_sem]⟩
          have HK3 : Hid (∃ cur, V3.heap[kn]? = some (.cells cur 24 (0, 0))) := ⟨_, by rw [hV, ← hkn]; exact heap_alloc_new V2 _⟩
          have HKN : Hid (Wc.heap.size ≤ kn) := by show _ ≤ _; rw [← hkn]; exact HB2.out.size
          rw [← hV, hkn]
          have HB3 := hide (below_step HB2.out hb2)
          have HO3 := hide (HO2.out.later hb2)
          have HL3 := hide (HL2.out.later hb2)
          clear hV hb2 hkn
          clear s0 s1 s2 s3
          obtain ⟨s0, s1, s2, s3⟩ := HS.out _ HB3.out
          refine hK.out _ _ (by first | with_reducible exact ⟨s0, s1, s2, s3⟩ | (dsimp only; with_reducible exact ⟨s0, s1, s2, s3⟩) | exact ⟨other3 s0 (HNK.out _ _ HKN.out HKL.out.1), other3 s1 (HNK.out _ _ HKN.out HKL.out.1), other3 s2 (HNK.out _ _ HKN.out HKL.out.2.1), other3 s3 (HNK.out _ _ HKN.out HKL.out.2.2)⟩) (fun hHeld => ?_)
          clear hK K
          try simp only [Act.put, lD, lE, lF]
          refine wpAnyH_ready (rs := [11]) (by kernel_rfl) (by simp) ?_
          refine AllReadyH.cons rfl (fun K hK => ?_) ?_
          · clear hHeld
            obtain ⟨v5, V4, e5, o5, gr5⟩ := append_prs HO3.out (some ⟨kl, 0, none⟩) 1 [⟨(va : Int), (vb : Int)⟩] (by simp) HL3.out HB3.out.size (by simp; omega)
            rw [List.length_singleton] at e5
            obtain ⟨p5, c5, h5, hs5, _⟩ := o5.form
            rw [List.length_append, List.length_singleton] at h5
            subst h5
            have HB4 : Hid (Below Wc.heap.size Wc V4) := below_grown HB3.out HO3.out (Nat.le_refl _) HB3.out.size gr5
            have HO4 : Hid (Owns V4 Wc.heap.size (.slice p5 (es.length + 1) c5) (es ++ [⟨(va : Int), (vb : Int)⟩])) := o5
            have HH4 := hide hs5
            have hne : some kn ≠ (Value.slice pc es.length cc).ownBlock := by obtain ⟨cur, hk⟩ := HK3.out; exact fun e => row_apart hk HO3.out (by decide) e.symm
            have HN4 := hide (HN3.out.grown gr5 hne)
            have HK4 : Hid (∃ cur, V4.heap[kn]? = some (.cells cur 24 (0, 0))) := by obtain ⟨cur, hk⟩ := HK3.out; exact ⟨cur, by rw [gr5.block kn (block_of hk) hne]; exact hk⟩
            clear hne
            refine step_run_append (by rfl) (.tmp 43) (.tmp 49) 22 (by rfl) 22 (by rfl) (.slice pc es.length cc) (.slice (some ⟨kl, 0, none⟩) 1 1) (.slice p5 (es.length + 1) c5) V4 (by rfl) (by rfl) ?_ ?_
            with_reducible exact e5
            clear e5 o5 gr5 hs5
            clear s0 s1 s2 s3
            obtain ⟨s0, s1, s2, s3⟩ := HS.out _ HB4.out
            refine hK.out _ _ (by first | with_reducible exact ⟨s0, s1, s2, s3⟩ | (dsimp only; with_reducible exact ⟨s0, s1, s2, s3⟩) | exact ⟨other3 s0 (HNK.out _ _ HKN.out HKL.out.1), other3 s1 (HNK.out _ _ HKN.out HKL.out.1), other3 s2 (HNK.out _ _ HKN.out HKL.out.2.1), other3 s3 (HNK.out _ _ HKN.out HKL.out.2.2)⟩) (fun hHeld => ?_)
            clear hK K
            try simp only [Act.put, lD]
            refine wpAnyH_take (i := 12) (v := ?v11) rfl (by kernel_rfl) (by kernel_rfl) (by kernel_rfl) (fun _ _ _ h => h) (Or.inl ⟨by rfl, ?hy11⟩) (by assumption) ?rest11
            case hy11 => (intro w hSw; (try dsimp only at hSw); go_simp; try with_reducible rfl)
            try simp only [Act.put]
            refine wpAnyH_ready (rs := [14]) (by kernel_rfl) (by simp) ?_
            refine AllReadyH.cons rfl (fun K hK => ?_) ?_
            · clear hHeld
              obtain ⟨n0, n1, n2, n3⟩ := HN4.out
              go_simp
              clear n0 n1 n2 n3
              refine hK.out _ _ (by first | with_reducible exact ⟨s0, s1, s2, s3⟩ | (dsimp only; with_reducible exact ⟨s0, s1, s2, s3⟩) | exact ⟨other3 s0 (HNK.out _ _ HKN.out HKL.out.1), other3 s1 (HNK.out _ _ HKN.out HKL.out.1), other3 s2 (HNK.out _ _ HKN.out HKL.out.2.1), other3 s3 (HNK.out _ _ HKN.out HKL.out.2.2)⟩) (fun hHeld => ?_)
              clear hK K
              try simp only [Act.put, lD, lE, lF]
              refine wpAnyH_done (by kernel_rfl) ?_ _
              clear hHeld
              obtain ⟨cur, hk⟩ := HK4.out
              have hne : (Value.slice p5 (es.length + 1) c5).ownBlock ≠ some kn := row_apart hk HO4.out (by decide)
              have hkn := HKN.out
              have hrel := lay_end (n := n) HB4.out HN4.out HO4.out hne hkn
              clear hk hne hkn
              go_wp2_with fail
              go_meet
              exact ⟨kn, p5, c5, rfl, hrel⟩
            exact AllReadyH.nil
          exact AllReadyH.nil
        exact AllReadyH.nil
      refine AllReadyH.cons rfl (fun K hK => ?_) ?_
      · clear hHeld
        go_simp
        obtain ⟨V2, hV⟩ : ∃ V, V = V1.alloc (nbx 0 none 0 0) := ⟨_, rfl⟩
        obtain ⟨kn, hkn⟩ : ∃ k, V1.heap.size = k := ⟨_, rfl⟩
        have hb2 : Below V1.heap.size V1 V2 := by rw [hV]; go_grown
        have HN2 : Hid (NOwn V2 kn 0 none 0 0) := by show NOwn _ _ _ _ _ _; rw [hV, ← hkn]; exact ⟨by go_cell, by go_cell, by simp [go_sem], by simp [go_sem]⟩
        have HK2 : Hid (∃ cur, V2.heap[kn]? = some (.cells cur 24 (0, 0))) := ⟨_, by rw [hV, ← hkn]; exact heap_alloc_new V1 _⟩
        have HKN : Hid (Wc.heap.size ≤ kn) := by show _ ≤ _; rw [← hkn]; exact HB1.out.size
        rw [← hV, hkn]
        have HB2 := hide (below_step HB1.out hb2)
        have HO2 := hide (HO1.out.later hb2)
        clear hV hb2 hkn
        clear s0 s1 s2 s3
        obtain ⟨s0, s1, s2, s3⟩ := HS.out _ HB2.out
        refine hK.out _ _ (by first | with_reducible exact ⟨s0, s1, s2, s3⟩ | (dsimp only; with_reducible exact ⟨s0, s1, s2, s3⟩) | exact ⟨other3 s0 (HNK.out _ _ HKN.out HKL.out.1), other3 s1 (HNK.out _ _ HKN.out HKL.out.1), other3 s2 (HNK.out _ _ HKN.out HKL.out.2.1), other3 s3 (HNK.out _ _ HKN.out HKL.out.2.2)⟩) (fun hHeld => ?_)
        clear hK K
        try simp only [Act.put, lD, lE, lF]
        refine wpAnyH_ready (rs := [10]) (by kernel_rfl) (by simp) ?_
        refine AllReadyH.cons rfl (fun K hK => ?_) ?_
        · clear hHeld
          go_simp
          obtain ⟨V3, hV⟩ : ∃ V, V = V2.alloc (.cells #[.int .i64 va, .int .i64 vb] 64) := ⟨_, rfl⟩
          obtain ⟨kl, hkl⟩ : ∃ k, V2.heap.size = k := ⟨_, rfl⟩
          have hb2 : Below V2.heap.size V2 V3 := by rw [hV]; go_grown
          have HL3 : Hid (Has V3 (some ⟨kl, 0, none⟩) [⟨(va : Int), (vb : Int)⟩]) := by rw [hV, ← hkl]; exact has_lit V2 va vb
          rw [← hV, hkl]
          have HB3 := hide (below_step HB2.out hb2)
          have HO3 := hide (HO2.out.later hb2)
          have HN3 := hide (HN2.out.later hb2)
          have HK3 : Hid (∃ cur, V3.heap[kn]? = some (.cells cur 24 (0, 0))) := by obtain ⟨cur, hk⟩ := HK2.out; exact ⟨cur, by rw [hb2.block kn (block_of hk)]; exact hk⟩
          clear hV hb2 hkl
          clear s0 s1 s2 s3
          obtain ⟨s0, s1, s2, s3⟩ := HS.out _ HB3.out
          refine hK.out _ _ (by first | with_reducible exact ⟨s0, s1, s2, s3⟩ | (dsimp only; with_reducible exact ⟨s0, s1, s2, s3⟩) | exact ⟨other3 s0 (HNK.out _ _ HKN.out HKL.out.1), other3 s1 (HNK.out _ _ HKN.out HKL.out.1), other3 s2 (HNK.out _ _ HKN.out HKL.out.2.1), other3 s3 (HNK.out _ _ HKN.out HKL.out.2.2)⟩) (fun hHeld => ?_)
          clear hK K
          try simp only [Act.put, lD, lE, lF]
          refine wpAnyH_ready (rs := [11]) (by kernel_rfl) (by simp) ?_
          refine AllReadyH.cons rfl (fun K hK => ?_) ?_
          · clear hHeld
            obtain ⟨v5, V4, e5, o5, gr5⟩ := append_prs HO3.out (some ⟨kl, 0, none⟩) 1 [⟨(va : Int), (vb : Int)⟩] (by simp) HL3.out HB3.out.size (by simp; omega)
            rw [List.length_singleton] at e5
            obtain ⟨p5, c5, h5, hs5, _⟩ := o5.form
            rw [List.length_append, List.length_singleton] at h5
            subst h5
            have HB4 : Hid (Below Wc.heap.size Wc V4) := below_grown HB3.out HO3.out (Nat.le_refl _) HB3.out.size gr5
            have HO4 : Hid (Owns V4 Wc.heap.size (.slice p5 (es.length + 1) c5) (es ++ [⟨(va : Int), (vb : Int)⟩])) := o5
            have HH4 := hide hs5
            have hne : some kn ≠ (Value.slice pc es.length cc).ownBlock := by obtain ⟨cur, hk⟩ := HK3.out; exact fun e => row_apart hk HO3.out (by decide) e.symm
            have HN4 := hide (HN3.out.grown gr5 hne)
            have HK4 : Hid (∃ cur, V4.heap[kn]? = some (.cells cur 24 (0, 0))) := by obtain ⟨cur, hk⟩ := HK3.out; exact ⟨cur, by rw [gr5.block kn (block_of hk) hne]; exact hk⟩
            clear hne
            refine step_run_append (by rfl) (.tmp 43) (.tmp 49) 22 (by rfl) 22 (by rfl) (.slice pc es.length cc) (.slice (some ⟨kl, 0, none⟩) 1 1) (.slice p5 (es.length + 1) c5) V4 (by rfl) (by rfl) ?_ ?_
            with_reducible exact e5
            clear e5 o5 gr5 hs5
            clear s0 s1 s2 s3
            obtain ⟨s0, s1, s2, s3⟩ := HS.out _ HB4.out
            refine hK.out _ _ (by first | with_reducible exact ⟨s0, s1, s2, s3⟩ | (dsimp only; with_reducible exact ⟨s0, s1, s2, s3⟩) | exact ⟨other3 s0 (HNK.out _ _ HKN.out HKL.out.1), other3 s1 (HNK.out _ _ HKN.out HKL.out.1), other3 s2 (HNK.out _ _ HKN.out HKL.out.2.1), other3 s3 (HNK.out _ _ HKN.out HKL.out.2.2)⟩) (fun hHeld => ?_)
            clear hK K
            try simp only [Act.put, lD]
            refine wpAnyH_take (i := 12) (v := ?v12) rfl (by kernel_rfl) (by kernel_rfl) (by kernel_rfl) (fun _ _ _ h => h) (Or.inl ⟨by rfl, ?hy12⟩) (by assumption) ?rest12
            case hy12 => (intro w hSw; (try dsimp only at hSw); go_simp; try with_reducible rfl)
            try simp only [Act.put]
            refine wpAnyH_ready (rs := [14]) (by kernel_rfl) (by simp) ?_
            refine AllReadyH.cons rfl (fun K hK => ?_) ?_
            · clear hHeld
              obtain ⟨n0, n1, n2, n3⟩ := HN4.out
              go_simp
              clear n0 n1 n2 n3
              refine hK.out _ _ (by first | with_reducible exact ⟨s0, s1, s2, s3⟩ | (dsimp only; with_reducible exact ⟨s0, s1, s2, s3⟩) | exact ⟨other3 s0 (HNK.out _ _ HKN.out HKL.out.1), other3 s1 (HNK.out _ _ HKN.out HKL.out.1), other3 s2 (HNK.out _ _ HKN.out HKL.out.2.1), other3 s3 (HNK.out _ _ HKN.out HKL.out.2.2)⟩) (fun hHeld => ?_)
              clear hK K
              try simp only [Act.put, lD, lE, lF]
              refine wpAnyH_done (by kernel_rfl) ?_ _
              clear hHeld
              obtain ⟨cur, hk⟩ := HK4.out
              have hne : (Value.slice p5 (es.length + 1) c5).ownBlock ≠ some kn := row_apart hk HO4.out (by decide)
              have hkn := HKN.out
              have hrel := lay_end (n := n) HB4.out HN4.out HO4.out hne hkn
              clear hk hne hkn
              go_wp2_with fail
              go_meet
              exact ⟨kn, p5, c5, rfl, hrel⟩
            exact AllReadyH.nil
          exact AllReadyH.nil
        exact AllReadyH.nil
      exact AllReadyH.nil
    refine AllReadyH.cons rfl (fun K hK => ?_) ?_
    · clear hHeld
      go_simp
      obtain ⟨V1, hV⟩ : ∃ V, V = V0.alloc (.cells #[.int .i64 va, .int .i64 vb] 64) := ⟨_, rfl⟩
      obtain ⟨kl, hkl⟩ : ∃ k, V0.heap.size = k := ⟨_, rfl⟩
      have hb2 : Below V0.heap.size V0 V1 := by rw [hV]; go_grown
      have HL1 : Hid (Has V1 (some ⟨kl, 0, none⟩) [⟨(va : Int), (vb : Int)⟩]) := by rw [hV, ← hkl]; exact has_lit V0 va vb
      rw [← hV, hkl]
      have HB1 := hide (below_step HB0.out hb2)
      clear hV hb2 hkl
      clear s0 s1 s2 s3
      obtain ⟨s0, s1, s2, s3⟩ := HS.out _ HB1.out
      refine hK.out _ _ (by first | with_reducible exact ⟨s0, s1, s2, s3⟩ | (dsimp only; with_reducible exact ⟨s0, s1, s2, s3⟩) | exact ⟨other3 s0 (HNK.out _ _ HKN.out HKL.out.1), other3 s1 (HNK.out _ _ HKN.out HKL.out.1), other3 s2 (HNK.out _ _ HKN.out HKL.out.2.1), other3 s3 (HNK.out _ _ HKN.out HKL.out.2.2)⟩) (fun hHeld => ?_)
      clear hK K
      try simp only [Act.put, lD, lE, lF]
      refine wpAnyH_ready (rs := [4, 13]) (by kernel_rfl) (by simp) ?_
      refine AllReadyH.cons rfl (fun K hK => ?_) ?_
      · clear hHeld
        go_simp
        refine (CL.out V1 HB1.out).mono ?_
        rintro e V2 ⟨pc, cc, rfl, ho, hb2⟩
        have HB2 := hide (below_step HB1.out hb2)
        have HO2 : Hid (Owns V2 Wc.heap.size (.slice pc es.length cc) es) := ho.base HB1.out.size
        have HL2 := hide (HL1.out.later hb2)
        clear hb2 ho
        clear s0 s1 s2 s3
        obtain ⟨s0, s1, s2, s3⟩ := HS.out _ HB2.out
        refine hK.out _ _ (by first | with_reducible exact ⟨s0, s1, s2, s3⟩ | (dsimp only; with_reducible exact ⟨s0, s1, s2, s3⟩) | exact ⟨other3 s0 (HNK.out _ _ HKN.out HKL.out.1), other3 s1 (HNK.out _ _ HKN.out HKL.out.1), other3 s2 (HNK.out _ _ HKN.out HKL.out.2.1), other3 s3 (HNK.out _ _ HKN.out HKL.out.2.2)⟩) (fun hHeld => ?_)
        clear hK K
        try simp only [Act.put, lD, lE, lF]
        refine wpAnyH_ready (rs := [11, 13]) (by kernel_rfl) (by simp) ?_
        refine AllReadyH.cons rfl (fun K hK => ?_) ?_
        · clear hHeld
          obtain ⟨v5, V3, e5, o5, gr5⟩ := append_prs HO2.out (some ⟨kl, 0, none⟩) 1 [⟨(va : Int), (vb : Int)⟩] (by simp) HL2.out HB2.out.size (by simp; omega)
          rw [List.length_singleton] at e5
          obtain ⟨p5, c5, h5, hs5, _⟩ := o5.form
          rw [List.length_append, List.length_singleton] at h5
          subst h5
          have HB3 : Hid (Below Wc.heap.size Wc V3) := below_grown HB2.out HO2.out (Nat.le_refl _) HB2.out.size gr5
          have HO3 : Hid (Owns V3 Wc.heap.size (.slice p5 (es.length + 1) c5) (es ++ [⟨(va : Int), (vb : Int)⟩])) := o5
          have HH3 := hide hs5
          refine step_run_append (by rfl) (.tmp 43) (.tmp 49) 22 (by rfl) 22 (by rfl) (.slice pc es.length cc) (.slice (some ⟨kl, 0, none⟩) 1 1) (.slice p5 (es.length + 1) c5) V3 (by rfl) (by rfl) ?_ ?_
          with_reducible exact e5
          clear e5 o5 gr5 hs5
          clear s0 s1 s2 s3
          obtain ⟨s0, s1, s2, s3⟩ := HS.out _ HB3.out
          refine hK.out _ _ (by first | with_reducible exact ⟨s0, s1, s2, s3⟩ | (dsimp only; with_reducible exact ⟨s0, s1, s2, s3⟩) | exact ⟨other3 s0 (HNK.out _ _ HKN.out HKL.out.1), other3 s1 (HNK.out _ _ HKN.out HKL.out.1), other3 s2 (HNK.out _ _ HKN.out HKL.out.2.1), other3 s3 (HNK.out _ _ HKN.out HKL.out.2.2)⟩) (fun hHeld => ?_)
          clear hK K
          try simp only [Act.put, lD]
          refine wpAnyH_take (i := 12) (v := ?v13) rfl (by kernel_rfl) (by kernel_rfl) (by kernel_rfl) (fun _ _ _ h => h) (Or.inl ⟨by rfl, ?hy13⟩) (by assumption) ?rest13
          case hy13 => (intro w hSw; (try dsimp only at hSw); go_simp; try with_reducible rfl)
          try simp only [Act.put]
          refine wpAnyH_ready (rs := [13]) (by kernel_rfl) (by simp) ?_
          refine AllReadyH.cons rfl (fun K hK => ?_) ?_
          · clear hHeld
            go_simp
            obtain ⟨V4, hV⟩ : ∃ V, V = V3.alloc (nbx 0 none 0 0) := ⟨_, rfl⟩
            obtain ⟨kn, hkn⟩ : ∃ k, V3.heap.size = k := ⟨_, rfl⟩
            have hb2 : Below V3.heap.size V3 V4 := by rw [hV]; go_grown
            have HN4 : Hid (NOwn V4 kn 0 none 0 0) := by show NOwn _ _ _ _ _ _; rw [hV, ← hkn]; exact ⟨by go_cell, by go_cell, by simp [go_sem], by simp [go_sem]⟩
            have HK4 : Hid (∃ cur, V4.heap[kn]? = some (.cells cur 24 (0, 0))) := ⟨_, by rw [hV, ← hkn]; exact heap_alloc_new V3 _⟩
            have HKN : Hid (Wc.heap.size ≤ kn) := by show _ ≤ _; rw [← hkn]; exact HB3.out.size
            rw [← hV, hkn]
            have HB4 := hide (below_step HB3.out hb2)
            have HO4 := hide (HO3.out.later hb2)
            clear hV hb2 hkn
            clear s0 s1 s2 s3
            obtain ⟨s0, s1, s2, s3⟩ := HS.out _ HB4.out
            refine hK.out _ _ (by first | with_reducible exact ⟨s0, s1, s2, s3⟩ | (dsimp only; with_reducible exact ⟨s0, s1, s2, s3⟩) | exact ⟨other3 s0 (HNK.out _ _ HKN.out HKL.out.1), other3 s1 (HNK.out _ _ HKN.out HKL.out.1), other3 s2 (HNK.out _ _ HKN.out HKL.out.2.1), other3 s3 (HNK.out _ _ HKN.out HKL.out.2.2)⟩) (fun hHeld => ?_)
            clear hK K
            try simp only [Act.put, lD, lE, lF]
            refine wpAnyH_ready (rs := [14]) (by kernel_rfl) (by simp) ?_
            refine AllReadyH.cons rfl (fun K hK => ?_) ?_
            · clear hHeld
              obtain ⟨n0, n1, n2, n3⟩ := HN4.out
              go_simp
              clear n0 n1 n2 n3
              refine hK.out _ _ (by first | with_reducible exact ⟨s0, s1, s2, s3⟩ | (dsimp only; with_reducible exact ⟨s0, s1, s2, s3⟩) | exact ⟨other3 s0 (HNK.out _ _ HKN.out HKL.out.1), other3 s1 (HNK.out _ _ HKN.out HKL.out.1), other3 s2 (HNK.out _ _ HKN.out HKL.out.2.1), other3 s3 (HNK.out _ _ HKN.out HKL.out.2.2)⟩) (fun hHeld => ?_)
              clear hK K
              try simp only [Act.put, lD, lE, lF]
              refine wpAnyH_done (by kernel_rfl) ?_ _
              clear hHeld
              obtain ⟨cur, hk⟩ := HK4.out
              have hne : (Value.slice p5 (es.length + 1) c5).ownBlock ≠ some kn := row_apart hk HO4.out (by decide)
              have hkn := HKN.out
              have hrel := lay_end (n := n) HB4.out HN4.out HO4.out hne hkn
              clear hk hne hkn
              go_wp2_with fail
              go_meet
              exact ⟨kn, p5, c5, rfl, hrel⟩
            exact AllReadyH.nil
          exact AllReadyH.nil
        refine AllReadyH.cons rfl (fun K hK => ?_) ?_
        · clear hHeld
          go_simp
          obtain ⟨V3, hV⟩ : ∃ V, V = V2.alloc (nbx 0 none 0 0) := ⟨_, rfl⟩
          obtain ⟨kn, hkn⟩ : ∃ k, V2.heap.size = k := ⟨_, rfl⟩
          have hb2 : Below V2.heap.size V2 V3 := by rw [hV]; go_grown
          have HN3 : Hid (NOwn V3 kn 0 none 0 0) := by show NOwn _ _ _ _ _ _; rw [hV, ← hkn]; exact ⟨by go_cell, by go_cell, by simp [go_sem], by simp [go_sem]⟩
          have HK3 : Hid (∃ cur, V3.heap[kn]? = some (.cells cur 24 (0, 0))) := ⟨_, by rw [hV, ← hkn]; exact heap_alloc_new V2 _⟩
          have HKN : Hid (Wc.heap.size ≤ kn) := by show _ ≤ _; rw [← hkn]; exact HB2.out.size
          rw [← hV, hkn]
          have HB3 := hide (below_step HB2.out hb2)
          have HO3 := hide (HO2.out.later hb2)
          have HL3 := hide (HL2.out.later hb2)
          clear hV hb2 hkn
          clear s0 s1 s2 s3
          obtain ⟨s0, s1, s2, s3⟩ := HS.out _ HB3.out
          refine hK.out _ _ (by first | with_reducible exact ⟨s0, s1, s2, s3⟩ | (dsimp only; with_reducible exact ⟨s0, s1, s2, s3⟩) | exact ⟨other3 s0 (HNK.out _ _ HKN.out HKL.out.1), other3 s1 (HNK.out _ _ HKN.out HKL.out.1), other3 s2 (HNK.out _ _ HKN.out HKL.out.2.1), other3 s3 (HNK.out _ _ HKN.out HKL.out.2.2)⟩) (fun hHeld => ?_)
          clear hK K
          try simp only [Act.put, lD, lE, lF]
          refine wpAnyH_ready (rs := [11]) (by kernel_rfl) (by simp) ?_
          refine AllReadyH.cons rfl (fun K hK => ?_) ?_
          · clear hHeld
            obtain ⟨v5, V4, e5, o5, gr5⟩ := append_prs HO3.out (some ⟨kl, 0, none⟩) 1 [⟨(va : Int), (vb : Int)⟩] (by simp) HL3.out HB3.out.size (by simp; omega)
            rw [List.length_singleton] at e5
            obtain ⟨p5, c5, h5, hs5, _⟩ := o5.form
            rw [List.length_append, List.length_singleton] at h5
            subst h5
            have HB4 : Hid (Below Wc.heap.size Wc V4) := below_grown HB3.out HO3.out (Nat.le_refl _) HB3.out.size gr5
            have HO4 : Hid (Owns V4 Wc.heap.size (.slice p5 (es.length + 1) c5) (es ++ [⟨(va : Int), (vb : Int)⟩])) := o5
            have HH4 := hide hs5
            have hne : some kn ≠ (Value.slice pc es.length cc).ownBlock := by obtain ⟨cur, hk⟩ := HK3.out; exact fun e => row_apart hk HO3.out (by decide) e.symm
            have HN4 := hide (HN3.out.grown gr5 hne)
            have HK4 : Hid (∃ cur, V4.heap[kn]? = some (.cells cur 24 (0, 0))) := by obtain ⟨cur, hk⟩ := HK3.out; exact ⟨cur, by rw [gr5.block kn (block_of hk) hne]; exact hk⟩
            clear hne
            refine step_run_append (by rfl) (.tmp 43) (.tmp 49) 22 (by rfl) 22 (by rfl) (.slice pc es.length cc) (.slice (some ⟨kl, 0, none⟩) 1 1) (.slice p5 (es.length + 1) c5) V4 (by rfl) (by rfl) ?_ ?_
            with_reducible exact e5
            clear e5 o5 gr5 hs5
            clear s0 s1 s2 s3
            obtain ⟨s0, s1, s2, s3⟩ := HS.out _ HB4.out
            refine hK.out _ _ (by first | with_reducible exact ⟨s0, s1, s2, s3⟩ | (dsimp only; with_reducible exact ⟨s0, s1, s2, s3⟩) | exact ⟨other3 s0 (HNK.out _ _ HKN.out HKL.out.1), other3 s1 (HNK.out _ _ HKN.out HKL.out.1), other3 s2 (HNK.out _ _ HKN.out HKL.out.2.1), other3 s3 (HNK.out _ _ HKN.out HKL.out.2.2)⟩) (fun hHeld => ?_)
            clear hK K
            try simp only [Act.put, lD]
            refine wpAnyH_take (i := 12) (v := ?v14) rfl (by kernel_rfl) (by kernel_rfl) (by kernel_rfl) (fun _ _ _ h => h) (Or.inl ⟨by rfl, ?hy14⟩) (by assumption) ?rest14
            case hy14 => (intro w hSw; (try dsimp only at hSw); go_simp; try with_reducible rfl)
            try simp only [Act.put]
            refine wpAnyH_ready (rs := [14]) (by kernel_rfl) (by simp) ?_
            refine AllReadyH.cons rfl (fun K hK => ?_) ?_
            · clear hHeld
              obtain ⟨n0, n1, n2, n3⟩ := HN4.out
              go_simp
              clear n0 n1 n2 n3
              refine hK.out _ _ (by first | with_reducible exact ⟨s0, s1, s2, s3⟩ | (dsimp only; with_reducible exact ⟨s0, s1, s2, s3⟩) | exact ⟨other3 s0 (HNK.out _ _ HKN.out HKL.out.1), other3 s1 (HNK.out _ _ HKN.out HKL.out.1), other3 s2 (HNK.out _ _ HKN.out HKL.out.2.1), other3 s3 (HNK.out _ _ HKN.out HKL.out.2.2)⟩) (fun hHeld => ?_)
              clear hK K
              try simp only [Act.put, lD, lE, lF]
              refine wpAnyH_done (by kernel_rfl) ?_ _
              clear hHeld
              obtain ⟨cur, hk⟩ := HK4.out
              have hne : (Value.slice p5 (es.length + 1) c5).ownBlock ≠ some kn := row_apart hk HO4.out (by decide)
              have hkn := HKN.out
              have hrel := lay_end (n := n) HB4.out HN4.out HO4.out hne hkn
              clear hk hne hkn
              go_wp2_with fail
              go_meet
              exact ⟨kn, p5, c5, rfl, hrel⟩
            exact AllReadyH.nil
          exact AllReadyH.nil
        exact AllReadyH.nil
      refine AllReadyH.cons rfl (fun K hK => ?_) ?_
      · clear hHeld
        go_simp
        obtain ⟨V2, hV⟩ : ∃ V, V = V1.alloc (nbx 0 none 0 0) := ⟨_, rfl⟩
        obtain ⟨kn, hkn⟩ : ∃ k, V1.heap.size = k := ⟨_, rfl⟩
        have hb2 : Below V1.heap.size V1 V2 := by rw [hV]; go_grown
        have HN2 : Hid (NOwn V2 kn 0 none 0 0) := by show NOwn _ _ _ _ _ _; rw [hV, ← hkn]; exact ⟨by go_cell, by go_cell, by simp [go_sem], by simp [go_sem]⟩
        have HK2 : Hid (∃ cur, V2.heap[kn]? = some (.cells cur 24 (0, 0))) := ⟨_, by rw [hV, ← hkn]; exact heap_alloc_new V1 _⟩
        have HKN : Hid (Wc.heap.size ≤ kn) := by show _ ≤ _; rw [← hkn]; exact HB1.out.size
        rw [← hV, hkn]
        have HB2 := hide (below_step HB1.out hb2)
        have HL2 := hide (HL1.out.later hb2)
        clear hV hb2 hkn
        clear s0 s1 s2 s3
        obtain ⟨s0, s1, s2, s3⟩ := HS.out _ HB2.out
        refine hK.out _ _ (by first | with_reducible exact ⟨s0, s1, s2, s3⟩ | (dsimp only; with_reducible exact ⟨s0, s1, s2, s3⟩) | exact ⟨other3 s0 (HNK.out _ _ HKN.out HKL.out.1), other3 s1 (HNK.out _ _ HKN.out HKL.out.1), other3 s2 (HNK.out _ _ HKN.out HKL.out.2.1), other3 s3 (HNK.out _ _ HKN.out HKL.out.2.2)⟩) (fun hHeld => ?_)
        clear hK K
        try simp only [Act.put, lD, lE, lF]
        refine wpAnyH_ready (rs := [4]) (by kernel_rfl) (by simp) ?_
        refine AllReadyH.cons rfl (fun K hK => ?_) ?_
        · clear hHeld
          go_simp
          refine (CL.out V2 HB2.out).mono ?_
          rintro e V3 ⟨pc, cc, rfl, ho, hb2⟩
          have HB3 := hide (below_step HB2.out hb2)
          have HO3 : Hid (Owns V3 Wc.heap.size (.slice pc es.length cc) es) := ho.base HB2.out.size
          have HL3 := hide (HL2.out.later hb2)
          have HN3 := hide (HN2.out.later hb2)
          have HK3 : Hid (∃ cur, V3.heap[kn]? = some (.cells cur 24 (0, 0))) := by obtain ⟨cur, hk⟩ := HK2.out; exact ⟨cur, by rw [hb2.block kn (block_of hk)]; exact hk⟩
          clear hb2 ho
          clear s0 s1 s2 s3
          obtain ⟨s0, s1, s2, s3⟩ := HS.out _ HB3.out
          refine hK.out _ _ (by first | with_reducible exact ⟨s0, s1, s2, s3⟩ | (dsimp only; with_reducible exact ⟨s0, s1, s2, s3⟩) | exact ⟨other3 s0 (HNK.out _ _ HKN.out HKL.out.1), other3 s1 (HNK.out _ _ HKN.out HKL.out.1), other3 s2 (HNK.out _ _ HKN.out HKL.out.2.1), other3 s3 (HNK.out _ _ HKN.out HKL.out.2.2)⟩) (fun hHeld => ?_)
          clear hK K
          try simp only [Act.put, lD, lE, lF]
          refine wpAnyH_ready (rs := [11]) (by kernel_rfl) (by simp) ?_
          refine AllReadyH.cons rfl (fun K hK => ?_) ?_
          · clear hHeld
            obtain ⟨v5, V4, e5, o5, gr5⟩ := append_prs HO3.out (some ⟨kl, 0, none⟩) 1 [⟨(va : Int), (vb : Int)⟩] (by simp) HL3.out HB3.out.size (by simp; omega)
            rw [List.length_singleton] at e5
            obtain ⟨p5, c5, h5, hs5, _⟩ := o5.form
            rw [List.length_append, List.length_singleton] at h5
            subst h5
            have HB4 : Hid (Below Wc.heap.size Wc V4) := below_grown HB3.out HO3.out (Nat.le_refl _) HB3.out.size gr5
            have HO4 : Hid (Owns V4 Wc.heap.size (.slice p5 (es.length + 1) c5) (es ++ [⟨(va : Int), (vb : Int)⟩])) := o5
            have HH4 := hide hs5
            have hne : some kn ≠ (Value.slice pc es.length cc).ownBlock := by obtain ⟨cur, hk⟩ := HK3.out; exact fun e => row_apart hk HO3.out (by decide) e.symm
            have HN4 := hide (HN3.out.grown gr5 hne)
            have HK4 : Hid (∃ cur, V4.heap[kn]? = some (.cells cur 24 (0, 0))) := by obtain ⟨cur, hk⟩ := HK3.out; exact ⟨cur, by rw [gr5.block kn (block_of hk) hne]; exact hk⟩
            clear hne
            refine step_run_append (by rfl) (.tmp 43) (.tmp 49) 22 (by rfl) 22 (by rfl) (.slice pc es.length cc) (.slice (some ⟨kl, 0, none⟩) 1 1) (.slice p5 (es.length + 1) c5) V4 (by rfl) (by rfl) ?_ ?_
            with_reducible exact e5
            clear e5 o5 gr5 hs5
            clear s0 s1 s2 s3
            obtain ⟨s0, s1, s2, s3⟩ := HS.out _ HB4.out
            refine hK.out _ _ (by first | with_reducible exact ⟨s0, s1, s2, s3⟩ | (dsimp only; with_reducible exact ⟨s0, s1, s2, s3⟩) | exact ⟨other3 s0 (HNK.out _ _ HKN.out HKL.out.1), other3 s1 (HNK.out _ _ HKN.out HKL.out.1), other3 s2 (HNK.out _ _ HKN.out HKL.out.2.1), other3 s3 (HNK.out _ _ HKN.out HKL.out.2.2)⟩) (fun hHeld => ?_)
            clear hK K
            try simp only [Act.put, lD]
            refine wpAnyH_take (i := 12) (v := ?v15) rfl (by kernel_rfl) (by kernel_rfl) (by kernel_rfl) (fun _ _ _ h => h) (Or.inl ⟨by rfl, ?hy15⟩) (by assumption) ?rest15
            case hy15 => (intro w hSw; (try dsimp only at hSw); go_simp; try with_reducible rfl)
            try simp only [Act.put]
            refine wpAnyH_ready (rs := [14]) (by kernel_rfl) (by simp) ?_
            refine AllReadyH.cons rfl (fun K hK => ?_) ?_
            · clear hHeld
              obtain ⟨n0, n1, n2, n3⟩ := HN4.out
              go_simp
              clear n0 n1 n2 n3
              refine hK.out _ _ (by first | with_reducible exact ⟨s0, s1, s2, s3⟩ | (dsimp only; with_reducible exact ⟨s0, s1, s2, s3⟩) | exact ⟨other3 s0 (HNK.out _ _ HKN.out HKL.out.1), other3 s1 (HNK.out _ _ HKN.out HKL.out.1), other3 s2 (HNK.out _ _ HKN.out HKL.out.2.1), other3 s3 (HNK.out _ _ HKN.out HKL.out.2.2)⟩) (fun hHeld => ?_)
              clear hK K
              try simp only [Act.put, lD, lE, lF]
              refine wpAnyH_done (by kernel_rfl) ?_ _
              clear hHeld
              obtain ⟨cur, hk⟩ := HK4.out
              have hne : (Value.slice p5 (es.length + 1) c5).ownBlock ≠ some kn := row_apart hk HO4.out (by decide)
              have hkn := HKN.out
              have hrel := lay_end (n := n) HB4.out HN4.out HO4.out hne hkn
              clear hk hne hkn
              go_wp2_with fail
              go_meet
              exact ⟨kn, p5, c5, rfl, hrel⟩
            exact AllReadyH.nil
          exact AllReadyH.nil
        exact AllReadyH.nil
      exact AllReadyH.nil
    refine AllReadyH.cons rfl (fun K hK => ?_) ?_
    · clear hHeld
      go_simp
      obtain ⟨V1, hV⟩ : ∃ V, V = V0.alloc (nbx 0 none 0 0) := ⟨_, rfl⟩
      obtain ⟨kn, hkn⟩ : ∃ k, V0.heap.size = k := ⟨_, rfl⟩
      have hb2 : Below V0.heap.size V0 V1 := by rw [hV]; go_grown
      have HN1 : Hid (NOwn V1 kn 0 none 0 0) := by show NOwn _ _ _ _ _ _; rw [hV, ← hkn]; exact ⟨by go_cell, by go_cell, by simp [go_sem], by simp [go_sem]⟩
      have HK1 : Hid (∃ cur, V1.heap[kn]? = some (.cells cur 24 (0, 0))) := ⟨_, by rw [hV, ← hkn]; exact heap_alloc_new V0 _⟩
      have HKN : Hid (Wc.heap.size ≤ kn) := by show _ ≤ _; rw [← hkn]; exact HB0.out.size
      rw [← hV, hkn]
      have HB1 := hide (below_step HB0.out hb2)
      clear hV hb2 hkn
      clear s0 s1 s2 s3
      obtain ⟨s0, s1, s2, s3⟩ := HS.out _ HB1.out
      refine hK.out _ _ (by first | with_reducible exact ⟨s0, s1, s2, s3⟩ | (dsimp only; with_reducible exact ⟨s0, s1, s2, s3⟩) | exact ⟨other3 s0 (HNK.out _ _ HKN.out HKL.out.1), other3 s1 (HNK.out _ _ HKN.out HKL.out.1), other3 s2 (HNK.out _ _ HKN.out HKL.out.2.1), other3 s3 (HNK.out _ _ HKN.out HKL.out.2.2)⟩) (fun hHeld => ?_)
      clear hK K
      try simp only [Act.put, lD, lE, lF]
      refine wpAnyH_ready (rs := [4, 10]) (by kernel_rfl) (by simp) ?_
      refine AllReadyH.cons rfl (fun K hK => ?_) ?_
      · clear hHeld
        go_simp
        refine (CL.out V1 HB1.out).mono ?_
        rintro e V2 ⟨pc, cc, rfl, ho, hb2⟩
        have HB2 := hide (below_step HB1.out hb2)
        have HO2 : Hid (Owns V2 Wc.heap.size (.slice pc es.length cc) es) := ho.base HB1.out.size
        have HN2 := hide (HN1.out.later hb2)
        have HK2 : Hid (∃ cur, V2.heap[kn]? = some (.cells cur 24 (0, 0))) := by obtain ⟨cur, hk⟩ := HK1.out; exact ⟨cur, by rw [hb2.block kn (block_of hk)]; exact hk⟩
        clear hb2 ho
        clear s0 s1 s2 s3
        obtain ⟨s0, s1, s2, s3⟩ := HS.out _ HB2.out
        refine hK.out _ _ (by first | with_reducible exact ⟨s0, s1, s2, s3⟩ | (dsimp only; with_reducible exact ⟨s0, s1, s2, s3⟩) | exact ⟨other3 s0 (HNK.out _ _ HKN.out HKL.out.1), other3 s1 (HNK.out _ _ HKN.out HKL.out.1), other3 s2 (HNK.out _ _ HKN.out HKL.out.2.1), other3 s3 (HNK.out _ _ HKN.out HKL.out.2.2)⟩) (fun hHeld => ?_)
        clear hK K
        try simp only [Act.put, lD, lE, lF]
        refine wpAnyH_ready (rs := [10]) (by kernel_rfl) (by simp) ?_
        refine AllReadyH.cons rfl (fun K hK => ?_) ?_
        · clear hHeld
          go_simp
          obtain ⟨V3, hV⟩ : ∃ V, V = V2.alloc (.cells #[.int .i64 va, .int .i64 vb] 64) := ⟨_, rfl⟩
          obtain ⟨kl, hkl⟩ : ∃ k, V2.heap.size = k := ⟨_, rfl⟩
          have hb2 : Below V2.heap.size V2 V3 := by rw [hV]; go_grown
          have HL3 : Hid (Has V3 (some ⟨kl, 0, none⟩) [⟨(va : Int), (vb : Int)⟩]) := by rw [hV, ← hkl]; exact has_lit V2 va vb
          rw [← hV, hkl]
          have HB3 := hide (below_step HB2.out hb2)
          have HO3 := hide (HO2.out.later hb2)
          have HN3 := hide (HN2.out.later hb2)
          have HK3 : Hid (∃ cur, V3.heap[kn]? = some (.cells cur 24 (0, 0))) := by obtain ⟨cur, hk⟩ := HK2.out; exact ⟨cur, by rw [hb2.block kn (block_of hk)]; exact hk⟩
          clear hV hb2 hkl
          clear s0 s1 s2 s3
          obtain ⟨s0, s1, s2, s3⟩ := HS.out _ HB3.out
          refine hK.out _ _ (by first | with_reducible exact ⟨s0, s1, s2, s3⟩ | (dsimp only; with_reducible exact ⟨s0, s1, s2, s3⟩) | exact ⟨other3 s0 (HNK.out _ _ HKN.out HKL.out.1), other3 s1 (HNK.out _ _ HKN.out HKL.out.1), other3 s2 (HNK.out _ _ HKN.out HKL.out.2.1), other3 s3 (HNK.out _ _ HKN.out HKL.out.2.2)⟩) (fun hHeld => ?_)
          clear hK K
          try simp only [Act.put, lD, lE, lF]
          refine wpAnyH_ready (rs := [11]) (by kernel_rfl) (by simp) ?_
          refine AllReadyH.cons rfl (fun K hK => ?_) ?_
          · clear hHeld
            obtain ⟨v5, V4, e5, o5, gr5⟩ := append_prs HO3.out (some ⟨kl, 0, none⟩) 1 [⟨(va : Int), (vb : Int)⟩] (by simp) HL3.out HB3.out.size (by simp; omega)
            rw [List.length_singleton] at e5
            obtain ⟨p5, c5, h5, hs5, _⟩ := o5.form
            rw [List.length_append, List.length_singleton] at h5
            subst h5
            have HB4 : Hid (Below Wc.heap.size Wc V4) := below_grown HB3.out HO3.out (Nat.le_refl _) HB3.out.size gr5
            have HO4 : Hid (Owns V4 Wc.heap.size (.slice p5 (es.length + 1) c5) (es ++ [⟨(va : Int), (vb : Int)⟩])) := o5
            have HH4 := hide hs5
            have hne : some kn ≠ (Value.slice pc es.length cc).ownBlock := by obtain ⟨cur, hk⟩ := HK3.out; exact fun e => row_apart hk HO3.out (by decide) e.symm
            have HN4 := hide (HN3.out.grown gr5 hne)
            have HK4 : Hid (∃ cur, V4.heap[kn]? = some (.cells cur 24 (0, 0))) := by obtain ⟨cur, hk⟩ := HK3.out; exact ⟨cur, by rw [gr5.block kn (block_of hk) hne]; exact hk⟩
            clear hne
            refine step_run_append (by rfl) (.tmp 43) (.tmp 49) 22 (by rfl) 22 (by rfl) (.slice pc es.length cc) (.slice (some ⟨kl, 0, none⟩) 1 1) (.slice p5 (es.length + 1) c5) V4 (by rfl) (by rfl) ?_ ?_
            with_reducible exact e5
            clear e5 o5 gr5 hs5
            clear s0 s1 s2 s3
            obtain ⟨s0, s1, s2, s3⟩ := HS.out _ HB4.out
            refine hK.out _ _ (by first | with_reducible exact ⟨s0, s1, s2, s3⟩ | (dsimp only; with_reducible exact ⟨s0, s1, s2, s3⟩) | exact ⟨other3 s0 (HNK.out _ _ HKN.out HKL.out.1), other3 s1 (HNK.out _ _ HKN.out HKL.out.1), other3 s2 (HNK.out _ _ HKN.out HKL.out.2.1), other3 s3 (HNK.out _ _ HKN.out HKL.out.2.2)⟩) (fun hHeld => ?_)
            clear hK K
            try simp only [Act.put, lD]
            refine wpAnyH_take (i := 12) (v := ?v16) rfl (by kernel_rfl) (by kernel_rfl) (by kernel_rfl) (fun _ _ _ h => h) (Or.inl ⟨by rfl, ?hy16⟩) (by assumption) ?rest16
            case hy16 => (intro w hSw; (try dsimp only at hSw); go_simp; try with_reducible rfl)
            try simp only [Act.put]
            refine wpAnyH_ready (rs := [14]) (by kernel_rfl) (by simp) ?_
            refine AllReadyH.cons rfl (fun K hK => ?_) ?_
            · clear hHeld
              obtain ⟨n0, n1, n2, n3⟩ := HN4.out
              go_simp
              clear n0 n1 n2 n3
              refine hK.out _ _ (by first | with_reducible exact ⟨s0, s1, s2, s3⟩ | (dsimp only; with_reducible exact ⟨s0, s1, s2, s3⟩) | exact ⟨other3 s0 (HNK.out _ _ HKN.out HKL.out.1), other3 s1 (HNK.out _ _ HKN.out HKL.out.1), other3 s2 (HNK.out _ _ HKN.out HKL.out.2.1), other3 s3 (HNK.out _ _ HKN.out HKL.out.2.2)⟩) (fun hHeld => ?_)
              clear hK K
              try simp only [Act.put, lD, lE, lF]
              refine wpAnyH_done (by kernel_rfl) ?_ _
              clear hHeld
              obtain ⟨cur, hk⟩ := HK4.out
              have hne : (Value.slice p5 (es.length + 1) c5).ownBlock ≠ some kn := row_apart hk HO4.out (by decide)
              have hkn := HKN.out
              have hrel := lay_end (n := n) HB4.out HN4.out HO4.out hne hkn
              clear hk hne hkn
              go_wp2_with fail
              go_meet
              exact ⟨kn, p5, c5, rfl, hrel⟩
            exact AllReadyH.nil
          exact AllReadyH.nil
        exact AllReadyH.nil
      refine AllReadyH.cons rfl (fun K hK => ?_) ?_
      · clear hHeld
        go_simp
        obtain ⟨V2, hV⟩ : ∃ V, V = V1.alloc (.cells #[.int .i64 va, .int .i64 vb] 64) := ⟨_, rfl⟩
        obtain ⟨kl, hkl⟩ : ∃ k, V1.heap.size = k := ⟨_, rfl⟩
        have hb2 : Below V1.heap.size V1 V2 := by rw [hV]; go_grown
        have HL2 : Hid (Has V2 (some ⟨kl, 0, none⟩) [⟨(va : Int), (vb : Int)⟩]) := by rw [hV, ← hkl]; exact has_lit V1 va vb
        rw [← hV, hkl]
        have HB2 := hide (below_step HB1.out hb2)
        have HN2 := hide (HN1.out.later hb2)
        have HK2 : Hid (∃ cur, V2.heap[kn]? = some (.cells cur 24 (0, 0))) := by obtain ⟨cur, hk⟩ := HK1.out; exact ⟨cur, by rw [hb2.block kn (block_of hk)]; exact hk⟩
        clear hV hb2 hkl
        clear s0 s1 s2 s3
        obtain ⟨s0, s1, s2, s3⟩ := HS.out _ HB2.out
        refine hK.out _ _ (by first | with_reducible exact ⟨s0, s1, s2, s3⟩ | (dsimp only; with_reducible exact ⟨s0, s1, s2, s3⟩) | exact ⟨other3 s0 (HNK.out _ _ HKN.out HKL.out.1), other3 s1 (HNK.out _ _ HKN.out HKL.out.1), other3 s2 (HNK.out _ _ HKN.out HKL.out.2.1), other3 s3 (HNK.out _ _ HKN.out HKL.out.2.2)⟩) (fun hHeld => ?_)
        clear hK K
        try simp only [Act.put, lD, lE, lF]
        refine wpAnyH_ready (rs := [4]) (by kernel_rfl) (by simp) ?_
        refine AllReadyH.cons rfl (fun K hK => ?_) ?_
        · clear hHeld
          go_simp
          refine (CL.out V2 HB2.out).mono ?_
          rintro e V3 ⟨pc, cc, rfl, ho, hb2⟩
          have HB3 := hide (below_step HB2.out hb2)
          have HO3 : Hid (Owns V3 Wc.heap.size (.slice pc es.length cc) es) := ho.base HB2.out.size
          have HL3 := hide (HL2.out.later hb2)
          have HN3 := hide (HN2.out.later hb2)
          have HK3 : Hid (∃ cur, V3.heap[kn]? = some (.cells cur 24 (0, 0))) := by obtain ⟨cur, hk⟩ := HK2.out; exact ⟨cur, by rw [hb2.block kn (block_of hk)]; exact hk⟩
          clear hb2 ho
          clear s0 s1 s2 s3
          obtain ⟨s0, s1, s2, s3⟩ := HS.out _ HB3.out
          refine hK.out _ _ (by first | with_reducible exact ⟨s0, s1, s2, s3⟩ | (dsimp only; with_reducible exact ⟨s0, s1, s2, s3⟩) | exact ⟨other3 s0 (HNK.out _ _ HKN.out HKL.out.1), other3 s1 (HNK.out _ _ HKN.out HKL.out.1), other3 s2 (HNK.out _ _ HKN.out HKL.out.2.1), other3 s3 (HNK.out _ _ HKN.out HKL.out.2.2)⟩) (fun hHeld => ?_)
          clear hK K
          try simp only [Act.put, lD, lE, lF]
          refine wpAnyH_ready (rs := [11]) (by kernel_rfl) (by simp) ?_
          refine AllReadyH.cons rfl (fun K hK => ?_) ?_
          · clear hHeld
            obtain ⟨v5, V4, e5, o5, gr5⟩ := append_prs HO3.out (some ⟨kl, 0, none⟩) 1 [⟨(va : Int), (vb : Int)⟩] (by simp) HL3.out HB3.out.size (by simp; omega)
            rw [List.length_singleton] at e5
            obtain ⟨p5, c5, h5, hs5, _⟩ := o5.form
            rw [List.length_append, List.length_singleton] at h5
            subst h5
            have HB4 : Hid (Below Wc.heap.size Wc V4) := below_grown HB3.out HO3.out (Nat.le_refl _) HB3.out.size gr5
            have HO4 : Hid (Owns V4 Wc.heap.size (.slice p5 (es.length + 1) c5) (es ++ [⟨(va : Int), (vb : Int)⟩])) := o5
            have HH4 := hide hs5
            have hne : some kn ≠ (Value.slice pc es.length cc).ownBlock := by obtain ⟨cur, hk⟩ := HK3.out; exact fun e => row_apart hk HO3.out (by decide) e.symm
            have HN4 := hide (HN3.out.grown gr5 hne)
            have HK4 : Hid (∃ cur, V4.heap[kn]? = some (.cells cur 24 (0, 0))) := by obtain ⟨cur, hk⟩ := HK3.out; exact ⟨cur, by rw [gr5.block kn (block_of hk) hne]; exact hk⟩
            clear hne
            refine step_run_append (by rfl) (.tmp 43) (.tmp 49) 22 (by rfl) 22 (by rfl) (.slice pc es.length cc) (.slice (some ⟨kl, 0, none⟩) 1 1) (.slice p5 (es.length + 1) c5) V4 (by rfl) (by rfl) ?_ ?_
            with_reducible exact e5
            clear e5 o5 gr5 hs5
            clear s0 s1 s2 s3
            obtain ⟨s0, s1, s2, s3⟩ := HS.out _ HB4.out
            refine hK.out _ _ (by first | with_reducible exact ⟨s0, s1, s2, s3⟩ | (dsimp only; with_reducible exact ⟨s0, s1, s2, s3⟩) | exact ⟨other3 s0 (HNK.out _ _ HKN.out HKL.out.1), other3 s1 (HNK.out _ _ HKN.out HKL.out.1), other3 s2 (HNK.out _ _ HKN.out HKL.out.2.1), other3 s3 (HNK.out _ _ HKN.out HKL.out.2.2)⟩) (fun hHeld => ?_)
            clear hK K
            try simp only [Act.put, lD]
            refine wpAnyH_take (i := 12) (v := ?v17) rfl (by kernel_rfl) (by kernel_rfl) (by kernel_rfl) (fun _ _ _ h => h) (Or.inl ⟨by rfl, ?hy17⟩) (by assumption) ?rest17
            case hy17 => (intro w hSw; (try dsimp only at hSw); go_simp; try with_reducible rfl)
            try simp only [Act.put]
            refine wpAnyH_ready (rs := [14]) (by kernel_rfl) (by simp) ?_
            refine AllReadyH.cons rfl (fun K hK => ?_) ?_
            · clear hHeld
              obtain ⟨n0, n1, n2, n3⟩ := HN4.out
              go_simp
              clear n0 n1 n2 n3
              refine hK.out _ _ (by first | with_reducible exact ⟨s0, s1, s2, s3⟩ | (dsimp only; with_reducible exact ⟨s0, s1, s2, s3⟩) | exact ⟨other3 s0 (HNK.out _ _ HKN.out HKL.out.1), other3 s1 (HNK.out _ _ HKN.out HKL.out.1), other3 s2 (HNK.out _ _ HKN.out HKL.out.2.1), other3 s3 (HNK.out _ _ HKN.out HKL.out.2.2)⟩) (fun hHeld => ?_)
              clear hK K
              try simp only [Act.put, lD, lE, lF]
              refine wpAnyH_done (by kernel_rfl) ?_ _
              clear hHeld
              obtain ⟨cur, hk⟩ := HK4.out
              have hne : (Value.slice p5 (es.length + 1) c5).ownBlock ≠ some kn := row_apart hk HO4.out (by decide)
              have hkn := HKN.out
              have hrel := lay_end (n := n) HB4.out HN4.out HO4.out hne hkn
              clear hk hne hkn
              go_wp2_with fail
              go_meet
              exact ⟨kn, p5, c5, rfl, hrel⟩
            exact AllReadyH.nil
          exact AllReadyH.nil
        exact AllReadyH.nil
      exact AllReadyH.nil
    exact AllReadyH.nil
  case rest =>
    obtain ⟨kx, px, cx, rfl, hb4, hN4, hO4, hk4⟩ := hcut
    obtain ⟨px', cx', hv4, hH4, _, hnil4, hpb4⟩ := hO4.form
    injection hv4 with e1 _ e3
    rw [← e1] at hH4 hnil4 hpb4
    have HPB : Hid (∀ a, px = some a → Wc.heap.size ≤ a.block) := fun a ha => (hpb4 a ha).2.2.1
    clear hpb4
    rw [← e3] at hnil4
    rw [layN_length] at hN4
    have HB4 := hide (below_step HB3.out hb4)
    have HC4 := hide (below_step HC3.out hb4)
    have HN4 := hide hN4
    have HH4 := hide hH4
    have HNI := hide hnil4
    have hkx : W.heap.size ≤ kx := Nat.le_trans HB3.out.size hk4
    have hkw := HKL.out
    clear hb4 hO4 hk4 e1 e3 hN4 hH4 hnil4 CL HNK
    obtain ⟨x0, x1, _, _⟩ := HN4.out
    have MY := may13 n px (layN es va vb) cx wc HH4.out
    rw [layN_length, lay_net (rot_is HRT.out).1 hva hvb] at MY
    have MY := hide MY
    go_wp2_with fail
    refine MY.out.mono ?_
    rintro r w5 ⟨rfl, hb5⟩
    have HV5 := hide hb5
    have HB5 := hide (below_step HB4.out hb5)
    have HC5 := hide (below_step HC4.out hb5)
    clear MY hb5 x0 x1
    by_cases hlim : ¬ es.length + 1 ≤ 3072
    · rw [decide_eq_false hlim]
      have HZ5 := hide (HZ.out.later HB5.out)
      obtain ⟨r0, r1, r2, r3⟩ := HZ5.out
      go_wp2
      obtain ⟨V, hV⟩ : ∃ V, V = (w5.setCell ⟨w.heap.size + 3, 0, none⟩ (.int .i64 0)).setCell ⟨w.heap.size + 3, 1, none⟩ (.slice none 0 0) := ⟨_, rfl⟩
      have kV : NOwn V (w.heap.size + 3) 0 none 0 0 := by rw [hV]; exact HZ5.out.set 0 none 0 0
      have bV : Below w.heap.size w V := by rw [hV]; exact ((below_step HB.out HB5.out).setCell (by simp) _).setCell (by simp) _
      rw [← hV]
      exact bodyPost_ret (ret_net3 Try.results16 rfl rfl rfl kV) rfl ⟨Or.inl ⟨hlim, rfl⟩, bV⟩
    have hlim : es.length + 1 ≤ 3072 := Decidable.not_not.1 hlim
    rw [decide_eq_true hlim]
    have PA := hide (parts15 n p es cp w5 (HH.out.later HB5.out) (rot_is HRT.out).1)
    obtain ⟨y0, y1, _, _⟩ := HA.out.later HB5.out
    go_wp2_with fail
    refine PA.out.mono ?_
    rintro r w6 ⟨gp, rfl, hrp, hb6⟩
    have HV6 := hide (below_step HV5.out hb6)
    have HB6 := hide (below_step HB5.out hb6)
    have HC6 := hide (below_step HC5.out hb6)
    have HP6 : Hid (IRow w6 w5.heap.size gp n (ptL n es)) := hrp
    clear PA hb6 y0 y1 hrp
    have hol : (ofL es rs).length = 2 * es.length := (edge_ok (rot_is HRT.out).2.2).len
    have HOB : Hid (∀ j, j < (ofL es rs).length → 0 ≤ iat (ofL es rs) j ∧ iat (ofL es rs) j < 100000) := fun j hj => by
      obtain ⟨f, k, hf, _, _, e⟩ := (fc_of (rot_is HRT.out).2.2).on j hj
      have := facesL_le HRT.out
      omega
    have HRN : Hid (rs.length = n) := by have := (rot_is HRT.out).2.1; show _ = _; omega
    have HFA : Hid (∀ (v : Nat) (a : Int), v < n → corB rs v a = true → ∀ V, Below w6.heap.size w6 V → Calls Try.prog 49 #[.slice q rs.length cq, .slice (some ⟨go, 0, none⟩) (2 * es.length) (2 * es.length), cv v a] V fun e w' => e = .returned (.int .i64 (faceI rs (ofL es rs) v a)) ∧ Below V.heap.size V w') := fun v a hv hc V hV => by
      have hb := below_step HB6.out hV
      have hb1 : Below w1.heap.size w1 V := below_step HC6.out hV
      have := face49 q (some ⟨go, 0, none⟩) rs cq (ofL es rs) (2 * es.length) v a V (HR.out.later hb) ((HO1.out.later hb1).has) (by omega) HOB.out (by have := HRN.out; omega) (by omega) (fun u hu => by have := HZ2.out u hu; omega) (fun j hj => by have := rot_in HRT.out v (by have := HRN.out; omega) j hj; rw [hol]; omega) hc hcap
      rw [hol] at this
      exact this
    obtain ⟨fa, hfa⟩ : ∃ z, faceI rs (ofL es rs) va aa = z := ⟨_, rfl⟩
    obtain ⟨fb, hfb⟩ : ∃ z, faceI rs (ofL es rs) vb ab = z := ⟨_, rfl⟩
    have HFAA := hide (HFA.out va aa hva HCA.out)
    have HFAB := hide (HFA.out vb ab hvb HCB.out)
    rw [hfa] at HFAA
    rw [hfb] at HFAB
    have C1 : ∀ dd os, Calls Try.prog 49 #[.slice q rs.length cq, .slice (some ⟨go, 0, none⟩) (2 * es.length) (2 * es.length), cv va aa] (grow (redrawn w6 dd) os) fun e w'' => e = .returned (.int .i64 fa) ∧ ∃ p : Regrown, w'' = grow (redrawn w6 p.d) p.os := fun dd os => Calls.regrown_of (HFAA.out _ (below_regrown w6 dd os))
    have C2 : ∀ dd os, Calls Try.prog 49 #[.slice q rs.length cq, .slice (some ⟨go, 0, none⟩) (2 * es.length) (2 * es.length), cv vb ab] (grow (redrawn w6 dd) os) fun e w'' => e = .returned (.int .i64 fb) ∧ ∃ p : Regrown, w'' = grow (redrawn w6 p.d) p.os := fun dd os => Calls.regrown_of (HFAB.out _ (below_regrown w6 dd os))
    obtain ⟨g1, _⟩ := HP6.out.cell hva
    obtain ⟨g2, _⟩ := HP6.out.cell hvb
    obtain ⟨x, hx⟩ : ∃ z, iat (ptL n es) va = z := ⟨_, rfl⟩
    obtain ⟨y, hy⟩ : ∃ z, iat (ptL n es) vb = z := ⟨_, rfl⟩
    rw [hx] at g1
    rw [hy] at g2
    have G1 := cell_regrown g1
    have G2 := cell_regrown g2
    have s2 := later HB6.out HSA.out.1
    have s2' := later HB6.out HSA.out.2
    have s3 := later HB6.out HSB.out.1
    have s3' := later HB6.out HSB.out.2
    have S2 := cell_regrown s2
    have S2' := cell_regrown s2'
    have S3 := cell_regrown s3
    have S3' := cell_regrown s3'
    have k1 : (va : Int) < n := by omega
    have k2 : (vb : Int) < n := by omega
    have HG : Hid (layG n es rs va aa vb ab ↔ x = y ∧ fa ≠ fb) := by
      show _ ↔ _
      unfold layG
      rw [hx, hy, hfa, hfb]
    clear HFA HFAA HFAB hfa hfb hx hy
    obtain ⟨w4, hw4⟩ : ∃ z, z = wc := ⟨_, rfl⟩
    subst hw4
    go_upto_region 10 with fail
    go_cut [83] (fun s83 wx => s83 = .bool (decide (x = y ∧ fa ≠ fb)) ∧ Below w6.heap.size w6 wx)
    case first =>
      refine wp_region_quiet_below (by kernel_rfl) (by kernel_rfl) ?_
      by_cases hxy : x = y
      · subst hxy
        repeat (go_big_quiet_step (first | with_reducible exact C1 _ _ | with_reducible exact C2 _ _))
        refine wpQuiet_nil ?_
        intro w7 hw'
        have hb7 : Below w6.heap.size w6 w7 := by
          obtain ⟨⟨dq, osq⟩, hw''⟩ := hw'
          rw [hw'']
          exact below_regrown w6 dq osq
        clear hw'
        go_wp2_with fail
        go_meet
        refine ⟨?_, hb7⟩
        by_cases hf : fa = fb
        · simp [hf]
        · simp [hf]
      · have hne : (x == y) = false := by simpa using hxy
        repeat (go_big_quiet_step (first | with_reducible exact C1 _ _ | with_reducible exact C2 _ _))
        refine wpQuiet_nil ?_
        intro w7 hw'
        have hb7 : Below w6.heap.size w6 w7 := by
          obtain ⟨⟨dq, osq⟩, hw''⟩ := hw'
          rw [hw'']
          exact below_regrown w6 dq osq
        clear hw'
        go_wp2_with fail
        go_meet
        refine ⟨?_, hb7⟩
        simp [hxy]
    case rest =>
      obtain ⟨rfl, hb7⟩ := hcut
      obtain ⟨w7, hw7⟩ : ∃ z, z = wc := ⟨_, rfl⟩
      subst hw7
      have HV7 := hide (below_step HV6.out hb7)
      have HB7 := hide (below_step HB6.out hb7)
      clear C1 C2 G1 G2 S2 S2' S3 S3' g1 g2 s2 s2' s3 s3' hb7 HC3 HC4 HC5 HC6 HOB hol HP6 HO1
      by_cases hG : x = y ∧ fa ≠ fb
      · rw [decide_eq_true hG]
        have HZ7 := hide (HZ.out.later HB7.out)
        obtain ⟨r0, r1, r2, r3⟩ := HZ7.out
        go_wp2
        obtain ⟨V, hV⟩ : ∃ V, V = (w7.setCell ⟨w.heap.size + 3, 0, none⟩ (.int .i64 0)).setCell ⟨w.heap.size + 3, 1, none⟩ (.slice none 0 0) := ⟨_, rfl⟩
        have kV : NOwn V (w.heap.size + 3) 0 none 0 0 := by rw [hV]; exact HZ7.out.set 0 none 0 0
        have bV : Below w.heap.size w V := by rw [hV]; exact ((below_step HB.out HB7.out).setCell (by simp) _).setCell (by simp) _
        rw [← hV]
        exact bodyPost_ret (ret_net3 Try.results16 rfl rfl rfl kV) rfl ⟨Or.inr (Or.inl ⟨hlim, HG.out.2 hG, rfl⟩), bV⟩
      rw [decide_eq_false hG]
      have HNG : Hid (¬ layG n es rs va aa vb ab) := fun h => hG (HG.out.1 h)
      clear hG HG
      have hLR := lay_rot (aa := aa) (ab := ab) HRT.out hva hvb (by rw [lay_net (rot_is HRT.out).1 hva hvb]; exact decide_eq_true hlim)
      have hrl : rs.length ≤ 1024 := by have := HRN.out; omega
      have BT : Hid (∀ V, Below w7.heap.size w7 V → Calls Try.prog 53 #[.slice q rs.length cq, cv va aa, cv vb ab, .int .i64 (2 * (es.length : Int))] V fun e w' => ∃ g rv, e = .returned (.slice (some ⟨g, 0, none⟩) rs.length rs.length) ∧ RHas w' (some ⟨g, 0, none⟩) (betR rs va aa vb ab (2 * es.length : Nat)) ∧ Below V.heap.size V w') := fun V hV => by
        have := between53 q rs cq va vb aa ab (2 * (es.length : Int)) V (HR.out.later (below_step HB7.out hV)) (by omega) (fun u hu => by have := HZ2.out u hu; omega) (by have := HRN.out; omega) (by have := HRN.out; omega) (by omega)
        refine this.mono ?_
        rintro e w' ⟨g, rv, rfl, hr, hb⟩
        refine ⟨g, rv, rfl, ?_, hb⟩
        have ec : ((2 * es.length : Nat) : Int) = 2 * (es.length : Int) := by omega
        refine hr.has (betR_length ..) (fun v hv => ?_) (fun v hv => ?_)
        · rw [betR_at hv, ec]
        · have := (rot_bounds hLR).2 v (by rw [betR_length]; exact hv)
          unfold maxLen
          omega
      have CA : Hid (∀ V g, Below w7.heap.size w7 V → RHas V (some ⟨g, 0, none⟩) (betR rs va aa vb ab (2 * es.length : Nat)) → Calls Try.prog 52 #[nv n px (es.length + 1) cx, .slice (some ⟨g, 0, none⟩) rs.length rs.length] V fun e w' => ∃ g rv, e = .returned (.tuple #[.slice (some ⟨g, 0, none⟩) rs.length rs.length, .int .i64 0]) ∧ Rows w' V.heap.size g rs.length rv (fun v => lat (canonL (betR rs va aa vb ab (2 * es.length : Nat))) v) ∧ Below V.heap.size V w') := fun V g hV hR => by
        have := canon28 n px (layN es va vb) cx (some ⟨g, 0, none⟩) (betR rs va aa vb ab (2 * es.length : Nat)) rs.length V (HH4.out.later (below_step HV7.out hV)) hR hLR
        rw [layN_length, betR_length] at this
        exact this
      have d1 : IntKind.i64.wrap (2 * (es.length : Int)) = 2 * es.length := by rw [IntKind.wrap_i64]; omega
      have HST : Hid (∀ V, Below w7.heap.size w7 V → (V.cell? ⟨kx, 0, none⟩ = some (.int .i64 n) ∧ V.cell? ⟨kx, 1, none⟩ = some (.slice px (es.length + 1) cx)) ∧ V.cell? ⟨w.heap.size, 1, none⟩ = some (.slice p es.length cp) ∧ (V.cell? ⟨w.heap.size + 1, 0, none⟩ = some (.int .i64 va) ∧ V.cell? ⟨w.heap.size + 1, 1, none⟩ = some (.int .i64 aa)) ∧ (V.cell? ⟨w.heap.size + 2, 0, none⟩ = some (.int .i64 vb) ∧ V.cell? ⟨w.heap.size + 2, 1, none⟩ = some (.int .i64 ab))) := fun V hV => by
        have hb := below_step HB7.out hV
        obtain ⟨x0, x1, _, _⟩ := HN4.out.later (below_step HV7.out hV)
        obtain ⟨_, y1, _, _⟩ := HA.out.later hb
        exact ⟨⟨x0, x1⟩, y1, ⟨later hb HSA.out.1, later hb HSA.out.2⟩, later hb HSB.out.1, later hb HSB.out.2⟩
      obtain ⟨⟨a1, a2⟩, a3, ⟨a4, a5⟩, a6, a7⟩ := HST.out w7 (Below.refl _ _)
      clear hLR
      go_upto_region 12 with fail
      go_region_held3 (fun V => (V.cell? ⟨kx, 0, none⟩ = some (.int .i64 n) ∧ V.cell? ⟨kx, 1, none⟩ = some (.slice px (es.length + 1) cx)) ∧ V.cell? ⟨w.heap.size, 1, none⟩ = some (.slice p es.length cp) ∧ (V.cell? ⟨w.heap.size + 1, 0, none⟩ = some (.int .i64 va) ∧ V.cell? ⟨w.heap.size + 1, 1, none⟩ = some (.int .i64 aa)) ∧ (V.cell? ⟨w.heap.size + 2, 0, none⟩ = some (.int .i64 vb) ∧ V.cell? ⟨w.heap.size + 2, 1, none⟩ = some (.int .i64 ab)))
        (first | exact HST.out _ (below_drew w7) | exact HST.out _ (Below.refl _ _) | exact HST.out _ HV8.out | exact HST.out _ HV9.out)
        (first | (go_at_call 53; refine (BT.out _ (below_drew w7)).mono ?_; rintro e w8 ⟨g8, rv8, rfl, hr8, hb8'⟩; have HV8 := hide (below_step (below_drew w7) hb8'); have HR8 := hide hr8; clear hb8' hr8 a1 a2 a3 a4 a5 a6 a7; obtain ⟨⟨a1, a2⟩, a3, ⟨a4, a5⟩, a6, a7⟩ := HST.out w8 HV8.out) | (go_at_call 52; refine (CA.out _ g8 HV8.out HR8.out).mono ?_; rintro e w9 ⟨g9, rv9, rfl, hr9, hb9'⟩; have HV9 := hide (below_step HV8.out hb9'); have HR9 := hide hr9; clear hb9' hr9 a1 a2 a3 a4 a5 a6 a7; obtain ⟨⟨a1, a2⟩, a3, ⟨a4, a5⟩, a6, a7⟩ := HST.out w9 HV9.out))
      rename_i hHeld
      clear hHeld
      have HZ9 := hide (HZ.out.later (below_step HB7.out HV9.out))
      have hz3 : w.heap.size + 3 < Wc.heap.size := block_lt_of_cell (HZ.out.later HB3.out).1
      have hz8 : w.heap.size + 3 < w8.heap.size := block_lt_of_cell (HZ.out.later (below_step HB7.out HV8.out)).1
      obtain ⟨r0, r1, r2, r3⟩ := HZ9.out
      go_wp2_with fail
      obtain ⟨V, hV⟩ : ∃ V, V = (w9.setCell ⟨w.heap.size + 3, 0, none⟩ (.int .i64 n)).setCell ⟨w.heap.size + 3, 1, none⟩ (.slice px (es.length + 1) cx) := ⟨_, rfl⟩
      have kV : NOwn V (w.heap.size + 3) n px (es.length + 1) cx := by rw [hV]; exact HZ9.out.set n px _ cx
      have bV : Below w.heap.size w V := by rw [hV]; exact ((below_step HB.out (below_step HB7.out HV9.out)).setCell (by simp) _).setCell (by simp) _
      have hV4 : Has V px (layN es va vb) := by
        rw [hV]
        exact ((HH4.out.later (below_step HV7.out HV9.out)).other (fun a ha => by have := HPB.out a ha; omega) _).other (fun a ha => by have := HPB.out a ha; omega) _
      have rV : Rows V w.heap.size g9 rs.length rv9 (fun v => lat (canonL (betR rs va aa vb ab (2 * es.length : Nat))) v) := by
        rw [hV]
        exact ((HR9.out.other hz8 _).other hz8 _).base (by omega)
      rw [← hV]
      exact bodyPost_ret (ret_net3 Try.results16 rfl rfl rfl kV) rfl ⟨Or.inr (Or.inr ⟨hlim, HNG.out, px, cx, g9, rv9, rfl, hV4, ⟨HNI.out, fun a ha => by have := HPB.out a ha; omega⟩, rV⟩), bV⟩
end Go.Proofs.Ytcgdmonejogbaaa
