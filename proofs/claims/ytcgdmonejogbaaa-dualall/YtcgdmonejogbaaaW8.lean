/- dual.Of, in every world. -/
import Derived.Test.YtcgdmonejogbaaaW5
import Derived.Deep.RegionHeld3
open List renaming setIfInBounds_toArray → lD, set_cons_zero → lE, set_cons_succ → lF
/- dual.between, in every world. -/
/- dual.putIn and between, in every world. -/
namespace Go.Proofs.Ytcgdmonejogbaaa
open Go.RowKit Go.Sort
open Go
theorem Rows.swap {w w' : World} {B g n a : Nat} {rv : Nat → Value} {L : Nat → List Int} {l' : List Int} {v' : Value} (h : Rows w B g n rv L) (ha : a < n) (o : IOwns w' B v' l') (gr : w.grownBy w' (rv a).ownBlock) (hv : v'.ownBlock = (rv a).ownBlock ∨ v'.ownBlock = some w.heap.size) :
    Rows (w'.setCell ⟨g, a, none⟩ v') B g n (upd rv a v') (upd L a l') := by
  obtain ⟨h1, h2, h3⟩ := h
  obtain ⟨cur, hg⟩ := row_kind h1
  have hap : (rv a).ownBlock ≠ some g := row_apart hg (h3 a ha) (by decide)
  have h1' := World.ownsRow.kept h1 gr (Or.inr (fun e => hap e.symm))
  obtain ⟨cur', hg'⟩ := row_kind h1'
  refine ⟨?_, ?_, ?_⟩
  · have q := (World.ownsRow.stored h1' a v').1
    rw [show ((List.range n).map (upd rv a v')) = ((List.range n).map rv).set a v' from ?_]
    · exact q
    apply List.ext_getElem
    · simp
    intro i h4 h5
    simp only [List.getElem_map, List.getElem_range, List.getElem_set]
    by_cases hia : a = i
    · subst hia; simp [upd]
    · rw [if_neg hia, upd_other _ _ (fun e => hia e.symm)]
  · intro u v k hu hv' e1 e2
    by_cases hua : u = a <;> by_cases hva : v = a
    · omega
    · rw [hua, upd_same] at e1
      rw [upd_other _ _ hva] at e2
      rcases hv with h | h
      · rw [h] at e1
        rw [hua]
        exact h2 a v k ha hv' e1 e2
      · rw [h] at e1
        have := (World.ownsRow.lt (h3 v hv') k e2).2
        injection e1 with e1
        omega
    · rw [hva, upd_same] at e2
      rw [upd_other _ _ hua] at e1
      rcases hv with h | h
      · rw [h] at e2
        rw [hva]
        exact h2 u a k hu ha e1 e2
      · rw [h] at e2
        have := (World.ownsRow.lt (h3 u hu) k e1).2
        injection e2 with e2
        omega
    · rw [upd_other _ _ hua] at e1
      rw [upd_other _ _ hva] at e2
      exact h2 u v k hu hv' e1 e2
  · intro v hv'
    by_cases hva : v = a
    · rw [hva, upd_same, upd_same]
      exact ownsRow_setCell_other (a := ⟨g, a, none⟩) o (row_apart hg' o (by decide)) _
    · rw [upd_other _ _ hva, upd_other _ _ hva]
      have k1 : IOwns w' B (rv v) (L v) := by
        refine World.ownsRow.kept (h3 v hv') gr ?_
        cases hb : (rv v).ownBlock with
        | none => exact Or.inl rfl
        | some k => exact Or.inr (fun e => hva (h2 v a k hv' ha hb e.symm))
      exact ownsRow_setCell_other (a := ⟨g, a, none⟩) k1 (row_apart hg' k1 (by decide)) _
/-- A half-edge put in at a corner. -/
def putL (l : List Int) (a h : Int) : List Int := insL l (idxI l a + 1).toNat h
theorem idxI_in2 (l : List Int) (a : Int) : -1 ≤ idxI l a ∧ idxI l a < l.length := by
  unfold idxI
  split
  · rename_i h
    have := (idxOf_at h).1
    omega
  · omega
theorem block_of {w : World} {k : Nat} {o : Obj} (h : w.heap[k]? = some o) : k < w.heap.size := (Array.getElem?_eq_some_iff.1 h).1
theorem other1' {U : World} {g i : Nat} {a v : Value} {A : Addr} (h : U.cell? A = some v) (hne : A.block ≠ g) : (U.setCell ⟨g, i, none⟩ a).cell? A = some v := by
  rw [World.cell?_setCell_other _ _ _ _ (fun e => hne (by rw [← e]))]
  exact h
set_option maxRecDepth 100000 in
set_option maxHeartbeats 16000000 in
theorem putIn82 (g n v : Nat) (a h : Int) (B : Nat) (rv : Nat → Value) (L : Nat → List Int) (w : World) (hR : Rows w B g n rv L) (hv : v < n) (hB : B ≤ w.heap.size) (hl : (L v).length ≤ 90000) : Calls Try.prog 82 #[.slice (some ⟨g, 0, none⟩) n n, cv v a, .int .i64 h] w fun e w' => ∃ rv', e = .returned (.tuple #[]) ∧ Rows w' B g n rv' (upd L v (putL (L v) a h)) ∧ Below B w w' := by
  obtain ⟨W, hW, hb, q0, q1⟩ := one_corner w v a
  have HR := hide (hR.later hb)
  have HB := hide hb
  have hBW : B ≤ W.heap.size := Nat.le_trans hB hb.size
  obtain ⟨c0, f0⟩ := HR.out.cell hv
  have o0 := HR.out.2.2 v hv
  obtain ⟨pl, cl, hvv, il, _⟩ := o0.form
  rw [hvv] at c0 o0
  have HO := hide o0
  have HIL := hide il
  have HVV := hide hvv
  obtain ⟨ix, hix⟩ : ∃ x, idxI (L v) a = x := ⟨_, rfl⟩
  have hib := idxI_in2 (L v) a
  have IX := hide fun V hV => index58 pl (L v) cl a V (by omega) (il.later (w' := V) hV)
  have HPL : Hid (putL (L v) a h = insL (L v) (ix + 1).toNat h) := by show _ = _; unfold putL; rw [hix]
  rw [hix] at hib
  have IX : Hid (∀ V, Below W.heap.size W V → Calls Try.prog 58 #[.slice pl (L v).length cl, .int .i64 a] V fun e w' => e = .returned (.int .i64 ix) ∧ Below V.heap.size V w') := fun V hV => by rw [← hix]; exact IX.out V hV
  obtain ⟨i, hi⟩ : ∃ i : Nat, ix + 1 = i := ⟨(ix + 1).toNat, by omega⟩
  rw [hi, Int.toNat_natCast] at HPL
  have hin : i ≤ (L v).length := by omega
  have e1 : (v : Int) < n := by omega
  have e0 : (0 : Int) ≤ v := by omega
  have hwi : IntKind.i64.wrap (ix + 1) = (i : Int) := by rw [IntKind.wrap_i64]; omega
  clear hR hb il o0 hix
  have hWK := hide hW
  go_enter Try.func82, Try.ntmps82
  go_upto_region 1 with fail
  rw [← hW]
  clear hW
  have HS : Hid (∀ V, Below W.heap.size W V → V.cell? ⟨w.heap.size, 0, none⟩ = some (.int .i64 v) ∧ V.cell? ⟨w.heap.size, 1, none⟩ = some (.int .i64 a)) := fun V hV => ⟨later hV q0, later hV q1⟩
  obtain ⟨pv, hpv⟩ : ∃ x, Value.slice pl (L v).length cl = x := ⟨_, rfl⟩
  have HPV := hide hpv
  have HOV : Hid (IOwns W B pv (L v)) := by show IOwns _ _ _ _; rw [← hpv]; exact HO.out
  have hk : ∃ cur, W.heap[w.heap.size]? = some (.cells cur 28 (0, 0)) := ⟨_, by rw [hWK.out]; exact heap_alloc_new w _⟩
  obtain ⟨cur, hk⟩ := hk
  have HOB : Hid (pv.ownBlock ≠ some w.heap.size) := fun e => row_apart hk (show W.ownsRow B 3 1 pv (L v).length (icells (L v)) from HOV.out) (by decide) e
  have hgw : (⟨w.heap.size, 0, none⟩ : Addr).block ≠ g := fun e => row_apart hk HR.out.1 (by decide) (by show some g = some w.heap.size; rw [← e])
  clear hk cur
  have INS : Hid (∀ V kb, Below W.heap.size W V → V.heap[kb]? = some (.cells #[.int .i64 h] 3) → W.heap.size ≤ kb → Calls Try.prog 96 #[.slice pl (L v).length cl, .int .i64 i, .slice (some ⟨kb, 0, none⟩) 1 1] V fun e w' => ∃ p3 c3, e = .returned (.slice p3 ((L v).length + 1) c3) ∧ Below B W w' ∧ Rows (w'.setCell ⟨g, v, none⟩ (.slice p3 ((L v).length + 1) c3)) B g n (upd rv v (.slice p3 ((L v).length + 1) c3)) (upd L v (insL (L v) i h)) ∧ (w'.cell? ⟨w.heap.size, 0, none⟩ = some (.int .i64 v) ∧ w'.cell? ⟨w.heap.size, 1, none⟩ = some (.int .i64 a)) ∧ w'.cell? ⟨g, v, none⟩ = some (.slice pl (L v).length cl) ∧ w'.frozen? ⟨g, v, none⟩ = false) := fun V kb hV hkb hWk => by
    have hBV : B ≤ V.heap.size := Nat.le_trans hBW hV.size
    rw [hpv]
    refine (insert96 pv (L v) i h B kb V (HOV.out.later hV) hin hl hBV hkb (fun e => by
      have := (World.ownsRow.lt (HOV.out) _ e).2
      omega)).mono ?_
    rintro e w' ⟨v', rfl, o3, gr3, at3⟩
    obtain ⟨p3, c3, h3, _⟩ := o3.form
    rw [insL_length _ _ hin] at h3
    subst h3
    obtain ⟨s0, s1⟩ := HS.out _ hV
    have hgr : V.grownBy w' (rv v).ownBlock := by rw [HVV.out, HPV.out]; exact gr3
    obtain ⟨_, k1, k2⟩ := (HR.out.later hV).slot hv hgr
    refine ⟨p3, c3, rfl, below_grown (hV.mono hBW) (HOV.out.later hV) (Nat.le_refl _) hBV gr3, (HR.out.later hV).swap hv o3 hgr (by rw [HVV.out, HPV.out]; exact at3), ⟨gr3.cell s0 (fun e => HOB.out e.symm), gr3.cell s1 (fun e => HOB.out e.symm)⟩, by rw [k1, HVV.out, HPV.out], k2⟩
  clear hpv hWK hi hib hvv
  go_upto_region 2 with fail
  refine wp_region_held_drew (S := (fun V => V.cell? ⟨w.heap.size, 0, none⟩ = some (.int .i64 v) ∧ V.cell? ⟨w.heap.size, 1, none⟩ = some (.int .i64 a))) (by kernel_rfl) (by exact ⟨q0, q1⟩) (fun hHeld => ?_)
  obtain ⟨V0, hV0⟩ : ∃ V, V = W.drew := ⟨_, rfl⟩
  have HB0 : Hid (Below W.heap.size W V0) := by show Below _ _ _; rw [hV0]; exact below_drew _
  rw [← hV0] at hHeld ⊢
  clear hV0 c0 f0 q0 q1
  obtain ⟨q0, q1⟩ := HS.out _ HB0.out
  refine wpAnyH_take (i := 0) (v := ?v1) rfl (by kernel_rfl) (by kernel_rfl) (by kernel_rfl) (fun _ _ _ h => h) (Or.inl ⟨by rfl, ?hy1⟩) (by assumption) ?rest1
  case hy1 => (intro w hSw; (try dsimp only at hSw); go_simp; try with_reducible rfl)
  try simp only [Act.put, lD]
  refine wpAnyH_take (i := 1) (v := ?v2) rfl (by kernel_rfl) (by kernel_rfl) (by kernel_rfl) (fun _ _ _ h => h) (Or.inl ⟨by rfl, ?hy2⟩) (by assumption) ?rest2
  case hy2 => (intro w hSw; (try dsimp only at hSw); go_simp; try with_reducible rfl)
  try simp only [Act.put]
  refine wpAnyH_take (i := 2) (v := ?v3) rfl (by kernel_rfl) (by kernel_rfl) (by kernel_rfl) (fun _ _ _ h => h) (Or.inl ⟨by rfl, ?hy3⟩) (by assumption) ?rest3
  case hy3 => (intro w hSw; (try dsimp only at hSw); go_simp; try with_reducible rfl)
  try simp only [Act.put]
  refine wpAnyH_take (i := 3) (v := ?v4) rfl (by kernel_rfl) (by kernel_rfl) (by kernel_rfl) (fun _ _ _ h => h) (Or.inl ⟨by rfl, ?hy4⟩) (by assumption) ?rest4
  case hy4 => (intro w hSw; (try dsimp only at hSw); go_simp; try with_reducible rfl)
  try simp only [Act.put]
  refine wpAnyH_take (i := 4) (v := ?v5) rfl (by kernel_rfl) (by kernel_rfl) (by kernel_rfl) (fun _ _ _ h => h) (Or.inl ⟨by rfl, ?hy5⟩) (by assumption) ?rest5
  case hy5 => (intro w hSw; (try dsimp only at hSw); go_simp; try with_reducible rfl)
  try simp only [Act.put]
  refine wpAnyH_take (i := 5) (v := ?v6) rfl (by kernel_rfl) (by kernel_rfl) (by kernel_rfl) (fun _ _ _ h => h) (Or.inl ⟨by rfl, ?hy6⟩) (by assumption) ?rest6
  case hy6 => (intro w hSw; (try dsimp only at hSw); go_simp; try with_reducible rfl)
  try simp only [Act.put]
  refine wpAnyH_take (i := 6) (v := ?v7) rfl (by kernel_rfl) (by kernel_rfl) (by kernel_rfl) (fun _ _ _ h => h) (Or.inl ⟨by rfl, ?hy7⟩) (by assumption) ?rest7
  case hy7 => (intro w hSw; (try dsimp only at hSw); go_simp; try with_reducible rfl)
  try simp only [Act.put]
  refine wpAnyH_take (i := 9) (v := ?v8) rfl (by kernel_rfl) (by kernel_rfl) (by kernel_rfl) (fun _ _ _ h => h) (Or.inl ⟨by rfl, ?hy8⟩) (by assumption) ?rest8
  case hy8 => (intro w hSw; (try dsimp only at hSw); go_simp; try with_reducible rfl)
  try simp only [Act.put]
  refine wpAnyH_ready (rs := [7, 10]) (by kernel_rfl) (by simp) ?_
  refine AllReadyH.cons rfl (fun K hK => ?_) ?_
  · clear hHeld
    go_simp
    refine (IX.out V0 HB0.out).mono ?_
    rintro e V1 ⟨rfl, hb2⟩
    have HB1 := hide (below_step HB0.out hb2)
    clear hb2 q0 q1
    obtain ⟨q0, q1⟩ := HS.out _ HB1.out
    refine hK.out _ _ (by first | with_reducible exact ⟨q0, q1⟩ | (dsimp only; with_reducible exact ⟨q0, q1⟩) | exact ⟨other1' q0 hgw, other1' q1 hgw⟩) (fun hHeld => ?_)
    clear hK K
    try simp only [Act.put, lD, lE, lF]
    refine wpAnyH_take (i := 8) (v := ?v9) rfl (by kernel_rfl) (by kernel_rfl) (by kernel_rfl) (fun _ _ _ h => h) (Or.inl ⟨by rfl, ?hy9⟩) (by assumption) ?rest9
    case hy9 => (intro w hSw; (try dsimp only at hSw); go_simp; try with_reducible rfl)
    try simp only [Act.put, lD]
    refine wpAnyH_ready (rs := [10]) (by kernel_rfl) (by simp) ?_
    refine AllReadyH.cons rfl (fun K hK => ?_) ?_
    · clear hHeld
      go_simp
      obtain ⟨V2, hV⟩ : ∃ V, V = V1.alloc (.cells #[.int .i64 h] 3) := ⟨_, rfl⟩
      obtain ⟨kb, hkb⟩ : ∃ k, V1.heap.size = k := ⟨_, rfl⟩
      have hb2 : Below V1.heap.size V1 V2 := by rw [hV]; go_grown
      have HL2 : Hid (V2.heap[kb]? = some (.cells #[.int .i64 h] 3)) := by show _ = _; rw [hV, ← hkb]; exact heap_alloc_new V1 _
      have HKB : Hid (W.heap.size ≤ kb) := by show _ ≤ _; rw [← hkb]; exact HB1.out.size
      rw [← hV, hkb]
      have HB2 := hide (below_step HB1.out hb2)
      clear hV hb2 hkb q0 q1
      obtain ⟨q0, q1⟩ := HS.out _ HB2.out
      refine hK.out _ _ (by first | with_reducible exact ⟨q0, q1⟩ | (dsimp only; with_reducible exact ⟨q0, q1⟩) | exact ⟨other1' q0 hgw, other1' q1 hgw⟩) (fun hHeld => ?_)
      clear hK K
      try simp only [Act.put, lD, lE, lF]
      refine wpAnyH_ready (rs := [11]) (by kernel_rfl) (by simp) ?_
      refine AllReadyH.cons rfl (fun K hK => ?_) ?_
      · clear hHeld
        go_simp
        refine (INS.out V2 kb HB2.out HL2.out HKB.out).mono ?_
        rintro e V3 ⟨p3, c3, rfl, hbB, hR3, s3, x3, y3⟩
        have HBB := hide hbB
        have HR3 := hide hR3
        clear q0 q1
        obtain ⟨q0, q1⟩ := s3
        clear hbB hR3
        refine hK.out _ _ (by first | with_reducible exact ⟨q0, q1⟩ | (dsimp only; with_reducible exact ⟨q0, q1⟩) | exact ⟨other1' q0 hgw, other1' q1 hgw⟩) (fun hHeld => ?_)
        clear hK K
        try simp only [Act.put, lD, lE, lF]
        refine wpAnyH_take (i := 12) (v := ?v10) rfl (by kernel_rfl) (by kernel_rfl) (by kernel_rfl) (fun _ _ _ h => h) (Or.inl ⟨by rfl, ?hy10⟩) (by assumption) ?rest10
        case hy10 => (intro w hSw; (try dsimp only at hSw); go_simp; try with_reducible rfl)
        try simp only [Act.put, lD]
        refine wpAnyH_ready (rs := [13]) (by kernel_rfl) (by simp) ?_
        refine AllReadyH.cons rfl (fun K hK => ?_) ?_
        · clear hHeld
          go_simp
          clear x3 y3
          refine hK.out _ _ (by first | with_reducible exact ⟨q0, q1⟩ | (dsimp only; with_reducible exact ⟨q0, q1⟩) | exact ⟨other1' q0 hgw, other1' q1 hgw⟩) (fun hHeld => ?_)
          clear hK K
          try simp only [Act.put, lD, lE, lF]
          refine wpAnyH_done (by kernel_rfl) ?_ _
          clear hHeld
          go_wp2
          go_end0
          exact ⟨rfl, ⟨_, by rw [HPL.out]; exact HR3.out⟩, (HB.out.mono hB).trans (HBB.out.setCell (p := ⟨g, v, none⟩) (show B ≤ g from HR.out.size.1) _)⟩
        exact AllReadyH.nil
      exact AllReadyH.nil
    exact AllReadyH.nil
  refine AllReadyH.cons rfl (fun K hK => ?_) ?_
  · clear hHeld
    go_simp
    obtain ⟨V1, hV⟩ : ∃ V, V = V0.alloc (.cells #[.int .i64 h] 3) := ⟨_, rfl⟩
    obtain ⟨kb, hkb⟩ : ∃ k, V0.heap.size = k := ⟨_, rfl⟩
    have hb2 : Below V0.heap.size V0 V1 := by rw [hV]; go_grown
    have HL1 : Hid (V1.heap[kb]? = some (.cells #[.int .i64 h] 3)) := by show _ = _; rw [hV, ← hkb]; exact heap_alloc_new V0 _
    have HKB : Hid (W.heap.size ≤ kb) := by show _ ≤ _; rw [← hkb]; exact HB0.out.size
    rw [← hV, hkb]
    have HB1 := hide (below_step HB0.out hb2)
    clear hV hb2 hkb q0 q1
    obtain ⟨q0, q1⟩ := HS.out _ HB1.out
    refine hK.out _ _ (by first | with_reducible exact ⟨q0, q1⟩ | (dsimp only; with_reducible exact ⟨q0, q1⟩) | exact ⟨other1' q0 hgw, other1' q1 hgw⟩) (fun hHeld => ?_)
    clear hK K
    try simp only [Act.put, lD, lE, lF]
    refine wpAnyH_ready (rs := [7]) (by kernel_rfl) (by simp) ?_
    refine AllReadyH.cons rfl (fun K hK => ?_) ?_
    · clear hHeld
      go_simp
      refine (IX.out V1 HB1.out).mono ?_
      rintro e V2 ⟨rfl, hb2⟩
      have HB2 := hide (below_step HB1.out hb2)
      have HL2 : Hid (V2.heap[kb]? = some (.cells #[.int .i64 h] 3)) := by show _ = _; rw [hb2.block kb (block_of HL1.out)]; exact HL1.out
      clear hb2 q0 q1
      obtain ⟨q0, q1⟩ := HS.out _ HB2.out
      refine hK.out _ _ (by first | with_reducible exact ⟨q0, q1⟩ | (dsimp only; with_reducible exact ⟨q0, q1⟩) | exact ⟨other1' q0 hgw, other1' q1 hgw⟩) (fun hHeld => ?_)
      clear hK K
      try simp only [Act.put, lD, lE, lF]
      refine wpAnyH_take (i := 8) (v := ?v11) rfl (by kernel_rfl) (by kernel_rfl) (by kernel_rfl) (fun _ _ _ h => h) (Or.inl ⟨by rfl, ?hy11⟩) (by assumption) ?rest11
      case hy11 => (intro w hSw; (try dsimp only at hSw); go_simp; try with_reducible rfl)
      try simp only [Act.put, lD]
      refine wpAnyH_ready (rs := [11]) (by kernel_rfl) (by simp) ?_
      refine AllReadyH.cons rfl (fun K hK => ?_) ?_
      · clear hHeld
        go_simp
        refine (INS.out V2 kb HB2.out HL2.out HKB.out).mono ?_
        rintro e V3 ⟨p3, c3, rfl, hbB, hR3, s3, x3, y3⟩
        have HBB := hide hbB
        have HR3 := hide hR3
        clear q0 q1
        obtain ⟨q0, q1⟩ := s3
        clear hbB hR3
        refine hK.out _ _ (by first | with_reducible exact ⟨q0, q1⟩ | (dsimp only; with_reducible exact ⟨q0, q1⟩) | exact ⟨other1' q0 hgw, other1' q1 hgw⟩) (fun hHeld => ?_)
        clear hK K
        try simp only [Act.put, lD, lE, lF]
        refine wpAnyH_take (i := 12) (v := ?v12) rfl (by kernel_rfl) (by kernel_rfl) (by kernel_rfl) (fun _ _ _ h => h) (Or.inl ⟨by rfl, ?hy12⟩) (by assumption) ?rest12
        case hy12 => (intro w hSw; (try dsimp only at hSw); go_simp; try with_reducible rfl)
        try simp only [Act.put, lD]
        refine wpAnyH_ready (rs := [13]) (by kernel_rfl) (by simp) ?_
        refine AllReadyH.cons rfl (fun K hK => ?_) ?_
        · clear hHeld
          go_simp
          clear x3 y3
          refine hK.out _ _ (by first | with_reducible exact ⟨q0, q1⟩ | (dsimp only; with_reducible exact ⟨q0, q1⟩) | exact ⟨other1' q0 hgw, other1' q1 hgw⟩) (fun hHeld => ?_)
          clear hK K
          try simp only [Act.put, lD, lE, lF]
          refine wpAnyH_done (by kernel_rfl) ?_ _
          clear hHeld
          go_wp2
          go_end0
          exact ⟨rfl, ⟨_, by rw [HPL.out]; exact HR3.out⟩, (HB.out.mono hB).trans (HBB.out.setCell (p := ⟨g, v, none⟩) (show B ≤ g from HR.out.size.1) _)⟩
        exact AllReadyH.nil
      exact AllReadyH.nil
    exact AllReadyH.nil
  exact AllReadyH.nil
end Go.Proofs.Ytcgdmonejogbaaa
namespace Go.Proofs.Ytcgdmonejogbaaa
open Go.RowKit Go.Sort
open Go
/-- The lists with an edge more between two corners. -/
def betA (rs : List (List Int)) (va : Nat) (aa f : Int) : Nat → List Int := upd (fun v => lat rs v) va (putL (lat rs va) aa f)
def betL (rs : List (List Int)) (va : Nat) (aa : Int) (vb : Nat) (ab f : Int) : Nat → List Int := upd (betA rs va aa f) vb (putL (betA rs va aa f vb) (if va = vb ∧ aa = ab then f else ab) (f + 1))
theorem putL_length (l : List Int) (a h : Int) : (putL l a h).length = l.length + 1 := by
  unfold putL
  have := idxI_in2 l a
  exact insL_length l h (by omega)
set_option maxRecDepth 100000 in
set_option maxHeartbeats 16000000 in
theorem between53 (q : Option Addr) (rs : List (List Int)) (cq va vb : Nat) (aa ab f : Int) (w : World) (hr : RHas w q rs) (hn : rs.length ≤ 80000) (hl : ∀ u, u < rs.length → (lat rs u).length ≤ 80000) (hva : va < rs.length) (hvb : vb < rs.length) (hf : 0 ≤ f ∧ f ≤ 100000) : Calls Try.prog 53 #[.slice q rs.length cq, cv va aa, cv vb ab, .int .i64 f] w fun e w' => ∃ g rv, e = .returned (.slice (some ⟨g, 0, none⟩) rs.length rs.length) ∧ Rows w' w.heap.size g rs.length rv (betL rs va aa vb ab f) ∧ Below w.heap.size w w' := by
  obtain ⟨W1, hW1, hb1, p0, p1⟩ := one_corner w va aa
  obtain ⟨W, hW, hb2, r0, r1⟩ := one_corner W1 vb ab
  have hbW := below_step hb1 hb2
  have q0 := later hb2 p0
  have q1 := later hb2 p1
  obtain ⟨f0, f1⟩ := hf
  have HLL := hide hl
  have HR := hide hr
  have HBW := hide hbW
  have hk1 : w.heap.size ≠ W1.heap.size := by rw [hW1]; simp
  have hk2 : w.heap.size < W.heap.size := block_lt_of_cell q0
  have hk3 : W1.heap.size < W.heap.size := block_lt_of_cell r0
  have hs1 : W1.heap.size = w.heap.size + 1 := by rw [hW1]; simp
  rw [hs1] at r0 r1 hk3
  have hk4 : w.heap.size + 1 ≠ w.heap.size := by omega
  clear hr hl hbW hb1 hb2 p0 p1 hk1
  by_cases heq : va = vb ∧ aa = ab
  · obtain ⟨rfl, rfl⟩ := heq
    have hbe : betL rs va aa va aa f = upd (betA rs va aa f) va (putL (betA rs va aa f va) f (f + 1)) := by unfold betL; rw [if_pos ⟨rfl, rfl⟩]
    rw [hbe]
    obtain ⟨Z, hZ⟩ : ∃ Z, Z = W.setCell ⟨w.heap.size + 1, 1, none⟩ (.int .i64 f) := ⟨_, rfl⟩
    have hbZ : Below w.heap.size w Z := by rw [hZ]; exact HBW.out.setCell (p := ⟨w.heap.size + 1, 1, none⟩) (show w.heap.size ≤ w.heap.size + 1 by omega) _
    have z0 : Z.cell? ⟨w.heap.size, 0, none⟩ = some (.int .i64 va) := by rw [hZ]; exact other1' q0 (show w.heap.size ≠ w.heap.size + 1 by omega)
    have z1 : Z.cell? ⟨w.heap.size, 1, none⟩ = some (.int .i64 aa) := by rw [hZ]; exact other1' q1 (show w.heap.size ≠ w.heap.size + 1 by omega)
    have z2 : Z.cell? ⟨w.heap.size + 1, 0, none⟩ = some (.int .i64 va) := by rw [hZ, World.cell?_setCell_other _ _ _ _ (by simp)]; exact r0
    have z3 : Z.cell? ⟨w.heap.size + 1, 1, none⟩ = some (.int .i64 f) := by rw [hZ]; exact World.cell?_setCell_same _ _ _ r1
    have fz : W.frozen? ⟨w.heap.size + 1, 1, none⟩ = false := by rw [hW, ← hs1]; simp [go_sem]
    have CP := hide (copied57 q rs cq Z (HR.out.later hbZ) (by omega) (fun u hu => by have := HLL.out u hu; omega))
    have HBZ := hide hbZ
    clear hbZ hbe
    go_enter Try.func53, Try.ntmps53
    go_upto_region 1 with fail
    rw [← hW1, ← hW]
    clear hW hW1
    go_upto_region 3 with fail
    rw [← hZ]
    clear hZ q0 q1 r0 r1 fz
    go_wp2_with fail
    refine CP.out.mono ?_
    rintro e w2 ⟨g, rv, rfl, hR2, hb2⟩
    have HV2 := hide hb2
    have HR2 := hide hR2
    have y0 := later hb2 z0
    have y1 := later hb2 z1
    have P1 := hide (putIn82 g rs.length va aa f Z.heap.size rv (fun v => lat rs v) w2 hR2 hva hb2.size (by have := HLL.out va hva; omega))
    clear CP hb2 hR2
    go_wp2_with fail
    refine P1.out.mono ?_
    rintro e w3 ⟨rv3, rfl, hR3, hb3⟩
    have HV3 : Hid (Below Z.heap.size Z w3) := HV2.out.trans hb3
    have HR3 : Hid (Rows w3 Z.heap.size g rs.length rv3 (betA rs va aa f)) := hR3
    have x0 := later HV3.out z2
    have x1 := later HV3.out z3
    have hl3 : (betA rs va aa f va).length ≤ 90000 := by
      unfold betA upd
      split
      · rw [putL_length]; have := HLL.out va hva; omega
      · show (lat rs va).length ≤ 90000; have := HLL.out va hva; omega
    have P2 := hide (putIn82 g rs.length va f (f + 1) Z.heap.size rv3 (betA rs va aa f) w3 hR3 hva HV3.out.size hl3)
    clear P1 hb3 hR3 y0 y1
    go_wp2_with fail
    refine P2.out.mono ?_
    rintro e w4 ⟨rv4, rfl, hR4, hb4⟩
    have HV4 := hide (below_step HBZ.out (HV3.out.trans hb4))
    have HR4 := hide (hR4.base HBZ.out.size)
    clear P2 hb4 hR4 x0 x1
    go_wp2
    go_ret
    exact ⟨g, rv4, rfl, HR4.out, HV4.out⟩
  · have hbe : betL rs va aa vb ab f = upd (betA rs va aa f) vb (putL (betA rs va aa f vb) ab (f + 1)) := by unfold betL; rw [if_neg heq]
    rw [hbe]
    have tt : ((va : Int) == (vb : Int) && aa == ab) = false := by
      rw [Bool.and_eq_false_iff]
      by_cases h1 : va = vb
      · right; exact beq_eq_false_iff_ne.2 (fun h2 => heq ⟨h1, h2⟩)
      · left; exact beq_eq_false_iff_ne.2 (by omega)
    obtain ⟨Z, hZ⟩ : ∃ Z, Z = W := ⟨_, rfl⟩
    subst hZ
    have z0 := q0
    have z1 := q1
    have z2 := r0
    have z3 := r1
    have CP := hide (copied57 q rs cq Z (HR.out.later HBW.out) (by omega) (fun u hu => by have := HLL.out u hu; omega))
    have HBZ := hide HBW.out
    clear hbe
    by_cases h1 : va = vb
    · have t1 : ((va : Int) == (vb : Int)) = true := by simp [h1]
      have t2 : (aa == ab) = false := beq_eq_false_iff_ne.2 (fun h2 => heq ⟨h1, h2⟩)
      clear h1 heq tt
      go_enter Try.func53, Try.ntmps53
      go_upto_region 1 with fail
      rw [← hW1, ← hW]
      clear hW hW1
      go_wp2_with fail
      refine CP.out.mono ?_
      rintro e w2 ⟨g, rv, rfl, hR2, hb2⟩
      have HV2 := hide hb2
      have HR2 := hide hR2
      have y0 := later hb2 z0
      have y1 := later hb2 z1
      have P1 := hide (putIn82 g rs.length va aa f Z.heap.size rv (fun v => lat rs v) w2 hR2 hva hb2.size (by have := HLL.out va hva; omega))
      clear CP hb2 hR2
      go_wp2_with fail
      refine P1.out.mono ?_
      rintro e w3 ⟨rv3, rfl, hR3, hb3⟩
      have HV3 : Hid (Below Z.heap.size Z w3) := HV2.out.trans hb3
      have HR3 : Hid (Rows w3 Z.heap.size g rs.length rv3 (betA rs va aa f)) := hR3
      have x0 := later HV3.out z2
      have x1 := later HV3.out z3
      have hl3 : (betA rs va aa f vb).length ≤ 90000 := by
        unfold betA upd
        split
        · rw [putL_length]; have := HLL.out va hva; omega
        · show (lat rs vb).length ≤ 90000; have := HLL.out vb hvb; omega
      have P2 := hide (putIn82 g rs.length vb ab (f + 1) Z.heap.size rv3 (betA rs va aa f) w3 hR3 hvb HV3.out.size hl3)
      clear P1 hb3 hR3 y0 y1
      go_wp2_with fail
      refine P2.out.mono ?_
      rintro e w4 ⟨rv4, rfl, hR4, hb4⟩
      have HV4 := hide (below_step HBZ.out (HV3.out.trans hb4))
      have HR4 := hide (hR4.base HBZ.out.size)
      clear P2 hb4 hR4 x0 x1
      go_wp2
      go_ret
      exact ⟨g, rv4, rfl, HR4.out, HV4.out⟩
    · have t1 : ((va : Int) == (vb : Int)) = false := beq_eq_false_iff_ne.2 (by omega)
      clear h1 heq tt
      go_enter Try.func53, Try.ntmps53
      go_upto_region 1 with fail
      rw [← hW1, ← hW]
      clear hW hW1
      go_wp2_with fail
      refine CP.out.mono ?_
      rintro e w2 ⟨g, rv, rfl, hR2, hb2⟩
      have HV2 := hide hb2
      have HR2 := hide hR2
      have y0 := later hb2 z0
      have y1 := later hb2 z1
      have P1 := hide (putIn82 g rs.length va aa f Z.heap.size rv (fun v => lat rs v) w2 hR2 hva hb2.size (by have := HLL.out va hva; omega))
      clear CP hb2 hR2
      go_wp2_with fail
      refine P1.out.mono ?_
      rintro e w3 ⟨rv3, rfl, hR3, hb3⟩
      have HV3 : Hid (Below Z.heap.size Z w3) := HV2.out.trans hb3
      have HR3 : Hid (Rows w3 Z.heap.size g rs.length rv3 (betA rs va aa f)) := hR3
      have x0 := later HV3.out z2
      have x1 := later HV3.out z3
      have hl3 : (betA rs va aa f vb).length ≤ 90000 := by
        unfold betA upd
        split
        · rw [putL_length]; have := HLL.out va hva; omega
        · show (lat rs vb).length ≤ 90000; have := HLL.out vb hvb; omega
      have P2 := hide (putIn82 g rs.length vb ab (f + 1) Z.heap.size rv3 (betA rs va aa f) w3 hR3 hvb HV3.out.size hl3)
      clear P1 hb3 hR3 y0 y1
      go_wp2_with fail
      refine P2.out.mono ?_
      rintro e w4 ⟨rv4, rfl, hR4, hb4⟩
      have HV4 := hide (below_step HBZ.out (HV3.out.trans hb4))
      have HR4 := hide (hR4.base HBZ.out.size)
      clear P2 hb4 hR4 x0 x1
      go_wp2
      go_ret
      exact ⟨g, rv4, rfl, HR4.out, HV4.out⟩
end Go.Proofs.Ytcgdmonejogbaaa
namespace Go.Proofs.Ytcgdmonejogbaaa
open Go.RowKit Go.Sort
open Go
set_option maxRecDepth 100000 in
set_option maxHeartbeats 16000000 in
theorem dualOf14no (n : Int) (p : Option Addr) (es : List Pt) (cp : Nat) (q : Option Addr) (rs : List (List Int)) (cq : Nat) (w : World) (h : Has w p es) (hr : RHas w q rs) (h0 : ¬ rotI n es rs = 0) : Calls Try.prog 14 #[nv n p es.length cp, .slice q rs.length cq] w fun r w' => r = .returned (.tuple #[nv 0 none 0 0, .slice none 0 0, .int .i64 (rotI n es rs)]) ∧ Below w.heap.size w w' := by
  obtain ⟨W, hW, hb0, a0, b0⟩ := two_nets w n p es.length cp
  have M := hide (faces21no n p es cp q rs cq W (h.later hb0) (hr.later hb0) h0)
  have HB := hide hb0
  have HN := hide b0
  obtain ⟨q0, q1, _, _⟩ := a0
  obtain ⟨x, hx⟩ : ∃ x, rotI n es rs = x := ⟨_, rfl⟩
  rw [hx] at M h0 ⊢
  have t1 : (x == 0) = false := by simp [h0]
  clear h hr hb0 b0 hx
  go_enter Try.func14, Try.ntmps14
  go_wp2_with fail
  rw [← hW]
  clear hW
  go_wp2_with fail
  refine M.out.mono ?_
  rintro e w1 ⟨rfl, hb1⟩
  have HB1 := hide (below_step HB.out hb1)
  have HN1 := hide (HN.out.later hb1)
  obtain ⟨r0, r1, r2, r3⟩ := HN1.out
  clear hb1 q0 q1 M
  go_wp2
  obtain ⟨V, hV⟩ : ∃ V, V = (w1.setCell ⟨w.heap.size + 1, 0, none⟩ (.int .i64 0)).setCell ⟨w.heap.size + 1, 1, none⟩ (.slice none 0 0) := ⟨_, rfl⟩
  have kV : NOwn V (w.heap.size + 1) 0 none 0 0 := by rw [hV]; exact HN1.out.set 0 none 0 0
  have bV : Below w.heap.size w V := by rw [hV]; exact (HB1.out.setCell (by simp) _).setCell (by simp) _
  rw [← hV]
  exact bodyPost_ret (ret_net3 Try.results14 rfl rfl rfl kV) rfl ⟨rfl, bV⟩
/-- The edges over the edges. -/
def dE (O : List Int) (e : Nat) : Pt := ⟨iat O (2 * e), iat O (2 * e + 1)⟩
def dEs (O : List Int) (m : Nat) : List Pt := (List.range m).map (dE O)
theorem dEs_length (O : List Int) (m : Nat) : (dEs O m).length = m := by simp [dEs]
/-- What the first j of them are, the others zero. -/
def dJ (O : List Int) (m j : Nat) : List Pt := (List.range m).map fun e => if e < j then dE O e else ⟨0, 0⟩
theorem dJ_step (O : List Int) (m j : Nat) : (dJ O m j).set j (dE O j) = dJ O m (j + 1) := by
  refine List.ext_getElem (by simp [dJ]) fun i h1 h2 => ?_
  rw [List.getElem_set]
  simp only [dJ, List.getElem_map, List.getElem_range]
  by_cases h : j = i
  · subst h; rw [if_pos rfl, if_pos (by omega)]
  · rw [if_neg h]
    by_cases h3 : i < j
    · rw [if_pos h3, if_pos (by omega)]
    · rw [if_neg h3, if_neg (by omega)]
theorem dJ_all (O : List Int) (m : Nat) : dJ O m m = dEs O m := by
  unfold dJ dEs
  refine List.map_congr_left fun e he => ?_
  rw [if_pos (List.mem_range.1 he)]
/-- The dual may be: its net, if it is not too great. -/
def dualB (es : List Pt) (rs : List (List Int)) : Bool := netB (facesL es rs).length (dEs (ofL es rs) es.length)
def DualPost (es : List Pt) (rs : List (List Int)) (w : World) (r : Ending) (w' : World) : Prop := (dualB es rs = true ∧ ∃ g p1 c1 rv, r = .returned (.tuple #[nv (facesL es rs).length (some ⟨g, 0, none⟩) es.length es.length, .slice p1 (facesL es rs).length c1, .int .i64 0]) ∧ PRow w' w.heap.size g es.length (dEs (ofL es rs) es.length) ∧ FB w' w.heap.size (.slice p1 (facesL es rs).length c1) (facesL es rs) rv) ∨ (dualB es rs = false ∧ r = .returned (.tuple #[nv 0 none 0 0, .slice none 0 0, .int .i64 3]))
theorem FB.other {w : World} {B : Nat} {fv : Value} {F : List (List Int)} {rv : Nat → Value} (h : FB w B fv F rv) {k i : Nat} (hk : k < B) (u : Value) : FB (w.setCell ⟨k, i, none⟩ u) B fv F rv := ⟨ownsRow_setCell_below h.lst (by exact hk) u, h.uniq, fun v hv => ownsRow_setCell_below (h.own v hv) (by exact hk) u⟩
set_option maxRecDepth 100000 in
set_option maxHeartbeats 16000000 in
theorem dualOf14 (n : Int) (p : Option Addr) (es : List Pt) (cp : Nat) (q : Option Addr) (rs : List (List Int)) (cq : Nat) (w : World) (h : Has w p es) (hr : RHas w q rs) (h0 : rotI n es rs = 0) : Calls Try.prog 14 #[nv n p es.length cp, .slice q rs.length cq] w fun r w' => DualPost es rs w r w' ∧ Below w.heap.size w w' := by
  obtain ⟨W, hW, hb0, a0, b0⟩ := two_nets w n p es.length cp
  obtain ⟨n0, n1, hes, _⟩ := netB_is (rot_is h0).1
  have M := hide (faces21 n p es cp q rs cq W (h.later hb0) (hr.later hb0) h0)
  have hfl := facesL_le h0
  have HRT := hide h0
  have HH := hide (h.later hb0)
  have HR := hide (hr.later hb0)
  have HB := hide hb0
  have HN := hide b0
  have HA := hide a0
  have hWs : W.heap.size = w.heap.size + 2 := by rw [hW]; simp
  have HWS := hide hWs
  obtain ⟨q0, q1, _, _⟩ := a0
  have HDB : Hid (dualB es rs = netB (facesL es rs).length (dEs (ofL es rs) es.length)) := rfl
  obtain ⟨db, hdb⟩ : ∃ b, dualB es rs = b := ⟨_, rfl⟩
  obtain ⟨F, hF⟩ : ∃ F, facesL es rs = F := ⟨_, rfl⟩
  obtain ⟨O, hO⟩ : ∃ O, ofL es rs = O := ⟨_, rfl⟩
  have HOL : Hid (O.length = 2 * es.length) := by show _ = _; rw [← hO]; exact (edge_ok (rot_is h0).2.2).len
  unfold DualPost
  rw [hdb, hF, hO]
  rw [hF] at M hfl
  rw [hdb, hF, hO] at HDB
  have HFE := hide hF
  have HOE := hide hO
  clear h hr hb0 b0 h0 hWs hdb hF hO
  go_enter Try.func14, Try.ntmps14
  go_wp2_with fail
  rw [← hW]
  clear hW
  go_wp2_with fail
  refine M.out.mono ?_
  rintro r w1 ⟨p1, c1, rv, rfl, hfb, hb1⟩
  have HB1 := hide hb1
  have HF1 : Hid (FB w1 W.heap.size (.slice p1 F.length c1) F rv) := hfb
  clear q0 q1 M hfb
  obtain ⟨q0, q1, _, _⟩ := HA.out.later hb1
  have OF := of40 n p es cp q rs cq w1 (HH.out.later hb1) (HR.out.later hb1) HRT.out
  rw [HOE.out] at OF
  have OF := hide OF
  clear hb1
  go_wp2_with fail
  refine OF.out.mono ?_
  rintro r w2 ⟨go, rfl, hrow, hb2⟩
  have HB2 := hide (below_step HB1.out hb2)
  have HO2 := hide hrow
  have HF2 := hide (HF1.out.later hb2)
  clear q0 q1 OF hrow hb2 HF1
  obtain ⟨q0, q1, _, _⟩ := HA.out.later HB2.out
  obtain ⟨i0, hi0, hz0, hz1, hz2⟩ := info_parts info60
  go_wp2_with (refine wpList_make_full _ rfl (.tmp 33) (.tmp 33) 22 rfl w2.heap.size 64 i0 (.agg #[.int .i64 0, .int .i64 0]) 2 Try.underlying22 hi0 hz0 hz1 .i64 .i64 _ _ es.length rfl rfl rfl rfl ?c1 ?c2 ?c3 ?_)
  case c1 => rw [hz2]; omega
  case c2 => unfold maxLen; omega
  case c3 => exact Nat.le_refl _
  intro w3 hown hgrow
  have hpr := prow_made hown
  have hb3 := below_made hgrow
  obtain ⟨g, hg⟩ : ∃ g, w2.heap.size = g := ⟨_, rfl⟩
  have HG := hide hg
  have HP3 : Hid (PRow w3 g g es.length (dJ O es.length 0)) := by
    show PRow _ _ _ _ _
    rw [show dJ O es.length 0 = List.replicate es.length ⟨0, 0⟩ from by unfold dJ; refine List.ext_getElem (by simp) fun i h1 h2 => by simp]
    rw [hg] at hpr
    exact hpr
  have HV3 := hide hb3
  try rw [hg]
  clear hown hgrow hpr hb3 hi0 hz0 hz1 hz2 i0 q0 q1 hg
  go_upto_region 6 with fail
  obtain ⟨U, hU⟩ : ∃ U, U = w3.alloc (nbx F.length (some ⟨g, 0, none⟩) es.length es.length) := ⟨_, rfl⟩
  have hbU : Below w3.heap.size w3 U := by rw [hU]; go_grown
  have HKU : Hid (NOwn U w3.heap.size F.length (some ⟨g, 0, none⟩) es.length es.length) := by show NOwn _ _ _ _ _ _; rw [hU]; exact ⟨by go_cell, by go_cell, by simp [go_sem], by simp [go_sem]⟩
  rw [← hU]
  have HVU := hide (below_step HV3.out hbU)
  have HPU := hide (HP3.out.later hbU)
  have HGL : Hid (g < w3.heap.size) := HP3.out.lt.2
  clear hU hbU HP3 HV3
  obtain ⟨k3, hk3⟩ : ∃ k, w3.heap.size = k := ⟨_, rfl⟩
  rw [hk3] at HKU HGL ⊢
  clear hk3
  obtain ⟨u0, u1, _, _⟩ := HKU.out
  go_wp2_with fail
  clear u0 u1
  go_loopw [39] (fun t39 wr => ∃ j : Nat, j ≤ es.length ∧ t39 = .int .i64 j ∧ Hid (Below w2.heap.size w2 wr) ∧ Hid (PRow wr g g es.length (dJ O es.length j)) ∧ Hid (NOwn wr k3 F.length (some ⟨g, 0, none⟩) es.length es.length)) (fun t39 _ => es.length - (intOf t39).toNat)
  case atStart => exact ⟨0, by omega, rfl, HVU.out, HPU.out, HKU.out⟩
  case round =>
    obtain ⟨j, hj, rfl, HBr, HPr, HKr⟩ := hrel
    clear HVU HPU HKU
    obtain ⟨u0, u1, u2, u3⟩ := HKr.out
    by_cases hlt : j < es.length
    · have j1 : (j : Int) < es.length := by omega
      have j2 : (0 : Int) ≤ j := by omega
      obtain ⟨d0, _⟩ := (HO2.out.later HBr.out).cell (j := 2 * j) (by omega)
      obtain ⟨d1, _⟩ := (HO2.out.later HBr.out).cell (j := 2 * j + 1) (by omega)
      obtain ⟨c0, c1, c2, c3⟩ := HPr.out.cell hlt
      have HST : Hid ((dJ O es.length j).set j (dE O j) = dJ O es.length (j + 1)) := dJ_step O es.length j
      have HDE : Hid (dE O j = ⟨iat O (2 * j), iat O (2 * j + 1)⟩) := rfl
      obtain ⟨x, hx⟩ : ∃ x, iat O (2 * j) = x := ⟨_, rfl⟩
      obtain ⟨y, hy⟩ : ∃ y, iat O (2 * j + 1) = y := ⟨_, rfl⟩
      rw [hx] at d0 HDE
      rw [hy] at d1 HDE
      have k1 : IntKind.i64.wrap (2 * (j : Int)) = ((2 * j : Nat) : Int) := by rw [IntKind.wrap_i64]; omega
      have k2 : IntKind.i64.wrap (2 * (j : Int) + 1) = ((2 * j + 1 : Nat) : Int) := by rw [IntKind.wrap_i64]; omega
      have k3' : (2 * (j : Int)) < 2 * es.length := by omega
      have k4 : (2 * (j : Int)) + 1 < 2 * es.length := by omega
      have k5 : (0 : Int) ≤ 2 * (j : Int) := by omega
      have k6 : (0 : Int) ≤ 2 * (j : Int) + 1 := by omega
      clear hx hy
      go_upto_region 9 with fail
      go_region
      obtain ⟨Z, hZ⟩ : ∃ Z, Z = ((wr.setCell ⟨g, j * 2, none⟩ (.int .i64 x)).setCell ⟨g, j * 2 + 1, none⟩ (.int .i64 y)).drew := ⟨_, rfl⟩
      have HPZ : Hid (PRow Z g g es.length (dJ O es.length (j + 1))) := by
        show PRow _ _ _ _ _
        rw [hZ, ← HST.out, HDE.out]
        exact (HPr.out.set j ⟨x, y⟩).later (by go_grown)
      have hgk : k3 ≠ g := by have := HGL.out; omega
      have HBZ : Hid (Below w2.heap.size w2 Z) := by
        show Below _ _ _
        rw [hZ]
        have e := HG.out
        exact below_step ((HBr.out.setCell (p := ⟨g, j * 2, none⟩) (show w2.heap.size ≤ g by omega) _).setCell (p := ⟨g, j * 2 + 1, none⟩) (show w2.heap.size ≤ g by omega) _) (by go_grown)
      have HKZ : Hid (NOwn Z k3 F.length (some ⟨g, 0, none⟩) es.length es.length) := by
        show NOwn _ _ _ _ _ _
        rw [hZ]
        refine ⟨other2 u0 hgk, other2 u1 hgk, ?_, ?_⟩
        · simpa [go_sem] using u2
        · simpa [go_sem] using u3
      rw [← hZ]
      clear hZ d0 d1 c0 c1 c2 c3 u0 u1 u2 u3
      go_wp2
      go_roundw
      case rel => exact ⟨j + 1, by omega, by go_num, HBZ.out, HPZ.out, HKZ.out⟩
      case measure => simp [intOf]; omega
    · have hje : j = es.length := by omega
      have j1 : ¬ (j : Int) < es.length := by omega
      rw [hje, dJ_all] at HPr
      have MY := may13 F.length (some ⟨g, 0, none⟩) (dEs O es.length) es.length wr HPr.out.has
      rw [dEs_length, ← HDB.out] at MY
      have MY := hide MY
      have HBW := hide (below_step HB2.out HBr.out)
      have HFr : Hid (FB wr W.heap.size (.slice p1 F.length c1) F rv) := HF2.out.later HBr.out
      clear hje hlt HF2
      go_wp2_with fail
      refine MY.out.mono ?_
      rintro r w5 ⟨rfl, hb5⟩
      have HB5 := hide (below_step HBW.out hb5)
      have HN5 := hide (HN.out.later HB5.out)
      have HF5 := hide (HFr.out.later hb5)
      have HP5 := hide (HPr.out.later hb5)
      have HK5 := hide (HKr.out.later hb5)
      have hge : W.heap.size ≤ g := by have := HG.out; have := HB2.out.size; omega
      have hw2 := HWS.out
      clear MY hb5 u0 u1 u2 u3 HPr HKr HFr
      obtain ⟨u0, u1, _, _⟩ := HK5.out
      obtain ⟨r0, r1, r2, r3⟩ := HN5.out
      cases db
      · go_wp2
        obtain ⟨V, hV⟩ : ∃ V, V = (w5.setCell ⟨w.heap.size + 1, 0, none⟩ (.int .i64 0)).setCell ⟨w.heap.size + 1, 1, none⟩ (.slice none 0 0) := ⟨_, rfl⟩
        have kV : NOwn V (w.heap.size + 1) 0 none 0 0 := by rw [hV]; exact HN5.out.set 0 none 0 0
        have bV : Below w.heap.size w V := by rw [hV]; exact ((below_step HB.out HB5.out).setCell (by simp) _).setCell (by simp) _
        rw [← hV]
        exact bodyPost_ret (ret_net3 Try.results14 rfl rfl rfl kV) rfl ⟨rfl, bV⟩
      · go_wp2
        obtain ⟨V, hV⟩ : ∃ V, V = (w5.setCell ⟨w.heap.size + 1, 0, none⟩ (.int .i64 F.length)).setCell ⟨w.heap.size + 1, 1, none⟩ (.slice (some ⟨g, 0, none⟩) es.length es.length) := ⟨_, rfl⟩
        have kV : NOwn V (w.heap.size + 1) F.length (some ⟨g, 0, none⟩) es.length es.length := by rw [hV]; exact HN5.out.set _ _ _ _
        have bV : Below w.heap.size w V := by rw [hV]; exact ((below_step HB.out HB5.out).setCell (by simp) _).setCell (by simp) _
        have pV : PRow V w.heap.size g es.length (dEs O es.length) := by rw [hV]; exact (prow_other (prow_other HP5.out (by omega) _) (by omega) _).base (by omega)
        have fV : FB V w.heap.size (.slice p1 F.length c1) F rv := by rw [hV]; exact ((HF5.out.other (by omega) _).other (by omega) _).base (by omega)
        rw [← hV]
        exact bodyPost_ret (ret_net3 Try.results14 rfl rfl rfl kV) rfl ⟨⟨g, p1, c1, rfl, pV, rv, fV⟩, bV⟩
end Go.Proofs.Ytcgdmonejogbaaa
