/- The reference's Breadth. -/
import Derived.Test.YtghffodjffkijaaQ3
import Derived.Test.YtghffodjffkijaaE9
namespace Go.Proofs.Ytghffodjffkijaa
open Go.RowKit Go.Sort
open Go

set_option maxRecDepth 100000 in
set_option maxHeartbeats 8000000 in
theorem breadth16 (m : Nat) (p : Option Addr) (es : List Pt) (cp s : Nat) (w : World) (h : Has w p es) (hm : netB m es = true) (hs : s < m) : Calls Try.prog 16 #[nv m p es.length cp, .int .i64 s] w fun e w' => ∃ v, e = .returned v ∧ TR w' w.heap.size m v (bfs es m 0 (begin_ (st0 m) s)) nilS ∧ Below w.heap.size w w' := by
  obtain ⟨W, hW, hb, a0, x0, hsz⟩ := two_boxes35 w m p es.length cp
  obtain ⟨n0, n1, hes, _⟩ := netB_is hm
  have HPB : Hid (∀ a, p = some a → es = [] ∨ a.block < w.heap.size) := by
    intro a ha
    rcases h with h | ⟨b, off, hp, hL⟩
    · exact Or.inl h
    · rw [hp] at ha
      cases ha
      rcases Nat.eq_zero_or_pos es.length with h0 | h0
      · exact Or.inl (List.eq_nil_of_length_eq_zero h0)
      · exact Or.inr (block_lt_of_cell (hL 0 h0).1)
  have HM := hide hm
  have HH := hide (h.later hb)
  have HB := hide hb
  have HX := hide x0
  have HA := hide a0
  have HSZ := hide hsz
  have hsn : iat (st0 m).Fa s < 0 := by show iat (List.replicate m (-1)) s < 0; rw [iat_fill hs]; omega
  have HOK0 := hide ((st0_ok m).begin_ hs hsn)
  have HBE : Hid (begin_ (st0 m) s = ⟨[(s : Int)], List.replicate m (-1), (List.replicate m (-1)).set s 0⟩) := by
    show _ = _
    unfold begin_ st0
    simp
  obtain ⟨R, hRR⟩ : ∃ R, bfs es m 0 (begin_ (st0 m) s) = R := ⟨_, rfl⟩
  rw [hRR]
  have HRR := hide hRR
  have BL : Hid (∀ V, Calls Try.prog 44 #[.int .i64 m, .int .i64 (-1)] V fun e w' => ∃ g, e = .returned (.slice (some ⟨g, 0, none⟩) m m) ∧ IRow w' V.heap.size g m (List.replicate m (-1)) ∧ Below V.heap.size V w') := fun V => blank41 m (-1) V (by omega)
  clear h hb a0 x0 hm hsn hRR hsz
  go_enter Try.func16, Try.ntmps16
  go_wp2_with fail
  rw [← hW]
  clear hW
  go_cut [5] (fun t5 wx => ∃ (k : Nat) (po : Option Addr) (gb gf co : Nat), t5 = .pointer (some ⟨k, 0, none⟩) ∧ Hid (TB wx W.heap.size k m (.slice po 1 co) gb gf nilS [(s : Int)] (List.replicate m (-1)) (List.replicate m (-1)) ∧ Below W.heap.size W wx ∧ W.heap.size ≤ k))
  case first =>
    have bd : Below W.heap.size W W.drew := below_drew _
    obtain ⟨V0, hV0⟩ : ∃ V, V = W.drew := ⟨_, rfl⟩
    have HB0 : Hid (Below W.heap.size W V0) := by show Below _ _ _; rw [hV0]; exact bd
    have q0 := (HA.out.later HB0.out).1
    refine wp_region_held_drew (S := (fun W' => W'.cell? ⟨w.heap.size, 0, none⟩ = some (.int .i64 m))) (by kernel_rfl) (by rw [← hV0]; exact q0) (fun hHeld => ?_)
    rw [← hV0] at hHeld ⊢
    clear hV0 bd
    change wpAnyH Try.prog .any _ _ _ 11 #[false, false, false, false, false, false, false, false, false, false, false] _ _
    refine wpAnyH_take (i := 0) (v := ?v1) rfl (by kernel_rfl) (by kernel_rfl) (by kernel_rfl) (fun _ _ _ h => h) (Or.inl ⟨by rfl, ?hy1⟩) (by assumption) ?rest1
    case hy1 => (intro w hSw; (try dsimp only at hSw); go_simp; try with_reducible rfl)
    try simp only [Act.put, List.setIfInBounds_toArray, List.set_cons_zero]
    refine wpAnyH_take (i := 2) (v := ?v2) rfl (by kernel_rfl) (by kernel_rfl) (by kernel_rfl) (fun _ _ _ h => h) (Or.inl ⟨by rfl, ?hy2⟩) (by assumption) ?rest2
    case hy2 => (intro w hSw; (try dsimp only at hSw); go_simp; try with_reducible rfl)
    try simp only [Act.put, List.setIfInBounds_toArray, List.set_cons_zero, List.set_cons_succ]
    refine wpAnyH_take (i := 3) (v := ?v3) rfl (by kernel_rfl) (by kernel_rfl) (by kernel_rfl) (fun _ _ _ h => h) (Or.inl ⟨by rfl, ?hy3⟩) (by assumption) ?rest3
    case hy3 => (intro w hSw; (try dsimp only at hSw); go_simp; try with_reducible rfl)
    try simp only [Act.put, List.setIfInBounds_toArray, List.set_cons_zero, List.set_cons_succ]
    refine wpAnyH_take (i := 5) (v := ?v4) rfl (by kernel_rfl) (by kernel_rfl) (by kernel_rfl) (fun _ _ _ h => h) (Or.inl ⟨by rfl, ?hy4⟩) (by assumption) ?rest4
    case hy4 => (intro w hSw; (try dsimp only at hSw); go_simp; try with_reducible rfl)
    try simp only [Act.put, List.setIfInBounds_toArray, List.set_cons_zero, List.set_cons_succ]
    refine wpAnyH_take (i := 6) (v := ?v5) rfl (by kernel_rfl) (by kernel_rfl) (by kernel_rfl) (fun _ _ _ h => h) (Or.inl ⟨by rfl, ?hy5⟩) (by assumption) ?rest5
    case hy5 => (intro w hSw; (try dsimp only at hSw); go_simp; try with_reducible rfl)
    try simp only [Act.put, List.setIfInBounds_toArray, List.set_cons_zero, List.set_cons_succ]
    refine wpAnyH_ready (rs := [1, 4, 9]) (by kernel_rfl) (by simp) ?_
    refine ready_cons ({ dst := some 12, op := Op.buildSlice 33 1 #[(0, Operand.tmp 11)], type := 33, pos := "ref.go:20", after := #[{ on := 0, ground := Ground.data }], guard := none }) rfl rfl (fun K hK => ?_) ?_
    · clear hHeld
      go_simp
      obtain ⟨V1, hV⟩ : ∃ V, V = V0.alloc (.cells #[.int .i64 s] 3) := ⟨_, rfl⟩
      have hb2 : Below V0.heap.size V0 V1 := by rw [hV]; go_grown
      have HO1 : Hid (IOwns V1 V0.heap.size (.slice (some ⟨V0.heap.size, 0, none⟩) 1 1) [(s : Int)]) := by show IOwns _ _ _ _; rw [hV]; exact World.ownsRow_lit _ #[.int .i64 s] 1 (Nat.le_refl _) (by unfold maxLen; omega) rfl
      obtain ⟨vb, hvb⟩ : ∃ vb, V0.heap.size = vb := ⟨_, rfl⟩
      have rO : V0.heap.size ≤ vb ∧ vb < V1.heap.size := by have h0 := (World.ownsRow.lt HO1.out V0.heap.size rfl).2; omega
      rw [← hV]
      have HB1 := hide (below_step HB0.out hb2)
      have S1 := hb2.size
      clear hb2 q0
      have q0 := (HA.out.later HB1.out).1
      rw [show (Value.slice (some ⟨V0.heap.size, 0, none⟩) 1 1) = .slice (some ⟨vb, 0, none⟩) 1 1 by rw [hvb]] at HO1
      rw [hvb]
      clear hV hvb
      refine hK.out _ _ (by first | exact q0 | exact cell_other (cell_other (cell_other (cell_other q0 nk) nk) nk) nk) (fun hHeld => ?_)
      clear hK K
      try simp only [List.setIfInBounds_toArray, List.set_cons_zero, List.set_cons_succ]
      refine wpAnyH_ready (rs := [4, 9]) (by kernel_rfl) (by simp) ?_
      refine ready_cons ({ dst := some 15, op := Op.call { callee := Callee.value (Operand.func 44), args := #[Operand.tmp 14, Operand.const (Value.int IntKind.i64 (-1))], argTypes := #[3, 3] }, type := 33, pos := "ref.go:20", after := #[{ on := 3, ground := Ground.data }], guard := none }) rfl rfl (fun K hK => ?_) ?_
      · clear hHeld
        go_simp
        refine (BL.out V1).mono ?_
        rintro e V2 ⟨gb, rfl, hrow, hb2⟩
        have rG := hrow.lt
        have HG2 := hide hrow
        clear hrow
        have HB2 := hide (below_step HB1.out hb2)
        have S2 := hb2.size
        have HO2 := hide (HO1.out.later hb2)
        clear hb2 q0
        have q0 := (HA.out.later HB2.out).1
        refine hK.out _ _ (by first | exact q0 | exact cell_other (cell_other (cell_other (cell_other q0 nk) nk) nk) nk) (fun hHeld => ?_)
        clear hK K
        try simp only [List.setIfInBounds_toArray, List.set_cons_zero, List.set_cons_succ]
        refine wpAnyH_ready (rs := [7, 9]) (by kernel_rfl) (by simp) ?_
        refine ready_cons ({ dst := some 18, op := Op.call { callee := Callee.value (Operand.func 44), args := #[Operand.tmp 17, Operand.const (Value.int IntKind.i64 (-1))], argTypes := #[3, 3] }, type := 33, pos := "ref.go:20", after := #[{ on := 6, ground := Ground.data }, { on := 4, ground := Ground.chain }], guard := none }) rfl rfl (fun K hK => ?_) ?_
        · clear hHeld
          go_simp
          refine (BL.out V2).mono ?_
          rintro e V3 ⟨gf, rfl, hrow, hb2⟩
          have rF := hrow.lt
          have HF3 := hide hrow
          clear hrow
          have HB3 := hide (below_step HB2.out hb2)
          have S3 := hb2.size
          have HO3 := hide (HO2.out.later hb2)
          have HG3 := hide (HG2.out.later hb2)
          clear hb2 q0
          have q0 := (HA.out.later HB3.out).1
          refine hK.out _ _ (by first | exact q0 | exact cell_other (cell_other (cell_other (cell_other q0 nk) nk) nk) nk) (fun hHeld => ?_)
          clear hK K
          try simp only [List.setIfInBounds_toArray, List.set_cons_zero, List.set_cons_succ]
          refine wpAnyH_take (i := 8) (v := ?v6) rfl (by kernel_rfl) (by kernel_rfl) (by kernel_rfl) (fun _ _ _ h => h) (Or.inl ⟨by rfl, ?hy6⟩) (by assumption) ?rest6
          case hy6 => (intro w hSw; (try dsimp only at hSw); go_simp; try with_reducible rfl)
          try simp only [Act.put, List.setIfInBounds_toArray, List.set_cons_zero, List.set_cons_succ]
          refine wpAnyH_ready (rs := [9]) (by kernel_rfl) (by simp) ?_
          refine ready_cons ({ dst := some 5, op := Op.alloc 35, type := 0, pos := "ref.go:20", after := #[], guard := none }) rfl rfl (fun K hK => ?_) ?_
          · clear hHeld
            go_simp
            obtain ⟨V4, hV⟩ : ∃ V, V = V3.alloc (.cells #[nilS, nilS, nilS, nilS] 35) := ⟨_, rfl⟩
            have hb2 : Below V3.heap.size V3 V4 := by rw [hV]; go_grown
            have HK4 : Hid (V4.ownsRow 0 35 4 (.slice (some ⟨V3.heap.size, 0, none⟩) 1 1) 1 [nilS, nilS, nilS, nilS]) := by show World.ownsRow _ _ _ _ _ _ _; rw [hV]; exact box35 _ _ _ _ _
            obtain ⟨kx, hkx⟩ : ∃ kx, V3.heap.size = kx := ⟨_, rfl⟩
            have rK : V3.heap.size ≤ kx ∧ kx < V4.heap.size := by have h0 := (World.ownsRow.lt HK4.out V3.heap.size rfl).2; omega
            rw [← hV]
            have HB4 := hide (below_step HB3.out hb2)
            have S4 := hb2.size
            have HO4 := hide (HO3.out.later hb2)
            have HG4 := hide (HG3.out.later hb2)
            have HF4 := hide (HF3.out.later hb2)
            clear hb2 q0
            have q0 := (HA.out.later HB4.out).1
            rw [hkx] at HK4 ⊢
            clear hV hkx
            refine hK.out _ _ (by first | exact q0 | exact cell_other (cell_other (cell_other (cell_other q0 nk) nk) nk) nk) (fun hHeld => ?_)
            clear hK K
            try simp only [List.setIfInBounds_toArray, List.set_cons_zero, List.set_cons_succ]
            refine wpAnyH_ready (rs := [10]) (by kernel_rfl) (by simp) ?_
            refine ready_cons ({ dst := none, op := Op.store 35 (Operand.tmp 5) (Operand.tmp 19), type := 0, pos := "ref.go:20", after := #[{ on := 9, ground := Ground.data }, { on := 8, ground := Ground.data }, { on := 7, ground := Ground.chain }, { on := 0, ground := Ground.phase }, { on := 1, ground := Ground.phase }, { on := 2, ground := Ground.phase }, { on := 3, ground := Ground.phase }, { on := 4, ground := Ground.phase }, { on := 5, ground := Ground.phase }, { on := 6, ground := Ground.phase }, { on := 7, ground := Ground.phase }, { on := 8, ground := Ground.phase }, { on := 9, ground := Ground.phase }], guard := none }) rfl rfl (fun K hK => ?_) ?_
            · clear hHeld
              obtain ⟨d0, d1, d2, d3, e0, e1, e2, e3⟩ := box_cells HK4.out
              have nk : w.heap.size ≠ kx := by have := HSZ.out; have := HB0.out.size; omega
              go_simp
              clear d0 d1 d2 d3 e0 e1 e2 e3
              refine hK.out _ _ (by first | exact q0 | exact cell_other (cell_other (cell_other (cell_other q0 nk) nk) nk) nk) (fun hHeld => ?_)
              clear hK K
              try simp only [List.setIfInBounds_toArray, List.set_cons_zero, List.set_cons_succ]
              refine wpAnyH_done (by kernel_rfl) ?_ _
              clear hHeld
              have hW0 : W.heap.size ≤ V0.heap.size := HB0.out.size
              have HFIN : Hid (TB (set4 V4 kx (.slice (some ⟨vb, 0, none⟩) 1 1) (.slice (some ⟨gb, 0, none⟩) m m) (.slice (some ⟨gf, 0, none⟩) m m) nilS) W.heap.size kx m (.slice (some ⟨vb, 0, none⟩) 1 1) gb gf nilS [(s : Int)] (List.replicate m (-1)) (List.replicate m (-1)) ∧ Below W.heap.size W (set4 V4 kx (.slice (some ⟨vb, 0, none⟩) 1 1) (.slice (some ⟨gb, 0, none⟩) m m) (.slice (some ⟨gf, 0, none⟩) m m) nilS) ∧ W.heap.size ≤ kx) := by
                refine ⟨⟨set_box35 HK4.out, ?_, ?_, ?_, by omega, by simp [Value.ownBlock]; omega, by simp [Value.ownBlock]; omega⟩, below_set4 HB4.out (by omega) _ _ _ _, by omega⟩
                · exact IOwns.base (row_set4 HO4.out (by simp [Value.ownBlock]; omega) _ _ _ _) (by omega)
                · exact (irow_set4 HG4.out (by omega) _ _ _ _).base (by omega)
                · exact (irow_set4 HF4.out (by omega) _ _ _ _).base (by omega)
              go_wp2_with fail
              go_meet
              exact ⟨kx, _, gb, gf, 1, rfl, HFIN.out⟩
            exact AllReadyH.nil
          exact AllReadyH.nil
        refine ready_cons ({ dst := some 5, op := Op.alloc 35, type := 0, pos := "ref.go:20", after := #[], guard := none }) rfl rfl (fun K hK => ?_) ?_
        · clear hHeld
          go_simp
          obtain ⟨V3, hV⟩ : ∃ V, V = V2.alloc (.cells #[nilS, nilS, nilS, nilS] 35) := ⟨_, rfl⟩
          have hb2 : Below V2.heap.size V2 V3 := by rw [hV]; go_grown
          have HK3 : Hid (V3.ownsRow 0 35 4 (.slice (some ⟨V2.heap.size, 0, none⟩) 1 1) 1 [nilS, nilS, nilS, nilS]) := by show World.ownsRow _ _ _ _ _ _ _; rw [hV]; exact box35 _ _ _ _ _
          obtain ⟨kx, hkx⟩ : ∃ kx, V2.heap.size = kx := ⟨_, rfl⟩
          have rK : V2.heap.size ≤ kx ∧ kx < V3.heap.size := by have h0 := (World.ownsRow.lt HK3.out V2.heap.size rfl).2; omega
          rw [← hV]
          have HB3 := hide (below_step HB2.out hb2)
          have S3 := hb2.size
          have HO3 := hide (HO2.out.later hb2)
          have HG3 := hide (HG2.out.later hb2)
          clear hb2 q0
          have q0 := (HA.out.later HB3.out).1
          rw [hkx] at HK3 ⊢
          clear hV hkx
          refine hK.out _ _ (by first | exact q0 | exact cell_other (cell_other (cell_other (cell_other q0 nk) nk) nk) nk) (fun hHeld => ?_)
          clear hK K
          try simp only [List.setIfInBounds_toArray, List.set_cons_zero, List.set_cons_succ]
          refine wpAnyH_ready (rs := [7]) (by kernel_rfl) (by simp) ?_
          refine ready_cons ({ dst := some 18, op := Op.call { callee := Callee.value (Operand.func 44), args := #[Operand.tmp 17, Operand.const (Value.int IntKind.i64 (-1))], argTypes := #[3, 3] }, type := 33, pos := "ref.go:20", after := #[{ on := 6, ground := Ground.data }, { on := 4, ground := Ground.chain }], guard := none }) rfl rfl (fun K hK => ?_) ?_
          · clear hHeld
            go_simp
            refine (BL.out V3).mono ?_
            rintro e V4 ⟨gf, rfl, hrow, hb2⟩
            have rF := hrow.lt
            have HF4 := hide hrow
            clear hrow
            have HB4 := hide (below_step HB3.out hb2)
            have S4 := hb2.size
            have HO4 := hide (HO3.out.later hb2)
            have HG4 := hide (HG3.out.later hb2)
            have HK4 := hide (box_later HK3.out hb2)
            clear hb2 q0
            have q0 := (HA.out.later HB4.out).1
            refine hK.out _ _ (by first | exact q0 | exact cell_other (cell_other (cell_other (cell_other q0 nk) nk) nk) nk) (fun hHeld => ?_)
            clear hK K
            try simp only [List.setIfInBounds_toArray, List.set_cons_zero, List.set_cons_succ]
            refine wpAnyH_take (i := 8) (v := ?v7) rfl (by kernel_rfl) (by kernel_rfl) (by kernel_rfl) (fun _ _ _ h => h) (Or.inl ⟨by rfl, ?hy7⟩) (by assumption) ?rest7
            case hy7 => (intro w hSw; (try dsimp only at hSw); go_simp; try with_reducible rfl)
            try simp only [Act.put, List.setIfInBounds_toArray, List.set_cons_zero, List.set_cons_succ]
            refine wpAnyH_ready (rs := [10]) (by kernel_rfl) (by simp) ?_
            refine ready_cons ({ dst := none, op := Op.store 35 (Operand.tmp 5) (Operand.tmp 19), type := 0, pos := "ref.go:20", after := #[{ on := 9, ground := Ground.data }, { on := 8, ground := Ground.data }, { on := 7, ground := Ground.chain }, { on := 0, ground := Ground.phase }, { on := 1, ground := Ground.phase }, { on := 2, ground := Ground.phase }, { on := 3, ground := Ground.phase }, { on := 4, ground := Ground.phase }, { on := 5, ground := Ground.phase }, { on := 6, ground := Ground.phase }, { on := 7, ground := Ground.phase }, { on := 8, ground := Ground.phase }, { on := 9, ground := Ground.phase }], guard := none }) rfl rfl (fun K hK => ?_) ?_
            · clear hHeld
              obtain ⟨d0, d1, d2, d3, e0, e1, e2, e3⟩ := box_cells HK4.out
              have nk : w.heap.size ≠ kx := by have := HSZ.out; have := HB0.out.size; omega
              go_simp
              clear d0 d1 d2 d3 e0 e1 e2 e3
              refine hK.out _ _ (by first | exact q0 | exact cell_other (cell_other (cell_other (cell_other q0 nk) nk) nk) nk) (fun hHeld => ?_)
              clear hK K
              try simp only [List.setIfInBounds_toArray, List.set_cons_zero, List.set_cons_succ]
              refine wpAnyH_done (by kernel_rfl) ?_ _
              clear hHeld
              have hW0 : W.heap.size ≤ V0.heap.size := HB0.out.size
              have HFIN : Hid (TB (set4 V4 kx (.slice (some ⟨vb, 0, none⟩) 1 1) (.slice (some ⟨gb, 0, none⟩) m m) (.slice (some ⟨gf, 0, none⟩) m m) nilS) W.heap.size kx m (.slice (some ⟨vb, 0, none⟩) 1 1) gb gf nilS [(s : Int)] (List.replicate m (-1)) (List.replicate m (-1)) ∧ Below W.heap.size W (set4 V4 kx (.slice (some ⟨vb, 0, none⟩) 1 1) (.slice (some ⟨gb, 0, none⟩) m m) (.slice (some ⟨gf, 0, none⟩) m m) nilS) ∧ W.heap.size ≤ kx) := by
                refine ⟨⟨set_box35 HK4.out, ?_, ?_, ?_, by omega, by simp [Value.ownBlock]; omega, by simp [Value.ownBlock]; omega⟩, below_set4 HB4.out (by omega) _ _ _ _, by omega⟩
                · exact IOwns.base (row_set4 HO4.out (by simp [Value.ownBlock]; omega) _ _ _ _) (by omega)
                · exact (irow_set4 HG4.out (by omega) _ _ _ _).base (by omega)
                · exact (irow_set4 HF4.out (by omega) _ _ _ _).base (by omega)
              go_wp2_with fail
              go_meet
              exact ⟨kx, _, gb, gf, 1, rfl, HFIN.out⟩
            exact AllReadyH.nil
          exact AllReadyH.nil
        exact AllReadyH.nil
      refine ready_cons ({ dst := some 5, op := Op.alloc 35, type := 0, pos := "ref.go:20", after := #[], guard := none }) rfl rfl (fun K hK => ?_) ?_
      · clear hHeld
        go_simp
        obtain ⟨V2, hV⟩ : ∃ V, V = V1.alloc (.cells #[nilS, nilS, nilS, nilS] 35) := ⟨_, rfl⟩
        have hb2 : Below V1.heap.size V1 V2 := by rw [hV]; go_grown
        have HK2 : Hid (V2.ownsRow 0 35 4 (.slice (some ⟨V1.heap.size, 0, none⟩) 1 1) 1 [nilS, nilS, nilS, nilS]) := by show World.ownsRow _ _ _ _ _ _ _; rw [hV]; exact box35 _ _ _ _ _
        obtain ⟨kx, hkx⟩ : ∃ kx, V1.heap.size = kx := ⟨_, rfl⟩
        have rK : V1.heap.size ≤ kx ∧ kx < V2.heap.size := by have h0 := (World.ownsRow.lt HK2.out V1.heap.size rfl).2; omega
        rw [← hV]
        have HB2 := hide (below_step HB1.out hb2)
        have S2 := hb2.size
        have HO2 := hide (HO1.out.later hb2)
        clear hb2 q0
        have q0 := (HA.out.later HB2.out).1
        rw [hkx] at HK2 ⊢
        clear hV hkx
        refine hK.out _ _ (by first | exact q0 | exact cell_other (cell_other (cell_other (cell_other q0 nk) nk) nk) nk) (fun hHeld => ?_)
        clear hK K
        try simp only [List.setIfInBounds_toArray, List.set_cons_zero, List.set_cons_succ]
        refine wpAnyH_ready (rs := [4]) (by kernel_rfl) (by simp) ?_
        refine ready_cons ({ dst := some 15, op := Op.call { callee := Callee.value (Operand.func 44), args := #[Operand.tmp 14, Operand.const (Value.int IntKind.i64 (-1))], argTypes := #[3, 3] }, type := 33, pos := "ref.go:20", after := #[{ on := 3, ground := Ground.data }], guard := none }) rfl rfl (fun K hK => ?_) ?_
        · clear hHeld
          go_simp
          refine (BL.out V2).mono ?_
          rintro e V3 ⟨gb, rfl, hrow, hb2⟩
          have rG := hrow.lt
          have HG3 := hide hrow
          clear hrow
          have HB3 := hide (below_step HB2.out hb2)
          have S3 := hb2.size
          have HO3 := hide (HO2.out.later hb2)
          have HK3 := hide (box_later HK2.out hb2)
          clear hb2 q0
          have q0 := (HA.out.later HB3.out).1
          refine hK.out _ _ (by first | exact q0 | exact cell_other (cell_other (cell_other (cell_other q0 nk) nk) nk) nk) (fun hHeld => ?_)
          clear hK K
          try simp only [List.setIfInBounds_toArray, List.set_cons_zero, List.set_cons_succ]
          refine wpAnyH_ready (rs := [7]) (by kernel_rfl) (by simp) ?_
          refine ready_cons ({ dst := some 18, op := Op.call { callee := Callee.value (Operand.func 44), args := #[Operand.tmp 17, Operand.const (Value.int IntKind.i64 (-1))], argTypes := #[3, 3] }, type := 33, pos := "ref.go:20", after := #[{ on := 6, ground := Ground.data }, { on := 4, ground := Ground.chain }], guard := none }) rfl rfl (fun K hK => ?_) ?_
          · clear hHeld
            go_simp
            refine (BL.out V3).mono ?_
            rintro e V4 ⟨gf, rfl, hrow, hb2⟩
            have rF := hrow.lt
            have HF4 := hide hrow
            clear hrow
            have HB4 := hide (below_step HB3.out hb2)
            have S4 := hb2.size
            have HO4 := hide (HO3.out.later hb2)
            have HK4 := hide (box_later HK3.out hb2)
            have HG4 := hide (HG3.out.later hb2)
            clear hb2 q0
            have q0 := (HA.out.later HB4.out).1
            refine hK.out _ _ (by first | exact q0 | exact cell_other (cell_other (cell_other (cell_other q0 nk) nk) nk) nk) (fun hHeld => ?_)
            clear hK K
            try simp only [List.setIfInBounds_toArray, List.set_cons_zero, List.set_cons_succ]
            refine wpAnyH_take (i := 8) (v := ?v8) rfl (by kernel_rfl) (by kernel_rfl) (by kernel_rfl) (fun _ _ _ h => h) (Or.inl ⟨by rfl, ?hy8⟩) (by assumption) ?rest8
            case hy8 => (intro w hSw; (try dsimp only at hSw); go_simp; try with_reducible rfl)
            try simp only [Act.put, List.setIfInBounds_toArray, List.set_cons_zero, List.set_cons_succ]
            refine wpAnyH_ready (rs := [10]) (by kernel_rfl) (by simp) ?_
            refine ready_cons ({ dst := none, op := Op.store 35 (Operand.tmp 5) (Operand.tmp 19), type := 0, pos := "ref.go:20", after := #[{ on := 9, ground := Ground.data }, { on := 8, ground := Ground.data }, { on := 7, ground := Ground.chain }, { on := 0, ground := Ground.phase }, { on := 1, ground := Ground.phase }, { on := 2, ground := Ground.phase }, { on := 3, ground := Ground.phase }, { on := 4, ground := Ground.phase }, { on := 5, ground := Ground.phase }, { on := 6, ground := Ground.phase }, { on := 7, ground := Ground.phase }, { on := 8, ground := Ground.phase }, { on := 9, ground := Ground.phase }], guard := none }) rfl rfl (fun K hK => ?_) ?_
            · clear hHeld
              obtain ⟨d0, d1, d2, d3, e0, e1, e2, e3⟩ := box_cells HK4.out
              have nk : w.heap.size ≠ kx := by have := HSZ.out; have := HB0.out.size; omega
              go_simp
              clear d0 d1 d2 d3 e0 e1 e2 e3
              refine hK.out _ _ (by first | exact q0 | exact cell_other (cell_other (cell_other (cell_other q0 nk) nk) nk) nk) (fun hHeld => ?_)
              clear hK K
              try simp only [List.setIfInBounds_toArray, List.set_cons_zero, List.set_cons_succ]
              refine wpAnyH_done (by kernel_rfl) ?_ _
              clear hHeld
              have hW0 : W.heap.size ≤ V0.heap.size := HB0.out.size
              have HFIN : Hid (TB (set4 V4 kx (.slice (some ⟨vb, 0, none⟩) 1 1) (.slice (some ⟨gb, 0, none⟩) m m) (.slice (some ⟨gf, 0, none⟩) m m) nilS) W.heap.size kx m (.slice (some ⟨vb, 0, none⟩) 1 1) gb gf nilS [(s : Int)] (List.replicate m (-1)) (List.replicate m (-1)) ∧ Below W.heap.size W (set4 V4 kx (.slice (some ⟨vb, 0, none⟩) 1 1) (.slice (some ⟨gb, 0, none⟩) m m) (.slice (some ⟨gf, 0, none⟩) m m) nilS) ∧ W.heap.size ≤ kx) := by
                refine ⟨⟨set_box35 HK4.out, ?_, ?_, ?_, by omega, by simp [Value.ownBlock]; omega, by simp [Value.ownBlock]; omega⟩, below_set4 HB4.out (by omega) _ _ _ _, by omega⟩
                · exact IOwns.base (row_set4 HO4.out (by simp [Value.ownBlock]; omega) _ _ _ _) (by omega)
                · exact (irow_set4 HG4.out (by omega) _ _ _ _).base (by omega)
                · exact (irow_set4 HF4.out (by omega) _ _ _ _).base (by omega)
              go_wp2_with fail
              go_meet
              exact ⟨kx, _, gb, gf, 1, rfl, HFIN.out⟩
            exact AllReadyH.nil
          exact AllReadyH.nil
        exact AllReadyH.nil
      exact AllReadyH.nil
    refine ready_cons ({ dst := some 15, op := Op.call { callee := Callee.value (Operand.func 44), args := #[Operand.tmp 14, Operand.const (Value.int IntKind.i64 (-1))], argTypes := #[3, 3] }, type := 33, pos := "ref.go:20", after := #[{ on := 3, ground := Ground.data }], guard := none }) rfl rfl (fun K hK => ?_) ?_
    · clear hHeld
      go_simp
      refine (BL.out V0).mono ?_
      rintro e V1 ⟨gb, rfl, hrow, hb2⟩
      have rG := hrow.lt
      have HG1 := hide hrow
      clear hrow
      have HB1 := hide (below_step HB0.out hb2)
      have S1 := hb2.size
      clear hb2 q0
      have q0 := (HA.out.later HB1.out).1
      refine hK.out _ _ (by first | exact q0 | exact cell_other (cell_other (cell_other (cell_other q0 nk) nk) nk) nk) (fun hHeld => ?_)
      clear hK K
      try simp only [List.setIfInBounds_toArray, List.set_cons_zero, List.set_cons_succ]
      refine wpAnyH_ready (rs := [1, 7, 9]) (by kernel_rfl) (by simp) ?_
      refine ready_cons ({ dst := some 12, op := Op.buildSlice 33 1 #[(0, Operand.tmp 11)], type := 33, pos := "ref.go:20", after := #[{ on := 0, ground := Ground.data }], guard := none }) rfl rfl (fun K hK => ?_) ?_
      · clear hHeld
        go_simp
        obtain ⟨V2, hV⟩ : ∃ V, V = V1.alloc (.cells #[.int .i64 s] 3) := ⟨_, rfl⟩
        have hb2 : Below V1.heap.size V1 V2 := by rw [hV]; go_grown
        have HO2 : Hid (IOwns V2 V1.heap.size (.slice (some ⟨V1.heap.size, 0, none⟩) 1 1) [(s : Int)]) := by show IOwns _ _ _ _; rw [hV]; exact World.ownsRow_lit _ #[.int .i64 s] 1 (Nat.le_refl _) (by unfold maxLen; omega) rfl
        obtain ⟨vb, hvb⟩ : ∃ vb, V1.heap.size = vb := ⟨_, rfl⟩
        have rO : V1.heap.size ≤ vb ∧ vb < V2.heap.size := by have h0 := (World.ownsRow.lt HO2.out V1.heap.size rfl).2; omega
        rw [← hV]
        have HB2 := hide (below_step HB1.out hb2)
        have S2 := hb2.size
        have HG2 := hide (HG1.out.later hb2)
        clear hb2 q0
        have q0 := (HA.out.later HB2.out).1
        rw [show (Value.slice (some ⟨V1.heap.size, 0, none⟩) 1 1) = .slice (some ⟨vb, 0, none⟩) 1 1 by rw [hvb]] at HO2
        rw [hvb]
        clear hV hvb
        refine hK.out _ _ (by first | exact q0 | exact cell_other (cell_other (cell_other (cell_other q0 nk) nk) nk) nk) (fun hHeld => ?_)
        clear hK K
        try simp only [List.setIfInBounds_toArray, List.set_cons_zero, List.set_cons_succ]
        refine wpAnyH_ready (rs := [7, 9]) (by kernel_rfl) (by simp) ?_
        refine ready_cons ({ dst := some 18, op := Op.call { callee := Callee.value (Operand.func 44), args := #[Operand.tmp 17, Operand.const (Value.int IntKind.i64 (-1))], argTypes := #[3, 3] }, type := 33, pos := "ref.go:20", after := #[{ on := 6, ground := Ground.data }, { on := 4, ground := Ground.chain }], guard := none }) rfl rfl (fun K hK => ?_) ?_
        · clear hHeld
          go_simp
          refine (BL.out V2).mono ?_
          rintro e V3 ⟨gf, rfl, hrow, hb2⟩
          have rF := hrow.lt
          have HF3 := hide hrow
          clear hrow
          have HB3 := hide (below_step HB2.out hb2)
          have S3 := hb2.size
          have HG3 := hide (HG2.out.later hb2)
          have HO3 := hide (HO2.out.later hb2)
          clear hb2 q0
          have q0 := (HA.out.later HB3.out).1
          refine hK.out _ _ (by first | exact q0 | exact cell_other (cell_other (cell_other (cell_other q0 nk) nk) nk) nk) (fun hHeld => ?_)
          clear hK K
          try simp only [List.setIfInBounds_toArray, List.set_cons_zero, List.set_cons_succ]
          refine wpAnyH_take (i := 8) (v := ?v9) rfl (by kernel_rfl) (by kernel_rfl) (by kernel_rfl) (fun _ _ _ h => h) (Or.inl ⟨by rfl, ?hy9⟩) (by assumption) ?rest9
          case hy9 => (intro w hSw; (try dsimp only at hSw); go_simp; try with_reducible rfl)
          try simp only [Act.put, List.setIfInBounds_toArray, List.set_cons_zero, List.set_cons_succ]
          refine wpAnyH_ready (rs := [9]) (by kernel_rfl) (by simp) ?_
          refine ready_cons ({ dst := some 5, op := Op.alloc 35, type := 0, pos := "ref.go:20", after := #[], guard := none }) rfl rfl (fun K hK => ?_) ?_
          · clear hHeld
            go_simp
            obtain ⟨V4, hV⟩ : ∃ V, V = V3.alloc (.cells #[nilS, nilS, nilS, nilS] 35) := ⟨_, rfl⟩
            have hb2 : Below V3.heap.size V3 V4 := by rw [hV]; go_grown
            have HK4 : Hid (V4.ownsRow 0 35 4 (.slice (some ⟨V3.heap.size, 0, none⟩) 1 1) 1 [nilS, nilS, nilS, nilS]) := by show World.ownsRow _ _ _ _ _ _ _; rw [hV]; exact box35 _ _ _ _ _
            obtain ⟨kx, hkx⟩ : ∃ kx, V3.heap.size = kx := ⟨_, rfl⟩
            have rK : V3.heap.size ≤ kx ∧ kx < V4.heap.size := by have h0 := (World.ownsRow.lt HK4.out V3.heap.size rfl).2; omega
            rw [← hV]
            have HB4 := hide (below_step HB3.out hb2)
            have S4 := hb2.size
            have HG4 := hide (HG3.out.later hb2)
            have HO4 := hide (HO3.out.later hb2)
            have HF4 := hide (HF3.out.later hb2)
            clear hb2 q0
            have q0 := (HA.out.later HB4.out).1
            rw [hkx] at HK4 ⊢
            clear hV hkx
            refine hK.out _ _ (by first | exact q0 | exact cell_other (cell_other (cell_other (cell_other q0 nk) nk) nk) nk) (fun hHeld => ?_)
            clear hK K
            try simp only [List.setIfInBounds_toArray, List.set_cons_zero, List.set_cons_succ]
            refine wpAnyH_ready (rs := [10]) (by kernel_rfl) (by simp) ?_
            refine ready_cons ({ dst := none, op := Op.store 35 (Operand.tmp 5) (Operand.tmp 19), type := 0, pos := "ref.go:20", after := #[{ on := 9, ground := Ground.data }, { on := 8, ground := Ground.data }, { on := 7, ground := Ground.chain }, { on := 0, ground := Ground.phase }, { on := 1, ground := Ground.phase }, { on := 2, ground := Ground.phase }, { on := 3, ground := Ground.phase }, { on := 4, ground := Ground.phase }, { on := 5, ground := Ground.phase }, { on := 6, ground := Ground.phase }, { on := 7, ground := Ground.phase }, { on := 8, ground := Ground.phase }, { on := 9, ground := Ground.phase }], guard := none }) rfl rfl (fun K hK => ?_) ?_
            · clear hHeld
              obtain ⟨d0, d1, d2, d3, e0, e1, e2, e3⟩ := box_cells HK4.out
              have nk : w.heap.size ≠ kx := by have := HSZ.out; have := HB0.out.size; omega
              go_simp
              clear d0 d1 d2 d3 e0 e1 e2 e3
              refine hK.out _ _ (by first | exact q0 | exact cell_other (cell_other (cell_other (cell_other q0 nk) nk) nk) nk) (fun hHeld => ?_)
              clear hK K
              try simp only [List.setIfInBounds_toArray, List.set_cons_zero, List.set_cons_succ]
              refine wpAnyH_done (by kernel_rfl) ?_ _
              clear hHeld
              have hW0 : W.heap.size ≤ V0.heap.size := HB0.out.size
              have HFIN : Hid (TB (set4 V4 kx (.slice (some ⟨vb, 0, none⟩) 1 1) (.slice (some ⟨gb, 0, none⟩) m m) (.slice (some ⟨gf, 0, none⟩) m m) nilS) W.heap.size kx m (.slice (some ⟨vb, 0, none⟩) 1 1) gb gf nilS [(s : Int)] (List.replicate m (-1)) (List.replicate m (-1)) ∧ Below W.heap.size W (set4 V4 kx (.slice (some ⟨vb, 0, none⟩) 1 1) (.slice (some ⟨gb, 0, none⟩) m m) (.slice (some ⟨gf, 0, none⟩) m m) nilS) ∧ W.heap.size ≤ kx) := by
                refine ⟨⟨set_box35 HK4.out, ?_, ?_, ?_, by omega, by simp [Value.ownBlock]; omega, by simp [Value.ownBlock]; omega⟩, below_set4 HB4.out (by omega) _ _ _ _, by omega⟩
                · exact IOwns.base (row_set4 HO4.out (by simp [Value.ownBlock]; omega) _ _ _ _) (by omega)
                · exact (irow_set4 HG4.out (by omega) _ _ _ _).base (by omega)
                · exact (irow_set4 HF4.out (by omega) _ _ _ _).base (by omega)
              go_wp2_with fail
              go_meet
              exact ⟨kx, _, gb, gf, 1, rfl, HFIN.out⟩
            exact AllReadyH.nil
          exact AllReadyH.nil
        refine ready_cons ({ dst := some 5, op := Op.alloc 35, type := 0, pos := "ref.go:20", after := #[], guard := none }) rfl rfl (fun K hK => ?_) ?_
        · clear hHeld
          go_simp
          obtain ⟨V3, hV⟩ : ∃ V, V = V2.alloc (.cells #[nilS, nilS, nilS, nilS] 35) := ⟨_, rfl⟩
          have hb2 : Below V2.heap.size V2 V3 := by rw [hV]; go_grown
          have HK3 : Hid (V3.ownsRow 0 35 4 (.slice (some ⟨V2.heap.size, 0, none⟩) 1 1) 1 [nilS, nilS, nilS, nilS]) := by show World.ownsRow _ _ _ _ _ _ _; rw [hV]; exact box35 _ _ _ _ _
          obtain ⟨kx, hkx⟩ : ∃ kx, V2.heap.size = kx := ⟨_, rfl⟩
          have rK : V2.heap.size ≤ kx ∧ kx < V3.heap.size := by have h0 := (World.ownsRow.lt HK3.out V2.heap.size rfl).2; omega
          rw [← hV]
          have HB3 := hide (below_step HB2.out hb2)
          have S3 := hb2.size
          have HG3 := hide (HG2.out.later hb2)
          have HO3 := hide (HO2.out.later hb2)
          clear hb2 q0
          have q0 := (HA.out.later HB3.out).1
          rw [hkx] at HK3 ⊢
          clear hV hkx
          refine hK.out _ _ (by first | exact q0 | exact cell_other (cell_other (cell_other (cell_other q0 nk) nk) nk) nk) (fun hHeld => ?_)
          clear hK K
          try simp only [List.setIfInBounds_toArray, List.set_cons_zero, List.set_cons_succ]
          refine wpAnyH_ready (rs := [7]) (by kernel_rfl) (by simp) ?_
          refine ready_cons ({ dst := some 18, op := Op.call { callee := Callee.value (Operand.func 44), args := #[Operand.tmp 17, Operand.const (Value.int IntKind.i64 (-1))], argTypes := #[3, 3] }, type := 33, pos := "ref.go:20", after := #[{ on := 6, ground := Ground.data }, { on := 4, ground := Ground.chain }], guard := none }) rfl rfl (fun K hK => ?_) ?_
          · clear hHeld
            go_simp
            refine (BL.out V3).mono ?_
            rintro e V4 ⟨gf, rfl, hrow, hb2⟩
            have rF := hrow.lt
            have HF4 := hide hrow
            clear hrow
            have HB4 := hide (below_step HB3.out hb2)
            have S4 := hb2.size
            have HG4 := hide (HG3.out.later hb2)
            have HO4 := hide (HO3.out.later hb2)
            have HK4 := hide (box_later HK3.out hb2)
            clear hb2 q0
            have q0 := (HA.out.later HB4.out).1
            refine hK.out _ _ (by first | exact q0 | exact cell_other (cell_other (cell_other (cell_other q0 nk) nk) nk) nk) (fun hHeld => ?_)
            clear hK K
            try simp only [List.setIfInBounds_toArray, List.set_cons_zero, List.set_cons_succ]
            refine wpAnyH_take (i := 8) (v := ?v10) rfl (by kernel_rfl) (by kernel_rfl) (by kernel_rfl) (fun _ _ _ h => h) (Or.inl ⟨by rfl, ?hy10⟩) (by assumption) ?rest10
            case hy10 => (intro w hSw; (try dsimp only at hSw); go_simp; try with_reducible rfl)
            try simp only [Act.put, List.setIfInBounds_toArray, List.set_cons_zero, List.set_cons_succ]
            refine wpAnyH_ready (rs := [10]) (by kernel_rfl) (by simp) ?_
            refine ready_cons ({ dst := none, op := Op.store 35 (Operand.tmp 5) (Operand.tmp 19), type := 0, pos := "ref.go:20", after := #[{ on := 9, ground := Ground.data }, { on := 8, ground := Ground.data }, { on := 7, ground := Ground.chain }, { on := 0, ground := Ground.phase }, { on := 1, ground := Ground.phase }, { on := 2, ground := Ground.phase }, { on := 3, ground := Ground.phase }, { on := 4, ground := Ground.phase }, { on := 5, ground := Ground.phase }, { on := 6, ground := Ground.phase }, { on := 7, ground := Ground.phase }, { on := 8, ground := Ground.phase }, { on := 9, ground := Ground.phase }], guard := none }) rfl rfl (fun K hK => ?_) ?_
            · clear hHeld
              obtain ⟨d0, d1, d2, d3, e0, e1, e2, e3⟩ := box_cells HK4.out
              have nk : w.heap.size ≠ kx := by have := HSZ.out; have := HB0.out.size; omega
              go_simp
              clear d0 d1 d2 d3 e0 e1 e2 e3
              refine hK.out _ _ (by first | exact q0 | exact cell_other (cell_other (cell_other (cell_other q0 nk) nk) nk) nk) (fun hHeld => ?_)
              clear hK K
              try simp only [List.setIfInBounds_toArray, List.set_cons_zero, List.set_cons_succ]
              refine wpAnyH_done (by kernel_rfl) ?_ _
              clear hHeld
              have hW0 : W.heap.size ≤ V0.heap.size := HB0.out.size
              have HFIN : Hid (TB (set4 V4 kx (.slice (some ⟨vb, 0, none⟩) 1 1) (.slice (some ⟨gb, 0, none⟩) m m) (.slice (some ⟨gf, 0, none⟩) m m) nilS) W.heap.size kx m (.slice (some ⟨vb, 0, none⟩) 1 1) gb gf nilS [(s : Int)] (List.replicate m (-1)) (List.replicate m (-1)) ∧ Below W.heap.size W (set4 V4 kx (.slice (some ⟨vb, 0, none⟩) 1 1) (.slice (some ⟨gb, 0, none⟩) m m) (.slice (some ⟨gf, 0, none⟩) m m) nilS) ∧ W.heap.size ≤ kx) := by
                refine ⟨⟨set_box35 HK4.out, ?_, ?_, ?_, by omega, by simp [Value.ownBlock]; omega, by simp [Value.ownBlock]; omega⟩, below_set4 HB4.out (by omega) _ _ _ _, by omega⟩
                · exact IOwns.base (row_set4 HO4.out (by simp [Value.ownBlock]; omega) _ _ _ _) (by omega)
                · exact (irow_set4 HG4.out (by omega) _ _ _ _).base (by omega)
                · exact (irow_set4 HF4.out (by omega) _ _ _ _).base (by omega)
              go_wp2_with fail
              go_meet
              exact ⟨kx, _, gb, gf, 1, rfl, HFIN.out⟩
            exact AllReadyH.nil
          exact AllReadyH.nil
        exact AllReadyH.nil
      refine ready_cons ({ dst := some 18, op := Op.call { callee := Callee.value (Operand.func 44), args := #[Operand.tmp 17, Operand.const (Value.int IntKind.i64 (-1))], argTypes := #[3, 3] }, type := 33, pos := "ref.go:20", after := #[{ on := 6, ground := Ground.data }, { on := 4, ground := Ground.chain }], guard := none }) rfl rfl (fun K hK => ?_) ?_
      · clear hHeld
        go_simp
        refine (BL.out V1).mono ?_
        rintro e V2 ⟨gf, rfl, hrow, hb2⟩
        have rF := hrow.lt
        have HF2 := hide hrow
        clear hrow
        have HB2 := hide (below_step HB1.out hb2)
        have S2 := hb2.size
        have HG2 := hide (HG1.out.later hb2)
        clear hb2 q0
        have q0 := (HA.out.later HB2.out).1
        refine hK.out _ _ (by first | exact q0 | exact cell_other (cell_other (cell_other (cell_other q0 nk) nk) nk) nk) (fun hHeld => ?_)
        clear hK K
        try simp only [List.setIfInBounds_toArray, List.set_cons_zero, List.set_cons_succ]
        refine wpAnyH_ready (rs := [1, 9]) (by kernel_rfl) (by simp) ?_
        refine ready_cons ({ dst := some 12, op := Op.buildSlice 33 1 #[(0, Operand.tmp 11)], type := 33, pos := "ref.go:20", after := #[{ on := 0, ground := Ground.data }], guard := none }) rfl rfl (fun K hK => ?_) ?_
        · clear hHeld
          go_simp
          obtain ⟨V3, hV⟩ : ∃ V, V = V2.alloc (.cells #[.int .i64 s] 3) := ⟨_, rfl⟩
          have hb2 : Below V2.heap.size V2 V3 := by rw [hV]; go_grown
          have HO3 : Hid (IOwns V3 V2.heap.size (.slice (some ⟨V2.heap.size, 0, none⟩) 1 1) [(s : Int)]) := by show IOwns _ _ _ _; rw [hV]; exact World.ownsRow_lit _ #[.int .i64 s] 1 (Nat.le_refl _) (by unfold maxLen; omega) rfl
          obtain ⟨vb, hvb⟩ : ∃ vb, V2.heap.size = vb := ⟨_, rfl⟩
          have rO : V2.heap.size ≤ vb ∧ vb < V3.heap.size := by have h0 := (World.ownsRow.lt HO3.out V2.heap.size rfl).2; omega
          rw [← hV]
          have HB3 := hide (below_step HB2.out hb2)
          have S3 := hb2.size
          have HG3 := hide (HG2.out.later hb2)
          have HF3 := hide (HF2.out.later hb2)
          clear hb2 q0
          have q0 := (HA.out.later HB3.out).1
          rw [show (Value.slice (some ⟨V2.heap.size, 0, none⟩) 1 1) = .slice (some ⟨vb, 0, none⟩) 1 1 by rw [hvb]] at HO3
          rw [hvb]
          clear hV hvb
          refine hK.out _ _ (by first | exact q0 | exact cell_other (cell_other (cell_other (cell_other q0 nk) nk) nk) nk) (fun hHeld => ?_)
          clear hK K
          try simp only [List.setIfInBounds_toArray, List.set_cons_zero, List.set_cons_succ]
          refine wpAnyH_take (i := 8) (v := ?v11) rfl (by kernel_rfl) (by kernel_rfl) (by kernel_rfl) (fun _ _ _ h => h) (Or.inl ⟨by rfl, ?hy11⟩) (by assumption) ?rest11
          case hy11 => (intro w hSw; (try dsimp only at hSw); go_simp; try with_reducible rfl)
          try simp only [Act.put, List.setIfInBounds_toArray, List.set_cons_zero, List.set_cons_succ]
          refine wpAnyH_ready (rs := [9]) (by kernel_rfl) (by simp) ?_
          refine ready_cons ({ dst := some 5, op := Op.alloc 35, type := 0, pos := "ref.go:20", after := #[], guard := none }) rfl rfl (fun K hK => ?_) ?_
          · clear hHeld
            go_simp
            obtain ⟨V4, hV⟩ : ∃ V, V = V3.alloc (.cells #[nilS, nilS, nilS, nilS] 35) := ⟨_, rfl⟩
            have hb2 : Below V3.heap.size V3 V4 := by rw [hV]; go_grown
            have HK4 : Hid (V4.ownsRow 0 35 4 (.slice (some ⟨V3.heap.size, 0, none⟩) 1 1) 1 [nilS, nilS, nilS, nilS]) := by show World.ownsRow _ _ _ _ _ _ _; rw [hV]; exact box35 _ _ _ _ _
            obtain ⟨kx, hkx⟩ : ∃ kx, V3.heap.size = kx := ⟨_, rfl⟩
            have rK : V3.heap.size ≤ kx ∧ kx < V4.heap.size := by have h0 := (World.ownsRow.lt HK4.out V3.heap.size rfl).2; omega
            rw [← hV]
            have HB4 := hide (below_step HB3.out hb2)
            have S4 := hb2.size
            have HG4 := hide (HG3.out.later hb2)
            have HF4 := hide (HF3.out.later hb2)
            have HO4 := hide (HO3.out.later hb2)
            clear hb2 q0
            have q0 := (HA.out.later HB4.out).1
            rw [hkx] at HK4 ⊢
            clear hV hkx
            refine hK.out _ _ (by first | exact q0 | exact cell_other (cell_other (cell_other (cell_other q0 nk) nk) nk) nk) (fun hHeld => ?_)
            clear hK K
            try simp only [List.setIfInBounds_toArray, List.set_cons_zero, List.set_cons_succ]
            refine wpAnyH_ready (rs := [10]) (by kernel_rfl) (by simp) ?_
            refine ready_cons ({ dst := none, op := Op.store 35 (Operand.tmp 5) (Operand.tmp 19), type := 0, pos := "ref.go:20", after := #[{ on := 9, ground := Ground.data }, { on := 8, ground := Ground.data }, { on := 7, ground := Ground.chain }, { on := 0, ground := Ground.phase }, { on := 1, ground := Ground.phase }, { on := 2, ground := Ground.phase }, { on := 3, ground := Ground.phase }, { on := 4, ground := Ground.phase }, { on := 5, ground := Ground.phase }, { on := 6, ground := Ground.phase }, { on := 7, ground := Ground.phase }, { on := 8, ground := Ground.phase }, { on := 9, ground := Ground.phase }], guard := none }) rfl rfl (fun K hK => ?_) ?_
            · clear hHeld
              obtain ⟨d0, d1, d2, d3, e0, e1, e2, e3⟩ := box_cells HK4.out
              have nk : w.heap.size ≠ kx := by have := HSZ.out; have := HB0.out.size; omega
              go_simp
              clear d0 d1 d2 d3 e0 e1 e2 e3
              refine hK.out _ _ (by first | exact q0 | exact cell_other (cell_other (cell_other (cell_other q0 nk) nk) nk) nk) (fun hHeld => ?_)
              clear hK K
              try simp only [List.setIfInBounds_toArray, List.set_cons_zero, List.set_cons_succ]
              refine wpAnyH_done (by kernel_rfl) ?_ _
              clear hHeld
              have hW0 : W.heap.size ≤ V0.heap.size := HB0.out.size
              have HFIN : Hid (TB (set4 V4 kx (.slice (some ⟨vb, 0, none⟩) 1 1) (.slice (some ⟨gb, 0, none⟩) m m) (.slice (some ⟨gf, 0, none⟩) m m) nilS) W.heap.size kx m (.slice (some ⟨vb, 0, none⟩) 1 1) gb gf nilS [(s : Int)] (List.replicate m (-1)) (List.replicate m (-1)) ∧ Below W.heap.size W (set4 V4 kx (.slice (some ⟨vb, 0, none⟩) 1 1) (.slice (some ⟨gb, 0, none⟩) m m) (.slice (some ⟨gf, 0, none⟩) m m) nilS) ∧ W.heap.size ≤ kx) := by
                refine ⟨⟨set_box35 HK4.out, ?_, ?_, ?_, by omega, by simp [Value.ownBlock]; omega, by simp [Value.ownBlock]; omega⟩, below_set4 HB4.out (by omega) _ _ _ _, by omega⟩
                · exact IOwns.base (row_set4 HO4.out (by simp [Value.ownBlock]; omega) _ _ _ _) (by omega)
                · exact (irow_set4 HG4.out (by omega) _ _ _ _).base (by omega)
                · exact (irow_set4 HF4.out (by omega) _ _ _ _).base (by omega)
              go_wp2_with fail
              go_meet
              exact ⟨kx, _, gb, gf, 1, rfl, HFIN.out⟩
            exact AllReadyH.nil
          exact AllReadyH.nil
        refine ready_cons ({ dst := some 5, op := Op.alloc 35, type := 0, pos := "ref.go:20", after := #[], guard := none }) rfl rfl (fun K hK => ?_) ?_
        · clear hHeld
          go_simp
          obtain ⟨V3, hV⟩ : ∃ V, V = V2.alloc (.cells #[nilS, nilS, nilS, nilS] 35) := ⟨_, rfl⟩
          have hb2 : Below V2.heap.size V2 V3 := by rw [hV]; go_grown
          have HK3 : Hid (V3.ownsRow 0 35 4 (.slice (some ⟨V2.heap.size, 0, none⟩) 1 1) 1 [nilS, nilS, nilS, nilS]) := by show World.ownsRow _ _ _ _ _ _ _; rw [hV]; exact box35 _ _ _ _ _
          obtain ⟨kx, hkx⟩ : ∃ kx, V2.heap.size = kx := ⟨_, rfl⟩
          have rK : V2.heap.size ≤ kx ∧ kx < V3.heap.size := by have h0 := (World.ownsRow.lt HK3.out V2.heap.size rfl).2; omega
          rw [← hV]
          have HB3 := hide (below_step HB2.out hb2)
          have S3 := hb2.size
          have HG3 := hide (HG2.out.later hb2)
          have HF3 := hide (HF2.out.later hb2)
          clear hb2 q0
          have q0 := (HA.out.later HB3.out).1
          rw [hkx] at HK3 ⊢
          clear hV hkx
          refine hK.out _ _ (by first | exact q0 | exact cell_other (cell_other (cell_other (cell_other q0 nk) nk) nk) nk) (fun hHeld => ?_)
          clear hK K
          try simp only [List.setIfInBounds_toArray, List.set_cons_zero, List.set_cons_succ]
          refine wpAnyH_ready (rs := [1]) (by kernel_rfl) (by simp) ?_
          refine ready_cons ({ dst := some 12, op := Op.buildSlice 33 1 #[(0, Operand.tmp 11)], type := 33, pos := "ref.go:20", after := #[{ on := 0, ground := Ground.data }], guard := none }) rfl rfl (fun K hK => ?_) ?_
          · clear hHeld
            go_simp
            obtain ⟨V4, hV⟩ : ∃ V, V = V3.alloc (.cells #[.int .i64 s] 3) := ⟨_, rfl⟩
            have hb2 : Below V3.heap.size V3 V4 := by rw [hV]; go_grown
            have HO4 : Hid (IOwns V4 V3.heap.size (.slice (some ⟨V3.heap.size, 0, none⟩) 1 1) [(s : Int)]) := by show IOwns _ _ _ _; rw [hV]; exact World.ownsRow_lit _ #[.int .i64 s] 1 (Nat.le_refl _) (by unfold maxLen; omega) rfl
            obtain ⟨vb, hvb⟩ : ∃ vb, V3.heap.size = vb := ⟨_, rfl⟩
            have rO : V3.heap.size ≤ vb ∧ vb < V4.heap.size := by have h0 := (World.ownsRow.lt HO4.out V3.heap.size rfl).2; omega
            rw [← hV]
            have HB4 := hide (below_step HB3.out hb2)
            have S4 := hb2.size
            have HG4 := hide (HG3.out.later hb2)
            have HF4 := hide (HF3.out.later hb2)
            have HK4 := hide (box_later HK3.out hb2)
            clear hb2 q0
            have q0 := (HA.out.later HB4.out).1
            rw [show (Value.slice (some ⟨V3.heap.size, 0, none⟩) 1 1) = .slice (some ⟨vb, 0, none⟩) 1 1 by rw [hvb]] at HO4
            rw [hvb]
            clear hV hvb
            refine hK.out _ _ (by first | exact q0 | exact cell_other (cell_other (cell_other (cell_other q0 nk) nk) nk) nk) (fun hHeld => ?_)
            clear hK K
            try simp only [List.setIfInBounds_toArray, List.set_cons_zero, List.set_cons_succ]
            refine wpAnyH_take (i := 8) (v := ?v12) rfl (by kernel_rfl) (by kernel_rfl) (by kernel_rfl) (fun _ _ _ h => h) (Or.inl ⟨by rfl, ?hy12⟩) (by assumption) ?rest12
            case hy12 => (intro w hSw; (try dsimp only at hSw); go_simp; try with_reducible rfl)
            try simp only [Act.put, List.setIfInBounds_toArray, List.set_cons_zero, List.set_cons_succ]
            refine wpAnyH_ready (rs := [10]) (by kernel_rfl) (by simp) ?_
            refine ready_cons ({ dst := none, op := Op.store 35 (Operand.tmp 5) (Operand.tmp 19), type := 0, pos := "ref.go:20", after := #[{ on := 9, ground := Ground.data }, { on := 8, ground := Ground.data }, { on := 7, ground := Ground.chain }, { on := 0, ground := Ground.phase }, { on := 1, ground := Ground.phase }, { on := 2, ground := Ground.phase }, { on := 3, ground := Ground.phase }, { on := 4, ground := Ground.phase }, { on := 5, ground := Ground.phase }, { on := 6, ground := Ground.phase }, { on := 7, ground := Ground.phase }, { on := 8, ground := Ground.phase }, { on := 9, ground := Ground.phase }], guard := none }) rfl rfl (fun K hK => ?_) ?_
            · clear hHeld
              obtain ⟨d0, d1, d2, d3, e0, e1, e2, e3⟩ := box_cells HK4.out
              have nk : w.heap.size ≠ kx := by have := HSZ.out; have := HB0.out.size; omega
              go_simp
              clear d0 d1 d2 d3 e0 e1 e2 e3
              refine hK.out _ _ (by first | exact q0 | exact cell_other (cell_other (cell_other (cell_other q0 nk) nk) nk) nk) (fun hHeld => ?_)
              clear hK K
              try simp only [List.setIfInBounds_toArray, List.set_cons_zero, List.set_cons_succ]
              refine wpAnyH_done (by kernel_rfl) ?_ _
              clear hHeld
              have hW0 : W.heap.size ≤ V0.heap.size := HB0.out.size
              have HFIN : Hid (TB (set4 V4 kx (.slice (some ⟨vb, 0, none⟩) 1 1) (.slice (some ⟨gb, 0, none⟩) m m) (.slice (some ⟨gf, 0, none⟩) m m) nilS) W.heap.size kx m (.slice (some ⟨vb, 0, none⟩) 1 1) gb gf nilS [(s : Int)] (List.replicate m (-1)) (List.replicate m (-1)) ∧ Below W.heap.size W (set4 V4 kx (.slice (some ⟨vb, 0, none⟩) 1 1) (.slice (some ⟨gb, 0, none⟩) m m) (.slice (some ⟨gf, 0, none⟩) m m) nilS) ∧ W.heap.size ≤ kx) := by
                refine ⟨⟨set_box35 HK4.out, ?_, ?_, ?_, by omega, by simp [Value.ownBlock]; omega, by simp [Value.ownBlock]; omega⟩, below_set4 HB4.out (by omega) _ _ _ _, by omega⟩
                · exact IOwns.base (row_set4 HO4.out (by simp [Value.ownBlock]; omega) _ _ _ _) (by omega)
                · exact (irow_set4 HG4.out (by omega) _ _ _ _).base (by omega)
                · exact (irow_set4 HF4.out (by omega) _ _ _ _).base (by omega)
              go_wp2_with fail
              go_meet
              exact ⟨kx, _, gb, gf, 1, rfl, HFIN.out⟩
            exact AllReadyH.nil
          exact AllReadyH.nil
        exact AllReadyH.nil
      refine ready_cons ({ dst := some 5, op := Op.alloc 35, type := 0, pos := "ref.go:20", after := #[], guard := none }) rfl rfl (fun K hK => ?_) ?_
      · clear hHeld
        go_simp
        obtain ⟨V2, hV⟩ : ∃ V, V = V1.alloc (.cells #[nilS, nilS, nilS, nilS] 35) := ⟨_, rfl⟩
        have hb2 : Below V1.heap.size V1 V2 := by rw [hV]; go_grown
        have HK2 : Hid (V2.ownsRow 0 35 4 (.slice (some ⟨V1.heap.size, 0, none⟩) 1 1) 1 [nilS, nilS, nilS, nilS]) := by show World.ownsRow _ _ _ _ _ _ _; rw [hV]; exact box35 _ _ _ _ _
        obtain ⟨kx, hkx⟩ : ∃ kx, V1.heap.size = kx := ⟨_, rfl⟩
        have rK : V1.heap.size ≤ kx ∧ kx < V2.heap.size := by have h0 := (World.ownsRow.lt HK2.out V1.heap.size rfl).2; omega
        rw [← hV]
        have HB2 := hide (below_step HB1.out hb2)
        have S2 := hb2.size
        have HG2 := hide (HG1.out.later hb2)
        clear hb2 q0
        have q0 := (HA.out.later HB2.out).1
        rw [hkx] at HK2 ⊢
        clear hV hkx
        refine hK.out _ _ (by first | exact q0 | exact cell_other (cell_other (cell_other (cell_other q0 nk) nk) nk) nk) (fun hHeld => ?_)
        clear hK K
        try simp only [List.setIfInBounds_toArray, List.set_cons_zero, List.set_cons_succ]
        refine wpAnyH_ready (rs := [1, 7]) (by kernel_rfl) (by simp) ?_
        refine ready_cons ({ dst := some 12, op := Op.buildSlice 33 1 #[(0, Operand.tmp 11)], type := 33, pos := "ref.go:20", after := #[{ on := 0, ground := Ground.data }], guard := none }) rfl rfl (fun K hK => ?_) ?_
        · clear hHeld
          go_simp
          obtain ⟨V3, hV⟩ : ∃ V, V = V2.alloc (.cells #[.int .i64 s] 3) := ⟨_, rfl⟩
          have hb2 : Below V2.heap.size V2 V3 := by rw [hV]; go_grown
          have HO3 : Hid (IOwns V3 V2.heap.size (.slice (some ⟨V2.heap.size, 0, none⟩) 1 1) [(s : Int)]) := by show IOwns _ _ _ _; rw [hV]; exact World.ownsRow_lit _ #[.int .i64 s] 1 (Nat.le_refl _) (by unfold maxLen; omega) rfl
          obtain ⟨vb, hvb⟩ : ∃ vb, V2.heap.size = vb := ⟨_, rfl⟩
          have rO : V2.heap.size ≤ vb ∧ vb < V3.heap.size := by have h0 := (World.ownsRow.lt HO3.out V2.heap.size rfl).2; omega
          rw [← hV]
          have HB3 := hide (below_step HB2.out hb2)
          have S3 := hb2.size
          have HG3 := hide (HG2.out.later hb2)
          have HK3 := hide (box_later HK2.out hb2)
          clear hb2 q0
          have q0 := (HA.out.later HB3.out).1
          rw [show (Value.slice (some ⟨V2.heap.size, 0, none⟩) 1 1) = .slice (some ⟨vb, 0, none⟩) 1 1 by rw [hvb]] at HO3
          rw [hvb]
          clear hV hvb
          refine hK.out _ _ (by first | exact q0 | exact cell_other (cell_other (cell_other (cell_other q0 nk) nk) nk) nk) (fun hHeld => ?_)
          clear hK K
          try simp only [List.setIfInBounds_toArray, List.set_cons_zero, List.set_cons_succ]
          refine wpAnyH_ready (rs := [7]) (by kernel_rfl) (by simp) ?_
          refine ready_cons ({ dst := some 18, op := Op.call { callee := Callee.value (Operand.func 44), args := #[Operand.tmp 17, Operand.const (Value.int IntKind.i64 (-1))], argTypes := #[3, 3] }, type := 33, pos := "ref.go:20", after := #[{ on := 6, ground := Ground.data }, { on := 4, ground := Ground.chain }], guard := none }) rfl rfl (fun K hK => ?_) ?_
          · clear hHeld
            go_simp
            refine (BL.out V3).mono ?_
            rintro e V4 ⟨gf, rfl, hrow, hb2⟩
            have rF := hrow.lt
            have HF4 := hide hrow
            clear hrow
            have HB4 := hide (below_step HB3.out hb2)
            have S4 := hb2.size
            have HG4 := hide (HG3.out.later hb2)
            have HK4 := hide (box_later HK3.out hb2)
            have HO4 := hide (HO3.out.later hb2)
            clear hb2 q0
            have q0 := (HA.out.later HB4.out).1
            refine hK.out _ _ (by first | exact q0 | exact cell_other (cell_other (cell_other (cell_other q0 nk) nk) nk) nk) (fun hHeld => ?_)
            clear hK K
            try simp only [List.setIfInBounds_toArray, List.set_cons_zero, List.set_cons_succ]
            refine wpAnyH_take (i := 8) (v := ?v13) rfl (by kernel_rfl) (by kernel_rfl) (by kernel_rfl) (fun _ _ _ h => h) (Or.inl ⟨by rfl, ?hy13⟩) (by assumption) ?rest13
            case hy13 => (intro w hSw; (try dsimp only at hSw); go_simp; try with_reducible rfl)
            try simp only [Act.put, List.setIfInBounds_toArray, List.set_cons_zero, List.set_cons_succ]
            refine wpAnyH_ready (rs := [10]) (by kernel_rfl) (by simp) ?_
            refine ready_cons ({ dst := none, op := Op.store 35 (Operand.tmp 5) (Operand.tmp 19), type := 0, pos := "ref.go:20", after := #[{ on := 9, ground := Ground.data }, { on := 8, ground := Ground.data }, { on := 7, ground := Ground.chain }, { on := 0, ground := Ground.phase }, { on := 1, ground := Ground.phase }, { on := 2, ground := Ground.phase }, { on := 3, ground := Ground.phase }, { on := 4, ground := Ground.phase }, { on := 5, ground := Ground.phase }, { on := 6, ground := Ground.phase }, { on := 7, ground := Ground.phase }, { on := 8, ground := Ground.phase }, { on := 9, ground := Ground.phase }], guard := none }) rfl rfl (fun K hK => ?_) ?_
            · clear hHeld
              obtain ⟨d0, d1, d2, d3, e0, e1, e2, e3⟩ := box_cells HK4.out
              have nk : w.heap.size ≠ kx := by have := HSZ.out; have := HB0.out.size; omega
              go_simp
              clear d0 d1 d2 d3 e0 e1 e2 e3
              refine hK.out _ _ (by first | exact q0 | exact cell_other (cell_other (cell_other (cell_other q0 nk) nk) nk) nk) (fun hHeld => ?_)
              clear hK K
              try simp only [List.setIfInBounds_toArray, List.set_cons_zero, List.set_cons_succ]
              refine wpAnyH_done (by kernel_rfl) ?_ _
              clear hHeld
              have hW0 : W.heap.size ≤ V0.heap.size := HB0.out.size
              have HFIN : Hid (TB (set4 V4 kx (.slice (some ⟨vb, 0, none⟩) 1 1) (.slice (some ⟨gb, 0, none⟩) m m) (.slice (some ⟨gf, 0, none⟩) m m) nilS) W.heap.size kx m (.slice (some ⟨vb, 0, none⟩) 1 1) gb gf nilS [(s : Int)] (List.replicate m (-1)) (List.replicate m (-1)) ∧ Below W.heap.size W (set4 V4 kx (.slice (some ⟨vb, 0, none⟩) 1 1) (.slice (some ⟨gb, 0, none⟩) m m) (.slice (some ⟨gf, 0, none⟩) m m) nilS) ∧ W.heap.size ≤ kx) := by
                refine ⟨⟨set_box35 HK4.out, ?_, ?_, ?_, by omega, by simp [Value.ownBlock]; omega, by simp [Value.ownBlock]; omega⟩, below_set4 HB4.out (by omega) _ _ _ _, by omega⟩
                · exact IOwns.base (row_set4 HO4.out (by simp [Value.ownBlock]; omega) _ _ _ _) (by omega)
                · exact (irow_set4 HG4.out (by omega) _ _ _ _).base (by omega)
                · exact (irow_set4 HF4.out (by omega) _ _ _ _).base (by omega)
              go_wp2_with fail
              go_meet
              exact ⟨kx, _, gb, gf, 1, rfl, HFIN.out⟩
            exact AllReadyH.nil
          exact AllReadyH.nil
        refine ready_cons ({ dst := some 18, op := Op.call { callee := Callee.value (Operand.func 44), args := #[Operand.tmp 17, Operand.const (Value.int IntKind.i64 (-1))], argTypes := #[3, 3] }, type := 33, pos := "ref.go:20", after := #[{ on := 6, ground := Ground.data }, { on := 4, ground := Ground.chain }], guard := none }) rfl rfl (fun K hK => ?_) ?_
        · clear hHeld
          go_simp
          refine (BL.out V2).mono ?_
          rintro e V3 ⟨gf, rfl, hrow, hb2⟩
          have rF := hrow.lt
          have HF3 := hide hrow
          clear hrow
          have HB3 := hide (below_step HB2.out hb2)
          have S3 := hb2.size
          have HG3 := hide (HG2.out.later hb2)
          have HK3 := hide (box_later HK2.out hb2)
          clear hb2 q0
          have q0 := (HA.out.later HB3.out).1
          refine hK.out _ _ (by first | exact q0 | exact cell_other (cell_other (cell_other (cell_other q0 nk) nk) nk) nk) (fun hHeld => ?_)
          clear hK K
          try simp only [List.setIfInBounds_toArray, List.set_cons_zero, List.set_cons_succ]
          refine wpAnyH_ready (rs := [1]) (by kernel_rfl) (by simp) ?_
          refine ready_cons ({ dst := some 12, op := Op.buildSlice 33 1 #[(0, Operand.tmp 11)], type := 33, pos := "ref.go:20", after := #[{ on := 0, ground := Ground.data }], guard := none }) rfl rfl (fun K hK => ?_) ?_
          · clear hHeld
            go_simp
            obtain ⟨V4, hV⟩ : ∃ V, V = V3.alloc (.cells #[.int .i64 s] 3) := ⟨_, rfl⟩
            have hb2 : Below V3.heap.size V3 V4 := by rw [hV]; go_grown
            have HO4 : Hid (IOwns V4 V3.heap.size (.slice (some ⟨V3.heap.size, 0, none⟩) 1 1) [(s : Int)]) := by show IOwns _ _ _ _; rw [hV]; exact World.ownsRow_lit _ #[.int .i64 s] 1 (Nat.le_refl _) (by unfold maxLen; omega) rfl
            obtain ⟨vb, hvb⟩ : ∃ vb, V3.heap.size = vb := ⟨_, rfl⟩
            have rO : V3.heap.size ≤ vb ∧ vb < V4.heap.size := by have h0 := (World.ownsRow.lt HO4.out V3.heap.size rfl).2; omega
            rw [← hV]
            have HB4 := hide (below_step HB3.out hb2)
            have S4 := hb2.size
            have HG4 := hide (HG3.out.later hb2)
            have HK4 := hide (box_later HK3.out hb2)
            have HF4 := hide (HF3.out.later hb2)
            clear hb2 q0
            have q0 := (HA.out.later HB4.out).1
            rw [show (Value.slice (some ⟨V3.heap.size, 0, none⟩) 1 1) = .slice (some ⟨vb, 0, none⟩) 1 1 by rw [hvb]] at HO4
            rw [hvb]
            clear hV hvb
            refine hK.out _ _ (by first | exact q0 | exact cell_other (cell_other (cell_other (cell_other q0 nk) nk) nk) nk) (fun hHeld => ?_)
            clear hK K
            try simp only [List.setIfInBounds_toArray, List.set_cons_zero, List.set_cons_succ]
            refine wpAnyH_take (i := 8) (v := ?v14) rfl (by kernel_rfl) (by kernel_rfl) (by kernel_rfl) (fun _ _ _ h => h) (Or.inl ⟨by rfl, ?hy14⟩) (by assumption) ?rest14
            case hy14 => (intro w hSw; (try dsimp only at hSw); go_simp; try with_reducible rfl)
            try simp only [Act.put, List.setIfInBounds_toArray, List.set_cons_zero, List.set_cons_succ]
            refine wpAnyH_ready (rs := [10]) (by kernel_rfl) (by simp) ?_
            refine ready_cons ({ dst := none, op := Op.store 35 (Operand.tmp 5) (Operand.tmp 19), type := 0, pos := "ref.go:20", after := #[{ on := 9, ground := Ground.data }, { on := 8, ground := Ground.data }, { on := 7, ground := Ground.chain }, { on := 0, ground := Ground.phase }, { on := 1, ground := Ground.phase }, { on := 2, ground := Ground.phase }, { on := 3, ground := Ground.phase }, { on := 4, ground := Ground.phase }, { on := 5, ground := Ground.phase }, { on := 6, ground := Ground.phase }, { on := 7, ground := Ground.phase }, { on := 8, ground := Ground.phase }, { on := 9, ground := Ground.phase }], guard := none }) rfl rfl (fun K hK => ?_) ?_
            · clear hHeld
              obtain ⟨d0, d1, d2, d3, e0, e1, e2, e3⟩ := box_cells HK4.out
              have nk : w.heap.size ≠ kx := by have := HSZ.out; have := HB0.out.size; omega
              go_simp
              clear d0 d1 d2 d3 e0 e1 e2 e3
              refine hK.out _ _ (by first | exact q0 | exact cell_other (cell_other (cell_other (cell_other q0 nk) nk) nk) nk) (fun hHeld => ?_)
              clear hK K
              try simp only [List.setIfInBounds_toArray, List.set_cons_zero, List.set_cons_succ]
              refine wpAnyH_done (by kernel_rfl) ?_ _
              clear hHeld
              have hW0 : W.heap.size ≤ V0.heap.size := HB0.out.size
              have HFIN : Hid (TB (set4 V4 kx (.slice (some ⟨vb, 0, none⟩) 1 1) (.slice (some ⟨gb, 0, none⟩) m m) (.slice (some ⟨gf, 0, none⟩) m m) nilS) W.heap.size kx m (.slice (some ⟨vb, 0, none⟩) 1 1) gb gf nilS [(s : Int)] (List.replicate m (-1)) (List.replicate m (-1)) ∧ Below W.heap.size W (set4 V4 kx (.slice (some ⟨vb, 0, none⟩) 1 1) (.slice (some ⟨gb, 0, none⟩) m m) (.slice (some ⟨gf, 0, none⟩) m m) nilS) ∧ W.heap.size ≤ kx) := by
                refine ⟨⟨set_box35 HK4.out, ?_, ?_, ?_, by omega, by simp [Value.ownBlock]; omega, by simp [Value.ownBlock]; omega⟩, below_set4 HB4.out (by omega) _ _ _ _, by omega⟩
                · exact IOwns.base (row_set4 HO4.out (by simp [Value.ownBlock]; omega) _ _ _ _) (by omega)
                · exact (irow_set4 HG4.out (by omega) _ _ _ _).base (by omega)
                · exact (irow_set4 HF4.out (by omega) _ _ _ _).base (by omega)
              go_wp2_with fail
              go_meet
              exact ⟨kx, _, gb, gf, 1, rfl, HFIN.out⟩
            exact AllReadyH.nil
          exact AllReadyH.nil
        exact AllReadyH.nil
      exact AllReadyH.nil
    refine ready_cons ({ dst := some 5, op := Op.alloc 35, type := 0, pos := "ref.go:20", after := #[], guard := none }) rfl rfl (fun K hK => ?_) ?_
    · clear hHeld
      go_simp
      obtain ⟨V1, hV⟩ : ∃ V, V = V0.alloc (.cells #[nilS, nilS, nilS, nilS] 35) := ⟨_, rfl⟩
      have hb2 : Below V0.heap.size V0 V1 := by rw [hV]; go_grown
      have HK1 : Hid (V1.ownsRow 0 35 4 (.slice (some ⟨V0.heap.size, 0, none⟩) 1 1) 1 [nilS, nilS, nilS, nilS]) := by show World.ownsRow _ _ _ _ _ _ _; rw [hV]; exact box35 _ _ _ _ _
      obtain ⟨kx, hkx⟩ : ∃ kx, V0.heap.size = kx := ⟨_, rfl⟩
      have rK : V0.heap.size ≤ kx ∧ kx < V1.heap.size := by have h0 := (World.ownsRow.lt HK1.out V0.heap.size rfl).2; omega
      rw [← hV]
      have HB1 := hide (below_step HB0.out hb2)
      have S1 := hb2.size
      clear hb2 q0
      have q0 := (HA.out.later HB1.out).1
      rw [hkx] at HK1 ⊢
      clear hV hkx
      refine hK.out _ _ (by first | exact q0 | exact cell_other (cell_other (cell_other (cell_other q0 nk) nk) nk) nk) (fun hHeld => ?_)
      clear hK K
      try simp only [List.setIfInBounds_toArray, List.set_cons_zero, List.set_cons_succ]
      refine wpAnyH_ready (rs := [1, 4]) (by kernel_rfl) (by simp) ?_
      refine ready_cons ({ dst := some 12, op := Op.buildSlice 33 1 #[(0, Operand.tmp 11)], type := 33, pos := "ref.go:20", after := #[{ on := 0, ground := Ground.data }], guard := none }) rfl rfl (fun K hK => ?_) ?_
      · clear hHeld
        go_simp
        obtain ⟨V2, hV⟩ : ∃ V, V = V1.alloc (.cells #[.int .i64 s] 3) := ⟨_, rfl⟩
        have hb2 : Below V1.heap.size V1 V2 := by rw [hV]; go_grown
        have HO2 : Hid (IOwns V2 V1.heap.size (.slice (some ⟨V1.heap.size, 0, none⟩) 1 1) [(s : Int)]) := by show IOwns _ _ _ _; rw [hV]; exact World.ownsRow_lit _ #[.int .i64 s] 1 (Nat.le_refl _) (by unfold maxLen; omega) rfl
        obtain ⟨vb, hvb⟩ : ∃ vb, V1.heap.size = vb := ⟨_, rfl⟩
        have rO : V1.heap.size ≤ vb ∧ vb < V2.heap.size := by have h0 := (World.ownsRow.lt HO2.out V1.heap.size rfl).2; omega
        rw [← hV]
        have HB2 := hide (below_step HB1.out hb2)
        have S2 := hb2.size
        have HK2 := hide (box_later HK1.out hb2)
        clear hb2 q0
        have q0 := (HA.out.later HB2.out).1
        rw [show (Value.slice (some ⟨V1.heap.size, 0, none⟩) 1 1) = .slice (some ⟨vb, 0, none⟩) 1 1 by rw [hvb]] at HO2
        rw [hvb]
        clear hV hvb
        refine hK.out _ _ (by first | exact q0 | exact cell_other (cell_other (cell_other (cell_other q0 nk) nk) nk) nk) (fun hHeld => ?_)
        clear hK K
        try simp only [List.setIfInBounds_toArray, List.set_cons_zero, List.set_cons_succ]
        refine wpAnyH_ready (rs := [4]) (by kernel_rfl) (by simp) ?_
        refine ready_cons ({ dst := some 15, op := Op.call { callee := Callee.value (Operand.func 44), args := #[Operand.tmp 14, Operand.const (Value.int IntKind.i64 (-1))], argTypes := #[3, 3] }, type := 33, pos := "ref.go:20", after := #[{ on := 3, ground := Ground.data }], guard := none }) rfl rfl (fun K hK => ?_) ?_
        · clear hHeld
          go_simp
          refine (BL.out V2).mono ?_
          rintro e V3 ⟨gb, rfl, hrow, hb2⟩
          have rG := hrow.lt
          have HG3 := hide hrow
          clear hrow
          have HB3 := hide (below_step HB2.out hb2)
          have S3 := hb2.size
          have HK3 := hide (box_later HK2.out hb2)
          have HO3 := hide (HO2.out.later hb2)
          clear hb2 q0
          have q0 := (HA.out.later HB3.out).1
          refine hK.out _ _ (by first | exact q0 | exact cell_other (cell_other (cell_other (cell_other q0 nk) nk) nk) nk) (fun hHeld => ?_)
          clear hK K
          try simp only [List.setIfInBounds_toArray, List.set_cons_zero, List.set_cons_succ]
          refine wpAnyH_ready (rs := [7]) (by kernel_rfl) (by simp) ?_
          refine ready_cons ({ dst := some 18, op := Op.call { callee := Callee.value (Operand.func 44), args := #[Operand.tmp 17, Operand.const (Value.int IntKind.i64 (-1))], argTypes := #[3, 3] }, type := 33, pos := "ref.go:20", after := #[{ on := 6, ground := Ground.data }, { on := 4, ground := Ground.chain }], guard := none }) rfl rfl (fun K hK => ?_) ?_
          · clear hHeld
            go_simp
            refine (BL.out V3).mono ?_
            rintro e V4 ⟨gf, rfl, hrow, hb2⟩
            have rF := hrow.lt
            have HF4 := hide hrow
            clear hrow
            have HB4 := hide (below_step HB3.out hb2)
            have S4 := hb2.size
            have HK4 := hide (box_later HK3.out hb2)
            have HO4 := hide (HO3.out.later hb2)
            have HG4 := hide (HG3.out.later hb2)
            clear hb2 q0
            have q0 := (HA.out.later HB4.out).1
            refine hK.out _ _ (by first | exact q0 | exact cell_other (cell_other (cell_other (cell_other q0 nk) nk) nk) nk) (fun hHeld => ?_)
            clear hK K
            try simp only [List.setIfInBounds_toArray, List.set_cons_zero, List.set_cons_succ]
            refine wpAnyH_take (i := 8) (v := ?v15) rfl (by kernel_rfl) (by kernel_rfl) (by kernel_rfl) (fun _ _ _ h => h) (Or.inl ⟨by rfl, ?hy15⟩) (by assumption) ?rest15
            case hy15 => (intro w hSw; (try dsimp only at hSw); go_simp; try with_reducible rfl)
            try simp only [Act.put, List.setIfInBounds_toArray, List.set_cons_zero, List.set_cons_succ]
            refine wpAnyH_ready (rs := [10]) (by kernel_rfl) (by simp) ?_
            refine ready_cons ({ dst := none, op := Op.store 35 (Operand.tmp 5) (Operand.tmp 19), type := 0, pos := "ref.go:20", after := #[{ on := 9, ground := Ground.data }, { on := 8, ground := Ground.data }, { on := 7, ground := Ground.chain }, { on := 0, ground := Ground.phase }, { on := 1, ground := Ground.phase }, { on := 2, ground := Ground.phase }, { on := 3, ground := Ground.phase }, { on := 4, ground := Ground.phase }, { on := 5, ground := Ground.phase }, { on := 6, ground := Ground.phase }, { on := 7, ground := Ground.phase }, { on := 8, ground := Ground.phase }, { on := 9, ground := Ground.phase }], guard := none }) rfl rfl (fun K hK => ?_) ?_
            · clear hHeld
              obtain ⟨d0, d1, d2, d3, e0, e1, e2, e3⟩ := box_cells HK4.out
              have nk : w.heap.size ≠ kx := by have := HSZ.out; have := HB0.out.size; omega
              go_simp
              clear d0 d1 d2 d3 e0 e1 e2 e3
              refine hK.out _ _ (by first | exact q0 | exact cell_other (cell_other (cell_other (cell_other q0 nk) nk) nk) nk) (fun hHeld => ?_)
              clear hK K
              try simp only [List.setIfInBounds_toArray, List.set_cons_zero, List.set_cons_succ]
              refine wpAnyH_done (by kernel_rfl) ?_ _
              clear hHeld
              have hW0 : W.heap.size ≤ V0.heap.size := HB0.out.size
              have HFIN : Hid (TB (set4 V4 kx (.slice (some ⟨vb, 0, none⟩) 1 1) (.slice (some ⟨gb, 0, none⟩) m m) (.slice (some ⟨gf, 0, none⟩) m m) nilS) W.heap.size kx m (.slice (some ⟨vb, 0, none⟩) 1 1) gb gf nilS [(s : Int)] (List.replicate m (-1)) (List.replicate m (-1)) ∧ Below W.heap.size W (set4 V4 kx (.slice (some ⟨vb, 0, none⟩) 1 1) (.slice (some ⟨gb, 0, none⟩) m m) (.slice (some ⟨gf, 0, none⟩) m m) nilS) ∧ W.heap.size ≤ kx) := by
                refine ⟨⟨set_box35 HK4.out, ?_, ?_, ?_, by omega, by simp [Value.ownBlock]; omega, by simp [Value.ownBlock]; omega⟩, below_set4 HB4.out (by omega) _ _ _ _, by omega⟩
                · exact IOwns.base (row_set4 HO4.out (by simp [Value.ownBlock]; omega) _ _ _ _) (by omega)
                · exact (irow_set4 HG4.out (by omega) _ _ _ _).base (by omega)
                · exact (irow_set4 HF4.out (by omega) _ _ _ _).base (by omega)
              go_wp2_with fail
              go_meet
              exact ⟨kx, _, gb, gf, 1, rfl, HFIN.out⟩
            exact AllReadyH.nil
          exact AllReadyH.nil
        exact AllReadyH.nil
      refine ready_cons ({ dst := some 15, op := Op.call { callee := Callee.value (Operand.func 44), args := #[Operand.tmp 14, Operand.const (Value.int IntKind.i64 (-1))], argTypes := #[3, 3] }, type := 33, pos := "ref.go:20", after := #[{ on := 3, ground := Ground.data }], guard := none }) rfl rfl (fun K hK => ?_) ?_
      · clear hHeld
        go_simp
        refine (BL.out V1).mono ?_
        rintro e V2 ⟨gb, rfl, hrow, hb2⟩
        have rG := hrow.lt
        have HG2 := hide hrow
        clear hrow
        have HB2 := hide (below_step HB1.out hb2)
        have S2 := hb2.size
        have HK2 := hide (box_later HK1.out hb2)
        clear hb2 q0
        have q0 := (HA.out.later HB2.out).1
        refine hK.out _ _ (by first | exact q0 | exact cell_other (cell_other (cell_other (cell_other q0 nk) nk) nk) nk) (fun hHeld => ?_)
        clear hK K
        try simp only [List.setIfInBounds_toArray, List.set_cons_zero, List.set_cons_succ]
        refine wpAnyH_ready (rs := [1, 7]) (by kernel_rfl) (by simp) ?_
        refine ready_cons ({ dst := some 12, op := Op.buildSlice 33 1 #[(0, Operand.tmp 11)], type := 33, pos := "ref.go:20", after := #[{ on := 0, ground := Ground.data }], guard := none }) rfl rfl (fun K hK => ?_) ?_
        · clear hHeld
          go_simp
          obtain ⟨V3, hV⟩ : ∃ V, V = V2.alloc (.cells #[.int .i64 s] 3) := ⟨_, rfl⟩
          have hb2 : Below V2.heap.size V2 V3 := by rw [hV]; go_grown
          have HO3 : Hid (IOwns V3 V2.heap.size (.slice (some ⟨V2.heap.size, 0, none⟩) 1 1) [(s : Int)]) := by show IOwns _ _ _ _; rw [hV]; exact World.ownsRow_lit _ #[.int .i64 s] 1 (Nat.le_refl _) (by unfold maxLen; omega) rfl
          obtain ⟨vb, hvb⟩ : ∃ vb, V2.heap.size = vb := ⟨_, rfl⟩
          have rO : V2.heap.size ≤ vb ∧ vb < V3.heap.size := by have h0 := (World.ownsRow.lt HO3.out V2.heap.size rfl).2; omega
          rw [← hV]
          have HB3 := hide (below_step HB2.out hb2)
          have S3 := hb2.size
          have HK3 := hide (box_later HK2.out hb2)
          have HG3 := hide (HG2.out.later hb2)
          clear hb2 q0
          have q0 := (HA.out.later HB3.out).1
          rw [show (Value.slice (some ⟨V2.heap.size, 0, none⟩) 1 1) = .slice (some ⟨vb, 0, none⟩) 1 1 by rw [hvb]] at HO3
          rw [hvb]
          clear hV hvb
          refine hK.out _ _ (by first | exact q0 | exact cell_other (cell_other (cell_other (cell_other q0 nk) nk) nk) nk) (fun hHeld => ?_)
          clear hK K
          try simp only [List.setIfInBounds_toArray, List.set_cons_zero, List.set_cons_succ]
          refine wpAnyH_ready (rs := [7]) (by kernel_rfl) (by simp) ?_
          refine ready_cons ({ dst := some 18, op := Op.call { callee := Callee.value (Operand.func 44), args := #[Operand.tmp 17, Operand.const (Value.int IntKind.i64 (-1))], argTypes := #[3, 3] }, type := 33, pos := "ref.go:20", after := #[{ on := 6, ground := Ground.data }, { on := 4, ground := Ground.chain }], guard := none }) rfl rfl (fun K hK => ?_) ?_
          · clear hHeld
            go_simp
            refine (BL.out V3).mono ?_
            rintro e V4 ⟨gf, rfl, hrow, hb2⟩
            have rF := hrow.lt
            have HF4 := hide hrow
            clear hrow
            have HB4 := hide (below_step HB3.out hb2)
            have S4 := hb2.size
            have HK4 := hide (box_later HK3.out hb2)
            have HG4 := hide (HG3.out.later hb2)
            have HO4 := hide (HO3.out.later hb2)
            clear hb2 q0
            have q0 := (HA.out.later HB4.out).1
            refine hK.out _ _ (by first | exact q0 | exact cell_other (cell_other (cell_other (cell_other q0 nk) nk) nk) nk) (fun hHeld => ?_)
            clear hK K
            try simp only [List.setIfInBounds_toArray, List.set_cons_zero, List.set_cons_succ]
            refine wpAnyH_take (i := 8) (v := ?v16) rfl (by kernel_rfl) (by kernel_rfl) (by kernel_rfl) (fun _ _ _ h => h) (Or.inl ⟨by rfl, ?hy16⟩) (by assumption) ?rest16
            case hy16 => (intro w hSw; (try dsimp only at hSw); go_simp; try with_reducible rfl)
            try simp only [Act.put, List.setIfInBounds_toArray, List.set_cons_zero, List.set_cons_succ]
            refine wpAnyH_ready (rs := [10]) (by kernel_rfl) (by simp) ?_
            refine ready_cons ({ dst := none, op := Op.store 35 (Operand.tmp 5) (Operand.tmp 19), type := 0, pos := "ref.go:20", after := #[{ on := 9, ground := Ground.data }, { on := 8, ground := Ground.data }, { on := 7, ground := Ground.chain }, { on := 0, ground := Ground.phase }, { on := 1, ground := Ground.phase }, { on := 2, ground := Ground.phase }, { on := 3, ground := Ground.phase }, { on := 4, ground := Ground.phase }, { on := 5, ground := Ground.phase }, { on := 6, ground := Ground.phase }, { on := 7, ground := Ground.phase }, { on := 8, ground := Ground.phase }, { on := 9, ground := Ground.phase }], guard := none }) rfl rfl (fun K hK => ?_) ?_
            · clear hHeld
              obtain ⟨d0, d1, d2, d3, e0, e1, e2, e3⟩ := box_cells HK4.out
              have nk : w.heap.size ≠ kx := by have := HSZ.out; have := HB0.out.size; omega
              go_simp
              clear d0 d1 d2 d3 e0 e1 e2 e3
              refine hK.out _ _ (by first | exact q0 | exact cell_other (cell_other (cell_other (cell_other q0 nk) nk) nk) nk) (fun hHeld => ?_)
              clear hK K
              try simp only [List.setIfInBounds_toArray, List.set_cons_zero, List.set_cons_succ]
              refine wpAnyH_done (by kernel_rfl) ?_ _
              clear hHeld
              have hW0 : W.heap.size ≤ V0.heap.size := HB0.out.size
              have HFIN : Hid (TB (set4 V4 kx (.slice (some ⟨vb, 0, none⟩) 1 1) (.slice (some ⟨gb, 0, none⟩) m m) (.slice (some ⟨gf, 0, none⟩) m m) nilS) W.heap.size kx m (.slice (some ⟨vb, 0, none⟩) 1 1) gb gf nilS [(s : Int)] (List.replicate m (-1)) (List.replicate m (-1)) ∧ Below W.heap.size W (set4 V4 kx (.slice (some ⟨vb, 0, none⟩) 1 1) (.slice (some ⟨gb, 0, none⟩) m m) (.slice (some ⟨gf, 0, none⟩) m m) nilS) ∧ W.heap.size ≤ kx) := by
                refine ⟨⟨set_box35 HK4.out, ?_, ?_, ?_, by omega, by simp [Value.ownBlock]; omega, by simp [Value.ownBlock]; omega⟩, below_set4 HB4.out (by omega) _ _ _ _, by omega⟩
                · exact IOwns.base (row_set4 HO4.out (by simp [Value.ownBlock]; omega) _ _ _ _) (by omega)
                · exact (irow_set4 HG4.out (by omega) _ _ _ _).base (by omega)
                · exact (irow_set4 HF4.out (by omega) _ _ _ _).base (by omega)
              go_wp2_with fail
              go_meet
              exact ⟨kx, _, gb, gf, 1, rfl, HFIN.out⟩
            exact AllReadyH.nil
          exact AllReadyH.nil
        refine ready_cons ({ dst := some 18, op := Op.call { callee := Callee.value (Operand.func 44), args := #[Operand.tmp 17, Operand.const (Value.int IntKind.i64 (-1))], argTypes := #[3, 3] }, type := 33, pos := "ref.go:20", after := #[{ on := 6, ground := Ground.data }, { on := 4, ground := Ground.chain }], guard := none }) rfl rfl (fun K hK => ?_) ?_
        · clear hHeld
          go_simp
          refine (BL.out V2).mono ?_
          rintro e V3 ⟨gf, rfl, hrow, hb2⟩
          have rF := hrow.lt
          have HF3 := hide hrow
          clear hrow
          have HB3 := hide (below_step HB2.out hb2)
          have S3 := hb2.size
          have HK3 := hide (box_later HK2.out hb2)
          have HG3 := hide (HG2.out.later hb2)
          clear hb2 q0
          have q0 := (HA.out.later HB3.out).1
          refine hK.out _ _ (by first | exact q0 | exact cell_other (cell_other (cell_other (cell_other q0 nk) nk) nk) nk) (fun hHeld => ?_)
          clear hK K
          try simp only [List.setIfInBounds_toArray, List.set_cons_zero, List.set_cons_succ]
          refine wpAnyH_ready (rs := [1]) (by kernel_rfl) (by simp) ?_
          refine ready_cons ({ dst := some 12, op := Op.buildSlice 33 1 #[(0, Operand.tmp 11)], type := 33, pos := "ref.go:20", after := #[{ on := 0, ground := Ground.data }], guard := none }) rfl rfl (fun K hK => ?_) ?_
          · clear hHeld
            go_simp
            obtain ⟨V4, hV⟩ : ∃ V, V = V3.alloc (.cells #[.int .i64 s] 3) := ⟨_, rfl⟩
            have hb2 : Below V3.heap.size V3 V4 := by rw [hV]; go_grown
            have HO4 : Hid (IOwns V4 V3.heap.size (.slice (some ⟨V3.heap.size, 0, none⟩) 1 1) [(s : Int)]) := by show IOwns _ _ _ _; rw [hV]; exact World.ownsRow_lit _ #[.int .i64 s] 1 (Nat.le_refl _) (by unfold maxLen; omega) rfl
            obtain ⟨vb, hvb⟩ : ∃ vb, V3.heap.size = vb := ⟨_, rfl⟩
            have rO : V3.heap.size ≤ vb ∧ vb < V4.heap.size := by have h0 := (World.ownsRow.lt HO4.out V3.heap.size rfl).2; omega
            rw [← hV]
            have HB4 := hide (below_step HB3.out hb2)
            have S4 := hb2.size
            have HK4 := hide (box_later HK3.out hb2)
            have HG4 := hide (HG3.out.later hb2)
            have HF4 := hide (HF3.out.later hb2)
            clear hb2 q0
            have q0 := (HA.out.later HB4.out).1
            rw [show (Value.slice (some ⟨V3.heap.size, 0, none⟩) 1 1) = .slice (some ⟨vb, 0, none⟩) 1 1 by rw [hvb]] at HO4
            rw [hvb]
            clear hV hvb
            refine hK.out _ _ (by first | exact q0 | exact cell_other (cell_other (cell_other (cell_other q0 nk) nk) nk) nk) (fun hHeld => ?_)
            clear hK K
            try simp only [List.setIfInBounds_toArray, List.set_cons_zero, List.set_cons_succ]
            refine wpAnyH_take (i := 8) (v := ?v17) rfl (by kernel_rfl) (by kernel_rfl) (by kernel_rfl) (fun _ _ _ h => h) (Or.inl ⟨by rfl, ?hy17⟩) (by assumption) ?rest17
            case hy17 => (intro w hSw; (try dsimp only at hSw); go_simp; try with_reducible rfl)
            try simp only [Act.put, List.setIfInBounds_toArray, List.set_cons_zero, List.set_cons_succ]
            refine wpAnyH_ready (rs := [10]) (by kernel_rfl) (by simp) ?_
            refine ready_cons ({ dst := none, op := Op.store 35 (Operand.tmp 5) (Operand.tmp 19), type := 0, pos := "ref.go:20", after := #[{ on := 9, ground := Ground.data }, { on := 8, ground := Ground.data }, { on := 7, ground := Ground.chain }, { on := 0, ground := Ground.phase }, { on := 1, ground := Ground.phase }, { on := 2, ground := Ground.phase }, { on := 3, ground := Ground.phase }, { on := 4, ground := Ground.phase }, { on := 5, ground := Ground.phase }, { on := 6, ground := Ground.phase }, { on := 7, ground := Ground.phase }, { on := 8, ground := Ground.phase }, { on := 9, ground := Ground.phase }], guard := none }) rfl rfl (fun K hK => ?_) ?_
            · clear hHeld
              obtain ⟨d0, d1, d2, d3, e0, e1, e2, e3⟩ := box_cells HK4.out
              have nk : w.heap.size ≠ kx := by have := HSZ.out; have := HB0.out.size; omega
              go_simp
              clear d0 d1 d2 d3 e0 e1 e2 e3
              refine hK.out _ _ (by first | exact q0 | exact cell_other (cell_other (cell_other (cell_other q0 nk) nk) nk) nk) (fun hHeld => ?_)
              clear hK K
              try simp only [List.setIfInBounds_toArray, List.set_cons_zero, List.set_cons_succ]
              refine wpAnyH_done (by kernel_rfl) ?_ _
              clear hHeld
              have hW0 : W.heap.size ≤ V0.heap.size := HB0.out.size
              have HFIN : Hid (TB (set4 V4 kx (.slice (some ⟨vb, 0, none⟩) 1 1) (.slice (some ⟨gb, 0, none⟩) m m) (.slice (some ⟨gf, 0, none⟩) m m) nilS) W.heap.size kx m (.slice (some ⟨vb, 0, none⟩) 1 1) gb gf nilS [(s : Int)] (List.replicate m (-1)) (List.replicate m (-1)) ∧ Below W.heap.size W (set4 V4 kx (.slice (some ⟨vb, 0, none⟩) 1 1) (.slice (some ⟨gb, 0, none⟩) m m) (.slice (some ⟨gf, 0, none⟩) m m) nilS) ∧ W.heap.size ≤ kx) := by
                refine ⟨⟨set_box35 HK4.out, ?_, ?_, ?_, by omega, by simp [Value.ownBlock]; omega, by simp [Value.ownBlock]; omega⟩, below_set4 HB4.out (by omega) _ _ _ _, by omega⟩
                · exact IOwns.base (row_set4 HO4.out (by simp [Value.ownBlock]; omega) _ _ _ _) (by omega)
                · exact (irow_set4 HG4.out (by omega) _ _ _ _).base (by omega)
                · exact (irow_set4 HF4.out (by omega) _ _ _ _).base (by omega)
              go_wp2_with fail
              go_meet
              exact ⟨kx, _, gb, gf, 1, rfl, HFIN.out⟩
            exact AllReadyH.nil
          exact AllReadyH.nil
        exact AllReadyH.nil
      exact AllReadyH.nil
    exact AllReadyH.nil
  case rest =>
    obtain ⟨k, po, gb, gf, co, rfl, HT0⟩ := hcut
    have t0 := HT0.out.1
    obtain ⟨x0, x1, x2, x3, x4, _⟩ := t0.cells
    obtain ⟨f0, f1⟩ := t0.far.cell hs
    have i1 : (s : Int) < m := by omega
    have i2 : (0 : Int) ≤ s := by omega
    obtain ⟨V, hV⟩ : ∃ V, V = wc.setCell ⟨gf, s, none⟩ (.int .i64 0) := ⟨_, rfl⟩
    have tV : TB V W.heap.size k m (.slice po 1 co) gb gf nilS [(s : Int)] (List.replicate m (-1)) ((List.replicate m (-1)).set s 0) := by rw [hV]; exact t0.setFar s 0
    have bV : Below W.heap.size W V := by rw [hV]; exact HT0.out.2.1.setCell (p := ⟨gf, s, none⟩) t0.far.lt.1 _
    have OU := hide (outs42 m p es cp V (HH.out.later bV) HM.out)
    have HTV := hide tV
    have HBV := hide bV
    have HWK : Hid (W.heap.size ≤ k) := HT0.out.2.2
    clear t0 tV bV
    go_upto_region 3 with fail
    rw [← hV]
    clear hV x0 x1 x2 x3 x4 f0 f1 HT0
    obtain ⟨q0, q1, _, _⟩ := HA.out.later HBV.out
    go_wp2_with fail
    refine OU.out.mono ?_
    rintro e w2 ⟨g, rv, rfl, hr2, hb2⟩
    have HTB : Hid (∀ i, TBk k gb gf (.slice po 1 co) i → W.heap.size ≤ i ∧ i < V.heap.size) := by
      have t := HTV.out
      intro i hi
      rcases hi with h | h | h | h
      · subst h; exact ⟨HWK.out, block_lt_of_cell t.cells.1⟩
      · subst h; exact t.by_.lt
      · subst h; exact t.far.lt
      · exact World.ownsRow.lt t.ord i h
    have HH2 := hide ((HH.out.later HBV.out).later hb2)
    have HA2 := hide ((HA.out.later HBV.out).later hb2)
    have HX2 := hide (box_later HX.out (below_step HBV.out hb2))
    have HB2 := hide (below_step HBV.out hb2)
    have HR2 := hide hr2
    have HS1 : Hid (SM w2 w2 W.heap.size k m gb gf (.slice po 1 co) nilS (begin_ (st0 m) s)) := by
      show SM _ _ _ _ _ _ _ _ _ _
      rw [HBE.out]
      exact ⟨_, HTV.out.later hb2, Frame.of_below (Below.refl _ _) _, Or.inl rfl⟩
    have hVs : V.heap.size ≤ w2.heap.size := hb2.size
    have hWV : W.heap.size ≤ V.heap.size := HBV.out.size
    obtain ⟨kb, hkb⟩ : ∃ kb, w.heap.size = kb := ⟨_, rfl⟩
    rw [hkb] at HA2 HX2 HSZ HPB ⊢
    have HKB := hide hkb
    have HAW : Hid ((¬ TBk k gb gf (.slice po 1 co) kb) ∧ (∀ a, p = some a → es = [] ∨ ¬ TBk k gb gf (.slice po 1 co) a.block) ∧ (¬ TBk k gb gf (.slice po 1 co) g) ∧ (∀ v i, v < m → (rv v).ownBlock = some i → ¬ TBk k gb gf (.slice po 1 co) i) ∧ (¬ TBk k gb gf (.slice po 1 co) (kb + 1))) := by
      have e1 := HSZ.out
      refine ⟨fun hk => ?_, fun a ha => (HPB.out a ha).imp id (fun hh hk => ?_), fun hk => ?_, fun v i hv hi hk => ?_, fun hk => ?_⟩
      · have := HTB.out _ hk; omega
      · have := HTB.out _ hk; omega
      · have := HTB.out _ hk; have := HR2.out.size.1; omega
      · have := HTB.out _ hk; have := (World.ownsRow.lt (HR2.out.2.2 v hv) i hi).1; omega
      · have := HTB.out _ hk; omega
    clear hkb hr2 hb2 OU q0 q1 HTV HA HX HH hVs
    go_wp2_with fail
    go_loopw [7] (fun t wr => ∃ (j kk : Nat) (st' : St), j ≤ m ∧ t = .int .i64 j ∧ Hid (Ok m st') ∧ Hid (bfs es kk j st' = R ∧ m ≤ kk + j) ∧ Hid (SM w2 wr W.heap.size k m gb gf (.slice po 1 co) nilS st')) (fun t _ => m - (intOf t).toNat)
    case atStart => exact ⟨0, m, begin_ (st0 m) s, by omega, rfl, HOK0.out, ⟨HRR.out, by omega⟩, HS1.out⟩
    case round =>
      obtain ⟨j, kk, st', hj, rfl, HO, HF, HS⟩ := hrel
      obtain ⟨vo', tr, fr, ar⟩ := HS.out
      obtain ⟨po2, co2, hvo, _⟩ := tr.ord.form
      obtain ⟨x0, _, _, _, _, _⟩ := tr.cells
      rw [hvo] at x0
      have hcn := HO.out.cnt
      by_cases hlt : j < st'.O.length
      · have hjm : j < m := by omega
        have i1 : (j : Int) < st'.O.length := by omega
        have i2 : (0 : Int) ≤ j := by omega
        obtain ⟨u0, u1⟩ := HO.out.mem j hlt
        obtain ⟨kk', rfl⟩ : ∃ k', kk = k' + 1 := ⟨kk - 1, by have := HF.out.2; omega⟩
        have HF2 : Hid (bfs es kk' (j + 1) (bRow es (iat st'.O j).toNat st' (outL es (2 * es.length) (iat st'.O j).toNat).length) = R ∧ m ≤ kk' + (j + 1)) := by
          obtain ⟨h1, h2⟩ := HF.out
          simp only [bfs] at h1
          rw [if_pos hlt] at h1
          exact ⟨h1, by omega⟩
        obtain ⟨bo, cc, hbo, _, _, _⟩ := iowns_block tr.ord (by omega)
        rw [hvo] at hbo
        simp only [Value.slice.injEq, true_and] at hbo
        obtain ⟨rfl, rfl⟩ := hbo
        have o0 := tr.ord
        rw [hvo] at o0
        have o1 := o0.at_ hlt
        have hfu := HO.out.fnd j hlt
        obtain ⟨u, hu⟩ : ∃ u : Nat, iat st'.O j = u := ⟨(iat st'.O j).toNat, by omega⟩
        rw [hu] at o1 HF2 u0 u1 hfu
        rw [Int.toNat_natCast] at HF2 hfu
        have hum : u < m := by omega
        obtain ⟨pr, cr, hrv, _⟩ := (HR2.out.2.2 u hum).form
        have HRV := hide hrv
        obtain ⟨L, hL⟩ : ∃ L, outL es (2 * es.length) u = L := ⟨_, rfl⟩
        rw [hL] at HF2 HRV
        have hLl := outL_length es (2 * es.length) u
        rw [hL] at hLl
        have HL := hide hL
        have j1 : (u : Int) < m := by omega
        have j2 : (0 : Int) ≤ u := by omega
        have HOF := hide (fun i (hi : i ≤ L.length) => HO.out.row HM.out hum hfu i (by rw [hL]; exact hi))
        clear hvo hu o0 hrv hL HF tr fr ar hcn hfu u0
        go_wp2_with fail
        clear x0 o1
        obtain ⟨w2', hw2⟩ : ∃ w2', w2' = wr := ⟨_, rfl⟩
        rw [← hw2] at HS ⊢
        clear hw2
        go_loopw [9] (fun t wr => ∃ i : Nat, i ≤ L.length ∧ t = .int .i64 i ∧ Hid (SM w2 wr W.heap.size k m gb gf (.slice po 1 co) nilS (bRow es u st' i))) (fun t _ => L.length - (intOf t).toNat)
        case atStart => exact ⟨0, by omega, rfl, HS.out⟩
        case round =>
          clear HS
          obtain ⟨i, hi, rfl, HS⟩ := hrel
          obtain ⟨vo', tr, fr, ar⟩ := HS.out
          have hRw := fr.rows HR2.out HAW.out.2.2.1 HAW.out.2.2.2.1
          obtain ⟨d0, _⟩ := hRw.cell hum
          rw [HRV.out] at d0
          by_cases hil : i < L.length
          · obtain ⟨ok1, hfu⟩ := HOF.out i hi
            have HSTEP : Hid (bRow es u st' (i + 1) = bStep es u (bRow es u st' i) (iat (outL es (2 * es.length) u) i).toNat) := rfl
            rw [HL.out] at HSTEP
            obtain ⟨h, hh1, hh2, hh3⟩ := outL_at (es := es) (h := 2 * es.length) (v := u) (j := i) (by rw [HL.out]; exact hil)
            rw [HL.out] at hh1
            rw [hh1, Int.toNat_natCast] at HSTEP
            obtain ⟨v0, v1⟩ := toL_in HM.out h hh2
            obtain ⟨v, hv⟩ : ∃ v : Nat, toL es h = v := ⟨(toL es h).toNat, by omega⟩
            unfold bStep at HSTEP
            rw [hv, Int.toNat_natCast] at HSTEP
            rw [hv] at v0 v1
            have hvm : v < m := by omega
            obtain ⟨S, hS⟩ : ∃ S, bRow es u st' i = S := ⟨_, rfl⟩
            rw [hS] at HS HSTEP ok1 hfu tr
            have hro := hRw.2.2 u hum
            rw [HRV.out, HL.out] at hro
            obtain ⟨br, cr2, hbr, _, _, _⟩ := iowns_block hro (by omega)
            simp only [Value.slice.injEq, true_and] at hbr
            obtain ⟨rfl, rfl⟩ := hbr
            have r0 := hro.at_ hil
            rw [hh1] at r0
            have hN := fr.nown HA2.out HAW.out.1
            obtain ⟨q0, q1, _, _⟩ := hN
            have hHw := fr.has HH2.out HAW.out.2.1
            have CT : ∀ dd os, Calls Try.prog 25 #[nv m p es.length cp, .int .i64 h] (grow (redrawn wr dd) os) fun e w'' => e = .returned (.int .i64 v) ∧ ∃ p : Regrown, w'' = grow (redrawn wr p.d) p.os := fun dd os => Calls.regrown_of (by rw [← hv]; exact to43 m p es cp h _ (hHw.later (below_regrown wr dd os)) hh2 (by omega))
            have Q0 := cell_regrown q0
            have Q1 := cell_regrown q1
            have D0 := cell_regrown d0
            have R0 := cell_regrown r0
            have k1 : (i : Int) < L.length := by omega
            have k2 : (0 : Int) ≤ i := by omega
            have k3 : (v : Int) < m := by omega
            have k4 : (0 : Int) ≤ v := by omega
            have hcn := ok1.cnt
            have hfv := ok1.val u hum
            have HOK1 := hide ok1
            have HJ := hide hh1
            clear hRw hro hh1 hh3 hv hS tr fr ar ok1 v0 hHw
            go_wp2_with fail
            refine wp_region_quiet_below (by kernel_rfl) (by kernel_rfl) ?_
            repeat (go_big_quiet_step (first | with_reducible exact CT _ _))
            refine wpQuiet_nil ?_
            intro w3 hw'
            have hb3 : Below wr.heap.size wr w3 := by
              obtain ⟨⟨dq, osq⟩, hw''⟩ := hw'
              rw [hw'']
              exact below_regrown wr dq osq
            have HS3 := hide (HS.out.later hb3)
            clear hw' hb3 q0 q1 d0 r0 Q0 Q1 D0 R0 CT HS
            obtain ⟨vo3, t3, f3, a3⟩ := HS3.out
            obtain ⟨x0, x1, x2, x3, x4, _⟩ := t3.cells
            obtain ⟨a0, a1⟩ := t3.far.cell hvm
            obtain ⟨b0, b1⟩ := t3.far.cell hum
            by_cases hneg : iat S.Fa v < 0
            · rw [if_pos hneg] at HSTEP
              obtain ⟨fv, hfv1⟩ : ∃ fv, iat S.Fa v = fv := ⟨_, rfl⟩
              obtain ⟨fu, hfu1⟩ : ∃ fu, iat S.Fa u = fu := ⟨_, rfl⟩
              rw [hfv1] at a0 hneg
              rw [hfu1] at b0 hfv hfu HSTEP
              clear hfv1 hfu1 t3 f3 a3 x0 x1 x3 x4
              go_wp2_with fail
              go_region
              obtain ⟨Y1, hY1⟩ : ∃ Y, Y = (w3.setCell ⟨gf, v, none⟩ (.int .i64 (fu + 1))).drew := ⟨_, rfl⟩
              have HS4 : Hid (SM w2 Y1 W.heap.size k m gb gf (.slice po 1 co) nilS ⟨S.O, S.By, S.Fa.set v (fu + 1)⟩) := by
                show SM _ _ _ _ _ _ _ _ _ _
                rw [hY1]
                exact (HS3.out.setFar v (fu + 1)).later (below_drew _)
              rw [← hY1]
              clear hY1 x2 a0 a1 b0 b1 HS3
              obtain ⟨vo4, t4, f4, a4⟩ := HS4.out
              have hRw := f4.rows HR2.out HAW.out.2.2.1 HAW.out.2.2.2.1
              obtain ⟨d0, _⟩ := hRw.cell hum
              rw [HRV.out] at d0
              have hro := hRw.2.2 u hum
              rw [HRV.out, HL.out] at hro
              have r0 := hro.at_ hil
              rw [HJ.out] at r0
              obtain ⟨x0, x1, x2, x3, x4, _⟩ := t4.cells
              obtain ⟨a0, a1⟩ := t4.by_.cell hvm
              clear hRw hro t4 f4 a4
              go_wp2_with fail
              go_region
              obtain ⟨Y2, hY2⟩ : ∃ Y, Y = (Y1.setCell ⟨gb, v, none⟩ (.int .i64 h)).drew := ⟨_, rfl⟩
              have HS5 : Hid (SM w2 Y2 W.heap.size k m gb gf (.slice po 1 co) nilS ⟨S.O, S.By.set v h, S.Fa.set v (fu + 1)⟩) := by
                show SM _ _ _ _ _ _ _ _ _ _
                rw [hY2]
                exact (HS4.out.setBy v h).later (below_drew _)
              rw [← hY2]
              clear hY2 x0 x1 x2 x3 x4 a0 a1 d0 r0 HS4
              obtain ⟨vo5, t5, f5, a5⟩ := HS5.out
              obtain ⟨p1, l1, c1, D, e1, z0, z4, t6, f6, a6⟩ := t5.push v (by have h1 := f5.size; have h2 := HB2.out.size; omega) (by show S.O.length ≤ _; omega)
              have HS6 : Hid (SM w2 (D.setCell ⟨k, 0, none⟩ (.slice p1 l1 c1)) W.heap.size k m gb gf (.slice po 1 co) nilS ⟨S.O ++ [(v : Int)], S.By.set v h, S.Fa.set v (fu + 1)⟩) := SM.found f5 a5 t6 f6 a6
              obtain ⟨x0, x1, x2, x3, x4, _⟩ := t5.cells
              obtain ⟨p5, l5, c5, rfl⟩ : ∃ a b c, vo5 = .slice a b c := by obtain ⟨a, b, hv, _⟩ := t5.ord.form; exact ⟨_, _, _, hv⟩
              have y1 : k < Y2.heap.size := block_lt_of_cell x0
              have y2 : k ≠ Y2.heap.size := by omega
              clear t5 f5 a5 t6 f6 a6 HS5
              go_wp2_with (at_builtin; refine wpList_run_append rfl (.tmp 84) (.tmp 86) 33 rfl 33 rfl _ _ _ D rfl rfl e1 ?_)
              clear e1 x0 x1 x2 x3 x4 y1 y2
              go_wp2
              go_roundw
              case rel => exact ⟨i + 1, by omega, by go_num, by rw [HSTEP.out]; exact HS6.out⟩
              case measure => simp [intOf]; omega
            · rw [if_neg hneg] at HSTEP
              obtain ⟨fv, hfv1⟩ : ∃ fv, iat S.Fa v = fv := ⟨_, rfl⟩
              rw [hfv1] at a0 hneg
              clear hfv1 t3 f3 a3
              go_wp2
              go_roundw
              case rel => exact ⟨i + 1, by omega, by go_num, by rw [HSTEP.out]; exact HS3.out⟩
              case measure => simp [intOf]; omega
          · have hin : i = L.length := by omega
            have k1 : ¬ (i : Int) < L.length := by omega
            rw [hin] at HS
            have HO2 := hide (HOF.out L.length (Nat.le_refl _)).1
            clear hin tr fr ar hRw
            go_wp2
            go_roundw
            case rel => exact ⟨j + 1, kk', _, by omega, by go_num, HO2.out, HF2.out, HS.out⟩
            case measure => simp [intOf]; omega
      · have i1 : ¬ (j : Int) < st'.O.length := by omega
        have hR' : R = st' := by rw [← HF.out.1]; exact bfs_stop hlt kk
        rw [← hR'] at tr i1 x0 hvo
        have HT5 := hide tr
        have HF5 := hide fr
        have HX5 := hide (fr.row HX2.out (fun i hi => by simp only [Value.ownBlock, Option.some.injEq] at hi; rw [← hi]; exact HAW.out.2.2.2.2))
        subst hvo
        obtain ⟨b0, b1, b2, b3, _, _⟩ := HT5.out.cells
        obtain ⟨c0, c1, c2, c3, f0, f1, f2, f3⟩ := box_cells HX5.out
        have hne : (kb + 1) ≠ k := by have := HSZ.out; have := HWK.out; omega
        clear hR' HF tr fr ar HS
        have hb5 : Below w.heap.size w wr := Below.trans (below_step HB.out HB2.out) (HF5.out.below (by have h1 := HB.out.size; have h2 := HB2.out.size; omega) (fun i hi => by have h1 := HTB.out i hi; have h2 := HB.out.size; omega))
        have HB5 := hide hb5
        clear hb5
        go_wp2
        obtain ⟨cur, hk⟩ := row_kind HX5.out
        have t5 := HT5.out
        have k1 := row_apart hk t5.by_.2 (by decide)
        have k2 := row_apart hk t5.far.2 (by decide)
        have k3 := row_apart hk t5.ord (by decide)
        have h2 := HB.out.size
        refine bodyPost_ret (ret_tour1 Try.results16 rfl (set_box35 HX5.out)) rfl ⟨_, rfl, ⟨_, gb, gf, rfl, ?_, ?_, ?_, t5.ne1, t5.ne2, t5.ne3⟩, below_set4 HB5.out (by have := HKB.out; omega) _ _ _ _⟩
        · exact (IOwns.base (row_set4 t5.ord k3 _ _ _ _) (by omega))
        · exact (irow_set4 t5.by_ (fun e => k1 (by simp [Value.ownBlock, e])) _ _ _ _).base (by omega)
        · exact (irow_set4 t5.far (fun e => k2 (by simp [Value.ownBlock, e])) _ _ _ _).base (by omega)
end Go.Proofs.Ytghffodjffkijaa
