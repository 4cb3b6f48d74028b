/- The first region of the reference's Depth: the boxes and lists that it makes, in every order. -/
import Derived.Test.YtghffodjffkijaaQ4
namespace Go.Proofs.Ytghffodjffkijaa
open Go.RowKit Go.Sort Go.Shelf
open Go

set_option maxRecDepth 100000 in
set_option maxHeartbeats 8000000 in
theorem reg17 (T : List Value) (m : Nat) (p : Option Addr) (es : List Pt) (cp s : Nat) (w W : World) (HA : Hid (NOwn W w.heap.size m p es.length cp)) (HSZ : Hid (W.heap.size = w.heap.size + 2)) (BL : Hid (∀ V, Calls Try.prog 44 #[.int .i64 m, .int .i64 (-1)] V fun e w' => ∃ g, e = .returned (.slice (some ⟨g, 0, none⟩) m m) ∧ IRow w' V.heap.size g m (List.replicate m (-1)) ∧ Below V.heap.size V w')) (K' : Act → World → Prop) (Q' : Exit → Act → World → Prop) (hQ : ∀ c (a a' : Act) w, Q' (.panic c) a' w → a'.defers = a.defers → Q' (.panic c) a w)
    (hend : ∀ (k : Nat) (po : Option Addr) (gb gf gl co : Nat) (u18 u19 u20 u21 u22 u23 u24 u25 u26 u27 u28 u29 : Value) (wx : World), TB wx W.heap.size k m (.slice po 1 co) gb gf (.slice (some ⟨gl, 0, none⟩) m m) [(s : Int)] (List.replicate m (-1)) (List.replicate m (-1)) ∧ IRow wx W.heap.size gl m (List.replicate m (-1)) ∧ (¬ TBk k gb gf (.slice po 1 co) gl) ∧ Below W.heap.size W wx ∧ W.heap.size ≤ k → K' { tmps := ((nv (m : Int) p es.length cp :: .int .i64 (s : Int) :: .pointer (some ⟨w.heap.size, 0, none⟩) :: undef :: .pointer (some ⟨w.heap.size + 1, 0, none⟩) :: .pointer (some ⟨k, 0, none⟩) :: undef :: undef :: undef :: undef :: undef :: undef :: undef :: undef :: undef :: undef :: undef :: undef :: u18 :: u19 :: u20 :: u21 :: u22 :: u23 :: u24 :: u25 :: u26 :: u27 :: u28 :: u29 :: T : List Value).toArray), defers := [] } wx) :
    (Code.region 1 #[{ dst := some 18, op := Op.move (Operand.tmp 1), type := 3, pos := "ref.go:39", after := #[], guard := none }, { dst := some 19, op := Op.buildSlice 33 1 #[(0, Operand.tmp 18)], type := 33, pos := "ref.go:39", after := #[{ on := 0, ground := Ground.data }], guard := none }, { dst := some 20, op := Op.fieldAddr 24 (Operand.tmp 2) 0, type := 0, pos := "ref.go:39", after := #[], guard := none }, { dst := some 21, op := Op.load 3 (Operand.tmp 20), type := 3, pos := "ref.go:39", after := #[{ on := 2, ground := Ground.data }], guard := none }, { dst := some 22, op := Op.call { callee := Callee.value (Operand.func 44), args := #[Operand.tmp 21, Operand.const (Value.int IntKind.i64 (-1))], argTypes := #[3, 3] }, type := 33, pos := "ref.go:39", after := #[{ on := 3, ground := Ground.data }], guard := none }, { dst := some 23, op := Op.fieldAddr 24 (Operand.tmp 2) 0, type := 0, pos := "ref.go:39", after := #[], guard := none }, { dst := some 24, op := Op.load 3 (Operand.tmp 23), type := 3, pos := "ref.go:39", after := #[{ on := 5, ground := Ground.data }], guard := none }, { dst := some 25, op := Op.call { callee := Callee.value (Operand.func 44), args := #[Operand.tmp 24, Operand.const (Value.int IntKind.i64 (-1))], argTypes := #[3, 3] }, type := 33, pos := "ref.go:39", after := #[{ on := 6, ground := Ground.data }, { on := 4, ground := Ground.chain }], guard := none }, { dst := some 26, op := Op.fieldAddr 24 (Operand.tmp 2) 0, type := 0, pos := "ref.go:39", after := #[], guard := none }, { dst := some 27, op := Op.load 3 (Operand.tmp 26), type := 3, pos := "ref.go:39", after := #[{ on := 8, ground := Ground.data }], guard := none }, { dst := some 28, op := Op.call { callee := Callee.value (Operand.func 44), args := #[Operand.tmp 27, Operand.const (Value.int IntKind.i64 (-1))], argTypes := #[3, 3] }, type := 33, pos := "ref.go:39", after := #[{ on := 9, ground := Ground.data }, { on := 7, ground := Ground.chain }], guard := none }, { dst := some 29, op := Op.build 35 #[(0, Operand.tmp 19), (1, Operand.tmp 22), (2, Operand.tmp 25), (3, Operand.tmp 28)], type := 35, pos := "ref.go:39", after := #[{ on := 1, ground := Ground.data }, { on := 4, ground := Ground.data }, { on := 7, ground := Ground.data }, { on := 10, ground := Ground.data }], guard := none }, { dst := some 5, op := Op.alloc 35, type := 0, pos := "ref.go:39", after := #[], guard := none }, { dst := none, op := Op.store 35 (Operand.tmp 5) (Operand.tmp 29), type := 0, pos := "ref.go:39", after := #[{ on := 12, ground := Ground.data }, { on := 11, ground := Ground.data }, { on := 10, ground := Ground.chain }, { on := 0, ground := Ground.phase }, { on := 1, ground := Ground.phase }, { on := 2, ground := Ground.phase }, { on := 3, ground := Ground.phase }, { on := 4, ground := Ground.phase }, { on := 5, ground := Ground.phase }, { on := 6, ground := Ground.phase }, { on := 7, ground := Ground.phase }, { on := 8, ground := Ground.phase }, { on := 9, ground := Ground.phase }, { on := 10, ground := Ground.phase }, { on := 11, ground := Ground.phase }, { on := 12, ground := Ground.phase }], guard := none }] true).wp Try.prog (Exit.then K' Q') { tmps := ((nv (m : Int) p es.length cp :: .int .i64 (s : Int) :: .pointer (some ⟨w.heap.size, 0, none⟩) :: undef :: .pointer (some ⟨w.heap.size + 1, 0, none⟩) :: undef :: undef :: undef :: undef :: undef :: undef :: undef :: undef :: undef :: undef :: undef :: undef :: undef :: undef :: undef :: undef :: undef :: undef :: undef :: undef :: undef :: undef :: undef :: undef :: undef :: T : List Value).toArray), defers := [] } W := by
    have bd : Below W.heap.size W W.drew := below_drew _
    obtain ⟨V0, hV0⟩ : ∃ V, V = W.drew := ⟨_, rfl⟩
    have HB0 : Hid (Below W.heap.size W V0) := by show Below _ _ _; rw [hV0]; exact bd
    have q0 := (HA.out.later HB0.out).1
    refine wp_region_held_drew (S := (fun W' => W'.cell? ⟨w.heap.size, 0, none⟩ = some (.int .i64 m))) (by kernel_rfl) (by rw [← hV0]; exact q0) (fun hHeld => ?_)
    rw [← hV0] at hHeld ⊢
    clear hV0 bd
    change wpAnyH Try.prog .any _ _ _ 14 #[false, false, false, false, false, false, false, false, false, false, false, false, false, false] _ _
    refine wpAnyH_take (i := 0) (v := ?v1) rfl (by kernel_rfl) (by kernel_rfl) (by kernel_rfl) (fun c a w h => hQ c a _ w h rfl) (Or.inl ⟨by rfl, ?hy1⟩) (by assumption) ?rest1
    case hy1 => (intro w hSw; (try dsimp only at hSw); go_simp; try with_reducible rfl)
    try simp only [Act.put, List.setIfInBounds_toArray, List.set_cons_zero]
    refine wpAnyH_take (i := 2) (v := ?v2) rfl (by kernel_rfl) (by kernel_rfl) (by kernel_rfl) (fun c a w h => hQ c a _ w h rfl) (Or.inl ⟨by rfl, ?hy2⟩) (by assumption) ?rest2
    case hy2 => (intro w hSw; (try dsimp only at hSw); go_simp; try with_reducible rfl)
    try simp only [Act.put, List.setIfInBounds_toArray, List.set_cons_zero, List.set_cons_succ]
    refine wpAnyH_take (i := 3) (v := ?v3) rfl (by kernel_rfl) (by kernel_rfl) (by kernel_rfl) (fun c a w h => hQ c a _ w h rfl) (Or.inl ⟨by rfl, ?hy3⟩) (by assumption) ?rest3
    case hy3 => (intro w hSw; (try dsimp only at hSw); go_simp; try with_reducible rfl)
    try simp only [Act.put, List.setIfInBounds_toArray, List.set_cons_zero, List.set_cons_succ]
    refine wpAnyH_take (i := 5) (v := ?v4) rfl (by kernel_rfl) (by kernel_rfl) (by kernel_rfl) (fun c a w h => hQ c a _ w h rfl) (Or.inl ⟨by rfl, ?hy4⟩) (by assumption) ?rest4
    case hy4 => (intro w hSw; (try dsimp only at hSw); go_simp; try with_reducible rfl)
    try simp only [Act.put, List.setIfInBounds_toArray, List.set_cons_zero, List.set_cons_succ]
    refine wpAnyH_take (i := 6) (v := ?v5) rfl (by kernel_rfl) (by kernel_rfl) (by kernel_rfl) (fun c a w h => hQ c a _ w h rfl) (Or.inl ⟨by rfl, ?hy5⟩) (by assumption) ?rest5
    case hy5 => (intro w hSw; (try dsimp only at hSw); go_simp; try with_reducible rfl)
    try simp only [Act.put, List.setIfInBounds_toArray, List.set_cons_zero, List.set_cons_succ]
    refine wpAnyH_take (i := 8) (v := ?v6) rfl (by kernel_rfl) (by kernel_rfl) (by kernel_rfl) (fun c a w h => hQ c a _ w h rfl) (Or.inl ⟨by rfl, ?hy6⟩) (by assumption) ?rest6
    case hy6 => (intro w hSw; (try dsimp only at hSw); go_simp; try with_reducible rfl)
    try simp only [Act.put, List.setIfInBounds_toArray, List.set_cons_zero, List.set_cons_succ]
    refine wpAnyH_take (i := 9) (v := ?v7) rfl (by kernel_rfl) (by kernel_rfl) (by kernel_rfl) (fun c a w h => hQ c a _ w h rfl) (Or.inl ⟨by rfl, ?hy7⟩) (by assumption) ?rest7
    case hy7 => (intro w hSw; (try dsimp only at hSw); go_simp; try with_reducible rfl)
    try simp only [Act.put, List.setIfInBounds_toArray, List.set_cons_zero, List.set_cons_succ]
    refine wpAnyH_ready (rs := [1, 4, 12]) (by kernel_rfl) (by simp) ?_
    refine ready_cons ({ dst := some 19, op := Op.buildSlice 33 1 #[(0, Operand.tmp 18)], type := 33, pos := "ref.go:39", after := #[{ on := 0, ground := Ground.data }], guard := none }) rfl rfl (fun K hK => ?_) ?_
    · clear hHeld
      go_simp
      obtain ⟨V1, hV⟩ : ∃ V, V = V0.alloc (.cells #[.int .i64 s] 3) := ⟨_, rfl⟩
      have hb2 : Below V0.heap.size V0 V1 := by rw [hV]; go_grown
      have HO1 : Hid (IOwns V1 V0.heap.size (.slice (some ⟨V0.heap.size, 0, none⟩) 1 1) [(s : Int)]) := by show IOwns _ _ _ _; rw [hV]; exact World.ownsRow_lit _ #[.int .i64 s] 1 (Nat.le_refl _) (by unfold maxLen; omega) rfl
      obtain ⟨vb, hvb⟩ : ∃ vb, V0.heap.size = vb := ⟨_, rfl⟩
      have rO : V0.heap.size ≤ vb ∧ vb < V1.heap.size := by have h0 := (World.ownsRow.lt HO1.out V0.heap.size rfl).2; omega
      rw [← hV]
      have HB1 := hide (below_step HB0.out hb2)
      have S1 := hb2.size
      clear hb2 q0
      have q0 := (HA.out.later HB1.out).1
      rw [show (Value.slice (some ⟨V0.heap.size, 0, none⟩) 1 1) = .slice (some ⟨vb, 0, none⟩) 1 1 by rw [hvb]] at HO1
      rw [hvb]
      clear hV hvb
      refine hK.out _ _ (by first | with_reducible exact q0 | exact cell_other (cell_other (cell_other (cell_other q0 nk) nk) nk) nk) (fun hHeld => ?_)
      clear hK K
      try simp only [List.setIfInBounds_toArray, List.set_cons_zero, List.set_cons_succ]
      refine wpAnyH_ready (rs := [4, 12]) (by kernel_rfl) (by simp) ?_
      refine ready_cons ({ dst := some 22, op := Op.call { callee := Callee.value (Operand.func 44), args := #[Operand.tmp 21, Operand.const (Value.int IntKind.i64 (-1))], argTypes := #[3, 3] }, type := 33, pos := "ref.go:39", after := #[{ on := 3, ground := Ground.data }], guard := none }) rfl rfl (fun K hK => ?_) ?_
      · clear hHeld
        go_simp
        refine (BL.out V1).mono ?_
        rintro e V2 ⟨gb, rfl, hrow, hb2⟩
        have rG := hrow.lt
        have HG2 := hide hrow
        clear hrow
        have HB2 := hide (below_step HB1.out hb2)
        have S2 := hb2.size
        have HO2 := hide (HO1.out.later hb2)
        clear hb2 q0
        have q0 := (HA.out.later HB2.out).1
        refine hK.out _ _ (by first | with_reducible exact q0 | exact cell_other (cell_other (cell_other (cell_other q0 nk) nk) nk) nk) (fun hHeld => ?_)
        clear hK K
        try simp only [List.setIfInBounds_toArray, List.set_cons_zero, List.set_cons_succ]
        refine wpAnyH_ready (rs := [7, 12]) (by kernel_rfl) (by simp) ?_
        refine ready_cons ({ dst := some 25, op := Op.call { callee := Callee.value (Operand.func 44), args := #[Operand.tmp 24, Operand.const (Value.int IntKind.i64 (-1))], argTypes := #[3, 3] }, type := 33, pos := "ref.go:39", after := #[{ on := 6, ground := Ground.data }, { on := 4, ground := Ground.chain }], guard := none }) rfl rfl (fun K hK => ?_) ?_
        · clear hHeld
          go_simp
          refine (BL.out V2).mono ?_
          rintro e V3 ⟨gf, rfl, hrow, hb2⟩
          have rF := hrow.lt
          have HF3 := hide hrow
          clear hrow
          have HB3 := hide (below_step HB2.out hb2)
          have S3 := hb2.size
          have HO3 := hide (HO2.out.later hb2)
          have HG3 := hide (HG2.out.later hb2)
          clear hb2 q0
          have q0 := (HA.out.later HB3.out).1
          refine hK.out _ _ (by first | with_reducible exact q0 | exact cell_other (cell_other (cell_other (cell_other q0 nk) nk) nk) nk) (fun hHeld => ?_)
          clear hK K
          try simp only [List.setIfInBounds_toArray, List.set_cons_zero, List.set_cons_succ]
          refine wpAnyH_ready (rs := [10, 12]) (by kernel_rfl) (by simp) ?_
          refine ready_cons ({ dst := some 28, op := Op.call { callee := Callee.value (Operand.func 44), args := #[Operand.tmp 27, Operand.const (Value.int IntKind.i64 (-1))], argTypes := #[3, 3] }, type := 33, pos := "ref.go:39", after := #[{ on := 9, ground := Ground.data }, { on := 7, ground := Ground.chain }], guard := none }) rfl rfl (fun K hK => ?_) ?_
          · clear hHeld
            go_simp
            refine (BL.out V3).mono ?_
            rintro e V4 ⟨gl, rfl, hrow, hb2⟩
            have rL := hrow.lt
            have HL4 := hide hrow
            clear hrow
            have HB4 := hide (below_step HB3.out hb2)
            have S4 := hb2.size
            have HO4 := hide (HO3.out.later hb2)
            have HG4 := hide (HG3.out.later hb2)
            have HF4 := hide (HF3.out.later hb2)
            clear hb2 q0
            have q0 := (HA.out.later HB4.out).1
            refine hK.out _ _ (by first | with_reducible exact q0 | exact cell_other (cell_other (cell_other (cell_other q0 nk) nk) nk) nk) (fun hHeld => ?_)
            clear hK K
            try simp only [List.setIfInBounds_toArray, List.set_cons_zero, List.set_cons_succ]
            refine wpAnyH_take (i := 11) (v := ?v8) rfl (by kernel_rfl) (by kernel_rfl) (by kernel_rfl) (fun c a w h => hQ c a _ w h rfl) (Or.inl ⟨by rfl, ?hy8⟩) (by assumption) ?rest8
            case hy8 => (intro w hSw; (try dsimp only at hSw); go_simp; try with_reducible rfl)
            try simp only [Act.put, List.setIfInBounds_toArray, List.set_cons_zero, List.set_cons_succ]
            refine wpAnyH_ready (rs := [12]) (by kernel_rfl) (by simp) ?_
            refine ready_cons ({ dst := some 5, op := Op.alloc 35, type := 0, pos := "ref.go:39", after := #[], guard := none }) rfl rfl (fun K hK => ?_) ?_
            · clear hHeld
              go_simp
              obtain ⟨V5, hV⟩ : ∃ V, V = V4.alloc (.cells #[nilS, nilS, nilS, nilS] 35) := ⟨_, rfl⟩
              have hb2 : Below V4.heap.size V4 V5 := by rw [hV]; go_grown
              have HK5 : Hid (V5.ownsRow 0 35 4 (.slice (some ⟨V4.heap.size, 0, none⟩) 1 1) 1 [nilS, nilS, nilS, nilS]) := by show World.ownsRow _ _ _ _ _ _ _; rw [hV]; exact box35 _ _ _ _ _
              obtain ⟨kx, hkx⟩ : ∃ kx, V4.heap.size = kx := ⟨_, rfl⟩
              have rK : V4.heap.size ≤ kx ∧ kx < V5.heap.size := by have h0 := (World.ownsRow.lt HK5.out V4.heap.size rfl).2; omega
              rw [← hV]
              have HB5 := hide (below_step HB4.out hb2)
              have S5 := hb2.size
              have HO5 := hide (HO4.out.later hb2)
              have HG5 := hide (HG4.out.later hb2)
              have HF5 := hide (HF4.out.later hb2)
              have HL5 := hide (HL4.out.later hb2)
              clear hb2 q0
              have q0 := (HA.out.later HB5.out).1
              rw [hkx] at HK5 ⊢
              clear hV hkx
              refine hK.out _ _ (by first | with_reducible exact q0 | exact cell_other (cell_other (cell_other (cell_other q0 nk) nk) nk) nk) (fun hHeld => ?_)
              clear hK K
              try simp only [List.setIfInBounds_toArray, List.set_cons_zero, List.set_cons_succ]
              refine wpAnyH_ready (rs := [13]) (by kernel_rfl) (by simp) ?_
              refine ready_cons ({ dst := none, op := Op.store 35 (Operand.tmp 5) (Operand.tmp 29), type := 0, pos := "ref.go:39", after := #[{ on := 12, ground := Ground.data }, { on := 11, ground := Ground.data }, { on := 10, ground := Ground.chain }, { on := 0, ground := Ground.phase }, { on := 1, ground := Ground.phase }, { on := 2, ground := Ground.phase }, { on := 3, ground := Ground.phase }, { on := 4, ground := Ground.phase }, { on := 5, ground := Ground.phase }, { on := 6, ground := Ground.phase }, { on := 7, ground := Ground.phase }, { on := 8, ground := Ground.phase }, { on := 9, ground := Ground.phase }, { on := 10, ground := Ground.phase }, { on := 11, ground := Ground.phase }, { on := 12, ground := Ground.phase }], guard := none }) rfl rfl (fun K hK => ?_) ?_
              · clear hHeld
                obtain ⟨d0, d1, d2, d3, e0, e1, e2, e3⟩ := box_cells HK5.out
                have nk : w.heap.size ≠ kx := by have := HSZ.out; have := HB0.out.size; omega
                go_simp
                clear d0 d1 d2 d3 e0 e1 e2 e3
                refine hK.out _ _ (by first | with_reducible exact q0 | exact cell_other (cell_other (cell_other (cell_other q0 nk) nk) nk) nk) (fun hHeld => ?_)
                clear hK K
                try simp only [List.setIfInBounds_toArray, List.set_cons_zero, List.set_cons_succ]
                refine wpAnyH_done (by kernel_rfl) ?_ _
                clear hHeld
                have hW0 : W.heap.size ≤ V0.heap.size := HB0.out.size
                have HFIN : Hid (TB (set4 V5 kx (.slice (some ⟨vb, 0, none⟩) 1 1) (.slice (some ⟨gb, 0, none⟩) m m) (.slice (some ⟨gf, 0, none⟩) m m) (.slice (some ⟨gl, 0, none⟩) m m)) W.heap.size kx m (.slice (some ⟨vb, 0, none⟩) 1 1) gb gf (.slice (some ⟨gl, 0, none⟩) m m) [(s : Int)] (List.replicate m (-1)) (List.replicate m (-1)) ∧ IRow (set4 V5 kx (.slice (some ⟨vb, 0, none⟩) 1 1) (.slice (some ⟨gb, 0, none⟩) m m) (.slice (some ⟨gf, 0, none⟩) m m) (.slice (some ⟨gl, 0, none⟩) m m)) W.heap.size gl m (List.replicate m (-1)) ∧ (¬ TBk kx gb gf (.slice (some ⟨vb, 0, none⟩) 1 1) gl) ∧ Below W.heap.size W (set4 V5 kx (.slice (some ⟨vb, 0, none⟩) 1 1) (.slice (some ⟨gb, 0, none⟩) m m) (.slice (some ⟨gf, 0, none⟩) m m) (.slice (some ⟨gl, 0, none⟩) m m)) ∧ W.heap.size ≤ kx) := by
                  refine ⟨⟨set_box35 HK5.out, ?_, ?_, ?_, by omega, by simp [Value.ownBlock]; omega, by simp [Value.ownBlock]; omega⟩, ?_, ?_, below_set4 HB5.out (by omega) _ _ _ _, by omega⟩
                  · exact IOwns.base (row_set4 HO5.out (by simp [Value.ownBlock]; omega) _ _ _ _) (by omega)
                  · exact (irow_set4 HG5.out (by omega) _ _ _ _).base (by omega)
                  · exact (irow_set4 HF5.out (by omega) _ _ _ _).base (by omega)
                  · exact (irow_set4 HL5.out (by omega) _ _ _ _).base (by omega)
                  · rintro (h | h | h | h)
                    · omega
                    · omega
                    · omega
                    · simp [Value.ownBlock] at h; omega
                unfold set4 at HFIN
                exact hend kx _ gb gf gl 1 _ _ _ _ _ _ _ _ _ _ _ _ _ HFIN.out
              exact AllReadyH.nil
            exact AllReadyH.nil
          refine ready_cons ({ dst := some 5, op := Op.alloc 35, type := 0, pos := "ref.go:39", after := #[], guard := none }) rfl rfl (fun K hK => ?_) ?_
          · clear hHeld
            go_simp
            obtain ⟨V4, hV⟩ : ∃ V, V = V3.alloc (.cells #[nilS, nilS, nilS, nilS] 35) := ⟨_, rfl⟩
            have hb2 : Below V3.heap.size V3 V4 := by rw [hV]; go_grown
            have HK4 : Hid (V4.ownsRow 0 35 4 (.slice (some ⟨V3.heap.size, 0, none⟩) 1 1) 1 [nilS, nilS, nilS, nilS]) := by show World.ownsRow _ _ _ _ _ _ _; rw [hV]; exact box35 _ _ _ _ _
            obtain ⟨kx, hkx⟩ : ∃ kx, V3.heap.size = kx := ⟨_, rfl⟩
            have rK : V3.heap.size ≤ kx ∧ kx < V4.heap.size := by have h0 := (World.ownsRow.lt HK4.out V3.heap.size rfl).2; omega
            rw [← hV]
            have HB4 := hide (below_step HB3.out hb2)
            have S4 := hb2.size
            have HO4 := hide (HO3.out.later hb2)
            have HG4 := hide (HG3.out.later hb2)
            have HF4 := hide (HF3.out.later hb2)
            clear hb2 q0
            have q0 := (HA.out.later HB4.out).1
            rw [hkx] at HK4 ⊢
            clear hV hkx
            refine hK.out _ _ (by first | with_reducible exact q0 | exact cell_other (cell_other (cell_other (cell_other q0 nk) nk) nk) nk) (fun hHeld => ?_)
            clear hK K
            try simp only [List.setIfInBounds_toArray, List.set_cons_zero, List.set_cons_succ]
            refine wpAnyH_ready (rs := [10]) (by kernel_rfl) (by simp) ?_
            refine ready_cons ({ dst := some 28, op := Op.call { callee := Callee.value (Operand.func 44), args := #[Operand.tmp 27, Operand.const (Value.int IntKind.i64 (-1))], argTypes := #[3, 3] }, type := 33, pos := "ref.go:39", after := #[{ on := 9, ground := Ground.data }, { on := 7, ground := Ground.chain }], guard := none }) rfl rfl (fun K hK => ?_) ?_
            · clear hHeld
              go_simp
              refine (BL.out V4).mono ?_
              rintro e V5 ⟨gl, rfl, hrow, hb2⟩
              have rL := hrow.lt
              have HL5 := hide hrow
              clear hrow
              have HB5 := hide (below_step HB4.out hb2)
              have S5 := hb2.size
              have HO5 := hide (HO4.out.later hb2)
              have HG5 := hide (HG4.out.later hb2)
              have HF5 := hide (HF4.out.later hb2)
              have HK5 := hide (box_later HK4.out hb2)
              clear hb2 q0
              have q0 := (HA.out.later HB5.out).1
              refine hK.out _ _ (by first | with_reducible exact q0 | exact cell_other (cell_other (cell_other (cell_other q0 nk) nk) nk) nk) (fun hHeld => ?_)
              clear hK K
              try simp only [List.setIfInBounds_toArray, List.set_cons_zero, List.set_cons_succ]
              refine wpAnyH_take (i := 11) (v := ?v9) rfl (by kernel_rfl) (by kernel_rfl) (by kernel_rfl) (fun c a w h => hQ c a _ w h rfl) (Or.inl ⟨by rfl, ?hy9⟩) (by assumption) ?rest9
              case hy9 => (intro w hSw; (try dsimp only at hSw); go_simp; try with_reducible rfl)
              try simp only [Act.put, List.setIfInBounds_toArray, List.set_cons_zero, List.set_cons_succ]
              refine wpAnyH_ready (rs := [13]) (by kernel_rfl) (by simp) ?_
              refine ready_cons ({ dst := none, op := Op.store 35 (Operand.tmp 5) (Operand.tmp 29), type := 0, pos := "ref.go:39", after := #[{ on := 12, ground := Ground.data }, { on := 11, ground := Ground.data }, { on := 10, ground := Ground.chain }, { on := 0, ground := Ground.phase }, { on := 1, ground := Ground.phase }, { on := 2, ground := Ground.phase }, { on := 3, ground := Ground.phase }, { on := 4, ground := Ground.phase }, { on := 5, ground := Ground.phase }, { on := 6, ground := Ground.phase }, { on := 7, ground := Ground.phase }, { on := 8, ground := Ground.phase }, { on := 9, ground := Ground.phase }, { on := 10, ground := Ground.phase }, { on := 11, ground := Ground.phase }, { on := 12, ground := Ground.phase }], guard := none }) rfl rfl (fun K hK => ?_) ?_
              · clear hHeld
                obtain ⟨d0, d1, d2, d3, e0, e1, e2, e3⟩ := box_cells HK5.out
                have nk : w.heap.size ≠ kx := by have := HSZ.out; have := HB0.out.size; omega
                go_simp
                clear d0 d1 d2 d3 e0 e1 e2 e3
                refine hK.out _ _ (by first | with_reducible exact q0 | exact cell_other (cell_other (cell_other (cell_other q0 nk) nk) nk) nk) (fun hHeld => ?_)
                clear hK K
                try simp only [List.setIfInBounds_toArray, List.set_cons_zero, List.set_cons_succ]
                refine wpAnyH_done (by kernel_rfl) ?_ _
                clear hHeld
                have hW0 : W.heap.size ≤ V0.heap.size := HB0.out.size
                have HFIN : Hid (TB (set4 V5 kx (.slice (some ⟨vb, 0, none⟩) 1 1) (.slice (some ⟨gb, 0, none⟩) m m) (.slice (some ⟨gf, 0, none⟩) m m) (.slice (some ⟨gl, 0, none⟩) m m)) W.heap.size kx m (.slice (some ⟨vb, 0, none⟩) 1 1) gb gf (.slice (some ⟨gl, 0, none⟩) m m) [(s : Int)] (List.replicate m (-1)) (List.replicate m (-1)) ∧ IRow (set4 V5 kx (.slice (some ⟨vb, 0, none⟩) 1 1) (.slice (some ⟨gb, 0, none⟩) m m) (.slice (some ⟨gf, 0, none⟩) m m) (.slice (some ⟨gl, 0, none⟩) m m)) W.heap.size gl m (List.replicate m (-1)) ∧ (¬ TBk kx gb gf (.slice (some ⟨vb, 0, none⟩) 1 1) gl) ∧ Below W.heap.size W (set4 V5 kx (.slice (some ⟨vb, 0, none⟩) 1 1) (.slice (some ⟨gb, 0, none⟩) m m) (.slice (some ⟨gf, 0, none⟩) m m) (.slice (some ⟨gl, 0, none⟩) m m)) ∧ W.heap.size ≤ kx) := by
                  refine ⟨⟨set_box35 HK5.out, ?_, ?_, ?_, by omega, by simp [Value.ownBlock]; omega, by simp [Value.ownBlock]; omega⟩, ?_, ?_, below_set4 HB5.out (by omega) _ _ _ _, by omega⟩
                  · exact IOwns.base (row_set4 HO5.out (by simp [Value.ownBlock]; omega) _ _ _ _) (by omega)
                  · exact (irow_set4 HG5.out (by omega) _ _ _ _).base (by omega)
                  · exact (irow_set4 HF5.out (by omega) _ _ _ _).base (by omega)
                  · exact (irow_set4 HL5.out (by omega) _ _ _ _).base (by omega)
                  · rintro (h | h | h | h)
                    · omega
                    · omega
                    · omega
                    · simp [Value.ownBlock] at h; omega
                unfold set4 at HFIN
                exact hend kx _ gb gf gl 1 _ _ _ _ _ _ _ _ _ _ _ _ _ HFIN.out
              exact AllReadyH.nil
            exact AllReadyH.nil
          exact AllReadyH.nil
        refine ready_cons ({ dst := some 5, op := Op.alloc 35, type := 0, pos := "ref.go:39", after := #[], guard := none }) rfl rfl (fun K hK => ?_) ?_
        · clear hHeld
          go_simp
          obtain ⟨V3, hV⟩ : ∃ V, V = V2.alloc (.cells #[nilS, nilS, nilS, nilS] 35) := ⟨_, rfl⟩
          have hb2 : Below V2.heap.size V2 V3 := by rw [hV]; go_grown
          have HK3 : Hid (V3.ownsRow 0 35 4 (.slice (some ⟨V2.heap.size, 0, none⟩) 1 1) 1 [nilS, nilS, nilS, nilS]) := by show World.ownsRow _ _ _ _ _ _ _; rw [hV]; exact box35 _ _ _ _ _
          obtain ⟨kx, hkx⟩ : ∃ kx, V2.heap.size = kx := ⟨_, rfl⟩
          have rK : V2.heap.size ≤ kx ∧ kx < V3.heap.size := by have h0 := (World.ownsRow.lt HK3.out V2.heap.size rfl).2; omega
          rw [← hV]
          have HB3 := hide (below_step HB2.out hb2)
          have S3 := hb2.size
          have HO3 := hide (HO2.out.later hb2)
          have HG3 := hide (HG2.out.later hb2)
          clear hb2 q0
          have q0 := (HA.out.later HB3.out).1
          rw [hkx] at HK3 ⊢
          clear hV hkx
          refine hK.out _ _ (by first | with_reducible exact q0 | exact cell_other (cell_other (cell_other (cell_other q0 nk) nk) nk) nk) (fun hHeld => ?_)
          clear hK K
          try simp only [List.setIfInBounds_toArray, List.set_cons_zero, List.set_cons_succ]
          refine wpAnyH_ready (rs := [7]) (by kernel_rfl) (by simp) ?_
          refine ready_cons ({ dst := some 25, op := Op.call { callee := Callee.value (Operand.func 44), args := #[Operand.tmp 24, Operand.const (Value.int IntKind.i64 (-1))], argTypes := #[3, 3] }, type := 33, pos := "ref.go:39", after := #[{ on := 6, ground := Ground.data }, { on := 4, ground := Ground.chain }], guard := none }) rfl rfl (fun K hK => ?_) ?_
          · clear hHeld
            go_simp
            refine (BL.out V3).mono ?_
            rintro e V4 ⟨gf, rfl, hrow, hb2⟩
            have rF := hrow.lt
            have HF4 := hide hrow
            clear hrow
            have HB4 := hide (below_step HB3.out hb2)
            have S4 := hb2.size
            have HO4 := hide (HO3.out.later hb2)
            have HG4 := hide (HG3.out.later hb2)
            have HK4 := hide (box_later HK3.out hb2)
            clear hb2 q0
            have q0 := (HA.out.later HB4.out).1
            refine hK.out _ _ (by first | with_reducible exact q0 | exact cell_other (cell_other (cell_other (cell_other q0 nk) nk) nk) nk) (fun hHeld => ?_)
            clear hK K
            try simp only [List.setIfInBounds_toArray, List.set_cons_zero, List.set_cons_succ]
            refine wpAnyH_ready (rs := [10]) (by kernel_rfl) (by simp) ?_
            refine ready_cons ({ dst := some 28, op := Op.call { callee := Callee.value (Operand.func 44), args := #[Operand.tmp 27, Operand.const (Value.int IntKind.i64 (-1))], argTypes := #[3, 3] }, type := 33, pos := "ref.go:39", after := #[{ on := 9, ground := Ground.data }, { on := 7, ground := Ground.chain }], guard := none }) rfl rfl (fun K hK => ?_) ?_
            · clear hHeld
              go_simp
              refine (BL.out V4).mono ?_
              rintro e V5 ⟨gl, rfl, hrow, hb2⟩
              have rL := hrow.lt
              have HL5 := hide hrow
              clear hrow
              have HB5 := hide (below_step HB4.out hb2)
              have S5 := hb2.size
              have HO5 := hide (HO4.out.later hb2)
              have HG5 := hide (HG4.out.later hb2)
              have HK5 := hide (box_later HK4.out hb2)
              have HF5 := hide (HF4.out.later hb2)
              clear hb2 q0
              have q0 := (HA.out.later HB5.out).1
              refine hK.out _ _ (by first | with_reducible exact q0 | exact cell_other (cell_other (cell_other (cell_other q0 nk) nk) nk) nk) (fun hHeld => ?_)
              clear hK K
              try simp only [List.setIfInBounds_toArray, List.set_cons_zero, List.set_cons_succ]
              refine wpAnyH_take (i := 11) (v := ?v10) rfl (by kernel_rfl) (by kernel_rfl) (by kernel_rfl) (fun c a w h => hQ c a _ w h rfl) (Or.inl ⟨by rfl, ?hy10⟩) (by assumption) ?rest10
              case hy10 => (intro w hSw; (try dsimp only at hSw); go_simp; try with_reducible rfl)
              try simp only [Act.put, List.setIfInBounds_toArray, List.set_cons_zero, List.set_cons_succ]
              refine wpAnyH_ready (rs := [13]) (by kernel_rfl) (by simp) ?_
              refine ready_cons ({ dst := none, op := Op.store 35 (Operand.tmp 5) (Operand.tmp 29), type := 0, pos := "ref.go:39", after := #[{ on := 12, ground := Ground.data }, { on := 11, ground := Ground.data }, { on := 10, ground := Ground.chain }, { on := 0, ground := Ground.phase }, { on := 1, ground := Ground.phase }, { on := 2, ground := Ground.phase }, { on := 3, ground := Ground.phase }, { on := 4, ground := Ground.phase }, { on := 5, ground := Ground.phase }, { on := 6, ground := Ground.phase }, { on := 7, ground := Ground.phase }, { on := 8, ground := Ground.phase }, { on := 9, ground := Ground.phase }, { on := 10, ground := Ground.phase }, { on := 11, ground := Ground.phase }, { on := 12, ground := Ground.phase }], guard := none }) rfl rfl (fun K hK => ?_) ?_
              · clear hHeld
                obtain ⟨d0, d1, d2, d3, e0, e1, e2, e3⟩ := box_cells HK5.out
                have nk : w.heap.size ≠ kx := by have := HSZ.out; have := HB0.out.size; omega
                go_simp
                clear d0 d1 d2 d3 e0 e1 e2 e3
                refine hK.out _ _ (by first | with_reducible exact q0 | exact cell_other (cell_other (cell_other (cell_other q0 nk) nk) nk) nk) (fun hHeld => ?_)
                clear hK K
                try simp only [List.setIfInBounds_toArray, List.set_cons_zero, List.set_cons_succ]
                refine wpAnyH_done (by kernel_rfl) ?_ _
                clear hHeld
                have hW0 : W.heap.size ≤ V0.heap.size := HB0.out.size
                have HFIN : Hid (TB (set4 V5 kx (.slice (some ⟨vb, 0, none⟩) 1 1) (.slice (some ⟨gb, 0, none⟩) m m) (.slice (some ⟨gf, 0, none⟩) m m) (.slice (some ⟨gl, 0, none⟩) m m)) W.heap.size kx m (.slice (some ⟨vb, 0, none⟩) 1 1) gb gf (.slice (some ⟨gl, 0, none⟩) m m) [(s : Int)] (List.replicate m (-1)) (List.replicate m (-1)) ∧ IRow (set4 V5 kx (.slice (some ⟨vb, 0, none⟩) 1 1) (.slice (some ⟨gb, 0, none⟩) m m) (.slice (some ⟨gf, 0, none⟩) m m) (.slice (some ⟨gl, 0, none⟩) m m)) W.heap.size gl m (List.replicate m (-1)) ∧ (¬ TBk kx gb gf (.slice (some ⟨vb, 0, none⟩) 1 1) gl) ∧ Below W.heap.size W (set4 V5 kx (.slice (some ⟨vb, 0, none⟩) 1 1) (.slice (some ⟨gb, 0, none⟩) m m) (.slice (some ⟨gf, 0, none⟩) m m) (.slice (some ⟨gl, 0, none⟩) m m)) ∧ W.heap.size ≤ kx) := by
                  refine ⟨⟨set_box35 HK5.out, ?_, ?_, ?_, by omega, by simp [Value.ownBlock]; omega, by simp [Value.ownBlock]; omega⟩, ?_, ?_, below_set4 HB5.out (by omega) _ _ _ _, by omega⟩
                  · exact IOwns.base (row_set4 HO5.out (by simp [Value.ownBlock]; omega) _ _ _ _) (by omega)
                  · exact (irow_set4 HG5.out (by omega) _ _ _ _).base (by omega)
                  · exact (irow_set4 HF5.out (by omega) _ _ _ _).base (by omega)
                  · exact (irow_set4 HL5.out (by omega) _ _ _ _).base (by omega)
                  · rintro (h | h | h | h)
                    · omega
                    · omega
                    · omega
                    · simp [Value.ownBlock] at h; omega
                unfold set4 at HFIN
                exact hend kx _ gb gf gl 1 _ _ _ _ _ _ _ _ _ _ _ _ _ HFIN.out
              exact AllReadyH.nil
            exact AllReadyH.nil
          exact AllReadyH.nil
        exact AllReadyH.nil
      refine ready_cons ({ dst := some 5, op := Op.alloc 35, type := 0, pos := "ref.go:39", after := #[], guard := none }) rfl rfl (fun K hK => ?_) ?_
      · clear hHeld
        go_simp
        obtain ⟨V2, hV⟩ : ∃ V, V = V1.alloc (.cells #[nilS, nilS, nilS, nilS] 35) := ⟨_, rfl⟩
        have hb2 : Below V1.heap.size V1 V2 := by rw [hV]; go_grown
        have HK2 : Hid (V2.ownsRow 0 35 4 (.slice (some ⟨V1.heap.size, 0, none⟩) 1 1) 1 [nilS, nilS, nilS, nilS]) := by show World.ownsRow _ _ _ _ _ _ _; rw [hV]; exact box35 _ _ _ _ _
        obtain ⟨kx, hkx⟩ : ∃ kx, V1.heap.size = kx := ⟨_, rfl⟩
        have rK : V1.heap.size ≤ kx ∧ kx < V2.heap.size := by have h0 := (World.ownsRow.lt HK2.out V1.heap.size rfl).2; omega
        rw [← hV]
        have HB2 := hide (below_step HB1.out hb2)
        have S2 := hb2.size
        have HO2 := hide (HO1.out.later hb2)
        clear hb2 q0
        have q0 := (HA.out.later HB2.out).1
        rw [hkx] at HK2 ⊢
        clear hV hkx
        refine hK.out _ _ (by first | with_reducible exact q0 | exact cell_other (cell_other (cell_other (cell_other q0 nk) nk) nk) nk) (fun hHeld => ?_)
        clear hK K
        try simp only [List.setIfInBounds_toArray, List.set_cons_zero, List.set_cons_succ]
        refine wpAnyH_ready (rs := [4]) (by kernel_rfl) (by simp) ?_
        refine ready_cons ({ dst := some 22, op := Op.call { callee := Callee.value (Operand.func 44), args := #[Operand.tmp 21, Operand.const (Value.int IntKind.i64 (-1))], argTypes := #[3, 3] }, type := 33, pos := "ref.go:39", after := #[{ on := 3, ground := Ground.data }], guard := none }) rfl rfl (fun K hK => ?_) ?_
        · clear hHeld
          go_simp
          refine (BL.out V2).mono ?_
          rintro e V3 ⟨gb, rfl, hrow, hb2⟩
          have rG := hrow.lt
          have HG3 := hide hrow
          clear hrow
          have HB3 := hide (below_step HB2.out hb2)
          have S3 := hb2.size
          have HO3 := hide (HO2.out.later hb2)
          have HK3 := hide (box_later HK2.out hb2)
          clear hb2 q0
          have q0 := (HA.out.later HB3.out).1
          refine hK.out _ _ (by first | with_reducible exact q0 | exact cell_other (cell_other (cell_other (cell_other q0 nk) nk) nk) nk) (fun hHeld => ?_)
          clear hK K
          try simp only [List.setIfInBounds_toArray, List.set_cons_zero, List.set_cons_succ]
          refine wpAnyH_ready (rs := [7]) (by kernel_rfl) (by simp) ?_
          refine ready_cons ({ dst := some 25, op := Op.call { callee := Callee.value (Operand.func 44), args := #[Operand.tmp 24, Operand.const (Value.int IntKind.i64 (-1))], argTypes := #[3, 3] }, type := 33, pos := "ref.go:39", after := #[{ on := 6, ground := Ground.data }, { on := 4, ground := Ground.chain }], guard := none }) rfl rfl (fun K hK => ?_) ?_
          · clear hHeld
            go_simp
            refine (BL.out V3).mono ?_
            rintro e V4 ⟨gf, rfl, hrow, hb2⟩
            have rF := hrow.lt
            have HF4 := hide hrow
            clear hrow
            have HB4 := hide (below_step HB3.out hb2)
            have S4 := hb2.size
            have HO4 := hide (HO3.out.later hb2)
            have HK4 := hide (box_later HK3.out hb2)
            have HG4 := hide (HG3.out.later hb2)
            clear hb2 q0
            have q0 := (HA.out.later HB4.out).1
            refine hK.out _ _ (by first | with_reducible exact q0 | exact cell_other (cell_other (cell_other (cell_other q0 nk) nk) nk) nk) (fun hHeld => ?_)
            clear hK K
            try simp only [List.setIfInBounds_toArray, List.set_cons_zero, List.set_cons_succ]
            refine wpAnyH_ready (rs := [10]) (by kernel_rfl) (by simp) ?_
            refine ready_cons ({ dst := some 28, op := Op.call { callee := Callee.value (Operand.func 44), args := #[Operand.tmp 27, Operand.const (Value.int IntKind.i64 (-1))], argTypes := #[3, 3] }, type := 33, pos := "ref.go:39", after := #[{ on := 9, ground := Ground.data }, { on := 7, ground := Ground.chain }], guard := none }) rfl rfl (fun K hK => ?_) ?_
            · clear hHeld
              go_simp
              refine (BL.out V4).mono ?_
              rintro e V5 ⟨gl, rfl, hrow, hb2⟩
              have rL := hrow.lt
              have HL5 := hide hrow
              clear hrow
              have HB5 := hide (below_step HB4.out hb2)
              have S5 := hb2.size
              have HO5 := hide (HO4.out.later hb2)
              have HK5 := hide (box_later HK4.out hb2)
              have HG5 := hide (HG4.out.later hb2)
              have HF5 := hide (HF4.out.later hb2)
              clear hb2 q0
              have q0 := (HA.out.later HB5.out).1
              refine hK.out _ _ (by first | with_reducible exact q0 | exact cell_other (cell_other (cell_other (cell_other q0 nk) nk) nk) nk) (fun hHeld => ?_)
              clear hK K
              try simp only [List.setIfInBounds_toArray, List.set_cons_zero, List.set_cons_succ]
              refine wpAnyH_take (i := 11) (v := ?v11) rfl (by kernel_rfl) (by kernel_rfl) (by kernel_rfl) (fun c a w h => hQ c a _ w h rfl) (Or.inl ⟨by rfl, ?hy11⟩) (by assumption) ?rest11
              case hy11 => (intro w hSw; (try dsimp only at hSw); go_simp; try with_reducible rfl)
              try simp only [Act.put, List.setIfInBounds_toArray, List.set_cons_zero, List.set_cons_succ]
              refine wpAnyH_ready (rs := [13]) (by kernel_rfl) (by simp) ?_
              refine ready_cons ({ dst := none, op := Op.store 35 (Operand.tmp 5) (Operand.tmp 29), type := 0, pos := "ref.go:39", after := #[{ on := 12, ground := Ground.data }, { on := 11, ground := Ground.data }, { on := 10, ground := Ground.chain }, { on := 0, ground := Ground.phase }, { on := 1, ground := Ground.phase }, { on := 2, ground := Ground.phase }, { on := 3, ground := Ground.phase }, { on := 4, ground := Ground.phase }, { on := 5, ground := Ground.phase }, { on := 6, ground := Ground.phase }, { on := 7, ground := Ground.phase }, { on := 8, ground := Ground.phase }, { on := 9, ground := Ground.phase }, { on := 10, ground := Ground.phase }, { on := 11, ground := Ground.phase }, { on := 12, ground := Ground.phase }], guard := none }) rfl rfl (fun K hK => ?_) ?_
              · clear hHeld
                obtain ⟨d0, d1, d2, d3, e0, e1, e2, e3⟩ := box_cells HK5.out
                have nk : w.heap.size ≠ kx := by have := HSZ.out; have := HB0.out.size; omega
                go_simp
                clear d0 d1 d2 d3 e0 e1 e2 e3
                refine hK.out _ _ (by first | with_reducible exact q0 | exact cell_other (cell_other (cell_other (cell_other q0 nk) nk) nk) nk) (fun hHeld => ?_)
                clear hK K
                try simp only [List.setIfInBounds_toArray, List.set_cons_zero, List.set_cons_succ]
                refine wpAnyH_done (by kernel_rfl) ?_ _
                clear hHeld
                have hW0 : W.heap.size ≤ V0.heap.size := HB0.out.size
                have HFIN : Hid (TB (set4 V5 kx (.slice (some ⟨vb, 0, none⟩) 1 1) (.slice (some ⟨gb, 0, none⟩) m m) (.slice (some ⟨gf, 0, none⟩) m m) (.slice (some ⟨gl, 0, none⟩) m m)) W.heap.size kx m (.slice (some ⟨vb, 0, none⟩) 1 1) gb gf (.slice (some ⟨gl, 0, none⟩) m m) [(s : Int)] (List.replicate m (-1)) (List.replicate m (-1)) ∧ IRow (set4 V5 kx (.slice (some ⟨vb, 0, none⟩) 1 1) (.slice (some ⟨gb, 0, none⟩) m m) (.slice (some ⟨gf, 0, none⟩) m m) (.slice (some ⟨gl, 0, none⟩) m m)) W.heap.size gl m (List.replicate m (-1)) ∧ (¬ TBk kx gb gf (.slice (some ⟨vb, 0, none⟩) 1 1) gl) ∧ Below W.heap.size W (set4 V5 kx (.slice (some ⟨vb, 0, none⟩) 1 1) (.slice (some ⟨gb, 0, none⟩) m m) (.slice (some ⟨gf, 0, none⟩) m m) (.slice (some ⟨gl, 0, none⟩) m m)) ∧ W.heap.size ≤ kx) := by
                  refine ⟨⟨set_box35 HK5.out, ?_, ?_, ?_, by omega, by simp [Value.ownBlock]; omega, by simp [Value.ownBlock]; omega⟩, ?_, ?_, below_set4 HB5.out (by omega) _ _ _ _, by omega⟩
                  · exact IOwns.base (row_set4 HO5.out (by simp [Value.ownBlock]; omega) _ _ _ _) (by omega)
                  · exact (irow_set4 HG5.out (by omega) _ _ _ _).base (by omega)
                  · exact (irow_set4 HF5.out (by omega) _ _ _ _).base (by omega)
                  · exact (irow_set4 HL5.out (by omega) _ _ _ _).base (by omega)
                  · rintro (h | h | h | h)
                    · omega
                    · omega
                    · omega
                    · simp [Value.ownBlock] at h; omega
                unfold set4 at HFIN
                exact hend kx _ gb gf gl 1 _ _ _ _ _ _ _ _ _ _ _ _ _ HFIN.out
              exact AllReadyH.nil
            exact AllReadyH.nil
          exact AllReadyH.nil
        exact AllReadyH.nil
      exact AllReadyH.nil
    refine ready_cons ({ dst := some 22, op := Op.call { callee := Callee.value (Operand.func 44), args := #[Operand.tmp 21, Operand.const (Value.int IntKind.i64 (-1))], argTypes := #[3, 3] }, type := 33, pos := "ref.go:39", after := #[{ on := 3, ground := Ground.data }], guard := none }) rfl rfl (fun K hK => ?_) ?_
    · clear hHeld
      go_simp
      refine (BL.out V0).mono ?_
      rintro e V1 ⟨gb, rfl, hrow, hb2⟩
      have rG := hrow.lt
      have HG1 := hide hrow
      clear hrow
      have HB1 := hide (below_step HB0.out hb2)
      have S1 := hb2.size
      clear hb2 q0
      have q0 := (HA.out.later HB1.out).1
      refine hK.out _ _ (by first | with_reducible exact q0 | exact cell_other (cell_other (cell_other (cell_other q0 nk) nk) nk) nk) (fun hHeld => ?_)
      clear hK K
      try simp only [List.setIfInBounds_toArray, List.set_cons_zero, List.set_cons_succ]
      refine wpAnyH_ready (rs := [1, 7, 12]) (by kernel_rfl) (by simp) ?_
      refine ready_cons ({ dst := some 19, op := Op.buildSlice 33 1 #[(0, Operand.tmp 18)], type := 33, pos := "ref.go:39", after := #[{ on := 0, ground := Ground.data }], guard := none }) rfl rfl (fun K hK => ?_) ?_
      · clear hHeld
        go_simp
        obtain ⟨V2, hV⟩ : ∃ V, V = V1.alloc (.cells #[.int .i64 s] 3) := ⟨_, rfl⟩
        have hb2 : Below V1.heap.size V1 V2 := by rw [hV]; go_grown
        have HO2 : Hid (IOwns V2 V1.heap.size (.slice (some ⟨V1.heap.size, 0, none⟩) 1 1) [(s : Int)]) := by show IOwns _ _ _ _; rw [hV]; exact World.ownsRow_lit _ #[.int .i64 s] 1 (Nat.le_refl _) (by unfold maxLen; omega) rfl
        obtain ⟨vb, hvb⟩ : ∃ vb, V1.heap.size = vb := ⟨_, rfl⟩
        have rO : V1.heap.size ≤ vb ∧ vb < V2.heap.size := by have h0 := (World.ownsRow.lt HO2.out V1.heap.size rfl).2; omega
        rw [← hV]
        have HB2 := hide (below_step HB1.out hb2)
        have S2 := hb2.size
        have HG2 := hide (HG1.out.later hb2)
        clear hb2 q0
        have q0 := (HA.out.later HB2.out).1
        rw [show (Value.slice (some ⟨V1.heap.size, 0, none⟩) 1 1) = .slice (some ⟨vb, 0, none⟩) 1 1 by rw [hvb]] at HO2
        rw [hvb]
        clear hV hvb
        refine hK.out _ _ (by first | with_reducible exact q0 | exact cell_other (cell_other (cell_other (cell_other q0 nk) nk) nk) nk) (fun hHeld => ?_)
        clear hK K
        try simp only [List.setIfInBounds_toArray, List.set_cons_zero, List.set_cons_succ]
        refine wpAnyH_ready (rs := [7, 12]) (by kernel_rfl) (by simp) ?_
        refine ready_cons ({ dst := some 25, op := Op.call { callee := Callee.value (Operand.func 44), args := #[Operand.tmp 24, Operand.const (Value.int IntKind.i64 (-1))], argTypes := #[3, 3] }, type := 33, pos := "ref.go:39", after := #[{ on := 6, ground := Ground.data }, { on := 4, ground := Ground.chain }], guard := none }) rfl rfl (fun K hK => ?_) ?_
        · clear hHeld
          go_simp
          refine (BL.out V2).mono ?_
          rintro e V3 ⟨gf, rfl, hrow, hb2⟩
          have rF := hrow.lt
          have HF3 := hide hrow
          clear hrow
          have HB3 := hide (below_step HB2.out hb2)
          have S3 := hb2.size
          have HG3 := hide (HG2.out.later hb2)
          have HO3 := hide (HO2.out.later hb2)
          clear hb2 q0
          have q0 := (HA.out.later HB3.out).1
          refine hK.out _ _ (by first | with_reducible exact q0 | exact cell_other (cell_other (cell_other (cell_other q0 nk) nk) nk) nk) (fun hHeld => ?_)
          clear hK K
          try simp only [List.setIfInBounds_toArray, List.set_cons_zero, List.set_cons_succ]
          refine wpAnyH_ready (rs := [10, 12]) (by kernel_rfl) (by simp) ?_
          refine ready_cons ({ dst := some 28, op := Op.call { callee := Callee.value (Operand.func 44), args := #[Operand.tmp 27, Operand.const (Value.int IntKind.i64 (-1))], argTypes := #[3, 3] }, type := 33, pos := "ref.go:39", after := #[{ on := 9, ground := Ground.data }, { on := 7, ground := Ground.chain }], guard := none }) rfl rfl (fun K hK => ?_) ?_
          · clear hHeld
            go_simp
            refine (BL.out V3).mono ?_
            rintro e V4 ⟨gl, rfl, hrow, hb2⟩
            have rL := hrow.lt
            have HL4 := hide hrow
            clear hrow
            have HB4 := hide (below_step HB3.out hb2)
            have S4 := hb2.size
            have HG4 := hide (HG3.out.later hb2)
            have HO4 := hide (HO3.out.later hb2)
            have HF4 := hide (HF3.out.later hb2)
            clear hb2 q0
            have q0 := (HA.out.later HB4.out).1
            refine hK.out _ _ (by first | with_reducible exact q0 | exact cell_other (cell_other (cell_other (cell_other q0 nk) nk) nk) nk) (fun hHeld => ?_)
            clear hK K
            try simp only [List.setIfInBounds_toArray, List.set_cons_zero, List.set_cons_succ]
            refine wpAnyH_take (i := 11) (v := ?v12) rfl (by kernel_rfl) (by kernel_rfl) (by kernel_rfl) (fun c a w h => hQ c a _ w h rfl) (Or.inl ⟨by rfl, ?hy12⟩) (by assumption) ?rest12
            case hy12 => (intro w hSw; (try dsimp only at hSw); go_simp; try with_reducible rfl)
            try simp only [Act.put, List.setIfInBounds_toArray, List.set_cons_zero, List.set_cons_succ]
            refine wpAnyH_ready (rs := [12]) (by kernel_rfl) (by simp) ?_
            refine ready_cons ({ dst := some 5, op := Op.alloc 35, type := 0, pos := "ref.go:39", after := #[], guard := none }) rfl rfl (fun K hK => ?_) ?_
            · clear hHeld
              go_simp
              obtain ⟨V5, hV⟩ : ∃ V, V = V4.alloc (.cells #[nilS, nilS, nilS, nilS] 35) := ⟨_, rfl⟩
              have hb2 : Below V4.heap.size V4 V5 := by rw [hV]; go_grown
              have HK5 : Hid (V5.ownsRow 0 35 4 (.slice (some ⟨V4.heap.size, 0, none⟩) 1 1) 1 [nilS, nilS, nilS, nilS]) := by show World.ownsRow _ _ _ _ _ _ _; rw [hV]; exact box35 _ _ _ _ _
              obtain ⟨kx, hkx⟩ : ∃ kx, V4.heap.size = kx := ⟨_, rfl⟩
              have rK : V4.heap.size ≤ kx ∧ kx < V5.heap.size := by have h0 := (World.ownsRow.lt HK5.out V4.heap.size rfl).2; omega
              rw [← hV]
              have HB5 := hide (below_step HB4.out hb2)
              have S5 := hb2.size
              have HG5 := hide (HG4.out.later hb2)
              have HO5 := hide (HO4.out.later hb2)
              have HF5 := hide (HF4.out.later hb2)
              have HL5 := hide (HL4.out.later hb2)
              clear hb2 q0
              have q0 := (HA.out.later HB5.out).1
              rw [hkx] at HK5 ⊢
              clear hV hkx
              refine hK.out _ _ (by first | with_reducible exact q0 | exact cell_other (cell_other (cell_other (cell_other q0 nk) nk) nk) nk) (fun hHeld => ?_)
              clear hK K
              try simp only [List.setIfInBounds_toArray, List.set_cons_zero, List.set_cons_succ]
              refine wpAnyH_ready (rs := [13]) (by kernel_rfl) (by simp) ?_
              refine ready_cons ({ dst := none, op := Op.store 35 (Operand.tmp 5) (Operand.tmp 29), type := 0, pos := "ref.go:39", after := #[{ on := 12, ground := Ground.data }, { on := 11, ground := Ground.data }, { on := 10, ground := Ground.chain }, { on := 0, ground := Ground.phase }, { on := 1, ground := Ground.phase }, { on := 2, ground := Ground.phase }, { on := 3, ground := Ground.phase }, { on := 4, ground := Ground.phase }, { on := 5, ground := Ground.phase }, { on := 6, ground := Ground.phase }, { on := 7, ground := Ground.phase }, { on := 8, ground := Ground.phase }, { on := 9, ground := Ground.phase }, { on := 10, ground := Ground.phase }, { on := 11, ground := Ground.phase }, { on := 12, ground := Ground.phase }], guard := none }) rfl rfl (fun K hK => ?_) ?_
              · clear hHeld
                obtain ⟨d0, d1, d2, d3, e0, e1, e2, e3⟩ := box_cells HK5.out
                have nk : w.heap.size ≠ kx := by have := HSZ.out; have := HB0.out.size; omega
                go_simp
                clear d0 d1 d2 d3 e0 e1 e2 e3
                refine hK.out _ _ (by first | with_reducible exact q0 | exact cell_other (cell_other (cell_other (cell_other q0 nk) nk) nk) nk) (fun hHeld => ?_)
                clear hK K
                try simp only [List.setIfInBounds_toArray, List.set_cons_zero, List.set_cons_succ]
                refine wpAnyH_done (by kernel_rfl) ?_ _
                clear hHeld
                have hW0 : W.heap.size ≤ V0.heap.size := HB0.out.size
                have HFIN : Hid (TB (set4 V5 kx (.slice (some ⟨vb, 0, none⟩) 1 1) (.slice (some ⟨gb, 0, none⟩) m m) (.slice (some ⟨gf, 0, none⟩) m m) (.slice (some ⟨gl, 0, none⟩) m m)) W.heap.size kx m (.slice (some ⟨vb, 0, none⟩) 1 1) gb gf (.slice (some ⟨gl, 0, none⟩) m m) [(s : Int)] (List.replicate m (-1)) (List.replicate m (-1)) ∧ IRow (set4 V5 kx (.slice (some ⟨vb, 0, none⟩) 1 1) (.slice (some ⟨gb, 0, none⟩) m m) (.slice (some ⟨gf, 0, none⟩) m m) (.slice (some ⟨gl, 0, none⟩) m m)) W.heap.size gl m (List.replicate m (-1)) ∧ (¬ TBk kx gb gf (.slice (some ⟨vb, 0, none⟩) 1 1) gl) ∧ Below W.heap.size W (set4 V5 kx (.slice (some ⟨vb, 0, none⟩) 1 1) (.slice (some ⟨gb, 0, none⟩) m m) (.slice (some ⟨gf, 0, none⟩) m m) (.slice (some ⟨gl, 0, none⟩) m m)) ∧ W.heap.size ≤ kx) := by
                  refine ⟨⟨set_box35 HK5.out, ?_, ?_, ?_, by omega, by simp [Value.ownBlock]; omega, by simp [Value.ownBlock]; omega⟩, ?_, ?_, below_set4 HB5.out (by omega) _ _ _ _, by omega⟩
                  · exact IOwns.base (row_set4 HO5.out (by simp [Value.ownBlock]; omega) _ _ _ _) (by omega)
                  · exact (irow_set4 HG5.out (by omega) _ _ _ _).base (by omega)
                  · exact (irow_set4 HF5.out (by omega) _ _ _ _).base (by omega)
                  · exact (irow_set4 HL5.out (by omega) _ _ _ _).base (by omega)
                  · rintro (h | h | h | h)
                    · omega
                    · omega
                    · omega
                    · simp [Value.ownBlock] at h; omega
                unfold set4 at HFIN
                exact hend kx _ gb gf gl 1 _ _ _ _ _ _ _ _ _ _ _ _ _ HFIN.out
              exact AllReadyH.nil
            exact AllReadyH.nil
          refine ready_cons ({ dst := some 5, op := Op.alloc 35, type := 0, pos := "ref.go:39", after := #[], guard := none }) rfl rfl (fun K hK => ?_) ?_
          · clear hHeld
            go_simp
            obtain ⟨V4, hV⟩ : ∃ V, V = V3.alloc (.cells #[nilS, nilS, nilS, nilS] 35) := ⟨_, rfl⟩
            have hb2 : Below V3.heap.size V3 V4 := by rw [hV]; go_grown
            have HK4 : Hid (V4.ownsRow 0 35 4 (.slice (some ⟨V3.heap.size, 0, none⟩) 1 1) 1 [nilS, nilS, nilS, nilS]) := by show World.ownsRow _ _ _ _ _ _ _; rw [hV]; exact box35 _ _ _ _ _
            obtain ⟨kx, hkx⟩ : ∃ kx, V3.heap.size = kx := ⟨_, rfl⟩
            have rK : V3.heap.size ≤ kx ∧ kx < V4.heap.size := by have h0 := (World.ownsRow.lt HK4.out V3.heap.size rfl).2; omega
            rw [← hV]
            have HB4 := hide (below_step HB3.out hb2)
            have S4 := hb2.size
            have HG4 := hide (HG3.out.later hb2)
            have HO4 := hide (HO3.out.later hb2)
            have HF4 := hide (HF3.out.later hb2)
            clear hb2 q0
            have q0 := (HA.out.later HB4.out).1
            rw [hkx] at HK4 ⊢
            clear hV hkx
            refine hK.out _ _ (by first | with_reducible exact q0 | exact cell_other (cell_other (cell_other (cell_other q0 nk) nk) nk) nk) (fun hHeld => ?_)
            clear hK K
            try simp only [List.setIfInBounds_toArray, List.set_cons_zero, List.set_cons_succ]
            refine wpAnyH_ready (rs := [10]) (by kernel_rfl) (by simp) ?_
            refine ready_cons ({ dst := some 28, op := Op.call { callee := Callee.value (Operand.func 44), args := #[Operand.tmp 27, Operand.const (Value.int IntKind.i64 (-1))], argTypes := #[3, 3] }, type := 33, pos := "ref.go:39", after := #[{ on := 9, ground := Ground.data }, { on := 7, ground := Ground.chain }], guard := none }) rfl rfl (fun K hK => ?_) ?_
            · clear hHeld
              go_simp
              refine (BL.out V4).mono ?_
              rintro e V5 ⟨gl, rfl, hrow, hb2⟩
              have rL := hrow.lt
              have HL5 := hide hrow
              clear hrow
              have HB5 := hide (below_step HB4.out hb2)
              have S5 := hb2.size
              have HG5 := hide (HG4.out.later hb2)
              have HO5 := hide (HO4.out.later hb2)
              have HF5 := hide (HF4.out.later hb2)
              have HK5 := hide (box_later HK4.out hb2)
              clear hb2 q0
              have q0 := (HA.out.later HB5.out).1
              refine hK.out _ _ (by first | with_reducible exact q0 | exact cell_other (cell_other (cell_other (cell_other q0 nk) nk) nk) nk) (fun hHeld => ?_)
              clear hK K
              try simp only [List.setIfInBounds_toArray, List.set_cons_zero, List.set_cons_succ]
              refine wpAnyH_take (i := 11) (v := ?v13) rfl (by kernel_rfl) (by kernel_rfl) (by kernel_rfl) (fun c a w h => hQ c a _ w h rfl) (Or.inl ⟨by rfl, ?hy13⟩) (by assumption) ?rest13
              case hy13 => (intro w hSw; (try dsimp only at hSw); go_simp; try with_reducible rfl)
              try simp only [Act.put, List.setIfInBounds_toArray, List.set_cons_zero, List.set_cons_succ]
              refine wpAnyH_ready (rs := [13]) (by kernel_rfl) (by simp) ?_
              refine ready_cons ({ dst := none, op := Op.store 35 (Operand.tmp 5) (Operand.tmp 29), type := 0, pos := "ref.go:39", after := #[{ on := 12, ground := Ground.data }, { on := 11, ground := Ground.data }, { on := 10, ground := Ground.chain }, { on := 0, ground := Ground.phase }, { on := 1, ground := Ground.phase }, { on := 2, ground := Ground.phase }, { on := 3, ground := Ground.phase }, { on := 4, ground := Ground.phase }, { on := 5, ground := Ground.phase }, { on := 6, ground := Ground.phase }, { on := 7, ground := Ground.phase }, { on := 8, ground := Ground.phase }, { on := 9, ground := Ground.phase }, { on := 10, ground := Ground.phase }, { on := 11, ground := Ground.phase }, { on := 12, ground := Ground.phase }], guard := none }) rfl rfl (fun K hK => ?_) ?_
              · clear hHeld
                obtain ⟨d0, d1, d2, d3, e0, e1, e2, e3⟩ := box_cells HK5.out
                have nk : w.heap.size ≠ kx := by have := HSZ.out; have := HB0.out.size; omega
                go_simp
                clear d0 d1 d2 d3 e0 e1 e2 e3
                refine hK.out _ _ (by first | with_reducible exact q0 | exact cell_other (cell_other (cell_other (cell_other q0 nk) nk) nk) nk) (fun hHeld => ?_)
                clear hK K
                try simp only [List.setIfInBounds_toArray, List.set_cons_zero, List.set_cons_succ]
                refine wpAnyH_done (by kernel_rfl) ?_ _
                clear hHeld
                have hW0 : W.heap.size ≤ V0.heap.size := HB0.out.size
                have HFIN : Hid (TB (set4 V5 kx (.slice (some ⟨vb, 0, none⟩) 1 1) (.slice (some ⟨gb, 0, none⟩) m m) (.slice (some ⟨gf, 0, none⟩) m m) (.slice (some ⟨gl, 0, none⟩) m m)) W.heap.size kx m (.slice (some ⟨vb, 0, none⟩) 1 1) gb gf (.slice (some ⟨gl, 0, none⟩) m m) [(s : Int)] (List.replicate m (-1)) (List.replicate m (-1)) ∧ IRow (set4 V5 kx (.slice (some ⟨vb, 0, none⟩) 1 1) (.slice (some ⟨gb, 0, none⟩) m m) (.slice (some ⟨gf, 0, none⟩) m m) (.slice (some ⟨gl, 0, none⟩) m m)) W.heap.size gl m (List.replicate m (-1)) ∧ (¬ TBk kx gb gf (.slice (some ⟨vb, 0, none⟩) 1 1) gl) ∧ Below W.heap.size W (set4 V5 kx (.slice (some ⟨vb, 0, none⟩) 1 1) (.slice (some ⟨gb, 0, none⟩) m m) (.slice (some ⟨gf, 0, none⟩) m m) (.slice (some ⟨gl, 0, none⟩) m m)) ∧ W.heap.size ≤ kx) := by
                  refine ⟨⟨set_box35 HK5.out, ?_, ?_, ?_, by omega, by simp [Value.ownBlock]; omega, by simp [Value.ownBlock]; omega⟩, ?_, ?_, below_set4 HB5.out (by omega) _ _ _ _, by omega⟩
                  · exact IOwns.base (row_set4 HO5.out (by simp [Value.ownBlock]; omega) _ _ _ _) (by omega)
                  · exact (irow_set4 HG5.out (by omega) _ _ _ _).base (by omega)
                  · exact (irow_set4 HF5.out (by omega) _ _ _ _).base (by omega)
                  · exact (irow_set4 HL5.out (by omega) _ _ _ _).base (by omega)
                  · rintro (h | h | h | h)
                    · omega
                    · omega
                    · omega
                    · simp [Value.ownBlock] at h; omega
                unfold set4 at HFIN
                exact hend kx _ gb gf gl 1 _ _ _ _ _ _ _ _ _ _ _ _ _ HFIN.out
              exact AllReadyH.nil
            exact AllReadyH.nil
          exact AllReadyH.nil
        refine ready_cons ({ dst := some 5, op := Op.alloc 35, type := 0, pos := "ref.go:39", after := #[], guard := none }) rfl rfl (fun K hK => ?_) ?_
        · clear hHeld
          go_simp
          obtain ⟨V3, hV⟩ : ∃ V, V = V2.alloc (.cells #[nilS, nilS, nilS, nilS] 35) := ⟨_, rfl⟩
          have hb2 : Below V2.heap.size V2 V3 := by rw [hV]; go_grown
          have HK3 : Hid (V3.ownsRow 0 35 4 (.slice (some ⟨V2.heap.size, 0, none⟩) 1 1) 1 [nilS, nilS, nilS, nilS]) := by show World.ownsRow _ _ _ _ _ _ _; rw [hV]; exact box35 _ _ _ _ _
          obtain ⟨kx, hkx⟩ : ∃ kx, V2.heap.size = kx := ⟨_, rfl⟩
          have rK : V2.heap.size ≤ kx ∧ kx < V3.heap.size := by have h0 := (World.ownsRow.lt HK3.out V2.heap.size rfl).2; omega
          rw [← hV]
          have HB3 := hide (below_step HB2.out hb2)
          have S3 := hb2.size
          have HG3 := hide (HG2.out.later hb2)
          have HO3 := hide (HO2.out.later hb2)
          clear hb2 q0
          have q0 := (HA.out.later HB3.out).1
          rw [hkx] at HK3 ⊢
          clear hV hkx
          refine hK.out _ _ (by first | with_reducible exact q0 | exact cell_other (cell_other (cell_other (cell_other q0 nk) nk) nk) nk) (fun hHeld => ?_)
          clear hK K
          try simp only [List.setIfInBounds_toArray, List.set_cons_zero, List.set_cons_succ]
          refine wpAnyH_ready (rs := [7]) (by kernel_rfl) (by simp) ?_
          refine ready_cons ({ dst := some 25, op := Op.call { callee := Callee.value (Operand.func 44), args := #[Operand.tmp 24, Operand.const (Value.int IntKind.i64 (-1))], argTypes := #[3, 3] }, type := 33, pos := "ref.go:39", after := #[{ on := 6, ground := Ground.data }, { on := 4, ground := Ground.chain }], guard := none }) rfl rfl (fun K hK => ?_) ?_
          · clear hHeld
            go_simp
            refine (BL.out V3).mono ?_
            rintro e V4 ⟨gf, rfl, hrow, hb2⟩
            have rF := hrow.lt
            have HF4 := hide hrow
            clear hrow
            have HB4 := hide (below_step HB3.out hb2)
            have S4 := hb2.size
            have HG4 := hide (HG3.out.later hb2)
            have HO4 := hide (HO3.out.later hb2)
            have HK4 := hide (box_later HK3.out hb2)
            clear hb2 q0
            have q0 := (HA.out.later HB4.out).1
            refine hK.out _ _ (by first | with_reducible exact q0 | exact cell_other (cell_other (cell_other (cell_other q0 nk) nk) nk) nk) (fun hHeld => ?_)
            clear hK K
            try simp only [List.setIfInBounds_toArray, List.set_cons_zero, List.set_cons_succ]
            refine wpAnyH_ready (rs := [10]) (by kernel_rfl) (by simp) ?_
            refine ready_cons ({ dst := some 28, op := Op.call { callee := Callee.value (Operand.func 44), args := #[Operand.tmp 27, Operand.const (Value.int IntKind.i64 (-1))], argTypes := #[3, 3] }, type := 33, pos := "ref.go:39", after := #[{ on := 9, ground := Ground.data }, { on := 7, ground := Ground.chain }], guard := none }) rfl rfl (fun K hK => ?_) ?_
            · clear hHeld
              go_simp
              refine (BL.out V4).mono ?_
              rintro e V5 ⟨gl, rfl, hrow, hb2⟩
              have rL := hrow.lt
              have HL5 := hide hrow
              clear hrow
              have HB5 := hide (below_step HB4.out hb2)
              have S5 := hb2.size
              have HG5 := hide (HG4.out.later hb2)
              have HO5 := hide (HO4.out.later hb2)
              have HK5 := hide (box_later HK4.out hb2)
              have HF5 := hide (HF4.out.later hb2)
              clear hb2 q0
              have q0 := (HA.out.later HB5.out).1
              refine hK.out _ _ (by first | with_reducible exact q0 | exact cell_other (cell_other (cell_other (cell_other q0 nk) nk) nk) nk) (fun hHeld => ?_)
              clear hK K
              try simp only [List.setIfInBounds_toArray, List.set_cons_zero, List.set_cons_succ]
              refine wpAnyH_take (i := 11) (v := ?v14) rfl (by kernel_rfl) (by kernel_rfl) (by kernel_rfl) (fun c a w h => hQ c a _ w h rfl) (Or.inl ⟨by rfl, ?hy14⟩) (by assumption) ?rest14
              case hy14 => (intro w hSw; (try dsimp only at hSw); go_simp; try with_reducible rfl)
              try simp only [Act.put, List.setIfInBounds_toArray, List.set_cons_zero, List.set_cons_succ]
              refine wpAnyH_ready (rs := [13]) (by kernel_rfl) (by simp) ?_
              refine ready_cons ({ dst := none, op := Op.store 35 (Operand.tmp 5) (Operand.tmp 29), type := 0, pos := "ref.go:39", after := #[{ on := 12, ground := Ground.data }, { on := 11, ground := Ground.data }, { on := 10, ground := Ground.chain }, { on := 0, ground := Ground.phase }, { on := 1, ground := Ground.phase }, { on := 2, ground := Ground.phase }, { on := 3, ground := Ground.phase }, { on := 4, ground := Ground.phase }, { on := 5, ground := Ground.phase }, { on := 6, ground := Ground.phase }, { on := 7, ground := Ground.phase }, { on := 8, ground := Ground.phase }, { on := 9, ground := Ground.phase }, { on := 10, ground := Ground.phase }, { on := 11, ground := Ground.phase }, { on := 12, ground := Ground.phase }], guard := none }) rfl rfl (fun K hK => ?_) ?_
              · clear hHeld
                obtain ⟨d0, d1, d2, d3, e0, e1, e2, e3⟩ := box_cells HK5.out
                have nk : w.heap.size ≠ kx := by have := HSZ.out; have := HB0.out.size; omega
                go_simp
                clear d0 d1 d2 d3 e0 e1 e2 e3
                refine hK.out _ _ (by first | with_reducible exact q0 | exact cell_other (cell_other (cell_other (cell_other q0 nk) nk) nk) nk) (fun hHeld => ?_)
                clear hK K
                try simp only [List.setIfInBounds_toArray, List.set_cons_zero, List.set_cons_succ]
                refine wpAnyH_done (by kernel_rfl) ?_ _
                clear hHeld
                have hW0 : W.heap.size ≤ V0.heap.size := HB0.out.size
                have HFIN : Hid (TB (set4 V5 kx (.slice (some ⟨vb, 0, none⟩) 1 1) (.slice (some ⟨gb, 0, none⟩) m m) (.slice (some ⟨gf, 0, none⟩) m m) (.slice (some ⟨gl, 0, none⟩) m m)) W.heap.size kx m (.slice (some ⟨vb, 0, none⟩) 1 1) gb gf (.slice (some ⟨gl, 0, none⟩) m m) [(s : Int)] (List.replicate m (-1)) (List.replicate m (-1)) ∧ IRow (set4 V5 kx (.slice (some ⟨vb, 0, none⟩) 1 1) (.slice (some ⟨gb, 0, none⟩) m m) (.slice (some ⟨gf, 0, none⟩) m m) (.slice (some ⟨gl, 0, none⟩) m m)) W.heap.size gl m (List.replicate m (-1)) ∧ (¬ TBk kx gb gf (.slice (some ⟨vb, 0, none⟩) 1 1) gl) ∧ Below W.heap.size W (set4 V5 kx (.slice (some ⟨vb, 0, none⟩) 1 1) (.slice (some ⟨gb, 0, none⟩) m m) (.slice (some ⟨gf, 0, none⟩) m m) (.slice (some ⟨gl, 0, none⟩) m m)) ∧ W.heap.size ≤ kx) := by
                  refine ⟨⟨set_box35 HK5.out, ?_, ?_, ?_, by omega, by simp [Value.ownBlock]; omega, by simp [Value.ownBlock]; omega⟩, ?_, ?_, below_set4 HB5.out (by omega) _ _ _ _, by omega⟩
                  · exact IOwns.base (row_set4 HO5.out (by simp [Value.ownBlock]; omega) _ _ _ _) (by omega)
                  · exact (irow_set4 HG5.out (by omega) _ _ _ _).base (by omega)
                  · exact (irow_set4 HF5.out (by omega) _ _ _ _).base (by omega)
                  · exact (irow_set4 HL5.out (by omega) _ _ _ _).base (by omega)
                  · rintro (h | h | h | h)
                    · omega
                    · omega
                    · omega
                    · simp [Value.ownBlock] at h; omega
                unfold set4 at HFIN
                exact hend kx _ gb gf gl 1 _ _ _ _ _ _ _ _ _ _ _ _ _ HFIN.out
              exact AllReadyH.nil
            exact AllReadyH.nil
          exact AllReadyH.nil
        exact AllReadyH.nil
      refine ready_cons ({ dst := some 25, op := Op.call { callee := Callee.value (Operand.func 44), args := #[Operand.tmp 24, Operand.const (Value.int IntKind.i64 (-1))], argTypes := #[3, 3] }, type := 33, pos := "ref.go:39", after := #[{ on := 6, ground := Ground.data }, { on := 4, ground := Ground.chain }], guard := none }) rfl rfl (fun K hK => ?_) ?_
      · clear hHeld
        go_simp
        refine (BL.out V1).mono ?_
        rintro e V2 ⟨gf, rfl, hrow, hb2⟩
        have rF := hrow.lt
        have HF2 := hide hrow
        clear hrow
        have HB2 := hide (below_step HB1.out hb2)
        have S2 := hb2.size
        have HG2 := hide (HG1.out.later hb2)
        clear hb2 q0
        have q0 := (HA.out.later HB2.out).1
        refine hK.out _ _ (by first | with_reducible exact q0 | exact cell_other (cell_other (cell_other (cell_other q0 nk) nk) nk) nk) (fun hHeld => ?_)
        clear hK K
        try simp only [List.setIfInBounds_toArray, List.set_cons_zero, List.set_cons_succ]
        refine wpAnyH_ready (rs := [1, 10, 12]) (by kernel_rfl) (by simp) ?_
        refine ready_cons ({ dst := some 19, op := Op.buildSlice 33 1 #[(0, Operand.tmp 18)], type := 33, pos := "ref.go:39", after := #[{ on := 0, ground := Ground.data }], guard := none }) rfl rfl (fun K hK => ?_) ?_
        · clear hHeld
          go_simp
          obtain ⟨V3, hV⟩ : ∃ V, V = V2.alloc (.cells #[.int .i64 s] 3) := ⟨_, rfl⟩
          have hb2 : Below V2.heap.size V2 V3 := by rw [hV]; go_grown
          have HO3 : Hid (IOwns V3 V2.heap.size (.slice (some ⟨V2.heap.size, 0, none⟩) 1 1) [(s : Int)]) := by show IOwns _ _ _ _; rw [hV]; exact World.ownsRow_lit _ #[.int .i64 s] 1 (Nat.le_refl _) (by unfold maxLen; omega) rfl
          obtain ⟨vb, hvb⟩ : ∃ vb, V2.heap.size = vb := ⟨_, rfl⟩
          have rO : V2.heap.size ≤ vb ∧ vb < V3.heap.size := by have h0 := (World.ownsRow.lt HO3.out V2.heap.size rfl).2; omega
          rw [← hV]
          have HB3 := hide (below_step HB2.out hb2)
          have S3 := hb2.size
          have HG3 := hide (HG2.out.later hb2)
          have HF3 := hide (HF2.out.later hb2)
          clear hb2 q0
          have q0 := (HA.out.later HB3.out).1
          rw [show (Value.slice (some ⟨V2.heap.size, 0, none⟩) 1 1) = .slice (some ⟨vb, 0, none⟩) 1 1 by rw [hvb]] at HO3
          rw [hvb]
          clear hV hvb
          refine hK.out _ _ (by first | with_reducible exact q0 | exact cell_other (cell_other (cell_other (cell_other q0 nk) nk) nk) nk) (fun hHeld => ?_)
          clear hK K
          try simp only [List.setIfInBounds_toArray, List.set_cons_zero, List.set_cons_succ]
          refine wpAnyH_ready (rs := [10, 12]) (by kernel_rfl) (by simp) ?_
          refine ready_cons ({ dst := some 28, op := Op.call { callee := Callee.value (Operand.func 44), args := #[Operand.tmp 27, Operand.const (Value.int IntKind.i64 (-1))], argTypes := #[3, 3] }, type := 33, pos := "ref.go:39", after := #[{ on := 9, ground := Ground.data }, { on := 7, ground := Ground.chain }], guard := none }) rfl rfl (fun K hK => ?_) ?_
          · clear hHeld
            go_simp
            refine (BL.out V3).mono ?_
            rintro e V4 ⟨gl, rfl, hrow, hb2⟩
            have rL := hrow.lt
            have HL4 := hide hrow
            clear hrow
            have HB4 := hide (below_step HB3.out hb2)
            have S4 := hb2.size
            have HG4 := hide (HG3.out.later hb2)
            have HF4 := hide (HF3.out.later hb2)
            have HO4 := hide (HO3.out.later hb2)
            clear hb2 q0
            have q0 := (HA.out.later HB4.out).1
            refine hK.out _ _ (by first | with_reducible exact q0 | exact cell_other (cell_other (cell_other (cell_other q0 nk) nk) nk) nk) (fun hHeld => ?_)
            clear hK K
            try simp only [List.setIfInBounds_toArray, List.set_cons_zero, List.set_cons_succ]
            refine wpAnyH_take (i := 11) (v := ?v15) rfl (by kernel_rfl) (by kernel_rfl) (by kernel_rfl) (fun c a w h => hQ c a _ w h rfl) (Or.inl ⟨by rfl, ?hy15⟩) (by assumption) ?rest15
            case hy15 => (intro w hSw; (try dsimp only at hSw); go_simp; try with_reducible rfl)
            try simp only [Act.put, List.setIfInBounds_toArray, List.set_cons_zero, List.set_cons_succ]
            refine wpAnyH_ready (rs := [12]) (by kernel_rfl) (by simp) ?_
            refine ready_cons ({ dst := some 5, op := Op.alloc 35, type := 0, pos := "ref.go:39", after := #[], guard := none }) rfl rfl (fun K hK => ?_) ?_
            · clear hHeld
              go_simp
              obtain ⟨V5, hV⟩ : ∃ V, V = V4.alloc (.cells #[nilS, nilS, nilS, nilS] 35) := ⟨_, rfl⟩
              have hb2 : Below V4.heap.size V4 V5 := by rw [hV]; go_grown
              have HK5 : Hid (V5.ownsRow 0 35 4 (.slice (some ⟨V4.heap.size, 0, none⟩) 1 1) 1 [nilS, nilS, nilS, nilS]) := by show World.ownsRow _ _ _ _ _ _ _; rw [hV]; exact box35 _ _ _ _ _
              obtain ⟨kx, hkx⟩ : ∃ kx, V4.heap.size = kx := ⟨_, rfl⟩
              have rK : V4.heap.size ≤ kx ∧ kx < V5.heap.size := by have h0 := (World.ownsRow.lt HK5.out V4.heap.size rfl).2; omega
              rw [← hV]
              have HB5 := hide (below_step HB4.out hb2)
              have S5 := hb2.size
              have HG5 := hide (HG4.out.later hb2)
              have HF5 := hide (HF4.out.later hb2)
              have HO5 := hide (HO4.out.later hb2)
              have HL5 := hide (HL4.out.later hb2)
              clear hb2 q0
              have q0 := (HA.out.later HB5.out).1
              rw [hkx] at HK5 ⊢
              clear hV hkx
              refine hK.out _ _ (by first | with_reducible exact q0 | exact cell_other (cell_other (cell_other (cell_other q0 nk) nk) nk) nk) (fun hHeld => ?_)
              clear hK K
              try simp only [List.setIfInBounds_toArray, List.set_cons_zero, List.set_cons_succ]
              refine wpAnyH_ready (rs := [13]) (by kernel_rfl) (by simp) ?_
              refine ready_cons ({ dst := none, op := Op.store 35 (Operand.tmp 5) (Operand.tmp 29), type := 0, pos := "ref.go:39", after := #[{ on := 12, ground := Ground.data }, { on := 11, ground := Ground.data }, { on := 10, ground := Ground.chain }, { on := 0, ground := Ground.phase }, { on := 1, ground := Ground.phase }, { on := 2, ground := Ground.phase }, { on := 3, ground := Ground.phase }, { on := 4, ground := Ground.phase }, { on := 5, ground := Ground.phase }, { on := 6, ground := Ground.phase }, { on := 7, ground := Ground.phase }, { on := 8, ground := Ground.phase }, { on := 9, ground := Ground.phase }, { on := 10, ground := Ground.phase }, { on := 11, ground := Ground.phase }, { on := 12, ground := Ground.phase }], guard := none }) rfl rfl (fun K hK => ?_) ?_
              · clear hHeld
                obtain ⟨d0, d1, d2, d3, e0, e1, e2, e3⟩ := box_cells HK5.out
                have nk : w.heap.size ≠ kx := by have := HSZ.out; have := HB0.out.size; omega
                go_simp
                clear d0 d1 d2 d3 e0 e1 e2 e3
                refine hK.out _ _ (by first | with_reducible exact q0 | exact cell_other (cell_other (cell_other (cell_other q0 nk) nk) nk) nk) (fun hHeld => ?_)
                clear hK K
                try simp only [List.setIfInBounds_toArray, List.set_cons_zero, List.set_cons_succ]
                refine wpAnyH_done (by kernel_rfl) ?_ _
                clear hHeld
                have hW0 : W.heap.size ≤ V0.heap.size := HB0.out.size
                have HFIN : Hid (TB (set4 V5 kx (.slice (some ⟨vb, 0, none⟩) 1 1) (.slice (some ⟨gb, 0, none⟩) m m) (.slice (some ⟨gf, 0, none⟩) m m) (.slice (some ⟨gl, 0, none⟩) m m)) W.heap.size kx m (.slice (some ⟨vb, 0, none⟩) 1 1) gb gf (.slice (some ⟨gl, 0, none⟩) m m) [(s : Int)] (List.replicate m (-1)) (List.replicate m (-1)) ∧ IRow (set4 V5 kx (.slice (some ⟨vb, 0, none⟩) 1 1) (.slice (some ⟨gb, 0, none⟩) m m) (.slice (some ⟨gf, 0, none⟩) m m) (.slice (some ⟨gl, 0, none⟩) m m)) W.heap.size gl m (List.replicate m (-1)) ∧ (¬ TBk kx gb gf (.slice (some ⟨vb, 0, none⟩) 1 1) gl) ∧ Below W.heap.size W (set4 V5 kx (.slice (some ⟨vb, 0, none⟩) 1 1) (.slice (some ⟨gb, 0, none⟩) m m) (.slice (some ⟨gf, 0, none⟩) m m) (.slice (some ⟨gl, 0, none⟩) m m)) ∧ W.heap.size ≤ kx) := by
                  refine ⟨⟨set_box35 HK5.out, ?_, ?_, ?_, by omega, by simp [Value.ownBlock]; omega, by simp [Value.ownBlock]; omega⟩, ?_, ?_, below_set4 HB5.out (by omega) _ _ _ _, by omega⟩
                  · exact IOwns.base (row_set4 HO5.out (by simp [Value.ownBlock]; omega) _ _ _ _) (by omega)
                  · exact (irow_set4 HG5.out (by omega) _ _ _ _).base (by omega)
                  · exact (irow_set4 HF5.out (by omega) _ _ _ _).base (by omega)
                  · exact (irow_set4 HL5.out (by omega) _ _ _ _).base (by omega)
                  · rintro (h | h | h | h)
                    · omega
                    · omega
                    · omega
                    · simp [Value.ownBlock] at h; omega
                unfold set4 at HFIN
                exact hend kx _ gb gf gl 1 _ _ _ _ _ _ _ _ _ _ _ _ _ HFIN.out
              exact AllReadyH.nil
            exact AllReadyH.nil
          refine ready_cons ({ dst := some 5, op := Op.alloc 35, type := 0, pos := "ref.go:39", after := #[], guard := none }) rfl rfl (fun K hK => ?_) ?_
          · clear hHeld
            go_simp
            obtain ⟨V4, hV⟩ : ∃ V, V = V3.alloc (.cells #[nilS, nilS, nilS, nilS] 35) := ⟨_, rfl⟩
            have hb2 : Below V3.heap.size V3 V4 := by rw [hV]; go_grown
            have HK4 : Hid (V4.ownsRow 0 35 4 (.slice (some ⟨V3.heap.size, 0, none⟩) 1 1) 1 [nilS, nilS, nilS, nilS]) := by show World.ownsRow _ _ _ _ _ _ _; rw [hV]; exact box35 _ _ _ _ _
            obtain ⟨kx, hkx⟩ : ∃ kx, V3.heap.size = kx := ⟨_, rfl⟩
            have rK : V3.heap.size ≤ kx ∧ kx < V4.heap.size := by have h0 := (World.ownsRow.lt HK4.out V3.heap.size rfl).2; omega
            rw [← hV]
            have HB4 := hide (below_step HB3.out hb2)
            have S4 := hb2.size
            have HG4 := hide (HG3.out.later hb2)
            have HF4 := hide (HF3.out.later hb2)
            have HO4 := hide (HO3.out.later hb2)
            clear hb2 q0
            have q0 := (HA.out.later HB4.out).1
            rw [hkx] at HK4 ⊢
            clear hV hkx
            refine hK.out _ _ (by first | with_reducible exact q0 | exact cell_other (cell_other (cell_other (cell_other q0 nk) nk) nk) nk) (fun hHeld => ?_)
            clear hK K
            try simp only [List.setIfInBounds_toArray, List.set_cons_zero, List.set_cons_succ]
            refine wpAnyH_ready (rs := [10]) (by kernel_rfl) (by simp) ?_
            refine ready_cons ({ dst := some 28, op := Op.call { callee := Callee.value (Operand.func 44), args := #[Operand.tmp 27, Operand.const (Value.int IntKind.i64 (-1))], argTypes := #[3, 3] }, type := 33, pos := "ref.go:39", after := #[{ on := 9, ground := Ground.data }, { on := 7, ground := Ground.chain }], guard := none }) rfl rfl (fun K hK => ?_) ?_
            · clear hHeld
              go_simp
              refine (BL.out V4).mono ?_
              rintro e V5 ⟨gl, rfl, hrow, hb2⟩
              have rL := hrow.lt
              have HL5 := hide hrow
              clear hrow
              have HB5 := hide (below_step HB4.out hb2)
              have S5 := hb2.size
              have HG5 := hide (HG4.out.later hb2)
              have HF5 := hide (HF4.out.later hb2)
              have HO5 := hide (HO4.out.later hb2)
              have HK5 := hide (box_later HK4.out hb2)
              clear hb2 q0
              have q0 := (HA.out.later HB5.out).1
              refine hK.out _ _ (by first | with_reducible exact q0 | exact cell_other (cell_other (cell_other (cell_other q0 nk) nk) nk) nk) (fun hHeld => ?_)
              clear hK K
              try simp only [List.setIfInBounds_toArray, List.set_cons_zero, List.set_cons_succ]
              refine wpAnyH_take (i := 11) (v := ?v16) rfl (by kernel_rfl) (by kernel_rfl) (by kernel_rfl) (fun c a w h => hQ c a _ w h rfl) (Or.inl ⟨by rfl, ?hy16⟩) (by assumption) ?rest16
              case hy16 => (intro w hSw; (try dsimp only at hSw); go_simp; try with_reducible rfl)
              try simp only [Act.put, List.setIfInBounds_toArray, List.set_cons_zero, List.set_cons_succ]
              refine wpAnyH_ready (rs := [13]) (by kernel_rfl) (by simp) ?_
              refine ready_cons ({ dst := none, op := Op.store 35 (Operand.tmp 5) (Operand.tmp 29), type := 0, pos := "ref.go:39", after := #[{ on := 12, ground := Ground.data }, { on := 11, ground := Ground.data }, { on := 10, ground := Ground.chain }, { on := 0, ground := Ground.phase }, { on := 1, ground := Ground.phase }, { on := 2, ground := Ground.phase }, { on := 3, ground := Ground.phase }, { on := 4, ground := Ground.phase }, { on := 5, ground := Ground.phase }, { on := 6, ground := Ground.phase }, { on := 7, ground := Ground.phase }, { on := 8, ground := Ground.phase }, { on := 9, ground := Ground.phase }, { on := 10, ground := Ground.phase }, { on := 11, ground := Ground.phase }, { on := 12, ground := Ground.phase }], guard := none }) rfl rfl (fun K hK => ?_) ?_
              · clear hHeld
                obtain ⟨d0, d1, d2, d3, e0, e1, e2, e3⟩ := box_cells HK5.out
                have nk : w.heap.size ≠ kx := by have := HSZ.out; have := HB0.out.size; omega
                go_simp
                clear d0 d1 d2 d3 e0 e1 e2 e3
                refine hK.out _ _ (by first | with_reducible exact q0 | exact cell_other (cell_other (cell_other (cell_other q0 nk) nk) nk) nk) (fun hHeld => ?_)
                clear hK K
                try simp only [List.setIfInBounds_toArray, List.set_cons_zero, List.set_cons_succ]
                refine wpAnyH_done (by kernel_rfl) ?_ _
                clear hHeld
                have hW0 : W.heap.size ≤ V0.heap.size := HB0.out.size
                have HFIN : Hid (TB (set4 V5 kx (.slice (some ⟨vb, 0, none⟩) 1 1) (.slice (some ⟨gb, 0, none⟩) m m) (.slice (some ⟨gf, 0, none⟩) m m) (.slice (some ⟨gl, 0, none⟩) m m)) W.heap.size kx m (.slice (some ⟨vb, 0, none⟩) 1 1) gb gf (.slice (some ⟨gl, 0, none⟩) m m) [(s : Int)] (List.replicate m (-1)) (List.replicate m (-1)) ∧ IRow (set4 V5 kx (.slice (some ⟨vb, 0, none⟩) 1 1) (.slice (some ⟨gb, 0, none⟩) m m) (.slice (some ⟨gf, 0, none⟩) m m) (.slice (some ⟨gl, 0, none⟩) m m)) W.heap.size gl m (List.replicate m (-1)) ∧ (¬ TBk kx gb gf (.slice (some ⟨vb, 0, none⟩) 1 1) gl) ∧ Below W.heap.size W (set4 V5 kx (.slice (some ⟨vb, 0, none⟩) 1 1) (.slice (some ⟨gb, 0, none⟩) m m) (.slice (some ⟨gf, 0, none⟩) m m) (.slice (some ⟨gl, 0, none⟩) m m)) ∧ W.heap.size ≤ kx) := by
                  refine ⟨⟨set_box35 HK5.out, ?_, ?_, ?_, by omega, by simp [Value.ownBlock]; omega, by simp [Value.ownBlock]; omega⟩, ?_, ?_, below_set4 HB5.out (by omega) _ _ _ _, by omega⟩
                  · exact IOwns.base (row_set4 HO5.out (by simp [Value.ownBlock]; omega) _ _ _ _) (by omega)
                  · exact (irow_set4 HG5.out (by omega) _ _ _ _).base (by omega)
                  · exact (irow_set4 HF5.out (by omega) _ _ _ _).base (by omega)
                  · exact (irow_set4 HL5.out (by omega) _ _ _ _).base (by omega)
                  · rintro (h | h | h | h)
                    · omega
                    · omega
                    · omega
                    · simp [Value.ownBlock] at h; omega
                unfold set4 at HFIN
                exact hend kx _ gb gf gl 1 _ _ _ _ _ _ _ _ _ _ _ _ _ HFIN.out
              exact AllReadyH.nil
            exact AllReadyH.nil
          exact AllReadyH.nil
        refine ready_cons ({ dst := some 28, op := Op.call { callee := Callee.value (Operand.func 44), args := #[Operand.tmp 27, Operand.const (Value.int IntKind.i64 (-1))], argTypes := #[3, 3] }, type := 33, pos := "ref.go:39", after := #[{ on := 9, ground := Ground.data }, { on := 7, ground := Ground.chain }], guard := none }) rfl rfl (fun K hK => ?_) ?_
        · clear hHeld
          go_simp
          refine (BL.out V2).mono ?_
          rintro e V3 ⟨gl, rfl, hrow, hb2⟩
          have rL := hrow.lt
          have HL3 := hide hrow
          clear hrow
          have HB3 := hide (below_step HB2.out hb2)
          have S3 := hb2.size
          have HG3 := hide (HG2.out.later hb2)
          have HF3 := hide (HF2.out.later hb2)
          clear hb2 q0
          have q0 := (HA.out.later HB3.out).1
          refine hK.out _ _ (by first | with_reducible exact q0 | exact cell_other (cell_other (cell_other (cell_other q0 nk) nk) nk) nk) (fun hHeld => ?_)
          clear hK K
          try simp only [List.setIfInBounds_toArray, List.set_cons_zero, List.set_cons_succ]
          refine wpAnyH_ready (rs := [1, 12]) (by kernel_rfl) (by simp) ?_
          refine ready_cons ({ dst := some 19, op := Op.buildSlice 33 1 #[(0, Operand.tmp 18)], type := 33, pos := "ref.go:39", after := #[{ on := 0, ground := Ground.data }], guard := none }) rfl rfl (fun K hK => ?_) ?_
          · clear hHeld
            go_simp
            obtain ⟨V4, hV⟩ : ∃ V, V = V3.alloc (.cells #[.int .i64 s] 3) := ⟨_, rfl⟩
            have hb2 : Below V3.heap.size V3 V4 := by rw [hV]; go_grown
            have HO4 : Hid (IOwns V4 V3.heap.size (.slice (some ⟨V3.heap.size, 0, none⟩) 1 1) [(s : Int)]) := by show IOwns _ _ _ _; rw [hV]; exact World.ownsRow_lit _ #[.int .i64 s] 1 (Nat.le_refl _) (by unfold maxLen; omega) rfl
            obtain ⟨vb, hvb⟩ : ∃ vb, V3.heap.size = vb := ⟨_, rfl⟩
            have rO : V3.heap.size ≤ vb ∧ vb < V4.heap.size := by have h0 := (World.ownsRow.lt HO4.out V3.heap.size rfl).2; omega
            rw [← hV]
            have HB4 := hide (below_step HB3.out hb2)
            have S4 := hb2.size
            have HG4 := hide (HG3.out.later hb2)
            have HF4 := hide (HF3.out.later hb2)
            have HL4 := hide (HL3.out.later hb2)
            clear hb2 q0
            have q0 := (HA.out.later HB4.out).1
            rw [show (Value.slice (some ⟨V3.heap.size, 0, none⟩) 1 1) = .slice (some ⟨vb, 0, none⟩) 1 1 by rw [hvb]] at HO4
            rw [hvb]
            clear hV hvb
            refine hK.out _ _ (by first | with_reducible exact q0 | exact cell_other (cell_other (cell_other (cell_other q0 nk) nk) nk) nk) (fun hHeld => ?_)
            clear hK K
            try simp only [List.setIfInBounds_toArray, List.set_cons_zero, List.set_cons_succ]
            refine wpAnyH_take (i := 11) (v := ?v17) rfl (by kernel_rfl) (by kernel_rfl) (by kernel_rfl) (fun c a w h => hQ c a _ w h rfl) (Or.inl ⟨by rfl, ?hy17⟩) (by assumption) ?rest17
            case hy17 => (intro w hSw; (try dsimp only at hSw); go_simp; try with_reducible rfl)
            try simp only [Act.put, List.setIfInBounds_toArray, List.set_cons_zero, List.set_cons_succ]
            refine wpAnyH_ready (rs := [12]) (by kernel_rfl) (by simp) ?_
            refine ready_cons ({ dst := some 5, op := Op.alloc 35, type := 0, pos := "ref.go:39", after := #[], guard := none }) rfl rfl (fun K hK => ?_) ?_
            · clear hHeld
              go_simp
              obtain ⟨V5, hV⟩ : ∃ V, V = V4.alloc (.cells #[nilS, nilS, nilS, nilS] 35) := ⟨_, rfl⟩
              have hb2 : Below V4.heap.size V4 V5 := by rw [hV]; go_grown
              have HK5 : Hid (V5.ownsRow 0 35 4 (.slice (some ⟨V4.heap.size, 0, none⟩) 1 1) 1 [nilS, nilS, nilS, nilS]) := by show World.ownsRow _ _ _ _ _ _ _; rw [hV]; exact box35 _ _ _ _ _
              obtain ⟨kx, hkx⟩ : ∃ kx, V4.heap.size = kx := ⟨_, rfl⟩
              have rK : V4.heap.size ≤ kx ∧ kx < V5.heap.size := by have h0 := (World.ownsRow.lt HK5.out V4.heap.size rfl).2; omega
              rw [← hV]
              have HB5 := hide (below_step HB4.out hb2)
              have S5 := hb2.size
              have HG5 := hide (HG4.out.later hb2)
              have HF5 := hide (HF4.out.later hb2)
              have HL5 := hide (HL4.out.later hb2)
              have HO5 := hide (HO4.out.later hb2)
              clear hb2 q0
              have q0 := (HA.out.later HB5.out).1
              rw [hkx] at HK5 ⊢
              clear hV hkx
              refine hK.out _ _ (by first | with_reducible exact q0 | exact cell_other (cell_other (cell_other (cell_other q0 nk) nk) nk) nk) (fun hHeld => ?_)
              clear hK K
              try simp only [List.setIfInBounds_toArray, List.set_cons_zero, List.set_cons_succ]
              refine wpAnyH_ready (rs := [13]) (by kernel_rfl) (by simp) ?_
              refine ready_cons ({ dst := none, op := Op.store 35 (Operand.tmp 5) (Operand.tmp 29), type := 0, pos := "ref.go:39", after := #[{ on := 12, ground := Ground.data }, { on := 11, ground := Ground.data }, { on := 10, ground := Ground.chain }, { on := 0, ground := Ground.phase }, { on := 1, ground := Ground.phase }, { on := 2, ground := Ground.phase }, { on := 3, ground := Ground.phase }, { on := 4, ground := Ground.phase }, { on := 5, ground := Ground.phase }, { on := 6, ground := Ground.phase }, { on := 7, ground := Ground.phase }, { on := 8, ground := Ground.phase }, { on := 9, ground := Ground.phase }, { on := 10, ground := Ground.phase }, { on := 11, ground := Ground.phase }, { on := 12, ground := Ground.phase }], guard := none }) rfl rfl (fun K hK => ?_) ?_
              · clear hHeld
                obtain ⟨d0, d1, d2, d3, e0, e1, e2, e3⟩ := box_cells HK5.out
                have nk : w.heap.size ≠ kx := by have := HSZ.out; have := HB0.out.size; omega
                go_simp
                clear d0 d1 d2 d3 e0 e1 e2 e3
                refine hK.out _ _ (by first | with_reducible exact q0 | exact cell_other (cell_other (cell_other (cell_other q0 nk) nk) nk) nk) (fun hHeld => ?_)
                clear hK K
                try simp only [List.setIfInBounds_toArray, List.set_cons_zero, List.set_cons_succ]
                refine wpAnyH_done (by kernel_rfl) ?_ _
                clear hHeld
                have hW0 : W.heap.size ≤ V0.heap.size := HB0.out.size
                have HFIN : Hid (TB (set4 V5 kx (.slice (some ⟨vb, 0, none⟩) 1 1) (.slice (some ⟨gb, 0, none⟩) m m) (.slice (some ⟨gf, 0, none⟩) m m) (.slice (some ⟨gl, 0, none⟩) m m)) W.heap.size kx m (.slice (some ⟨vb, 0, none⟩) 1 1) gb gf (.slice (some ⟨gl, 0, none⟩) m m) [(s : Int)] (List.replicate m (-1)) (List.replicate m (-1)) ∧ IRow (set4 V5 kx (.slice (some ⟨vb, 0, none⟩) 1 1) (.slice (some ⟨gb, 0, none⟩) m m) (.slice (some ⟨gf, 0, none⟩) m m) (.slice (some ⟨gl, 0, none⟩) m m)) W.heap.size gl m (List.replicate m (-1)) ∧ (¬ TBk kx gb gf (.slice (some ⟨vb, 0, none⟩) 1 1) gl) ∧ Below W.heap.size W (set4 V5 kx (.slice (some ⟨vb, 0, none⟩) 1 1) (.slice (some ⟨gb, 0, none⟩) m m) (.slice (some ⟨gf, 0, none⟩) m m) (.slice (some ⟨gl, 0, none⟩) m m)) ∧ W.heap.size ≤ kx) := by
                  refine ⟨⟨set_box35 HK5.out, ?_, ?_, ?_, by omega, by simp [Value.ownBlock]; omega, by simp [Value.ownBlock]; omega⟩, ?_, ?_, below_set4 HB5.out (by omega) _ _ _ _, by omega⟩
                  · exact IOwns.base (row_set4 HO5.out (by simp [Value.ownBlock]; omega) _ _ _ _) (by omega)
                  · exact (irow_set4 HG5.out (by omega) _ _ _ _).base (by omega)
                  · exact (irow_set4 HF5.out (by omega) _ _ _ _).base (by omega)
                  · exact (irow_set4 HL5.out (by omega) _ _ _ _).base (by omega)
                  · rintro (h | h | h | h)
                    · omega
                    · omega
                    · omega
                    · simp [Value.ownBlock] at h; omega
                unfold set4 at HFIN
                exact hend kx _ gb gf gl 1 _ _ _ _ _ _ _ _ _ _ _ _ _ HFIN.out
              exact AllReadyH.nil
            exact AllReadyH.nil
          refine ready_cons ({ dst := some 5, op := Op.alloc 35, type := 0, pos := "ref.go:39", after := #[], guard := none }) rfl rfl (fun K hK => ?_) ?_
          · clear hHeld
            go_simp
            obtain ⟨V4, hV⟩ : ∃ V, V = V3.alloc (.cells #[nilS, nilS, nilS, nilS] 35) := ⟨_, rfl⟩
            have hb2 : Below V3.heap.size V3 V4 := by rw [hV]; go_grown
            have HK4 : Hid (V4.ownsRow 0 35 4 (.slice (some ⟨V3.heap.size, 0, none⟩) 1 1) 1 [nilS, nilS, nilS, nilS]) := by show World.ownsRow _ _ _ _ _ _ _; rw [hV]; exact box35 _ _ _ _ _
            obtain ⟨kx, hkx⟩ : ∃ kx, V3.heap.size = kx := ⟨_, rfl⟩
            have rK : V3.heap.size ≤ kx ∧ kx < V4.heap.size := by have h0 := (World.ownsRow.lt HK4.out V3.heap.size rfl).2; omega
            rw [← hV]
            have HB4 := hide (below_step HB3.out hb2)
            have S4 := hb2.size
            have HG4 := hide (HG3.out.later hb2)
            have HF4 := hide (HF3.out.later hb2)
            have HL4 := hide (HL3.out.later hb2)
            clear hb2 q0
            have q0 := (HA.out.later HB4.out).1
            rw [hkx] at HK4 ⊢
            clear hV hkx
            refine hK.out _ _ (by first | with_reducible exact q0 | exact cell_other (cell_other (cell_other (cell_other q0 nk) nk) nk) nk) (fun hHeld => ?_)
            clear hK K
            try simp only [List.setIfInBounds_toArray, List.set_cons_zero, List.set_cons_succ]
            refine wpAnyH_ready (rs := [1]) (by kernel_rfl) (by simp) ?_
            refine ready_cons ({ dst := some 19, op := Op.buildSlice 33 1 #[(0, Operand.tmp 18)], type := 33, pos := "ref.go:39", after := #[{ on := 0, ground := Ground.data }], guard := none }) rfl rfl (fun K hK => ?_) ?_
            · clear hHeld
              go_simp
              obtain ⟨V5, hV⟩ : ∃ V, V = V4.alloc (.cells #[.int .i64 s] 3) := ⟨_, rfl⟩
              have hb2 : Below V4.heap.size V4 V5 := by rw [hV]; go_grown
              have HO5 : Hid (IOwns V5 V4.heap.size (.slice (some ⟨V4.heap.size, 0, none⟩) 1 1) [(s : Int)]) := by show IOwns _ _ _ _; rw [hV]; exact World.ownsRow_lit _ #[.int .i64 s] 1 (Nat.le_refl _) (by unfold maxLen; omega) rfl
              obtain ⟨vb, hvb⟩ : ∃ vb, V4.heap.size = vb := ⟨_, rfl⟩
              have rO : V4.heap.size ≤ vb ∧ vb < V5.heap.size := by have h0 := (World.ownsRow.lt HO5.out V4.heap.size rfl).2; omega
              rw [← hV]
              have HB5 := hide (below_step HB4.out hb2)
              have S5 := hb2.size
              have HG5 := hide (HG4.out.later hb2)
              have HF5 := hide (HF4.out.later hb2)
              have HL5 := hide (HL4.out.later hb2)
              have HK5 := hide (box_later HK4.out hb2)
              clear hb2 q0
              have q0 := (HA.out.later HB5.out).1
              rw [show (Value.slice (some ⟨V4.heap.size, 0, none⟩) 1 1) = .slice (some ⟨vb, 0, none⟩) 1 1 by rw [hvb]] at HO5
              rw [hvb]
              clear hV hvb
              refine hK.out _ _ (by first | with_reducible exact q0 | exact cell_other (cell_other (cell_other (cell_other q0 nk) nk) nk) nk) (fun hHeld => ?_)
              clear hK K
              try simp only [List.setIfInBounds_toArray, List.set_cons_zero, List.set_cons_succ]
              refine wpAnyH_take (i := 11) (v := ?v18) rfl (by kernel_rfl) (by kernel_rfl) (by kernel_rfl) (fun c a w h => hQ c a _ w h rfl) (Or.inl ⟨by rfl, ?hy18⟩) (by assumption) ?rest18
              case hy18 => (intro w hSw; (try dsimp only at hSw); go_simp; try with_reducible rfl)
              try simp only [Act.put, List.setIfInBounds_toArray, List.set_cons_zero, List.set_cons_succ]
              refine wpAnyH_ready (rs := [13]) (by kernel_rfl) (by simp) ?_
              refine ready_cons ({ dst := none, op := Op.store 35 (Operand.tmp 5) (Operand.tmp 29), type := 0, pos := "ref.go:39", after := #[{ on := 12, ground := Ground.data }, { on := 11, ground := Ground.data }, { on := 10, ground := Ground.chain }, { on := 0, ground := Ground.phase }, { on := 1, ground := Ground.phase }, { on := 2, ground := Ground.phase }, { on := 3, ground := Ground.phase }, { on := 4, ground := Ground.phase }, { on := 5, ground := Ground.phase }, { on := 6, ground := Ground.phase }, { on := 7, ground := Ground.phase }, { on := 8, ground := Ground.phase }, { on := 9, ground := Ground.phase }, { on := 10, ground := Ground.phase }, { on := 11, ground := Ground.phase }, { on := 12, ground := Ground.phase }], guard := none }) rfl rfl (fun K hK => ?_) ?_
              · clear hHeld
                obtain ⟨d0, d1, d2, d3, e0, e1, e2, e3⟩ := box_cells HK5.out
                have nk : w.heap.size ≠ kx := by have := HSZ.out; have := HB0.out.size; omega
                go_simp
                clear d0 d1 d2 d3 e0 e1 e2 e3
                refine hK.out _ _ (by first | with_reducible exact q0 | exact cell_other (cell_other (cell_other (cell_other q0 nk) nk) nk) nk) (fun hHeld => ?_)
                clear hK K
                try simp only [List.setIfInBounds_toArray, List.set_cons_zero, List.set_cons_succ]
                refine wpAnyH_done (by kernel_rfl) ?_ _
                clear hHeld
                have hW0 : W.heap.size ≤ V0.heap.size := HB0.out.size
                have HFIN : Hid (TB (set4 V5 kx (.slice (some ⟨vb, 0, none⟩) 1 1) (.slice (some ⟨gb, 0, none⟩) m m) (.slice (some ⟨gf, 0, none⟩) m m) (.slice (some ⟨gl, 0, none⟩) m m)) W.heap.size kx m (.slice (some ⟨vb, 0, none⟩) 1 1) gb gf (.slice (some ⟨gl, 0, none⟩) m m) [(s : Int)] (List.replicate m (-1)) (List.replicate m (-1)) ∧ IRow (set4 V5 kx (.slice (some ⟨vb, 0, none⟩) 1 1) (.slice (some ⟨gb, 0, none⟩) m m) (.slice (some ⟨gf, 0, none⟩) m m) (.slice (some ⟨gl, 0, none⟩) m m)) W.heap.size gl m (List.replicate m (-1)) ∧ (¬ TBk kx gb gf (.slice (some ⟨vb, 0, none⟩) 1 1) gl) ∧ Below W.heap.size W (set4 V5 kx (.slice (some ⟨vb, 0, none⟩) 1 1) (.slice (some ⟨gb, 0, none⟩) m m) (.slice (some ⟨gf, 0, none⟩) m m) (.slice (some ⟨gl, 0, none⟩) m m)) ∧ W.heap.size ≤ kx) := by
                  refine ⟨⟨set_box35 HK5.out, ?_, ?_, ?_, by omega, by simp [Value.ownBlock]; omega, by simp [Value.ownBlock]; omega⟩, ?_, ?_, below_set4 HB5.out (by omega) _ _ _ _, by omega⟩
                  · exact IOwns.base (row_set4 HO5.out (by simp [Value.ownBlock]; omega) _ _ _ _) (by omega)
                  · exact (irow_set4 HG5.out (by omega) _ _ _ _).base (by omega)
                  · exact (irow_set4 HF5.out (by omega) _ _ _ _).base (by omega)
                  · exact (irow_set4 HL5.out (by omega) _ _ _ _).base (by omega)
                  · rintro (h | h | h | h)
                    · omega
                    · omega
                    · omega
                    · simp [Value.ownBlock] at h; omega
                unfold set4 at HFIN
                exact hend kx _ gb gf gl 1 _ _ _ _ _ _ _ _ _ _ _ _ _ HFIN.out
              exact AllReadyH.nil
            exact AllReadyH.nil
          exact AllReadyH.nil
        refine ready_cons ({ dst := some 5, op := Op.alloc 35, type := 0, pos := "ref.go:39", after := #[], guard := none }) rfl rfl (fun K hK => ?_) ?_
        · clear hHeld
          go_simp
          obtain ⟨V3, hV⟩ : ∃ V, V = V2.alloc (.cells #[nilS, nilS, nilS, nilS] 35) := ⟨_, rfl⟩
          have hb2 : Below V2.heap.size V2 V3 := by rw [hV]; go_grown
          have HK3 : Hid (V3.ownsRow 0 35 4 (.slice (some ⟨V2.heap.size, 0, none⟩) 1 1) 1 [nilS, nilS, nilS, nilS]) := by show World.ownsRow _ _ _ _ _ _ _; rw [hV]; exact box35 _ _ _ _ _
          obtain ⟨kx, hkx⟩ : ∃ kx, V2.heap.size = kx := ⟨_, rfl⟩
          have rK : V2.heap.size ≤ kx ∧ kx < V3.heap.size := by have h0 := (World.ownsRow.lt HK3.out V2.heap.size rfl).2; omega
          rw [← hV]
          have HB3 := hide (below_step HB2.out hb2)
          have S3 := hb2.size
          have HG3 := hide (HG2.out.later hb2)
          have HF3 := hide (HF2.out.later hb2)
          clear hb2 q0
          have q0 := (HA.out.later HB3.out).1
          rw [hkx] at HK3 ⊢
          clear hV hkx
          refine hK.out _ _ (by first | with_reducible exact q0 | exact cell_other (cell_other (cell_other (cell_other q0 nk) nk) nk) nk) (fun hHeld => ?_)
          clear hK K
          try simp only [List.setIfInBounds_toArray, List.set_cons_zero, List.set_cons_succ]
          refine wpAnyH_ready (rs := [1, 10]) (by kernel_rfl) (by simp) ?_
          refine ready_cons ({ dst := some 19, op := Op.buildSlice 33 1 #[(0, Operand.tmp 18)], type := 33, pos := "ref.go:39", after := #[{ on := 0, ground := Ground.data }], guard := none }) rfl rfl (fun K hK => ?_) ?_
          · clear hHeld
            go_simp
            obtain ⟨V4, hV⟩ : ∃ V, V = V3.alloc (.cells #[.int .i64 s] 3) := ⟨_, rfl⟩
            have hb2 : Below V3.heap.size V3 V4 := by rw [hV]; go_grown
            have HO4 : Hid (IOwns V4 V3.heap.size (.slice (some ⟨V3.heap.size, 0, none⟩) 1 1) [(s : Int)]) := by show IOwns _ _ _ _; rw [hV]; exact World.ownsRow_lit _ #[.int .i64 s] 1 (Nat.le_refl _) (by unfold maxLen; omega) rfl
            obtain ⟨vb, hvb⟩ : ∃ vb, V3.heap.size = vb := ⟨_, rfl⟩
            have rO : V3.heap.size ≤ vb ∧ vb < V4.heap.size := by have h0 := (World.ownsRow.lt HO4.out V3.heap.size rfl).2; omega
            rw [← hV]
            have HB4 := hide (below_step HB3.out hb2)
            have S4 := hb2.size
            have HG4 := hide (HG3.out.later hb2)
            have HF4 := hide (HF3.out.later hb2)
            have HK4 := hide (box_later HK3.out hb2)
            clear hb2 q0
            have q0 := (HA.out.later HB4.out).1
            rw [show (Value.slice (some ⟨V3.heap.size, 0, none⟩) 1 1) = .slice (some ⟨vb, 0, none⟩) 1 1 by rw [hvb]] at HO4
            rw [hvb]
            clear hV hvb
            refine hK.out _ _ (by first | with_reducible exact q0 | exact cell_other (cell_other (cell_other (cell_other q0 nk) nk) nk) nk) (fun hHeld => ?_)
            clear hK K
            try simp only [List.setIfInBounds_toArray, List.set_cons_zero, List.set_cons_succ]
            refine wpAnyH_ready (rs := [10]) (by kernel_rfl) (by simp) ?_
            refine ready_cons ({ dst := some 28, op := Op.call { callee := Callee.value (Operand.func 44), args := #[Operand.tmp 27, Operand.const (Value.int IntKind.i64 (-1))], argTypes := #[3, 3] }, type := 33, pos := "ref.go:39", after := #[{ on := 9, ground := Ground.data }, { on := 7, ground := Ground.chain }], guard := none }) rfl rfl (fun K hK => ?_) ?_
            · clear hHeld
              go_simp
              refine (BL.out V4).mono ?_
              rintro e V5 ⟨gl, rfl, hrow, hb2⟩
              have rL := hrow.lt
              have HL5 := hide hrow
              clear hrow
              have HB5 := hide (below_step HB4.out hb2)
              have S5 := hb2.size
              have HG5 := hide (HG4.out.later hb2)
              have HF5 := hide (HF4.out.later hb2)
              have HK5 := hide (box_later HK4.out hb2)
              have HO5 := hide (HO4.out.later hb2)
              clear hb2 q0
              have q0 := (HA.out.later HB5.out).1
              refine hK.out _ _ (by first | with_reducible exact q0 | exact cell_other (cell_other (cell_other (cell_other q0 nk) nk) nk) nk) (fun hHeld => ?_)
              clear hK K
              try simp only [List.setIfInBounds_toArray, List.set_cons_zero, List.set_cons_succ]
              refine wpAnyH_take (i := 11) (v := ?v19) rfl (by kernel_rfl) (by kernel_rfl) (by kernel_rfl) (fun c a w h => hQ c a _ w h rfl) (Or.inl ⟨by rfl, ?hy19⟩) (by assumption) ?rest19
              case hy19 => (intro w hSw; (try dsimp only at hSw); go_simp; try with_reducible rfl)
              try simp only [Act.put, List.setIfInBounds_toArray, List.set_cons_zero, List.set_cons_succ]
              refine wpAnyH_ready (rs := [13]) (by kernel_rfl) (by simp) ?_
              refine ready_cons ({ dst := none, op := Op.store 35 (Operand.tmp 5) (Operand.tmp 29), type := 0, pos := "ref.go:39", after := #[{ on := 12, ground := Ground.data }, { on := 11, ground := Ground.data }, { on := 10, ground := Ground.chain }, { on := 0, ground := Ground.phase }, { on := 1, ground := Ground.phase }, { on := 2, ground := Ground.phase }, { on := 3, ground := Ground.phase }, { on := 4, ground := Ground.phase }, { on := 5, ground := Ground.phase }, { on := 6, ground := Ground.phase }, { on := 7, ground := Ground.phase }, { on := 8, ground := Ground.phase }, { on := 9, ground := Ground.phase }, { on := 10, ground := Ground.phase }, { on := 11, ground := Ground.phase }, { on := 12, ground := Ground.phase }], guard := none }) rfl rfl (fun K hK => ?_) ?_
              · clear hHeld
                obtain ⟨d0, d1, d2, d3, e0, e1, e2, e3⟩ := box_cells HK5.out
                have nk : w.heap.size ≠ kx := by have := HSZ.out; have := HB0.out.size; omega
                go_simp
                clear d0 d1 d2 d3 e0 e1 e2 e3
                refine hK.out _ _ (by first | with_reducible exact q0 | exact cell_other (cell_other (cell_other (cell_other q0 nk) nk) nk) nk) (fun hHeld => ?_)
                clear hK K
                try simp only [List.setIfInBounds_toArray, List.set_cons_zero, List.set_cons_succ]
                refine wpAnyH_done (by kernel_rfl) ?_ _
                clear hHeld
                have hW0 : W.heap.size ≤ V0.heap.size := HB0.out.size
                have HFIN : Hid (TB (set4 V5 kx (.slice (some ⟨vb, 0, none⟩) 1 1) (.slice (some ⟨gb, 0, none⟩) m m) (.slice (some ⟨gf, 0, none⟩) m m) (.slice (some ⟨gl, 0, none⟩) m m)) W.heap.size kx m (.slice (some ⟨vb, 0, none⟩) 1 1) gb gf (.slice (some ⟨gl, 0, none⟩) m m) [(s : Int)] (List.replicate m (-1)) (List.replicate m (-1)) ∧ IRow (set4 V5 kx (.slice (some ⟨vb, 0, none⟩) 1 1) (.slice (some ⟨gb, 0, none⟩) m m) (.slice (some ⟨gf, 0, none⟩) m m) (.slice (some ⟨gl, 0, none⟩) m m)) W.heap.size gl m (List.replicate m (-1)) ∧ (¬ TBk kx gb gf (.slice (some ⟨vb, 0, none⟩) 1 1) gl) ∧ Below W.heap.size W (set4 V5 kx (.slice (some ⟨vb, 0, none⟩) 1 1) (.slice (some ⟨gb, 0, none⟩) m m) (.slice (some ⟨gf, 0, none⟩) m m) (.slice (some ⟨gl, 0, none⟩) m m)) ∧ W.heap.size ≤ kx) := by
                  refine ⟨⟨set_box35 HK5.out, ?_, ?_, ?_, by omega, by simp [Value.ownBlock]; omega, by simp [Value.ownBlock]; omega⟩, ?_, ?_, below_set4 HB5.out (by omega) _ _ _ _, by omega⟩
                  · exact IOwns.base (row_set4 HO5.out (by simp [Value.ownBlock]; omega) _ _ _ _) (by omega)
                  · exact (irow_set4 HG5.out (by omega) _ _ _ _).base (by omega)
                  · exact (irow_set4 HF5.out (by omega) _ _ _ _).base (by omega)
                  · exact (irow_set4 HL5.out (by omega) _ _ _ _).base (by omega)
                  · rintro (h | h | h | h)
                    · omega
                    · omega
                    · omega
                    · simp [Value.ownBlock] at h; omega
                unfold set4 at HFIN
                exact hend kx _ gb gf gl 1 _ _ _ _ _ _ _ _ _ _ _ _ _ HFIN.out
              exact AllReadyH.nil
            exact AllReadyH.nil
          refine ready_cons ({ dst := some 28, op := Op.call { callee := Callee.value (Operand.func 44), args := #[Operand.tmp 27, Operand.const (Value.int IntKind.i64 (-1))], argTypes := #[3, 3] }, type := 33, pos := "ref.go:39", after := #[{ on := 9, ground := Ground.data }, { on := 7, ground := Ground.chain }], guard := none }) rfl rfl (fun K hK => ?_) ?_
          · clear hHeld
            go_simp
            refine (BL.out V3).mono ?_
            rintro e V4 ⟨gl, rfl, hrow, hb2⟩
            have rL := hrow.lt
            have HL4 := hide hrow
            clear hrow
            have HB4 := hide (below_step HB3.out hb2)
            have S4 := hb2.size
            have HG4 := hide (HG3.out.later hb2)
            have HF4 := hide (HF3.out.later hb2)
            have HK4 := hide (box_later HK3.out hb2)
            clear hb2 q0
            have q0 := (HA.out.later HB4.out).1
            refine hK.out _ _ (by first | with_reducible exact q0 | exact cell_other (cell_other (cell_other (cell_other q0 nk) nk) nk) nk) (fun hHeld => ?_)
            clear hK K
            try simp only [List.setIfInBounds_toArray, List.set_cons_zero, List.set_cons_succ]
            refine wpAnyH_ready (rs := [1]) (by kernel_rfl) (by simp) ?_
            refine ready_cons ({ dst := some 19, op := Op.buildSlice 33 1 #[(0, Operand.tmp 18)], type := 33, pos := "ref.go:39", after := #[{ on := 0, ground := Ground.data }], guard := none }) rfl rfl (fun K hK => ?_) ?_
            · clear hHeld
              go_simp
              obtain ⟨V5, hV⟩ : ∃ V, V = V4.alloc (.cells #[.int .i64 s] 3) := ⟨_, rfl⟩
              have hb2 : Below V4.heap.size V4 V5 := by rw [hV]; go_grown
              have HO5 : Hid (IOwns V5 V4.heap.size (.slice (some ⟨V4.heap.size, 0, none⟩) 1 1) [(s : Int)]) := by show IOwns _ _ _ _; rw [hV]; exact World.ownsRow_lit _ #[.int .i64 s] 1 (Nat.le_refl _) (by unfold maxLen; omega) rfl
              obtain ⟨vb, hvb⟩ : ∃ vb, V4.heap.size = vb := ⟨_, rfl⟩
              have rO : V4.heap.size ≤ vb ∧ vb < V5.heap.size := by have h0 := (World.ownsRow.lt HO5.out V4.heap.size rfl).2; omega
              rw [← hV]
              have HB5 := hide (below_step HB4.out hb2)
              have S5 := hb2.size
              have HG5 := hide (HG4.out.later hb2)
              have HF5 := hide (HF4.out.later hb2)
              have HK5 := hide (box_later HK4.out hb2)
              have HL5 := hide (HL4.out.later hb2)
              clear hb2 q0
              have q0 := (HA.out.later HB5.out).1
              rw [show (Value.slice (some ⟨V4.heap.size, 0, none⟩) 1 1) = .slice (some ⟨vb, 0, none⟩) 1 1 by rw [hvb]] at HO5
              rw [hvb]
              clear hV hvb
              refine hK.out _ _ (by first | with_reducible exact q0 | exact cell_other (cell_other (cell_other (cell_other q0 nk) nk) nk) nk) (fun hHeld => ?_)
              clear hK K
              try simp only [List.setIfInBounds_toArray, List.set_cons_zero, List.set_cons_succ]
              refine wpAnyH_take (i := 11) (v := ?v20) rfl (by kernel_rfl) (by kernel_rfl) (by kernel_rfl) (fun c a w h => hQ c a _ w h rfl) (Or.inl ⟨by rfl, ?hy20⟩) (by assumption) ?rest20
              case hy20 => (intro w hSw; (try dsimp only at hSw); go_simp; try with_reducible rfl)
              try simp only [Act.put, List.setIfInBounds_toArray, List.set_cons_zero, List.set_cons_succ]
              refine wpAnyH_ready (rs := [13]) (by kernel_rfl) (by simp) ?_
              refine ready_cons ({ dst := none, op := Op.store 35 (Operand.tmp 5) (Operand.tmp 29), type := 0, pos := "ref.go:39", after := #[{ on := 12, ground := Ground.data }, { on := 11, ground := Ground.data }, { on := 10, ground := Ground.chain }, { on := 0, ground := Ground.phase }, { on := 1, ground := Ground.phase }, { on := 2, ground := Ground.phase }, { on := 3, ground := Ground.phase }, { on := 4, ground := Ground.phase }, { on := 5, ground := Ground.phase }, { on := 6, ground := Ground.phase }, { on := 7, ground := Ground.phase }, { on := 8, ground := Ground.phase }, { on := 9, ground := Ground.phase }, { on := 10, ground := Ground.phase }, { on := 11, ground := Ground.phase }, { on := 12, ground := Ground.phase }], guard := none }) rfl rfl (fun K hK => ?_) ?_
              · clear hHeld
                obtain ⟨d0, d1, d2, d3, e0, e1, e2, e3⟩ := box_cells HK5.out
                have nk : w.heap.size ≠ kx := by have := HSZ.out; have := HB0.out.size; omega
                go_simp
                clear d0 d1 d2 d3 e0 e1 e2 e3
                refine hK.out _ _ (by first | with_reducible exact q0 | exact cell_other (cell_other (cell_other (cell_other q0 nk) nk) nk) nk) (fun hHeld => ?_)
                clear hK K
                try simp only [List.setIfInBounds_toArray, List.set_cons_zero, List.set_cons_succ]
                refine wpAnyH_done (by kernel_rfl) ?_ _
                clear hHeld
                have hW0 : W.heap.size ≤ V0.heap.size := HB0.out.size
                have HFIN : Hid (TB (set4 V5 kx (.slice (some ⟨vb, 0, none⟩) 1 1) (.slice (some ⟨gb, 0, none⟩) m m) (.slice (some ⟨gf, 0, none⟩) m m) (.slice (some ⟨gl, 0, none⟩) m m)) W.heap.size kx m (.slice (some ⟨vb, 0, none⟩) 1 1) gb gf (.slice (some ⟨gl, 0, none⟩) m m) [(s : Int)] (List.replicate m (-1)) (List.replicate m (-1)) ∧ IRow (set4 V5 kx (.slice (some ⟨vb, 0, none⟩) 1 1) (.slice (some ⟨gb, 0, none⟩) m m) (.slice (some ⟨gf, 0, none⟩) m m) (.slice (some ⟨gl, 0, none⟩) m m)) W.heap.size gl m (List.replicate m (-1)) ∧ (¬ TBk kx gb gf (.slice (some ⟨vb, 0, none⟩) 1 1) gl) ∧ Below W.heap.size W (set4 V5 kx (.slice (some ⟨vb, 0, none⟩) 1 1) (.slice (some ⟨gb, 0, none⟩) m m) (.slice (some ⟨gf, 0, none⟩) m m) (.slice (some ⟨gl, 0, none⟩) m m)) ∧ W.heap.size ≤ kx) := by
                  refine ⟨⟨set_box35 HK5.out, ?_, ?_, ?_, by omega, by simp [Value.ownBlock]; omega, by simp [Value.ownBlock]; omega⟩, ?_, ?_, below_set4 HB5.out (by omega) _ _ _ _, by omega⟩
                  · exact IOwns.base (row_set4 HO5.out (by simp [Value.ownBlock]; omega) _ _ _ _) (by omega)
                  · exact (irow_set4 HG5.out (by omega) _ _ _ _).base (by omega)
                  · exact (irow_set4 HF5.out (by omega) _ _ _ _).base (by omega)
                  · exact (irow_set4 HL5.out (by omega) _ _ _ _).base (by omega)
                  · rintro (h | h | h | h)
                    · omega
                    · omega
                    · omega
                    · simp [Value.ownBlock] at h; omega
                unfold set4 at HFIN
                exact hend kx _ gb gf gl 1 _ _ _ _ _ _ _ _ _ _ _ _ _ HFIN.out
              exact AllReadyH.nil
            exact AllReadyH.nil
          exact AllReadyH.nil
        exact AllReadyH.nil
      refine ready_cons ({ dst := some 5, op := Op.alloc 35, type := 0, pos := "ref.go:39", after := #[], guard := none }) rfl rfl (fun K hK => ?_) ?_
      · clear hHeld
        go_simp
        obtain ⟨V2, hV⟩ : ∃ V, V = V1.alloc (.cells #[nilS, nilS, nilS, nilS] 35) := ⟨_, rfl⟩
        have hb2 : Below V1.heap.size V1 V2 := by rw [hV]; go_grown
        have HK2 : Hid (V2.ownsRow 0 35 4 (.slice (some ⟨V1.heap.size, 0, none⟩) 1 1) 1 [nilS, nilS, nilS, nilS]) := by show World.ownsRow _ _ _ _ _ _ _; rw [hV]; exact box35 _ _ _ _ _
        obtain ⟨kx, hkx⟩ : ∃ kx, V1.heap.size = kx := ⟨_, rfl⟩
        have rK : V1.heap.size ≤ kx ∧ kx < V2.heap.size := by have h0 := (World.ownsRow.lt HK2.out V1.heap.size rfl).2; omega
        rw [← hV]
        have HB2 := hide (below_step HB1.out hb2)
        have S2 := hb2.size
        have HG2 := hide (HG1.out.later hb2)
        clear hb2 q0
        have q0 := (HA.out.later HB2.out).1
        rw [hkx] at HK2 ⊢
        clear hV hkx
        refine hK.out _ _ (by first | with_reducible exact q0 | exact cell_other (cell_other (cell_other (cell_other q0 nk) nk) nk) nk) (fun hHeld => ?_)
        clear hK K
        try simp only [List.setIfInBounds_toArray, List.set_cons_zero, List.set_cons_succ]
        refine wpAnyH_ready (rs := [1, 7]) (by kernel_rfl) (by simp) ?_
        refine ready_cons ({ dst := some 19, op := Op.buildSlice 33 1 #[(0, Operand.tmp 18)], type := 33, pos := "ref.go:39", after := #[{ on := 0, ground := Ground.data }], guard := none }) rfl rfl (fun K hK => ?_) ?_
        · clear hHeld
          go_simp
          obtain ⟨V3, hV⟩ : ∃ V, V = V2.alloc (.cells #[.int .i64 s] 3) := ⟨_, rfl⟩
          have hb2 : Below V2.heap.size V2 V3 := by rw [hV]; go_grown
          have HO3 : Hid (IOwns V3 V2.heap.size (.slice (some ⟨V2.heap.size, 0, none⟩) 1 1) [(s : Int)]) := by show IOwns _ _ _ _; rw [hV]; exact World.ownsRow_lit _ #[.int .i64 s] 1 (Nat.le_refl _) (by unfold maxLen; omega) rfl
          obtain ⟨vb, hvb⟩ : ∃ vb, V2.heap.size = vb := ⟨_, rfl⟩
          have rO : V2.heap.size ≤ vb ∧ vb < V3.heap.size := by have h0 := (World.ownsRow.lt HO3.out V2.heap.size rfl).2; omega
          rw [← hV]
          have HB3 := hide (below_step HB2.out hb2)
          have S3 := hb2.size
          have HG3 := hide (HG2.out.later hb2)
          have HK3 := hide (box_later HK2.out hb2)
          clear hb2 q0
          have q0 := (HA.out.later HB3.out).1
          rw [show (Value.slice (some ⟨V2.heap.size, 0, none⟩) 1 1) = .slice (some ⟨vb, 0, none⟩) 1 1 by rw [hvb]] at HO3
          rw [hvb]
          clear hV hvb
          refine hK.out _ _ (by first | with_reducible exact q0 | exact cell_other (cell_other (cell_other (cell_other q0 nk) nk) nk) nk) (fun hHeld => ?_)
          clear hK K
          try simp only [List.setIfInBounds_toArray, List.set_cons_zero, List.set_cons_succ]
          refine wpAnyH_ready (rs := [7]) (by kernel_rfl) (by simp) ?_
          refine ready_cons ({ dst := some 25, op := Op.call { callee := Callee.value (Operand.func 44), args := #[Operand.tmp 24, Operand.const (Value.int IntKind.i64 (-1))], argTypes := #[3, 3] }, type := 33, pos := "ref.go:39", after := #[{ on := 6, ground := Ground.data }, { on := 4, ground := Ground.chain }], guard := none }) rfl rfl (fun K hK => ?_) ?_
          · clear hHeld
            go_simp
            refine (BL.out V3).mono ?_
            rintro e V4 ⟨gf, rfl, hrow, hb2⟩
            have rF := hrow.lt
            have HF4 := hide hrow
            clear hrow
            have HB4 := hide (below_step HB3.out hb2)
            have S4 := hb2.size
            have HG4 := hide (HG3.out.later hb2)
            have HK4 := hide (box_later HK3.out hb2)
            have HO4 := hide (HO3.out.later hb2)
            clear hb2 q0
            have q0 := (HA.out.later HB4.out).1
            refine hK.out _ _ (by first | with_reducible exact q0 | exact cell_other (cell_other (cell_other (cell_other q0 nk) nk) nk) nk) (fun hHeld => ?_)
            clear hK K
            try simp only [List.setIfInBounds_toArray, List.set_cons_zero, List.set_cons_succ]
            refine wpAnyH_ready (rs := [10]) (by kernel_rfl) (by simp) ?_
            refine ready_cons ({ dst := some 28, op := Op.call { callee := Callee.value (Operand.func 44), args := #[Operand.tmp 27, Operand.const (Value.int IntKind.i64 (-1))], argTypes := #[3, 3] }, type := 33, pos := "ref.go:39", after := #[{ on := 9, ground := Ground.data }, { on := 7, ground := Ground.chain }], guard := none }) rfl rfl (fun K hK => ?_) ?_
            · clear hHeld
              go_simp
              refine (BL.out V4).mono ?_
              rintro e V5 ⟨gl, rfl, hrow, hb2⟩
              have rL := hrow.lt
              have HL5 := hide hrow
              clear hrow
              have HB5 := hide (below_step HB4.out hb2)
              have S5 := hb2.size
              have HG5 := hide (HG4.out.later hb2)
              have HK5 := hide (box_later HK4.out hb2)
              have HO5 := hide (HO4.out.later hb2)
              have HF5 := hide (HF4.out.later hb2)
              clear hb2 q0
              have q0 := (HA.out.later HB5.out).1
              refine hK.out _ _ (by first | with_reducible exact q0 | exact cell_other (cell_other (cell_other (cell_other q0 nk) nk) nk) nk) (fun hHeld => ?_)
              clear hK K
              try simp only [List.setIfInBounds_toArray, List.set_cons_zero, List.set_cons_succ]
              refine wpAnyH_take (i := 11) (v := ?v21) rfl (by kernel_rfl) (by kernel_rfl) (by kernel_rfl) (fun c a w h => hQ c a _ w h rfl) (Or.inl ⟨by rfl, ?hy21⟩) (by assumption) ?rest21
              case hy21 => (intro w hSw; (try dsimp only at hSw); go_simp; try with_reducible rfl)
              try simp only [Act.put, List.setIfInBounds_toArray, List.set_cons_zero, List.set_cons_succ]
              refine wpAnyH_ready (rs := [13]) (by kernel_rfl) (by simp) ?_
              refine ready_cons ({ dst := none, op := Op.store 35 (Operand.tmp 5) (Operand.tmp 29), type := 0, pos := "ref.go:39", after := #[{ on := 12, ground := Ground.data }, { on := 11, ground := Ground.data }, { on := 10, ground := Ground.chain }, { on := 0, ground := Ground.phase }, { on := 1, ground := Ground.phase }, { on := 2, ground := Ground.phase }, { on := 3, ground := Ground.phase }, { on := 4, ground := Ground.phase }, { on := 5, ground := Ground.phase }, { on := 6, ground := Ground.phase }, { on := 7, ground := Ground.phase }, { on := 8, ground := Ground.phase }, { on := 9, ground := Ground.phase }, { on := 10, ground := Ground.phase }, { on := 11, ground := Ground.phase }, { on := 12, ground := Ground.phase }], guard := none }) rfl rfl (fun K hK => ?_) ?_
              · clear hHeld
                obtain ⟨d0, d1, d2, d3, e0, e1, e2, e3⟩ := box_cells HK5.out
                have nk : w.heap.size ≠ kx := by have := HSZ.out; have := HB0.out.size; omega
                go_simp
                clear d0 d1 d2 d3 e0 e1 e2 e3
                refine hK.out _ _ (by first | with_reducible exact q0 | exact cell_other (cell_other (cell_other (cell_other q0 nk) nk) nk) nk) (fun hHeld => ?_)
                clear hK K
                try simp only [List.setIfInBounds_toArray, List.set_cons_zero, List.set_cons_succ]
                refine wpAnyH_done (by kernel_rfl) ?_ _
                clear hHeld
                have hW0 : W.heap.size ≤ V0.heap.size := HB0.out.size
                have HFIN : Hid (TB (set4 V5 kx (.slice (some ⟨vb, 0, none⟩) 1 1) (.slice (some ⟨gb, 0, none⟩) m m) (.slice (some ⟨gf, 0, none⟩) m m) (.slice (some ⟨gl, 0, none⟩) m m)) W.heap.size kx m (.slice (some ⟨vb, 0, none⟩) 1 1) gb gf (.slice (some ⟨gl, 0, none⟩) m m) [(s : Int)] (List.replicate m (-1)) (List.replicate m (-1)) ∧ IRow (set4 V5 kx (.slice (some ⟨vb, 0, none⟩) 1 1) (.slice (some ⟨gb, 0, none⟩) m m) (.slice (some ⟨gf, 0, none⟩) m m) (.slice (some ⟨gl, 0, none⟩) m m)) W.heap.size gl m (List.replicate m (-1)) ∧ (¬ TBk kx gb gf (.slice (some ⟨vb, 0, none⟩) 1 1) gl) ∧ Below W.heap.size W (set4 V5 kx (.slice (some ⟨vb, 0, none⟩) 1 1) (.slice (some ⟨gb, 0, none⟩) m m) (.slice (some ⟨gf, 0, none⟩) m m) (.slice (some ⟨gl, 0, none⟩) m m)) ∧ W.heap.size ≤ kx) := by
                  refine ⟨⟨set_box35 HK5.out, ?_, ?_, ?_, by omega, by simp [Value.ownBlock]; omega, by simp [Value.ownBlock]; omega⟩, ?_, ?_, below_set4 HB5.out (by omega) _ _ _ _, by omega⟩
                  · exact IOwns.base (row_set4 HO5.out (by simp [Value.ownBlock]; omega) _ _ _ _) (by omega)
                  · exact (irow_set4 HG5.out (by omega) _ _ _ _).base (by omega)
                  · exact (irow_set4 HF5.out (by omega) _ _ _ _).base (by omega)
                  · exact (irow_set4 HL5.out (by omega) _ _ _ _).base (by omega)
                  · rintro (h | h | h | h)
                    · omega
                    · omega
                    · omega
                    · simp [Value.ownBlock] at h; omega
                unfold set4 at HFIN
                exact hend kx _ gb gf gl 1 _ _ _ _ _ _ _ _ _ _ _ _ _ HFIN.out
              exact AllReadyH.nil
            exact AllReadyH.nil
          exact AllReadyH.nil
        refine ready_cons ({ dst := some 25, op := Op.call { callee := Callee.value (Operand.func 44), args := #[Operand.tmp 24, Operand.const (Value.int IntKind.i64 (-1))], argTypes := #[3, 3] }, type := 33, pos := "ref.go:39", after := #[{ on := 6, ground := Ground.data }, { on := 4, ground := Ground.chain }], guard := none }) rfl rfl (fun K hK => ?_) ?_
        · clear hHeld
          go_simp
          refine (BL.out V2).mono ?_
          rintro e V3 ⟨gf, rfl, hrow, hb2⟩
          have rF := hrow.lt
          have HF3 := hide hrow
          clear hrow
          have HB3 := hide (below_step HB2.out hb2)
          have S3 := hb2.size
          have HG3 := hide (HG2.out.later hb2)
          have HK3 := hide (box_later HK2.out hb2)
          clear hb2 q0
          have q0 := (HA.out.later HB3.out).1
          refine hK.out _ _ (by first | with_reducible exact q0 | exact cell_other (cell_other (cell_other (cell_other q0 nk) nk) nk) nk) (fun hHeld => ?_)
          clear hK K
          try simp only [List.setIfInBounds_toArray, List.set_cons_zero, List.set_cons_succ]
          refine wpAnyH_ready (rs := [1, 10]) (by kernel_rfl) (by simp) ?_
          refine ready_cons ({ dst := some 19, op := Op.buildSlice 33 1 #[(0, Operand.tmp 18)], type := 33, pos := "ref.go:39", after := #[{ on := 0, ground := Ground.data }], guard := none }) rfl rfl (fun K hK => ?_) ?_
          · clear hHeld
            go_simp
            obtain ⟨V4, hV⟩ : ∃ V, V = V3.alloc (.cells #[.int .i64 s] 3) := ⟨_, rfl⟩
            have hb2 : Below V3.heap.size V3 V4 := by rw [hV]; go_grown
            have HO4 : Hid (IOwns V4 V3.heap.size (.slice (some ⟨V3.heap.size, 0, none⟩) 1 1) [(s : Int)]) := by show IOwns _ _ _ _; rw [hV]; exact World.ownsRow_lit _ #[.int .i64 s] 1 (Nat.le_refl _) (by unfold maxLen; omega) rfl
            obtain ⟨vb, hvb⟩ : ∃ vb, V3.heap.size = vb := ⟨_, rfl⟩
            have rO : V3.heap.size ≤ vb ∧ vb < V4.heap.size := by have h0 := (World.ownsRow.lt HO4.out V3.heap.size rfl).2; omega
            rw [← hV]
            have HB4 := hide (below_step HB3.out hb2)
            have S4 := hb2.size
            have HG4 := hide (HG3.out.later hb2)
            have HK4 := hide (box_later HK3.out hb2)
            have HF4 := hide (HF3.out.later hb2)
            clear hb2 q0
            have q0 := (HA.out.later HB4.out).1
            rw [show (Value.slice (some ⟨V3.heap.size, 0, none⟩) 1 1) = .slice (some ⟨vb, 0, none⟩) 1 1 by rw [hvb]] at HO4
            rw [hvb]
            clear hV hvb
            refine hK.out _ _ (by first | with_reducible exact q0 | exact cell_other (cell_other (cell_other (cell_other q0 nk) nk) nk) nk) (fun hHeld => ?_)
            clear hK K
            try simp only [List.setIfInBounds_toArray, List.set_cons_zero, List.set_cons_succ]
            refine wpAnyH_ready (rs := [10]) (by kernel_rfl) (by simp) ?_
            refine ready_cons ({ dst := some 28, op := Op.call { callee := Callee.value (Operand.func 44), args := #[Operand.tmp 27, Operand.const (Value.int IntKind.i64 (-1))], argTypes := #[3, 3] }, type := 33, pos := "ref.go:39", after := #[{ on := 9, ground := Ground.data }, { on := 7, ground := Ground.chain }], guard := none }) rfl rfl (fun K hK => ?_) ?_
            · clear hHeld
              go_simp
              refine (BL.out V4).mono ?_
              rintro e V5 ⟨gl, rfl, hrow, hb2⟩
              have rL := hrow.lt
              have HL5 := hide hrow
              clear hrow
              have HB5 := hide (below_step HB4.out hb2)
              have S5 := hb2.size
              have HG5 := hide (HG4.out.later hb2)
              have HK5 := hide (box_later HK4.out hb2)
              have HF5 := hide (HF4.out.later hb2)
              have HO5 := hide (HO4.out.later hb2)
              clear hb2 q0
              have q0 := (HA.out.later HB5.out).1
              refine hK.out _ _ (by first | with_reducible exact q0 | exact cell_other (cell_other (cell_other (cell_other q0 nk) nk) nk) nk) (fun hHeld => ?_)
              clear hK K
              try simp only [List.setIfInBounds_toArray, List.set_cons_zero, List.set_cons_succ]
              refine wpAnyH_take (i := 11) (v := ?v22) rfl (by kernel_rfl) (by kernel_rfl) (by kernel_rfl) (fun c a w h => hQ c a _ w h rfl) (Or.inl ⟨by rfl, ?hy22⟩) (by assumption) ?rest22
              case hy22 => (intro w hSw; (try dsimp only at hSw); go_simp; try with_reducible rfl)
              try simp only [Act.put, List.setIfInBounds_toArray, List.set_cons_zero, List.set_cons_succ]
              refine wpAnyH_ready (rs := [13]) (by kernel_rfl) (by simp) ?_
              refine ready_cons ({ dst := none, op := Op.store 35 (Operand.tmp 5) (Operand.tmp 29), type := 0, pos := "ref.go:39", after := #[{ on := 12, ground := Ground.data }, { on := 11, ground := Ground.data }, { on := 10, ground := Ground.chain }, { on := 0, ground := Ground.phase }, { on := 1, ground := Ground.phase }, { on := 2, ground := Ground.phase }, { on := 3, ground := Ground.phase }, { on := 4, ground := Ground.phase }, { on := 5, ground := Ground.phase }, { on := 6, ground := Ground.phase }, { on := 7, ground := Ground.phase }, { on := 8, ground := Ground.phase }, { on := 9, ground := Ground.phase }, { on := 10, ground := Ground.phase }, { on := 11, ground := Ground.phase }, { on := 12, ground := Ground.phase }], guard := none }) rfl rfl (fun K hK => ?_) ?_
              · clear hHeld
                obtain ⟨d0, d1, d2, d3, e0, e1, e2, e3⟩ := box_cells HK5.out
                have nk : w.heap.size ≠ kx := by have := HSZ.out; have := HB0.out.size; omega
                go_simp
                clear d0 d1 d2 d3 e0 e1 e2 e3
                refine hK.out _ _ (by first | with_reducible exact q0 | exact cell_other (cell_other (cell_other (cell_other q0 nk) nk) nk) nk) (fun hHeld => ?_)
                clear hK K
                try simp only [List.setIfInBounds_toArray, List.set_cons_zero, List.set_cons_succ]
                refine wpAnyH_done (by kernel_rfl) ?_ _
                clear hHeld
                have hW0 : W.heap.size ≤ V0.heap.size := HB0.out.size
                have HFIN : Hid (TB (set4 V5 kx (.slice (some ⟨vb, 0, none⟩) 1 1) (.slice (some ⟨gb, 0, none⟩) m m) (.slice (some ⟨gf, 0, none⟩) m m) (.slice (some ⟨gl, 0, none⟩) m m)) W.heap.size kx m (.slice (some ⟨vb, 0, none⟩) 1 1) gb gf (.slice (some ⟨gl, 0, none⟩) m m) [(s : Int)] (List.replicate m (-1)) (List.replicate m (-1)) ∧ IRow (set4 V5 kx (.slice (some ⟨vb, 0, none⟩) 1 1) (.slice (some ⟨gb, 0, none⟩) m m) (.slice (some ⟨gf, 0, none⟩) m m) (.slice (some ⟨gl, 0, none⟩) m m)) W.heap.size gl m (List.replicate m (-1)) ∧ (¬ TBk kx gb gf (.slice (some ⟨vb, 0, none⟩) 1 1) gl) ∧ Below W.heap.size W (set4 V5 kx (.slice (some ⟨vb, 0, none⟩) 1 1) (.slice (some ⟨gb, 0, none⟩) m m) (.slice (some ⟨gf, 0, none⟩) m m) (.slice (some ⟨gl, 0, none⟩) m m)) ∧ W.heap.size ≤ kx) := by
                  refine ⟨⟨set_box35 HK5.out, ?_, ?_, ?_, by omega, by simp [Value.ownBlock]; omega, by simp [Value.ownBlock]; omega⟩, ?_, ?_, below_set4 HB5.out (by omega) _ _ _ _, by omega⟩
                  · exact IOwns.base (row_set4 HO5.out (by simp [Value.ownBlock]; omega) _ _ _ _) (by omega)
                  · exact (irow_set4 HG5.out (by omega) _ _ _ _).base (by omega)
                  · exact (irow_set4 HF5.out (by omega) _ _ _ _).base (by omega)
                  · exact (irow_set4 HL5.out (by omega) _ _ _ _).base (by omega)
                  · rintro (h | h | h | h)
                    · omega
                    · omega
                    · omega
                    · simp [Value.ownBlock] at h; omega
                unfold set4 at HFIN
                exact hend kx _ gb gf gl 1 _ _ _ _ _ _ _ _ _ _ _ _ _ HFIN.out
              exact AllReadyH.nil
            exact AllReadyH.nil
          refine ready_cons ({ dst := some 28, op := Op.call { callee := Callee.value (Operand.func 44), args := #[Operand.tmp 27, Operand.const (Value.int IntKind.i64 (-1))], argTypes := #[3, 3] }, type := 33, pos := "ref.go:39", after := #[{ on := 9, ground := Ground.data }, { on := 7, ground := Ground.chain }], guard := none }) rfl rfl (fun K hK => ?_) ?_
          · clear hHeld
            go_simp
            refine (BL.out V3).mono ?_
            rintro e V4 ⟨gl, rfl, hrow, hb2⟩
            have rL := hrow.lt
            have HL4 := hide hrow
            clear hrow
            have HB4 := hide (below_step HB3.out hb2)
            have S4 := hb2.size
            have HG4 := hide (HG3.out.later hb2)
            have HK4 := hide (box_later HK3.out hb2)
            have HF4 := hide (HF3.out.later hb2)
            clear hb2 q0
            have q0 := (HA.out.later HB4.out).1
            refine hK.out _ _ (by first | with_reducible exact q0 | exact cell_other (cell_other (cell_other (cell_other q0 nk) nk) nk) nk) (fun hHeld => ?_)
            clear hK K
            try simp only [List.setIfInBounds_toArray, List.set_cons_zero, List.set_cons_succ]
            refine wpAnyH_ready (rs := [1]) (by kernel_rfl) (by simp) ?_
            refine ready_cons ({ dst := some 19, op := Op.buildSlice 33 1 #[(0, Operand.tmp 18)], type := 33, pos := "ref.go:39", after := #[{ on := 0, ground := Ground.data }], guard := none }) rfl rfl (fun K hK => ?_) ?_
            · clear hHeld
              go_simp
              obtain ⟨V5, hV⟩ : ∃ V, V = V4.alloc (.cells #[.int .i64 s] 3) := ⟨_, rfl⟩
              have hb2 : Below V4.heap.size V4 V5 := by rw [hV]; go_grown
              have HO5 : Hid (IOwns V5 V4.heap.size (.slice (some ⟨V4.heap.size, 0, none⟩) 1 1) [(s : Int)]) := by show IOwns _ _ _ _; rw [hV]; exact World.ownsRow_lit _ #[.int .i64 s] 1 (Nat.le_refl _) (by unfold maxLen; omega) rfl
              obtain ⟨vb, hvb⟩ : ∃ vb, V4.heap.size = vb := ⟨_, rfl⟩
              have rO : V4.heap.size ≤ vb ∧ vb < V5.heap.size := by have h0 := (World.ownsRow.lt HO5.out V4.heap.size rfl).2; omega
              rw [← hV]
              have HB5 := hide (below_step HB4.out hb2)
              have S5 := hb2.size
              have HG5 := hide (HG4.out.later hb2)
              have HK5 := hide (box_later HK4.out hb2)
              have HF5 := hide (HF4.out.later hb2)
              have HL5 := hide (HL4.out.later hb2)
              clear hb2 q0
              have q0 := (HA.out.later HB5.out).1
              rw [show (Value.slice (some ⟨V4.heap.size, 0, none⟩) 1 1) = .slice (some ⟨vb, 0, none⟩) 1 1 by rw [hvb]] at HO5
              rw [hvb]
              clear hV hvb
              refine hK.out _ _ (by first | with_reducible exact q0 | exact cell_other (cell_other (cell_other (cell_other q0 nk) nk) nk) nk) (fun hHeld => ?_)
              clear hK K
              try simp only [List.setIfInBounds_toArray, List.set_cons_zero, List.set_cons_succ]
              refine wpAnyH_take (i := 11) (v := ?v23) rfl (by kernel_rfl) (by kernel_rfl) (by kernel_rfl) (fun c a w h => hQ c a _ w h rfl) (Or.inl ⟨by rfl, ?hy23⟩) (by assumption) ?rest23
              case hy23 => (intro w hSw; (try dsimp only at hSw); go_simp; try with_reducible rfl)
              try simp only [Act.put, List.setIfInBounds_toArray, List.set_cons_zero, List.set_cons_succ]
              refine wpAnyH_ready (rs := [13]) (by kernel_rfl) (by simp) ?_
              refine ready_cons ({ dst := none, op := Op.store 35 (Operand.tmp 5) (Operand.tmp 29), type := 0, pos := "ref.go:39", after := #[{ on := 12, ground := Ground.data }, { on := 11, ground := Ground.data }, { on := 10, ground := Ground.chain }, { on := 0, ground := Ground.phase }, { on := 1, ground := Ground.phase }, { on := 2, ground := Ground.phase }, { on := 3, ground := Ground.phase }, { on := 4, ground := Ground.phase }, { on := 5, ground := Ground.phase }, { on := 6, ground := Ground.phase }, { on := 7, ground := Ground.phase }, { on := 8, ground := Ground.phase }, { on := 9, ground := Ground.phase }, { on := 10, ground := Ground.phase }, { on := 11, ground := Ground.phase }, { on := 12, ground := Ground.phase }], guard := none }) rfl rfl (fun K hK => ?_) ?_
              · clear hHeld
                obtain ⟨d0, d1, d2, d3, e0, e1, e2, e3⟩ := box_cells HK5.out
                have nk : w.heap.size ≠ kx := by have := HSZ.out; have := HB0.out.size; omega
                go_simp
                clear d0 d1 d2 d3 e0 e1 e2 e3
                refine hK.out _ _ (by first | with_reducible exact q0 | exact cell_other (cell_other (cell_other (cell_other q0 nk) nk) nk) nk) (fun hHeld => ?_)
                clear hK K
                try simp only [List.setIfInBounds_toArray, List.set_cons_zero, List.set_cons_succ]
                refine wpAnyH_done (by kernel_rfl) ?_ _
                clear hHeld
                have hW0 : W.heap.size ≤ V0.heap.size := HB0.out.size
                have HFIN : Hid (TB (set4 V5 kx (.slice (some ⟨vb, 0, none⟩) 1 1) (.slice (some ⟨gb, 0, none⟩) m m) (.slice (some ⟨gf, 0, none⟩) m m) (.slice (some ⟨gl, 0, none⟩) m m)) W.heap.size kx m (.slice (some ⟨vb, 0, none⟩) 1 1) gb gf (.slice (some ⟨gl, 0, none⟩) m m) [(s : Int)] (List.replicate m (-1)) (List.replicate m (-1)) ∧ IRow (set4 V5 kx (.slice (some ⟨vb, 0, none⟩) 1 1) (.slice (some ⟨gb, 0, none⟩) m m) (.slice (some ⟨gf, 0, none⟩) m m) (.slice (some ⟨gl, 0, none⟩) m m)) W.heap.size gl m (List.replicate m (-1)) ∧ (¬ TBk kx gb gf (.slice (some ⟨vb, 0, none⟩) 1 1) gl) ∧ Below W.heap.size W (set4 V5 kx (.slice (some ⟨vb, 0, none⟩) 1 1) (.slice (some ⟨gb, 0, none⟩) m m) (.slice (some ⟨gf, 0, none⟩) m m) (.slice (some ⟨gl, 0, none⟩) m m)) ∧ W.heap.size ≤ kx) := by
                  refine ⟨⟨set_box35 HK5.out, ?_, ?_, ?_, by omega, by simp [Value.ownBlock]; omega, by simp [Value.ownBlock]; omega⟩, ?_, ?_, below_set4 HB5.out (by omega) _ _ _ _, by omega⟩
                  · exact IOwns.base (row_set4 HO5.out (by simp [Value.ownBlock]; omega) _ _ _ _) (by omega)
                  · exact (irow_set4 HG5.out (by omega) _ _ _ _).base (by omega)
                  · exact (irow_set4 HF5.out (by omega) _ _ _ _).base (by omega)
                  · exact (irow_set4 HL5.out (by omega) _ _ _ _).base (by omega)
                  · rintro (h | h | h | h)
                    · omega
                    · omega
                    · omega
                    · simp [Value.ownBlock] at h; omega
                unfold set4 at HFIN
                exact hend kx _ gb gf gl 1 _ _ _ _ _ _ _ _ _ _ _ _ _ HFIN.out
              exact AllReadyH.nil
            exact AllReadyH.nil
          exact AllReadyH.nil
        exact AllReadyH.nil
      exact AllReadyH.nil
    refine ready_cons ({ dst := some 5, op := Op.alloc 35, type := 0, pos := "ref.go:39", after := #[], guard := none }) rfl rfl (fun K hK => ?_) ?_
    · clear hHeld
      go_simp
      obtain ⟨V1, hV⟩ : ∃ V, V = V0.alloc (.cells #[nilS, nilS, nilS, nilS] 35) := ⟨_, rfl⟩
      have hb2 : Below V0.heap.size V0 V1 := by rw [hV]; go_grown
      have HK1 : Hid (V1.ownsRow 0 35 4 (.slice (some ⟨V0.heap.size, 0, none⟩) 1 1) 1 [nilS, nilS, nilS, nilS]) := by show World.ownsRow _ _ _ _ _ _ _; rw [hV]; exact box35 _ _ _ _ _
      obtain ⟨kx, hkx⟩ : ∃ kx, V0.heap.size = kx := ⟨_, rfl⟩
      have rK : V0.heap.size ≤ kx ∧ kx < V1.heap.size := by have h0 := (World.ownsRow.lt HK1.out V0.heap.size rfl).2; omega
      rw [← hV]
      have HB1 := hide (below_step HB0.out hb2)
      have S1 := hb2.size
      clear hb2 q0
      have q0 := (HA.out.later HB1.out).1
      rw [hkx] at HK1 ⊢
      clear hV hkx
      refine hK.out _ _ (by first | with_reducible exact q0 | exact cell_other (cell_other (cell_other (cell_other q0 nk) nk) nk) nk) (fun hHeld => ?_)
      clear hK K
      try simp only [List.setIfInBounds_toArray, List.set_cons_zero, List.set_cons_succ]
      refine wpAnyH_ready (rs := [1, 4]) (by kernel_rfl) (by simp) ?_
      refine ready_cons ({ dst := some 19, op := Op.buildSlice 33 1 #[(0, Operand.tmp 18)], type := 33, pos := "ref.go:39", after := #[{ on := 0, ground := Ground.data }], guard := none }) rfl rfl (fun K hK => ?_) ?_
      · clear hHeld
        go_simp
        obtain ⟨V2, hV⟩ : ∃ V, V = V1.alloc (.cells #[.int .i64 s] 3) := ⟨_, rfl⟩
        have hb2 : Below V1.heap.size V1 V2 := by rw [hV]; go_grown
        have HO2 : Hid (IOwns V2 V1.heap.size (.slice (some ⟨V1.heap.size, 0, none⟩) 1 1) [(s : Int)]) := by show IOwns _ _ _ _; rw [hV]; exact World.ownsRow_lit _ #[.int .i64 s] 1 (Nat.le_refl _) (by unfold maxLen; omega) rfl
        obtain ⟨vb, hvb⟩ : ∃ vb, V1.heap.size = vb := ⟨_, rfl⟩
        have rO : V1.heap.size ≤ vb ∧ vb < V2.heap.size := by have h0 := (World.ownsRow.lt HO2.out V1.heap.size rfl).2; omega
        rw [← hV]
        have HB2 := hide (below_step HB1.out hb2)
        have S2 := hb2.size
        have HK2 := hide (box_later HK1.out hb2)
        clear hb2 q0
        have q0 := (HA.out.later HB2.out).1
        rw [show (Value.slice (some ⟨V1.heap.size, 0, none⟩) 1 1) = .slice (some ⟨vb, 0, none⟩) 1 1 by rw [hvb]] at HO2
        rw [hvb]
        clear hV hvb
        refine hK.out _ _ (by first | with_reducible exact q0 | exact cell_other (cell_other (cell_other (cell_other q0 nk) nk) nk) nk) (fun hHeld => ?_)
        clear hK K
        try simp only [List.setIfInBounds_toArray, List.set_cons_zero, List.set_cons_succ]
        refine wpAnyH_ready (rs := [4]) (by kernel_rfl) (by simp) ?_
        refine ready_cons ({ dst := some 22, op := Op.call { callee := Callee.value (Operand.func 44), args := #[Operand.tmp 21, Operand.const (Value.int IntKind.i64 (-1))], argTypes := #[3, 3] }, type := 33, pos := "ref.go:39", after := #[{ on := 3, ground := Ground.data }], guard := none }) rfl rfl (fun K hK => ?_) ?_
        · clear hHeld
          go_simp
          refine (BL.out V2).mono ?_
          rintro e V3 ⟨gb, rfl, hrow, hb2⟩
          have rG := hrow.lt
          have HG3 := hide hrow
          clear hrow
          have HB3 := hide (below_step HB2.out hb2)
          have S3 := hb2.size
          have HK3 := hide (box_later HK2.out hb2)
          have HO3 := hide (HO2.out.later hb2)
          clear hb2 q0
          have q0 := (HA.out.later HB3.out).1
          refine hK.out _ _ (by first | with_reducible exact q0 | exact cell_other (cell_other (cell_other (cell_other q0 nk) nk) nk) nk) (fun hHeld => ?_)
          clear hK K
          try simp only [List.setIfInBounds_toArray, List.set_cons_zero, List.set_cons_succ]
          refine wpAnyH_ready (rs := [7]) (by kernel_rfl) (by simp) ?_
          refine ready_cons ({ dst := some 25, op := Op.call { callee := Callee.value (Operand.func 44), args := #[Operand.tmp 24, Operand.const (Value.int IntKind.i64 (-1))], argTypes := #[3, 3] }, type := 33, pos := "ref.go:39", after := #[{ on := 6, ground := Ground.data }, { on := 4, ground := Ground.chain }], guard := none }) rfl rfl (fun K hK => ?_) ?_
          · clear hHeld
            go_simp
            refine (BL.out V3).mono ?_
            rintro e V4 ⟨gf, rfl, hrow, hb2⟩
            have rF := hrow.lt
            have HF4 := hide hrow
            clear hrow
            have HB4 := hide (below_step HB3.out hb2)
            have S4 := hb2.size
            have HK4 := hide (box_later HK3.out hb2)
            have HO4 := hide (HO3.out.later hb2)
            have HG4 := hide (HG3.out.later hb2)
            clear hb2 q0
            have q0 := (HA.out.later HB4.out).1
            refine hK.out _ _ (by first | with_reducible exact q0 | exact cell_other (cell_other (cell_other (cell_other q0 nk) nk) nk) nk) (fun hHeld => ?_)
            clear hK K
            try simp only [List.setIfInBounds_toArray, List.set_cons_zero, List.set_cons_succ]
            refine wpAnyH_ready (rs := [10]) (by kernel_rfl) (by simp) ?_
            refine ready_cons ({ dst := some 28, op := Op.call { callee := Callee.value (Operand.func 44), args := #[Operand.tmp 27, Operand.const (Value.int IntKind.i64 (-1))], argTypes := #[3, 3] }, type := 33, pos := "ref.go:39", after := #[{ on := 9, ground := Ground.data }, { on := 7, ground := Ground.chain }], guard := none }) rfl rfl (fun K hK => ?_) ?_
            · clear hHeld
              go_simp
              refine (BL.out V4).mono ?_
              rintro e V5 ⟨gl, rfl, hrow, hb2⟩
              have rL := hrow.lt
              have HL5 := hide hrow
              clear hrow
              have HB5 := hide (below_step HB4.out hb2)
              have S5 := hb2.size
              have HK5 := hide (box_later HK4.out hb2)
              have HO5 := hide (HO4.out.later hb2)
              have HG5 := hide (HG4.out.later hb2)
              have HF5 := hide (HF4.out.later hb2)
              clear hb2 q0
              have q0 := (HA.out.later HB5.out).1
              refine hK.out _ _ (by first | with_reducible exact q0 | exact cell_other (cell_other (cell_other (cell_other q0 nk) nk) nk) nk) (fun hHeld => ?_)
              clear hK K
              try simp only [List.setIfInBounds_toArray, List.set_cons_zero, List.set_cons_succ]
              refine wpAnyH_take (i := 11) (v := ?v24) rfl (by kernel_rfl) (by kernel_rfl) (by kernel_rfl) (fun c a w h => hQ c a _ w h rfl) (Or.inl ⟨by rfl, ?hy24⟩) (by assumption) ?rest24
              case hy24 => (intro w hSw; (try dsimp only at hSw); go_simp; try with_reducible rfl)
              try simp only [Act.put, List.setIfInBounds_toArray, List.set_cons_zero, List.set_cons_succ]
              refine wpAnyH_ready (rs := [13]) (by kernel_rfl) (by simp) ?_
              refine ready_cons ({ dst := none, op := Op.store 35 (Operand.tmp 5) (Operand.tmp 29), type := 0, pos := "ref.go:39", after := #[{ on := 12, ground := Ground.data }, { on := 11, ground := Ground.data }, { on := 10, ground := Ground.chain }, { on := 0, ground := Ground.phase }, { on := 1, ground := Ground.phase }, { on := 2, ground := Ground.phase }, { on := 3, ground := Ground.phase }, { on := 4, ground := Ground.phase }, { on := 5, ground := Ground.phase }, { on := 6, ground := Ground.phase }, { on := 7, ground := Ground.phase }, { on := 8, ground := Ground.phase }, { on := 9, ground := Ground.phase }, { on := 10, ground := Ground.phase }, { on := 11, ground := Ground.phase }, { on := 12, ground := Ground.phase }], guard := none }) rfl rfl (fun K hK => ?_) ?_
              · clear hHeld
                obtain ⟨d0, d1, d2, d3, e0, e1, e2, e3⟩ := box_cells HK5.out
                have nk : w.heap.size ≠ kx := by have := HSZ.out; have := HB0.out.size; omega
                go_simp
                clear d0 d1 d2 d3 e0 e1 e2 e3
                refine hK.out _ _ (by first | with_reducible exact q0 | exact cell_other (cell_other (cell_other (cell_other q0 nk) nk) nk) nk) (fun hHeld => ?_)
                clear hK K
                try simp only [List.setIfInBounds_toArray, List.set_cons_zero, List.set_cons_succ]
                refine wpAnyH_done (by kernel_rfl) ?_ _
                clear hHeld
                have hW0 : W.heap.size ≤ V0.heap.size := HB0.out.size
                have HFIN : Hid (TB (set4 V5 kx (.slice (some ⟨vb, 0, none⟩) 1 1) (.slice (some ⟨gb, 0, none⟩) m m) (.slice (some ⟨gf, 0, none⟩) m m) (.slice (some ⟨gl, 0, none⟩) m m)) W.heap.size kx m (.slice (some ⟨vb, 0, none⟩) 1 1) gb gf (.slice (some ⟨gl, 0, none⟩) m m) [(s : Int)] (List.replicate m (-1)) (List.replicate m (-1)) ∧ IRow (set4 V5 kx (.slice (some ⟨vb, 0, none⟩) 1 1) (.slice (some ⟨gb, 0, none⟩) m m) (.slice (some ⟨gf, 0, none⟩) m m) (.slice (some ⟨gl, 0, none⟩) m m)) W.heap.size gl m (List.replicate m (-1)) ∧ (¬ TBk kx gb gf (.slice (some ⟨vb, 0, none⟩) 1 1) gl) ∧ Below W.heap.size W (set4 V5 kx (.slice (some ⟨vb, 0, none⟩) 1 1) (.slice (some ⟨gb, 0, none⟩) m m) (.slice (some ⟨gf, 0, none⟩) m m) (.slice (some ⟨gl, 0, none⟩) m m)) ∧ W.heap.size ≤ kx) := by
                  refine ⟨⟨set_box35 HK5.out, ?_, ?_, ?_, by omega, by simp [Value.ownBlock]; omega, by simp [Value.ownBlock]; omega⟩, ?_, ?_, below_set4 HB5.out (by omega) _ _ _ _, by omega⟩
                  · exact IOwns.base (row_set4 HO5.out (by simp [Value.ownBlock]; omega) _ _ _ _) (by omega)
                  · exact (irow_set4 HG5.out (by omega) _ _ _ _).base (by omega)
                  · exact (irow_set4 HF5.out (by omega) _ _ _ _).base (by omega)
                  · exact (irow_set4 HL5.out (by omega) _ _ _ _).base (by omega)
                  · rintro (h | h | h | h)
                    · omega
                    · omega
                    · omega
                    · simp [Value.ownBlock] at h; omega
                unfold set4 at HFIN
                exact hend kx _ gb gf gl 1 _ _ _ _ _ _ _ _ _ _ _ _ _ HFIN.out
              exact AllReadyH.nil
            exact AllReadyH.nil
          exact AllReadyH.nil
        exact AllReadyH.nil
      refine ready_cons ({ dst := some 22, op := Op.call { callee := Callee.value (Operand.func 44), args := #[Operand.tmp 21, Operand.const (Value.int IntKind.i64 (-1))], argTypes := #[3, 3] }, type := 33, pos := "ref.go:39", after := #[{ on := 3, ground := Ground.data }], guard := none }) rfl rfl (fun K hK => ?_) ?_
      · clear hHeld
        go_simp
        refine (BL.out V1).mono ?_
        rintro e V2 ⟨gb, rfl, hrow, hb2⟩
        have rG := hrow.lt
        have HG2 := hide hrow
        clear hrow
        have HB2 := hide (below_step HB1.out hb2)
        have S2 := hb2.size
        have HK2 := hide (box_later HK1.out hb2)
        clear hb2 q0
        have q0 := (HA.out.later HB2.out).1
        refine hK.out _ _ (by first | with_reducible exact q0 | exact cell_other (cell_other (cell_other (cell_other q0 nk) nk) nk) nk) (fun hHeld => ?_)
        clear hK K
        try simp only [List.setIfInBounds_toArray, List.set_cons_zero, List.set_cons_succ]
        refine wpAnyH_ready (rs := [1, 7]) (by kernel_rfl) (by simp) ?_
        refine ready_cons ({ dst := some 19, op := Op.buildSlice 33 1 #[(0, Operand.tmp 18)], type := 33, pos := "ref.go:39", after := #[{ on := 0, ground := Ground.data }], guard := none }) rfl rfl (fun K hK => ?_) ?_
        · clear hHeld
          go_simp
          obtain ⟨V3, hV⟩ : ∃ V, V = V2.alloc (.cells #[.int .i64 s] 3) := ⟨_, rfl⟩
          have hb2 : Below V2.heap.size V2 V3 := by rw [hV]; go_grown
          have HO3 : Hid (IOwns V3 V2.heap.size (.slice (some ⟨V2.heap.size, 0, none⟩) 1 1) [(s : Int)]) := by show IOwns _ _ _ _; rw [hV]; exact World.ownsRow_lit _ #[.int .i64 s] 1 (Nat.le_refl _) (by unfold maxLen; omega) rfl
          obtain ⟨vb, hvb⟩ : ∃ vb, V2.heap.size = vb := ⟨_, rfl⟩
          have rO : V2.heap.size ≤ vb ∧ vb < V3.heap.size := by have h0 := (World.ownsRow.lt HO3.out V2.heap.size rfl).2; omega
          rw [← hV]
          have HB3 := hide (below_step HB2.out hb2)
          have S3 := hb2.size
          have HK3 := hide (box_later HK2.out hb2)
          have HG3 := hide (HG2.out.later hb2)
          clear hb2 q0
          have q0 := (HA.out.later HB3.out).1
          rw [show (Value.slice (some ⟨V2.heap.size, 0, none⟩) 1 1) = .slice (some ⟨vb, 0, none⟩) 1 1 by rw [hvb]] at HO3
          rw [hvb]
          clear hV hvb
          refine hK.out _ _ (by first | with_reducible exact q0 | exact cell_other (cell_other (cell_other (cell_other q0 nk) nk) nk) nk) (fun hHeld => ?_)
          clear hK K
          try simp only [List.setIfInBounds_toArray, List.set_cons_zero, List.set_cons_succ]
          refine wpAnyH_ready (rs := [7]) (by kernel_rfl) (by simp) ?_
          refine ready_cons ({ dst := some 25, op := Op.call { callee := Callee.value (Operand.func 44), args := #[Operand.tmp 24, Operand.const (Value.int IntKind.i64 (-1))], argTypes := #[3, 3] }, type := 33, pos := "ref.go:39", after := #[{ on := 6, ground := Ground.data }, { on := 4, ground := Ground.chain }], guard := none }) rfl rfl (fun K hK => ?_) ?_
          · clear hHeld
            go_simp
            refine (BL.out V3).mono ?_
            rintro e V4 ⟨gf, rfl, hrow, hb2⟩
            have rF := hrow.lt
            have HF4 := hide hrow
            clear hrow
            have HB4 := hide (below_step HB3.out hb2)
            have S4 := hb2.size
            have HK4 := hide (box_later HK3.out hb2)
            have HG4 := hide (HG3.out.later hb2)
            have HO4 := hide (HO3.out.later hb2)
            clear hb2 q0
            have q0 := (HA.out.later HB4.out).1
            refine hK.out _ _ (by first | with_reducible exact q0 | exact cell_other (cell_other (cell_other (cell_other q0 nk) nk) nk) nk) (fun hHeld => ?_)
            clear hK K
            try simp only [List.setIfInBounds_toArray, List.set_cons_zero, List.set_cons_succ]
            refine wpAnyH_ready (rs := [10]) (by kernel_rfl) (by simp) ?_
            refine ready_cons ({ dst := some 28, op := Op.call { callee := Callee.value (Operand.func 44), args := #[Operand.tmp 27, Operand.const (Value.int IntKind.i64 (-1))], argTypes := #[3, 3] }, type := 33, pos := "ref.go:39", after := #[{ on := 9, ground := Ground.data }, { on := 7, ground := Ground.chain }], guard := none }) rfl rfl (fun K hK => ?_) ?_
            · clear hHeld
              go_simp
              refine (BL.out V4).mono ?_
              rintro e V5 ⟨gl, rfl, hrow, hb2⟩
              have rL := hrow.lt
              have HL5 := hide hrow
              clear hrow
              have HB5 := hide (below_step HB4.out hb2)
              have S5 := hb2.size
              have HK5 := hide (box_later HK4.out hb2)
              have HG5 := hide (HG4.out.later hb2)
              have HO5 := hide (HO4.out.later hb2)
              have HF5 := hide (HF4.out.later hb2)
              clear hb2 q0
              have q0 := (HA.out.later HB5.out).1
              refine hK.out _ _ (by first | with_reducible exact q0 | exact cell_other (cell_other (cell_other (cell_other q0 nk) nk) nk) nk) (fun hHeld => ?_)
              clear hK K
              try simp only [List.setIfInBounds_toArray, List.set_cons_zero, List.set_cons_succ]
              refine wpAnyH_take (i := 11) (v := ?v25) rfl (by kernel_rfl) (by kernel_rfl) (by kernel_rfl) (fun c a w h => hQ c a _ w h rfl) (Or.inl ⟨by rfl, ?hy25⟩) (by assumption) ?rest25
              case hy25 => (intro w hSw; (try dsimp only at hSw); go_simp; try with_reducible rfl)
              try simp only [Act.put, List.setIfInBounds_toArray, List.set_cons_zero, List.set_cons_succ]
              refine wpAnyH_ready (rs := [13]) (by kernel_rfl) (by simp) ?_
              refine ready_cons ({ dst := none, op := Op.store 35 (Operand.tmp 5) (Operand.tmp 29), type := 0, pos := "ref.go:39", after := #[{ on := 12, ground := Ground.data }, { on := 11, ground := Ground.data }, { on := 10, ground := Ground.chain }, { on := 0, ground := Ground.phase }, { on := 1, ground := Ground.phase }, { on := 2, ground := Ground.phase }, { on := 3, ground := Ground.phase }, { on := 4, ground := Ground.phase }, { on := 5, ground := Ground.phase }, { on := 6, ground := Ground.phase }, { on := 7, ground := Ground.phase }, { on := 8, ground := Ground.phase }, { on := 9, ground := Ground.phase }, { on := 10, ground := Ground.phase }, { on := 11, ground := Ground.phase }, { on := 12, ground := Ground.phase }], guard := none }) rfl rfl (fun K hK => ?_) ?_
              · clear hHeld
                obtain ⟨d0, d1, d2, d3, e0, e1, e2, e3⟩ := box_cells HK5.out
                have nk : w.heap.size ≠ kx := by have := HSZ.out; have := HB0.out.size; omega
                go_simp
                clear d0 d1 d2 d3 e0 e1 e2 e3
                refine hK.out _ _ (by first | with_reducible exact q0 | exact cell_other (cell_other (cell_other (cell_other q0 nk) nk) nk) nk) (fun hHeld => ?_)
                clear hK K
                try simp only [List.setIfInBounds_toArray, List.set_cons_zero, List.set_cons_succ]
                refine wpAnyH_done (by kernel_rfl) ?_ _
                clear hHeld
                have hW0 : W.heap.size ≤ V0.heap.size := HB0.out.size
                have HFIN : Hid (TB (set4 V5 kx (.slice (some ⟨vb, 0, none⟩) 1 1) (.slice (some ⟨gb, 0, none⟩) m m) (.slice (some ⟨gf, 0, none⟩) m m) (.slice (some ⟨gl, 0, none⟩) m m)) W.heap.size kx m (.slice (some ⟨vb, 0, none⟩) 1 1) gb gf (.slice (some ⟨gl, 0, none⟩) m m) [(s : Int)] (List.replicate m (-1)) (List.replicate m (-1)) ∧ IRow (set4 V5 kx (.slice (some ⟨vb, 0, none⟩) 1 1) (.slice (some ⟨gb, 0, none⟩) m m) (.slice (some ⟨gf, 0, none⟩) m m) (.slice (some ⟨gl, 0, none⟩) m m)) W.heap.size gl m (List.replicate m (-1)) ∧ (¬ TBk kx gb gf (.slice (some ⟨vb, 0, none⟩) 1 1) gl) ∧ Below W.heap.size W (set4 V5 kx (.slice (some ⟨vb, 0, none⟩) 1 1) (.slice (some ⟨gb, 0, none⟩) m m) (.slice (some ⟨gf, 0, none⟩) m m) (.slice (some ⟨gl, 0, none⟩) m m)) ∧ W.heap.size ≤ kx) := by
                  refine ⟨⟨set_box35 HK5.out, ?_, ?_, ?_, by omega, by simp [Value.ownBlock]; omega, by simp [Value.ownBlock]; omega⟩, ?_, ?_, below_set4 HB5.out (by omega) _ _ _ _, by omega⟩
                  · exact IOwns.base (row_set4 HO5.out (by simp [Value.ownBlock]; omega) _ _ _ _) (by omega)
                  · exact (irow_set4 HG5.out (by omega) _ _ _ _).base (by omega)
                  · exact (irow_set4 HF5.out (by omega) _ _ _ _).base (by omega)
                  · exact (irow_set4 HL5.out (by omega) _ _ _ _).base (by omega)
                  · rintro (h | h | h | h)
                    · omega
                    · omega
                    · omega
                    · simp [Value.ownBlock] at h; omega
                unfold set4 at HFIN
                exact hend kx _ gb gf gl 1 _ _ _ _ _ _ _ _ _ _ _ _ _ HFIN.out
              exact AllReadyH.nil
            exact AllReadyH.nil
          exact AllReadyH.nil
        refine ready_cons ({ dst := some 25, op := Op.call { callee := Callee.value (Operand.func 44), args := #[Operand.tmp 24, Operand.const (Value.int IntKind.i64 (-1))], argTypes := #[3, 3] }, type := 33, pos := "ref.go:39", after := #[{ on := 6, ground := Ground.data }, { on := 4, ground := Ground.chain }], guard := none }) rfl rfl (fun K hK => ?_) ?_
        · clear hHeld
          go_simp
          refine (BL.out V2).mono ?_
          rintro e V3 ⟨gf, rfl, hrow, hb2⟩
          have rF := hrow.lt
          have HF3 := hide hrow
          clear hrow
          have HB3 := hide (below_step HB2.out hb2)
          have S3 := hb2.size
          have HK3 := hide (box_later HK2.out hb2)
          have HG3 := hide (HG2.out.later hb2)
          clear hb2 q0
          have q0 := (HA.out.later HB3.out).1
          refine hK.out _ _ (by first | with_reducible exact q0 | exact cell_other (cell_other (cell_other (cell_other q0 nk) nk) nk) nk) (fun hHeld => ?_)
          clear hK K
          try simp only [List.setIfInBounds_toArray, List.set_cons_zero, List.set_cons_succ]
          refine wpAnyH_ready (rs := [1, 10]) (by kernel_rfl) (by simp) ?_
          refine ready_cons ({ dst := some 19, op := Op.buildSlice 33 1 #[(0, Operand.tmp 18)], type := 33, pos := "ref.go:39", after := #[{ on := 0, ground := Ground.data }], guard := none }) rfl rfl (fun K hK => ?_) ?_
          · clear hHeld
            go_simp
            obtain ⟨V4, hV⟩ : ∃ V, V = V3.alloc (.cells #[.int .i64 s] 3) := ⟨_, rfl⟩
            have hb2 : Below V3.heap.size V3 V4 := by rw [hV]; go_grown
            have HO4 : Hid (IOwns V4 V3.heap.size (.slice (some ⟨V3.heap.size, 0, none⟩) 1 1) [(s : Int)]) := by show IOwns _ _ _ _; rw [hV]; exact World.ownsRow_lit _ #[.int .i64 s] 1 (Nat.le_refl _) (by unfold maxLen; omega) rfl
            obtain ⟨vb, hvb⟩ : ∃ vb, V3.heap.size = vb := ⟨_, rfl⟩
            have rO : V3.heap.size ≤ vb ∧ vb < V4.heap.size := by have h0 := (World.ownsRow.lt HO4.out V3.heap.size rfl).2; omega
            rw [← hV]
            have HB4 := hide (below_step HB3.out hb2)
            have S4 := hb2.size
            have HK4 := hide (box_later HK3.out hb2)
            have HG4 := hide (HG3.out.later hb2)
            have HF4 := hide (HF3.out.later hb2)
            clear hb2 q0
            have q0 := (HA.out.later HB4.out).1
            rw [show (Value.slice (some ⟨V3.heap.size, 0, none⟩) 1 1) = .slice (some ⟨vb, 0, none⟩) 1 1 by rw [hvb]] at HO4
            rw [hvb]
            clear hV hvb
            refine hK.out _ _ (by first | with_reducible exact q0 | exact cell_other (cell_other (cell_other (cell_other q0 nk) nk) nk) nk) (fun hHeld => ?_)
            clear hK K
            try simp only [List.setIfInBounds_toArray, List.set_cons_zero, List.set_cons_succ]
            refine wpAnyH_ready (rs := [10]) (by kernel_rfl) (by simp) ?_
            refine ready_cons ({ dst := some 28, op := Op.call { callee := Callee.value (Operand.func 44), args := #[Operand.tmp 27, Operand.const (Value.int IntKind.i64 (-1))], argTypes := #[3, 3] }, type := 33, pos := "ref.go:39", after := #[{ on := 9, ground := Ground.data }, { on := 7, ground := Ground.chain }], guard := none }) rfl rfl (fun K hK => ?_) ?_
            · clear hHeld
              go_simp
              refine (BL.out V4).mono ?_
              rintro e V5 ⟨gl, rfl, hrow, hb2⟩
              have rL := hrow.lt
              have HL5 := hide hrow
              clear hrow
              have HB5 := hide (below_step HB4.out hb2)
              have S5 := hb2.size
              have HK5 := hide (box_later HK4.out hb2)
              have HG5 := hide (HG4.out.later hb2)
              have HF5 := hide (HF4.out.later hb2)
              have HO5 := hide (HO4.out.later hb2)
              clear hb2 q0
              have q0 := (HA.out.later HB5.out).1
              refine hK.out _ _ (by first | with_reducible exact q0 | exact cell_other (cell_other (cell_other (cell_other q0 nk) nk) nk) nk) (fun hHeld => ?_)
              clear hK K
              try simp only [List.setIfInBounds_toArray, List.set_cons_zero, List.set_cons_succ]
              refine wpAnyH_take (i := 11) (v := ?v26) rfl (by kernel_rfl) (by kernel_rfl) (by kernel_rfl) (fun c a w h => hQ c a _ w h rfl) (Or.inl ⟨by rfl, ?hy26⟩) (by assumption) ?rest26
              case hy26 => (intro w hSw; (try dsimp only at hSw); go_simp; try with_reducible rfl)
              try simp only [Act.put, List.setIfInBounds_toArray, List.set_cons_zero, List.set_cons_succ]
              refine wpAnyH_ready (rs := [13]) (by kernel_rfl) (by simp) ?_
              refine ready_cons ({ dst := none, op := Op.store 35 (Operand.tmp 5) (Operand.tmp 29), type := 0, pos := "ref.go:39", after := #[{ on := 12, ground := Ground.data }, { on := 11, ground := Ground.data }, { on := 10, ground := Ground.chain }, { on := 0, ground := Ground.phase }, { on := 1, ground := Ground.phase }, { on := 2, ground := Ground.phase }, { on := 3, ground := Ground.phase }, { on := 4, ground := Ground.phase }, { on := 5, ground := Ground.phase }, { on := 6, ground := Ground.phase }, { on := 7, ground := Ground.phase }, { on := 8, ground := Ground.phase }, { on := 9, ground := Ground.phase }, { on := 10, ground := Ground.phase }, { on := 11, ground := Ground.phase }, { on := 12, ground := Ground.phase }], guard := none }) rfl rfl (fun K hK => ?_) ?_
              · clear hHeld
                obtain ⟨d0, d1, d2, d3, e0, e1, e2, e3⟩ := box_cells HK5.out
                have nk : w.heap.size ≠ kx := by have := HSZ.out; have := HB0.out.size; omega
                go_simp
                clear d0 d1 d2 d3 e0 e1 e2 e3
                refine hK.out _ _ (by first | with_reducible exact q0 | exact cell_other (cell_other (cell_other (cell_other q0 nk) nk) nk) nk) (fun hHeld => ?_)
                clear hK K
                try simp only [List.setIfInBounds_toArray, List.set_cons_zero, List.set_cons_succ]
                refine wpAnyH_done (by kernel_rfl) ?_ _
                clear hHeld
                have hW0 : W.heap.size ≤ V0.heap.size := HB0.out.size
                have HFIN : Hid (TB (set4 V5 kx (.slice (some ⟨vb, 0, none⟩) 1 1) (.slice (some ⟨gb, 0, none⟩) m m) (.slice (some ⟨gf, 0, none⟩) m m) (.slice (some ⟨gl, 0, none⟩) m m)) W.heap.size kx m (.slice (some ⟨vb, 0, none⟩) 1 1) gb gf (.slice (some ⟨gl, 0, none⟩) m m) [(s : Int)] (List.replicate m (-1)) (List.replicate m (-1)) ∧ IRow (set4 V5 kx (.slice (some ⟨vb, 0, none⟩) 1 1) (.slice (some ⟨gb, 0, none⟩) m m) (.slice (some ⟨gf, 0, none⟩) m m) (.slice (some ⟨gl, 0, none⟩) m m)) W.heap.size gl m (List.replicate m (-1)) ∧ (¬ TBk kx gb gf (.slice (some ⟨vb, 0, none⟩) 1 1) gl) ∧ Below W.heap.size W (set4 V5 kx (.slice (some ⟨vb, 0, none⟩) 1 1) (.slice (some ⟨gb, 0, none⟩) m m) (.slice (some ⟨gf, 0, none⟩) m m) (.slice (some ⟨gl, 0, none⟩) m m)) ∧ W.heap.size ≤ kx) := by
                  refine ⟨⟨set_box35 HK5.out, ?_, ?_, ?_, by omega, by simp [Value.ownBlock]; omega, by simp [Value.ownBlock]; omega⟩, ?_, ?_, below_set4 HB5.out (by omega) _ _ _ _, by omega⟩
                  · exact IOwns.base (row_set4 HO5.out (by simp [Value.ownBlock]; omega) _ _ _ _) (by omega)
                  · exact (irow_set4 HG5.out (by omega) _ _ _ _).base (by omega)
                  · exact (irow_set4 HF5.out (by omega) _ _ _ _).base (by omega)
                  · exact (irow_set4 HL5.out (by omega) _ _ _ _).base (by omega)
                  · rintro (h | h | h | h)
                    · omega
                    · omega
                    · omega
                    · simp [Value.ownBlock] at h; omega
                unfold set4 at HFIN
                exact hend kx _ gb gf gl 1 _ _ _ _ _ _ _ _ _ _ _ _ _ HFIN.out
              exact AllReadyH.nil
            exact AllReadyH.nil
          refine ready_cons ({ dst := some 28, op := Op.call { callee := Callee.value (Operand.func 44), args := #[Operand.tmp 27, Operand.const (Value.int IntKind.i64 (-1))], argTypes := #[3, 3] }, type := 33, pos := "ref.go:39", after := #[{ on := 9, ground := Ground.data }, { on := 7, ground := Ground.chain }], guard := none }) rfl rfl (fun K hK => ?_) ?_
          · clear hHeld
            go_simp
            refine (BL.out V3).mono ?_
            rintro e V4 ⟨gl, rfl, hrow, hb2⟩
            have rL := hrow.lt
            have HL4 := hide hrow
            clear hrow
            have HB4 := hide (below_step HB3.out hb2)
            have S4 := hb2.size
            have HK4 := hide (box_later HK3.out hb2)
            have HG4 := hide (HG3.out.later hb2)
            have HF4 := hide (HF3.out.later hb2)
            clear hb2 q0
            have q0 := (HA.out.later HB4.out).1
            refine hK.out _ _ (by first | with_reducible exact q0 | exact cell_other (cell_other (cell_other (cell_other q0 nk) nk) nk) nk) (fun hHeld => ?_)
            clear hK K
            try simp only [List.setIfInBounds_toArray, List.set_cons_zero, List.set_cons_succ]
            refine wpAnyH_ready (rs := [1]) (by kernel_rfl) (by simp) ?_
            refine ready_cons ({ dst := some 19, op := Op.buildSlice 33 1 #[(0, Operand.tmp 18)], type := 33, pos := "ref.go:39", after := #[{ on := 0, ground := Ground.data }], guard := none }) rfl rfl (fun K hK => ?_) ?_
            · clear hHeld
              go_simp
              obtain ⟨V5, hV⟩ : ∃ V, V = V4.alloc (.cells #[.int .i64 s] 3) := ⟨_, rfl⟩
              have hb2 : Below V4.heap.size V4 V5 := by rw [hV]; go_grown
              have HO5 : Hid (IOwns V5 V4.heap.size (.slice (some ⟨V4.heap.size, 0, none⟩) 1 1) [(s : Int)]) := by show IOwns _ _ _ _; rw [hV]; exact World.ownsRow_lit _ #[.int .i64 s] 1 (Nat.le_refl _) (by unfold maxLen; omega) rfl
              obtain ⟨vb, hvb⟩ : ∃ vb, V4.heap.size = vb := ⟨_, rfl⟩
              have rO : V4.heap.size ≤ vb ∧ vb < V5.heap.size := by have h0 := (World.ownsRow.lt HO5.out V4.heap.size rfl).2; omega
              rw [← hV]
              have HB5 := hide (below_step HB4.out hb2)
              have S5 := hb2.size
              have HK5 := hide (box_later HK4.out hb2)
              have HG5 := hide (HG4.out.later hb2)
              have HF5 := hide (HF4.out.later hb2)
              have HL5 := hide (HL4.out.later hb2)
              clear hb2 q0
              have q0 := (HA.out.later HB5.out).1
              rw [show (Value.slice (some ⟨V4.heap.size, 0, none⟩) 1 1) = .slice (some ⟨vb, 0, none⟩) 1 1 by rw [hvb]] at HO5
              rw [hvb]
              clear hV hvb
              refine hK.out _ _ (by first | with_reducible exact q0 | exact cell_other (cell_other (cell_other (cell_other q0 nk) nk) nk) nk) (fun hHeld => ?_)
              clear hK K
              try simp only [List.setIfInBounds_toArray, List.set_cons_zero, List.set_cons_succ]
              refine wpAnyH_take (i := 11) (v := ?v27) rfl (by kernel_rfl) (by kernel_rfl) (by kernel_rfl) (fun c a w h => hQ c a _ w h rfl) (Or.inl ⟨by rfl, ?hy27⟩) (by assumption) ?rest27
              case hy27 => (intro w hSw; (try dsimp only at hSw); go_simp; try with_reducible rfl)
              try simp only [Act.put, List.setIfInBounds_toArray, List.set_cons_zero, List.set_cons_succ]
              refine wpAnyH_ready (rs := [13]) (by kernel_rfl) (by simp) ?_
              refine ready_cons ({ dst := none, op := Op.store 35 (Operand.tmp 5) (Operand.tmp 29), type := 0, pos := "ref.go:39", after := #[{ on := 12, ground := Ground.data }, { on := 11, ground := Ground.data }, { on := 10, ground := Ground.chain }, { on := 0, ground := Ground.phase }, { on := 1, ground := Ground.phase }, { on := 2, ground := Ground.phase }, { on := 3, ground := Ground.phase }, { on := 4, ground := Ground.phase }, { on := 5, ground := Ground.phase }, { on := 6, ground := Ground.phase }, { on := 7, ground := Ground.phase }, { on := 8, ground := Ground.phase }, { on := 9, ground := Ground.phase }, { on := 10, ground := Ground.phase }, { on := 11, ground := Ground.phase }, { on := 12, ground := Ground.phase }], guard := none }) rfl rfl (fun K hK => ?_) ?_
              · clear hHeld
                obtain ⟨d0, d1, d2, d3, e0, e1, e2, e3⟩ := box_cells HK5.out
                have nk : w.heap.size ≠ kx := by have := HSZ.out; have := HB0.out.size; omega
                go_simp
                clear d0 d1 d2 d3 e0 e1 e2 e3
                refine hK.out _ _ (by first | with_reducible exact q0 | exact cell_other (cell_other (cell_other (cell_other q0 nk) nk) nk) nk) (fun hHeld => ?_)
                clear hK K
                try simp only [List.setIfInBounds_toArray, List.set_cons_zero, List.set_cons_succ]
                refine wpAnyH_done (by kernel_rfl) ?_ _
                clear hHeld
                have hW0 : W.heap.size ≤ V0.heap.size := HB0.out.size
                have HFIN : Hid (TB (set4 V5 kx (.slice (some ⟨vb, 0, none⟩) 1 1) (.slice (some ⟨gb, 0, none⟩) m m) (.slice (some ⟨gf, 0, none⟩) m m) (.slice (some ⟨gl, 0, none⟩) m m)) W.heap.size kx m (.slice (some ⟨vb, 0, none⟩) 1 1) gb gf (.slice (some ⟨gl, 0, none⟩) m m) [(s : Int)] (List.replicate m (-1)) (List.replicate m (-1)) ∧ IRow (set4 V5 kx (.slice (some ⟨vb, 0, none⟩) 1 1) (.slice (some ⟨gb, 0, none⟩) m m) (.slice (some ⟨gf, 0, none⟩) m m) (.slice (some ⟨gl, 0, none⟩) m m)) W.heap.size gl m (List.replicate m (-1)) ∧ (¬ TBk kx gb gf (.slice (some ⟨vb, 0, none⟩) 1 1) gl) ∧ Below W.heap.size W (set4 V5 kx (.slice (some ⟨vb, 0, none⟩) 1 1) (.slice (some ⟨gb, 0, none⟩) m m) (.slice (some ⟨gf, 0, none⟩) m m) (.slice (some ⟨gl, 0, none⟩) m m)) ∧ W.heap.size ≤ kx) := by
                  refine ⟨⟨set_box35 HK5.out, ?_, ?_, ?_, by omega, by simp [Value.ownBlock]; omega, by simp [Value.ownBlock]; omega⟩, ?_, ?_, below_set4 HB5.out (by omega) _ _ _ _, by omega⟩
                  · exact IOwns.base (row_set4 HO5.out (by simp [Value.ownBlock]; omega) _ _ _ _) (by omega)
                  · exact (irow_set4 HG5.out (by omega) _ _ _ _).base (by omega)
                  · exact (irow_set4 HF5.out (by omega) _ _ _ _).base (by omega)
                  · exact (irow_set4 HL5.out (by omega) _ _ _ _).base (by omega)
                  · rintro (h | h | h | h)
                    · omega
                    · omega
                    · omega
                    · simp [Value.ownBlock] at h; omega
                unfold set4 at HFIN
                exact hend kx _ gb gf gl 1 _ _ _ _ _ _ _ _ _ _ _ _ _ HFIN.out
              exact AllReadyH.nil
            exact AllReadyH.nil
          exact AllReadyH.nil
        exact AllReadyH.nil
      exact AllReadyH.nil
    exact AllReadyH.nil
end Go.Proofs.Ytghffodjffkijaa
