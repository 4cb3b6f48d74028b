/- The document's Sub. -/
import Derived.Test.YtmmbbfmkhbengaaW0
import Derived.Test.YtmmbbfmkhbengaaT1
namespace Go.Proofs.Ytmmbbfmkhbengaa
open Go.RowKit Go.Sort
open Go

theorem wp_append {P : Program} {w : World} {o : Oper} {a : Act} {K : Act → World → Prop} {Q : Exit → Act → World → Prop} (s x : Operand) (t : TypeId)
    (ho : o.op = .call { callee := .builtin .append, args := #[s, x], argTypes := #[t, t] }) (ty : TypeId) (hty : o.type = ty) (vs vx v' : Value) (w' : World) (hs : a.eval s = vs) (hx : a.eval x = vx)
    (hr : (Builtin.append_ #[t, t] ty #[vs, vx]).run P w = .ok v' w') (h : K (a.put o.dst v') w') : Oper.wp P o a w K Q := by
  subst hty
  unfold Oper.wp execOp
  simp only [ho, resolve, invoke, builtin, Sem.run_bind, Sem.run_pure, Result.andThen_ok, List.map_toArray, List.map_cons, List.map_nil, hs, hx, hr]
  exact h
theorem nown_set1 {W : World} {g : Nat} {n : Int} {p : Option Addr} {l c : Nat} (h : NOwn W g n p l c) (p' : Option Addr) (l' c' : Nat) : NOwn (W.setCell ⟨g, 1, none⟩ (.slice p' l' c')) g n p' l' c' := by
  obtain ⟨q0, q1, q2, q3⟩ := h
  refine ⟨?_, ?_, ?_, ?_⟩
  all_goals go_cell
theorem nown_below {W W' : World} {B g : Nat} {n : Int} {p : Option Addr} {l c : Nat} (h : NOwn W g n p l c) (hb : Below B W W') (hg : g < B) : NOwn W' g n p l c := by
  obtain ⟨q0, q1, q2, q3⟩ := h
  exact ⟨(hb.cell (p := ⟨g, 0, none⟩) hg).trans q0, (hb.cell (p := ⟨g, 1, none⟩) hg).trans q1, (hb.frozen (p := ⟨g, 0, none⟩) hg).trans q2, (hb.frozen (p := ⟨g, 1, none⟩) hg).trans q3⟩
theorem pick_more (es : List Pt) (l : List Int) {i : Nat} (hi : i < l.length) : pick es (l.take (i + 1)) = pick es (l.take i) ++ [at' es (iat l i).toNat] := by
  unfold pick iat
  rw [List.take_add_one, List.map_append, List.getElem?_eq_getElem hi, List.getD_eq_getElem?_getD, List.getElem?_eq_getElem hi]
  rfl
set_option maxRecDepth 100000 in
set_option maxHeartbeats 8000000 in
theorem sub50 (n : Int) (p q : Option Addr) (es : List Pt) (l : List Int) (cp cq : Nat) (w : World) (hlen : l.length ≤ 90000) (hc : errL l es.length = 0) (hin : ∀ j, j < l.length → 0 ≤ iat l j ∧ iat l j < es.length) (h : Has w p es) (hq : IHas w q l) : Calls Try.prog 44 #[nv n p es.length cp, .slice q l.length cq] w fun e w' => ∃ q' c, e = .returned (.tuple #[nv n q' l.length c, .int .i64 0]) ∧ Owns w' w.heap.size (.slice q' l.length c) (pick es l) ∧ Below w.heap.size w w' := by
  obtain ⟨W, hW, hb, a0, b0⟩ := two_nets w n p es.length cp
  have C1 := hide (chosen52 q l cq es.length W (by unfold maxLen; omega) (hq.later hb))
  rw [hc] at C1
  have HH := hide (h.later hb)
  have HQ := hide (hq.later hb)
  have HB := hide hb
  have HA := hide a0
  have HN := hide b0
  have hWs : W.heap.size = w.heap.size + 1 + 1 := by rw [hW]; simp
  have HWS := hide hWs
  clear h hq hb a0 b0 hc hWs
  go_enter Try.func44, Try.ntmps44
  go_wp2_with fail
  rw [← hW]
  clear hW
  refine C1.out.mono ?_
  rintro e w1 ⟨rfl, hb1⟩
  have HA1 := hide (HA.out.later hb1)
  have HB1 := hide hb1
  clear C1 hb1
  obtain ⟨q0, q1, _, _⟩ := HA1.out
  go_upto_region 5 with fail
  obtain ⟨X, hX, hbX, xN⟩ := one_net w1 n none 0 0
  have HX := hide (below_step HB1.out hbX)
  have hXs : X.heap.size = w1.heap.size + 1 := by rw [hX]; simp
  have hkw : W.heap.size ≤ w1.heap.size := HB1.out.size
  rw [← hX]
  obtain ⟨kb, hkb⟩ : ∃ kb, w1.heap.size = kb := ⟨_, rfl⟩
  rw [hkb] at xN hXs hkw ⊢
  have HXN := hide xN
  have HXS := hide hXs
  have HKB := hide hkw
  clear hX hbX xN hXs hkw hkb q0 q1 HA1 HB1
  obtain ⟨kw, hkw⟩ : ∃ k, w.heap.size = k := ⟨_, rfl⟩
  have HKW := hide hkw
  rw [hkw] at HA HN HWS ⊢
  clear hkw
  go_wp2_with fail
  go_loopw [8] (fun t wr => ∃ i : Nat, i ≤ l.length ∧ t = .int .i64 i ∧ ∃ q' c', Hid (Below W.heap.size W wr ∧ kb + 1 ≤ wr.heap.size ∧ NOwn wr kb n q' i c' ∧ Owns wr (kb + 1) (.slice q' i c') (pick es (l.take i)))) (fun t _ => l.length - (intOf t).toNat)
  case atStart => exact ⟨0, by omega, rfl, none, 0, HX.out, by rw [HXS.out]; omega, HXN.out, Owns.nil _ _⟩
  case round =>
    obtain ⟨i, hi, rfl, q', c', HR⟩ := hrel
    have hA := HA.out.later HR.out.1
    obtain ⟨y0, y1, y2, y3⟩ := HR.out.2.2.1
    by_cases hlt : i < l.length
    · obtain ⟨x0, x1⟩ := hin i hlt
      have HPK := hide (pick_more es l hlt)
      rcases HQ.out with hz | ⟨b2, off2, rfl, hL2⟩
      · subst hz; simp at hlt
      have c2 := hL2 i hlt
      obtain ⟨x, hx⟩ : ∃ x : Nat, iat l i = x := ⟨(iat l i).toNat, by omega⟩
      rw [hx] at c2 x0 x1
      rw [hx, Int.toNat_natCast] at HPK
      rcases HH.out with hz | ⟨b, off, rfl, hL⟩
      · subst hz; simp at x1; omega
      obtain ⟨c3, c4⟩ := hL x (by omega)
      have hpl : (pick es (l.take i)).length = i := by rw [pick_length, List.length_take]; omega
      obtain ⟨V0, hV0⟩ : ∃ V, V = wr.drew := ⟨_, rfl⟩
      have bd : Below wr.heap.size wr V0 := by rw [hV0]; exact below_drew _
      have HB0 := hide (below_step HR.out.1 bd)
      have HN0 := hide (HR.out.2.2.1.later bd)
      have z0 : kb + 1 ≤ V0.heap.size := Nat.le_trans HR.out.2.1 bd.size
      have o0 : Owns V0 (kb + 1) (.slice q' (pick es (l.take i)).length c') (pick es (l.take i)) := by rw [hpl]; exact HR.out.2.2.2.later bd
      obtain ⟨v', D, e1, o1, gr1, hbD⟩ := app1 o0 (at' es x).x (at' es x).y z0 (by rw [hpl]; omega)
      obtain ⟨q1, c1, rfl, _, _, _, _⟩ := o1.form
      rw [List.length_append, hpl] at e1 o1
      simp only [List.length_cons, List.length_nil, Nat.zero_add] at e1 o1
      obtain ⟨V1, hV1⟩ : ∃ V, V = V0.alloc (.cells #[.int .i64 (at' es x).x, .int .i64 (at' es x).y] 60) := ⟨_, rfl⟩
      have b1 : Below V0.heap.size V0 V1 := by rw [hV1]; go_grown
      have HBD : Hid (Below W.heap.size W D) := Below.trans HB0.out (hbD.mono (by have := HKB.out; omega))
      have HND := hide (nown_below HN0.out hbD (by omega))
      have HBK0 : Hid (V0.cell? ⟨kb, 1, none⟩ = some (.slice q' i c')) := HN0.out.2.1
      have HBK1 : Hid (V1.cell? ⟨kb, 1, none⟩ = some (.slice q' i c')) := later b1 HN0.out.2.1
      have HDK : Hid (D.cell? ⟨kb, 1, none⟩ = some (.slice q' i c') ∧ D.frozen? ⟨kb, 1, none⟩ = false) := ⟨HND.out.2.1, HND.out.2.2.2⟩
      have HS : ∀ V, Below W.heap.size W V → (V.cell? ⟨kw, 1, none⟩ = some (.slice (some ⟨b, off, none⟩) es.length cp) ∧ V.cell? ⟨b2, off2 + i, none⟩ = some (.int .i64 x) ∧ V.cell? ⟨b, off + x * 2, none⟩ = some (.int .i64 (at' es x).x) ∧ V.cell? ⟨b, off + x * 2 + 1, none⟩ = some (.int .i64 (at' es x).y)) := fun V hV => ⟨(HA.out.later hV).2.1, later hV c2, later hV c3, later hV c4⟩
      have HS1 := hide (HS V1 (below_step HB0.out b1))
      have HS2 := hide (HS D HBD.out)
      obtain ⟨s0, s1, s2, s3⟩ := HS V0 HB0.out
      have nk0 : kw ≠ kb := by have := HKB.out; have := HWS.out; omega
      have nk1 : b2 ≠ kb := by have : b2 < W.heap.size := block_lt_of_cell c2; have := HKB.out; omega
      have nk2 : b ≠ kb := by have : b < W.heap.size := block_lt_of_cell c3; have := HKB.out; omega
      have HO1 := hide o1
      have HV1 := hide hV1
      rw [← hV1] at e1
      have i1 : (i : Int) < l.length := by omega
      have i2 : (x : Int) < es.length := by omega
      clear hL2 c2 hL c3 c4 bd z0 o0 o1 gr1 hbD hV1 b1 HS hx hpl hA y0 y1 y2 y3 HB0 HN0
      go_wp2_with fail
      refine wp_region_held_drew (S := (fun W' => W'.cell? ⟨kw, 1, none⟩ = some (.slice (some ⟨b, off, none⟩) es.length cp) ∧ W'.cell? ⟨b2, off2 + i, none⟩ = some (.int .i64 x) ∧ W'.cell? ⟨b, off + x * 2, none⟩ = some (.int .i64 (at' es x).x) ∧ W'.cell? ⟨b, off + x * 2 + 1, none⟩ = some (.int .i64 (at' es x).y))) (by kernel_rfl) (by rw [← hV0]; exact ⟨s0, s1, s2, s3⟩) (fun hHeld => ?_)
      rw [← hV0] at hHeld ⊢
      clear hV0
      change wpAnyH Try.prog .any _ _ _ 14 #[false, false, false, false, false, false, false, false, false, false, false, false, false, false] _ _
      refine wpAnyH_take (i := 0) (v := ?v1) rfl (by kernel_rfl) (by kernel_rfl) (by kernel_rfl) (fun _ _ _ h => h) (Or.inl ⟨by rfl, ?hy1⟩) (by assumption) ?rest1
      case hy1 => (intro w hSw; (try dsimp only at hSw); go_simp; try with_reducible rfl)
      try simp only [Act.put, List.setIfInBounds_toArray, List.set_cons_zero]
      refine wpAnyH_take (i := 2) (v := ?v2) rfl (by kernel_rfl) (by kernel_rfl) (by kernel_rfl) (fun _ _ _ h => h) (Or.inl ⟨by rfl, ?hy2⟩) (by assumption) ?rest2
      case hy2 => (intro w hSw; (try dsimp only at hSw); go_simp; try with_reducible rfl)
      try simp only [Act.put, List.setIfInBounds_toArray, List.set_cons_zero, List.set_cons_succ]
      refine wpAnyH_take (i := 3) (v := ?v3) rfl (by kernel_rfl) (by kernel_rfl) (by kernel_rfl) (fun _ _ _ h => h) (Or.inl ⟨by rfl, ?hy3⟩) (by assumption) ?rest3
      case hy3 => (intro w hSw; (try dsimp only at hSw); go_simp; try with_reducible rfl)
      try simp only [Act.put, List.setIfInBounds_toArray, List.set_cons_zero, List.set_cons_succ]
      refine wpAnyH_take (i := 4) (v := ?v4) rfl (by kernel_rfl) (by kernel_rfl) (by kernel_rfl) (fun _ _ _ h => h) (Or.inl ⟨by rfl, ?hy4⟩) (by assumption) ?rest4
      case hy4 => (intro w hSw; (try dsimp only at hSw); go_simp; try with_reducible rfl)
      try simp only [Act.put, List.setIfInBounds_toArray, List.set_cons_zero, List.set_cons_succ]
      refine wpAnyH_take (i := 5) (v := ?v5) rfl (by kernel_rfl) (by kernel_rfl) (by kernel_rfl) (fun _ _ _ h => h) (Or.inl ⟨by rfl, ?hy5⟩) (by assumption) ?rest5
      case hy5 => (intro w hSw; (try dsimp only at hSw); go_simp; try with_reducible rfl)
      try simp only [Act.put, List.setIfInBounds_toArray, List.set_cons_zero, List.set_cons_succ]
      refine wpAnyH_take (i := 6) (v := ?v6) rfl (by kernel_rfl) (by kernel_rfl) (by kernel_rfl) (fun _ _ _ h => h) (Or.inl ⟨by rfl, ?hy6⟩) (by assumption) ?rest6
      case hy6 => (intro w hSw; (try dsimp only at hSw); go_simp; try with_reducible rfl)
      try simp only [Act.put, List.setIfInBounds_toArray, List.set_cons_zero, List.set_cons_succ]
      refine wpAnyH_take (i := 7) (v := ?v7) rfl (by kernel_rfl) (by kernel_rfl) (by kernel_rfl) (fun _ _ _ h => h) (Or.inl ⟨by rfl, ?hy7⟩) (by assumption) ?rest7
      case hy7 => (intro w hSw; (try dsimp only at hSw); go_simp; try with_reducible rfl)
      try simp only [Act.put, List.setIfInBounds_toArray, List.set_cons_zero, List.set_cons_succ]
      refine wpAnyH_take (i := 8) (v := ?v8) rfl (by kernel_rfl) (by kernel_rfl) (by kernel_rfl) (fun _ _ _ h => h) (Or.inl ⟨by rfl, ?hy8⟩) (by assumption) ?rest8
      case hy8 => (intro w hSw; (try dsimp only at hSw); go_simp; try with_reducible rfl)
      try simp only [Act.put, List.setIfInBounds_toArray, List.set_cons_zero, List.set_cons_succ]
      refine wpAnyH_take (i := 9) (v := ?v9) rfl (by kernel_rfl) (by kernel_rfl) (by kernel_rfl) (fun _ _ _ h => h) (Or.inl ⟨by rfl, ?hy9⟩) (by assumption) ?rest9
      case hy9 => (intro w hSw; (try dsimp only at hSw); go_simp; try with_reducible rfl)
      try simp only [Act.put, List.setIfInBounds_toArray, List.set_cons_zero, List.set_cons_succ]
      refine wpAnyH_ready (rs := [1, 10]) (by kernel_rfl) (by simp) ?_
      refine ready_cons ({ dst := some 28, op := Op.load 22 (Operand.tmp 27), type := 22, pos := "ref.go:169", after := #[{ on := 0, ground := Ground.data }], guard := none }) rfl rfl (fun K hK => ?_) ?_
      · clear hHeld
        have d0 := HBK0.out
        refine wp_val (v := ?vl1) (w2 := V0) ?hl1 ?_
        case hl1 => (go_simp; try with_reducible rfl)
        clear d0
        refine hK.out _ _ (by first | exact ⟨s0, s1, s2, s3⟩ | exact ⟨cell_other s0 nk0, cell_other s1 nk1, cell_other s2 nk2, cell_other s3 nk2⟩) (fun hHeld => ?_)
        clear hK K
        try simp only [Act.put, List.setIfInBounds_toArray, List.set_cons_zero, List.set_cons_succ]
        refine wpAnyH_ready (rs := [10]) (by kernel_rfl) (by simp) ?_
        refine ready_cons ({ dst := some 37, op := Op.buildSlice 22 1 #[(0, Operand.tmp 36)], type := 22, pos := "ref.go:169", after := #[{ on := 9, ground := Ground.data }], guard := none }) rfl rfl (fun K hK => ?_) ?_
        · clear hHeld
          go_simp
          rw [← HV1.out]
          clear s0 s1 s2 s3
          obtain ⟨s0, s1, s2, s3⟩ := HS1.out
          refine hK.out _ _ (by first | exact ⟨s0, s1, s2, s3⟩ | exact ⟨cell_other s0 nk0, cell_other s1 nk1, cell_other s2 nk2, cell_other s3 nk2⟩) (fun hHeld => ?_)
          clear hK K
          try simp only [List.setIfInBounds_toArray, List.set_cons_zero, List.set_cons_succ]
          refine wpAnyH_ready (rs := [11]) (by kernel_rfl) (by simp) ?_
          refine ready_cons ({ dst := some 38, op := Op.call { callee := Callee.builtin Builtin.append, args := #[Operand.tmp 28, Operand.tmp 37], argTypes := #[22, 22] }, type := 22, pos := "ref.go:169", after := #[{ on := 1, ground := Ground.data }, { on := 10, ground := Ground.data }], guard := none }) rfl rfl (fun K hK => ?_) ?_
          · clear hHeld
            clear s0 s1 s2 s3
            obtain ⟨s0, s1, s2, s3⟩ := HS2.out
            refine wp_append (.tmp 28) (.tmp 37) 22 (by rfl) 22 (by rfl) (.slice q' i c') (.slice (some ⟨V0.heap.size, 0, none⟩) 1 1) (.slice q1 (i + 1) c1) D (by rfl) (by rfl) ?_ ?_
            with_reducible exact e1
            refine hK.out _ _ (by first | exact ⟨s0, s1, s2, s3⟩ | exact ⟨cell_other s0 nk0, cell_other s1 nk1, cell_other s2 nk2, cell_other s3 nk2⟩) (fun hHeld => ?_)
            clear hK K
            try simp only [Act.put, List.setIfInBounds_toArray, List.set_cons_zero, List.set_cons_succ]
            refine wpAnyH_take (i := 12) (v := ?v10) rfl (by kernel_rfl) (by kernel_rfl) (by kernel_rfl) (fun _ _ _ h => h) (Or.inl ⟨by rfl, ?hy10⟩) (by assumption) ?rest10
            case hy10 => (intro w hSw; (try dsimp only at hSw); go_simp; try with_reducible rfl)
            try simp only [Act.put, List.setIfInBounds_toArray, List.set_cons_zero, List.set_cons_succ]
            refine wpAnyH_ready (rs := [13]) (by kernel_rfl) (by simp) ?_
            refine ready_cons ({ dst := none, op := Op.store 22 (Operand.tmp 39) (Operand.tmp 38), type := 0, pos := "ref.go:169", after := #[{ on := 12, ground := Ground.data }, { on := 11, ground := Ground.data }, { on := 11, ground := Ground.chain }, { on := 0, ground := Ground.phase }, { on := 1, ground := Ground.phase }, { on := 2, ground := Ground.phase }, { on := 3, ground := Ground.phase }, { on := 4, ground := Ground.phase }, { on := 5, ground := Ground.phase }, { on := 6, ground := Ground.phase }, { on := 7, ground := Ground.phase }, { on := 8, ground := Ground.phase }, { on := 9, ground := Ground.phase }, { on := 10, ground := Ground.phase }, { on := 11, ground := Ground.phase }], guard := none }) rfl rfl (fun K hK => ?_) ?_
            · clear hHeld
              have d0 := HDK.out.1
              have d1 := HDK.out.2
              go_simp
              clear d0 d1
              refine hK.out _ _ (by first | exact ⟨s0, s1, s2, s3⟩ | exact ⟨cell_other s0 nk0, cell_other s1 nk1, cell_other s2 nk2, cell_other s3 nk2⟩) (fun hHeld => ?_)
              clear hK K
              try simp only [List.setIfInBounds_toArray, List.set_cons_zero, List.set_cons_succ]
              refine wpAnyH_done (by kernel_rfl) ?_ _
              clear hHeld
              obtain ⟨E, hE⟩ : ∃ E, E = D.setCell ⟨kb, 1, none⟩ (.slice q1 (i + 1) c1) := ⟨_, rfl⟩
              have nE : NOwn E kb n q1 (i + 1) c1 := by rw [hE]; exact nown_set1 HND.out _ _ _
              have oE : Owns E (kb + 1) (.slice q1 (i + 1) c1) (pick es (l.take (i + 1))) := by rw [hE, HPK.out]; exact owns_other HO1.out (by omega) _
              have bE : Below W.heap.size W E := by rw [hE]; exact HBD.out.setCell (p := ⟨kb, 1, none⟩) HKB.out _
              have zE : kb + 1 ≤ E.heap.size := by have := block_lt_of_cell nE.1; exact this
              rw [← hE]
              have HREL := hide (And.intro bE (And.intro zE (And.intro nE oE)))
              clear hE nE oE bE zE s0 s1 s2 s3
              go_wp2
              go_roundw
              case rel => exact ⟨i + 1, by omega, by go_num, q1, c1, HREL.out⟩
              case measure => simp [intOf]; omega
            exact AllReadyH.nil
          exact AllReadyH.nil
        exact AllReadyH.nil
      refine ready_cons ({ dst := some 37, op := Op.buildSlice 22 1 #[(0, Operand.tmp 36)], type := 22, pos := "ref.go:169", after := #[{ on := 9, ground := Ground.data }], guard := none }) rfl rfl (fun K hK => ?_) ?_
      · clear hHeld
        go_simp
        rw [← HV1.out]
        clear s0 s1 s2 s3
        obtain ⟨s0, s1, s2, s3⟩ := HS1.out
        refine hK.out _ _ (by first | exact ⟨s0, s1, s2, s3⟩ | exact ⟨cell_other s0 nk0, cell_other s1 nk1, cell_other s2 nk2, cell_other s3 nk2⟩) (fun hHeld => ?_)
        clear hK K
        try simp only [List.setIfInBounds_toArray, List.set_cons_zero, List.set_cons_succ]
        refine wpAnyH_ready (rs := [1]) (by kernel_rfl) (by simp) ?_
        refine ready_cons ({ dst := some 28, op := Op.load 22 (Operand.tmp 27), type := 22, pos := "ref.go:169", after := #[{ on := 0, ground := Ground.data }], guard := none }) rfl rfl (fun K hK => ?_) ?_
        · clear hHeld
          have d0 := HBK1.out
          refine wp_val (v := ?vl2) (w2 := V1) ?hl2 ?_
          case hl2 => (go_simp; try with_reducible rfl)
          clear d0
          refine hK.out _ _ (by first | exact ⟨s0, s1, s2, s3⟩ | exact ⟨cell_other s0 nk0, cell_other s1 nk1, cell_other s2 nk2, cell_other s3 nk2⟩) (fun hHeld => ?_)
          clear hK K
          try simp only [Act.put, List.setIfInBounds_toArray, List.set_cons_zero, List.set_cons_succ]
          refine wpAnyH_ready (rs := [11]) (by kernel_rfl) (by simp) ?_
          refine ready_cons ({ dst := some 38, op := Op.call { callee := Callee.builtin Builtin.append, args := #[Operand.tmp 28, Operand.tmp 37], argTypes := #[22, 22] }, type := 22, pos := "ref.go:169", after := #[{ on := 1, ground := Ground.data }, { on := 10, ground := Ground.data }], guard := none }) rfl rfl (fun K hK => ?_) ?_
          · clear hHeld
            clear s0 s1 s2 s3
            obtain ⟨s0, s1, s2, s3⟩ := HS2.out
            refine wp_append (.tmp 28) (.tmp 37) 22 (by rfl) 22 (by rfl) (.slice q' i c') (.slice (some ⟨V0.heap.size, 0, none⟩) 1 1) (.slice q1 (i + 1) c1) D (by rfl) (by rfl) ?_ ?_
            with_reducible exact e1
            refine hK.out _ _ (by first | exact ⟨s0, s1, s2, s3⟩ | exact ⟨cell_other s0 nk0, cell_other s1 nk1, cell_other s2 nk2, cell_other s3 nk2⟩) (fun hHeld => ?_)
            clear hK K
            try simp only [Act.put, List.setIfInBounds_toArray, List.set_cons_zero, List.set_cons_succ]
            refine wpAnyH_take (i := 12) (v := ?v11) rfl (by kernel_rfl) (by kernel_rfl) (by kernel_rfl) (fun _ _ _ h => h) (Or.inl ⟨by rfl, ?hy11⟩) (by assumption) ?rest11
            case hy11 => (intro w hSw; (try dsimp only at hSw); go_simp; try with_reducible rfl)
            try simp only [Act.put, List.setIfInBounds_toArray, List.set_cons_zero, List.set_cons_succ]
            refine wpAnyH_ready (rs := [13]) (by kernel_rfl) (by simp) ?_
            refine ready_cons ({ dst := none, op := Op.store 22 (Operand.tmp 39) (Operand.tmp 38), type := 0, pos := "ref.go:169", after := #[{ on := 12, ground := Ground.data }, { on := 11, ground := Ground.data }, { on := 11, ground := Ground.chain }, { on := 0, ground := Ground.phase }, { on := 1, ground := Ground.phase }, { on := 2, ground := Ground.phase }, { on := 3, ground := Ground.phase }, { on := 4, ground := Ground.phase }, { on := 5, ground := Ground.phase }, { on := 6, ground := Ground.phase }, { on := 7, ground := Ground.phase }, { on := 8, ground := Ground.phase }, { on := 9, ground := Ground.phase }, { on := 10, ground := Ground.phase }, { on := 11, ground := Ground.phase }], guard := none }) rfl rfl (fun K hK => ?_) ?_
            · clear hHeld
              have d0 := HDK.out.1
              have d1 := HDK.out.2
              go_simp
              clear d0 d1
              refine hK.out _ _ (by first | exact ⟨s0, s1, s2, s3⟩ | exact ⟨cell_other s0 nk0, cell_other s1 nk1, cell_other s2 nk2, cell_other s3 nk2⟩) (fun hHeld => ?_)
              clear hK K
              try simp only [List.setIfInBounds_toArray, List.set_cons_zero, List.set_cons_succ]
              refine wpAnyH_done (by kernel_rfl) ?_ _
              clear hHeld
              obtain ⟨E, hE⟩ : ∃ E, E = D.setCell ⟨kb, 1, none⟩ (.slice q1 (i + 1) c1) := ⟨_, rfl⟩
              have nE : NOwn E kb n q1 (i + 1) c1 := by rw [hE]; exact nown_set1 HND.out _ _ _
              have oE : Owns E (kb + 1) (.slice q1 (i + 1) c1) (pick es (l.take (i + 1))) := by rw [hE, HPK.out]; exact owns_other HO1.out (by omega) _
              have bE : Below W.heap.size W E := by rw [hE]; exact HBD.out.setCell (p := ⟨kb, 1, none⟩) HKB.out _
              have zE : kb + 1 ≤ E.heap.size := by have := block_lt_of_cell nE.1; exact this
              rw [← hE]
              have HREL := hide (And.intro bE (And.intro zE (And.intro nE oE)))
              clear hE nE oE bE zE s0 s1 s2 s3
              go_wp2
              go_roundw
              case rel => exact ⟨i + 1, by omega, by go_num, q1, c1, HREL.out⟩
              case measure => simp [intOf]; omega
            exact AllReadyH.nil
          exact AllReadyH.nil
        exact AllReadyH.nil
      exact AllReadyH.nil
    · have hie : i = l.length := by omega
      subst hie
      have HNr := hide (HN.out.later HR.out.1)
      obtain ⟨c0, c1, c2, c3⟩ := HNr.out
      have HO := hide HR.out.2.2.2
      rw [List.take_length] at HO
      have nk : kw + 1 ≠ kb := by have := HKB.out; have := HWS.out; omega
      go_wp2_with fail
      have hkw1 : kw + 1 < W.heap.size := by have := HWS.out; omega
      have hkb1 : kw + 1 < kb + 1 := by have := HKB.out; omega
      refine bodyPost_ret (ret_net Try.results44 rfl rfl (HNr.out.set _ _ _ _)) rfl ⟨q', c', rfl, ?_, ?_⟩
      · exact (owns_other (owns_other HO.out hkb1 _) hkb1 _).base (by rw [HKW.out]; omega)
      · rw [HKW.out]
        have := below_step HB.out HR.out.1
        rw [HKW.out] at this
        exact (this.setCell (p := ⟨kw + 1, 0, none⟩) (by simp) _).setCell (p := ⟨kw + 1, 1, none⟩) (by simp) _
end Go.Proofs.Ytmmbbfmkhbengaa
