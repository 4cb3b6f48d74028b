/- The document's turned and Canon, in every world. -/
import Derived.Test.YtcgdmonejogbaaaX5
import Derived.Deep.RegionHeld3
import Derived.Test.YtcgdmonejogbaaaY7
open List renaming getElem_toArray → lA, getElem_cons_zero → lB, getElem_cons_succ → lC, setIfInBounds_toArray → lD, set_cons_zero → lE, set_cons_succ → lF
/- Steps of a drawn region whose operation is written out. -/
namespace Go.Proofs.Ytcgdmonejogbaaa
open Go.RowKit Go.Sort
open Go
/-- An operation that gives a value. -/
theorem wp_val {P : Program} {o : Oper} {a : Act} {w w2 : World} {K : Act → World → Prop} {Q : Exit → Act → World → Prop} {v : Value} (h : (execOp a.eval o).run P w = .ok (.value v) w2) (hk : K (a.put o.dst v) w2) : Oper.wp P o a w K Q := by
  unfold Oper.wp
  rw [h]
  exact hk
/-- One of those that may come up, where it has no guard: the step stands as it is. -/
theorem ready_cons {P : Program} {md : Region.Mode} {ops : Array Oper} {Q : Exit → Act → World → Prop} {S : World → Prop} {fuel : Nat} {listed : Array Bool} {a : Act} {w : World} {i : Nat} (o : Oper) {rs : List Nat} (ho : ops[i]? = some o) (hg : o.guard = none)
    (h : ∀ K' : Act → World → Prop, Go.Shut (∀ a w, S w → (S w → wpAnyH P md ops Q S fuel (listed.setIfInBounds i true) a w) → K' a w) → Oper.wp P o a w K' Q)
    (hs : AllReadyH P md ops Q S fuel listed a w rs) : AllReadyH P md ops Q S fuel listed a w (i :: rs) :=
  AllReadyH.cons ho (fun K hK => by rw [if_pos (by simp [Region.wanted, hg])]; exact h K hK) hs
theorem oper_append {P : Program} {w : World} {o : Oper} {a : Act} {K : Act → World → Prop} {Q : Exit → Act → World → Prop} (s x : Operand) (t : TypeId)
    (ho : o.op = .call { callee := .builtin .append, args := #[s, x], argTypes := #[t, t] }) (ty : TypeId) (hty : o.type = ty) (vs vx v' : Value) (w' : World) (hs : a.eval s = vs) (hx : a.eval x = vx)
    (hr : (Builtin.append_ #[t, t] ty #[vs, vx]).run P w = .ok v' w') (h : K (a.put o.dst v') w') : Oper.wp P o a w K Q := by
  subst hty
  unfold Oper.wp execOp
  simp only [ho, resolve, invoke, builtin, Sem.run_bind, Sem.run_pure, Result.andThen_ok, List.map_toArray, List.map_cons, List.map_nil, hs, hx, hr]
  exact h
end Go.Proofs.Ytcgdmonejogbaaa
namespace Go.Proofs.Ytcgdmonejogbaaa
open Go.RowKit Go.Sort
open Go
set_option maxRecDepth 100000 in
set_option maxHeartbeats 16000000 in
theorem turned70 (p : Option Addr) (l : List Int) (k1 : Nat) (w : World) (m : IHas w p l) (hk : l.length ≤ k1) (hnil : p = none → k1 = 0) (hl : l.length ≤ 40000) : Calls Try.prog 89 #[.slice p l.length k1] w fun e w' => ∃ v, e = .returned v ∧ IOwns w' w.heap.size v (turnL l) ∧ Below w.heap.size w w' := by
  have HM := hide m
  clear m
  go_enter Try.func89, Try.ntmps89
  go_wp2_with fail
  go_loopw [3, 4] (fun t3 t4 wr => ∃ k : Nat, k ≤ l.length ∧ t3 = .int .i64 (loN l (k - 1) : Nat) ∧ t4 = .int .i64 k ∧ Hid (Below w.heap.size w wr)) (fun _ t4 _ => l.length - (intOf t4).toNat)
  case atStart => exact ⟨0, by omega, rfl, rfl, Below.refl _ _⟩
  case round =>
    obtain ⟨k, hkl, rfl, rfl, HB⟩ := hrel
    by_cases hlt : k < l.length
    · rcases HM.out with h | ⟨b, off, rfl, hL⟩
      · rw [h] at hlt; simp at hlt
      have hlo := loN_le l (k - 1)
      have c0 := later HB.out (hL k hlt)
      have c1 := later HB.out (hL (loN l (k - 1)) (by omega))
      have e1 : (k : Int) < l.length := by omega
      have e2 : ((loN l (k - 1) : Nat) : Int) < l.length := by omega
      have HST : Hid (loN l (k + 1 - 1) = if iat l k < iat l (loN l (k - 1)) then k else loN l (k - 1)) := by
        show _ = _
        cases k with
        | zero => simp [loN]
        | succ j => rfl
      obtain ⟨x, hx⟩ : ∃ x, iat l k = x := ⟨_, rfl⟩
      obtain ⟨y, hy⟩ : ∃ y, iat l (loN l (k - 1)) = y := ⟨_, rfl⟩
      rw [hx] at c0 HST
      rw [hy] at c1 HST
      obtain ⟨u, hu⟩ : ∃ u, loN l (k - 1) = u := ⟨_, rfl⟩
      rw [hu] at c1 HST e2 ⊢
      clear hL hx hy hu hlo
      by_cases hxy : x < y
      · rw [if_pos hxy] at HST
        go_wp2_with fail
        go_quiet (fail)
        go_wp2
        go_roundw
        case rel => exact ⟨k + 1, by omega, by rw [HST.out], by go_num, below_drewN HB.out⟩
        case measure => simp [intOf]; omega
      · rw [if_neg hxy] at HST
        go_wp2_with fail
        go_quiet (fail)
        go_wp2
        go_roundw
        case rel => exact ⟨k + 1, by omega, by rw [HST.out], by go_num, below_drewN HB.out⟩
        case measure => simp [intOf]; omega
    · have hke : k = l.length := by omega
      have e1 : ¬ (k : Int) < l.length := by omega
      have HTL : Hid (turnL l = l.drop (loN l (k - 1)) ++ l.take (loN l (k - 1))) := by show _ = _; unfold turnL lowAt; rw [hke]
      have hlo := loN_le l (k - 1)
      obtain ⟨a, ha⟩ : ∃ a, loN l (k - 1) = a := ⟨_, rfl⟩
      rw [ha] at HTL hlo ⊢
      have i0 : (a : Int) ≤ l.length := by omega
      have i1 : (0 : Int) ≤ a := by omega
      have i2 : (l.length : Int) ≤ k1 := by omega
      have i3 : (a : Int) ≤ k1 := by omega
      have hak : a ≤ l.length := by omega
      have hakk : a ≤ k1 := by omega
      have HLA : Hid ((l.drop a).length = l.length - a) := List.length_drop
      have HLB : Hid ((l.take a).length = a) := by show _ = _; rw [List.length_take]; omega
      clear ha
      by_cases h0 : l.length = 0
      · obtain rfl : l = [] := List.eq_nil_of_length_eq_zero h0
        have ha0 : a = 0 := by simp at hak; exact hak
        subst ha0
        have HTN : Hid (turnL ([] : List Int) = [] ++ []) := rfl
        have HIA : Hid (∀ (V : World) (q : Option Addr), IHas V q ([] : List Int)) := fun _ _ => Or.inl rfl
        clear HTL HLA HLB h0 hak hlo i0 hke e1
        cases p with
        | none =>
          obtain rfl : k1 = 0 := hnil rfl
          clear hnil hk i2 i3 hakk
          go_upto_region 7 with fail
          obtain ⟨V0, hV0⟩ : ∃ V, V = wr.drew := ⟨_, rfl⟩
          have HBV : Hid (Below w.heap.size w V0) := by show Below _ _ _; rw [hV0]; exact below_step HB.out (below_drew _)
          refine wp_region_held_drew (S := (fun _ => True)) (by kernel_rfl) trivial (fun hHeld => ?_)
          rw [← hV0]
          clear hV0
          change wpAnyH Try.prog .any _ _ _ 9 #[false, false, false, false, false, false, false, false, false] _ _
          refine wpAnyH_take (i := 0) (v := ?v1) rfl (by kernel_rfl) (by kernel_rfl) (by kernel_rfl) (fun _ _ _ h => h) (Or.inl ⟨by rfl, ?hy1⟩) (by assumption) ?rest1
          case hy1 => (intro w hSw; (try dsimp only at hSw); go_simp; try with_reducible rfl)
          try simp only [Act.put, lA, lB, lD, lE, lF]
          refine wpAnyH_take (i := 1) (v := ?v2) rfl (by kernel_rfl) (by kernel_rfl) (by kernel_rfl) (fun _ _ _ h => h) (Or.inl ⟨by rfl, ?hy2⟩) (by assumption) ?rest2
          case hy2 => (intro w hSw; (try dsimp only at hSw); go_simp; try with_reducible rfl)
          try simp only [Act.put, lA, lB, lC, lD, lE, lF]
          refine wpAnyH_take (i := 2) (v := ?v3) rfl (by kernel_rfl) (by kernel_rfl) (by kernel_rfl) (fun _ _ _ h => h) (Or.inl ⟨by rfl, ?hy3⟩) (by assumption) ?rest3
          case hy3 => (intro w hSw; (try dsimp only at hSw); go_simp; try with_reducible rfl)
          try simp only [Act.put, lA, lB, lC, lD, lE, lF]
          refine wpAnyH_take (i := 4) (v := ?v4) rfl (by kernel_rfl) (by kernel_rfl) (by kernel_rfl) (fun _ _ _ h => h) (Or.inl ⟨by rfl, ?hy4⟩) (by assumption) ?rest4
          case hy4 => (intro w hSw; (try dsimp only at hSw); go_simp; try with_reducible rfl)
          try simp only [Act.put, lA, lB, lC, lD, lE, lF]
          refine wpAnyH_take (i := 5) (v := ?v5) rfl (by kernel_rfl) (by kernel_rfl) (by kernel_rfl) (fun _ _ _ h => h) (Or.inl ⟨by rfl, ?hy5⟩) (by assumption) ?rest5
          case hy5 => (intro w hSw; (try dsimp only at hSw); go_simp; try with_reducible rfl)
          try simp only [Act.put, lA, lB, lC, lD, lE, lF]
          refine wpAnyH_take (i := 6) (v := ?v6) rfl (by kernel_rfl) (by kernel_rfl) (by kernel_rfl) (fun _ _ _ h => h) (Or.inl ⟨by rfl, ?hy6⟩) (by assumption) ?rest6
          case hy6 => (intro w hSw; (try dsimp only at hSw); go_simp; try with_reducible rfl)
          try simp only [Act.put, lA, lB, lC, lD, lE, lF]
          refine wpAnyH_ready (rs := [3]) (by kernel_rfl) (by simp) ?_
          refine ready_cons ({ dst := some 24, op := Op.call { callee := Callee.builtin Builtin.append, args := #[Operand.const (Value.slice none 0 0), Operand.tmp 23], argTypes := #[44, 44] }, type := 44, pos := "ref.go:44", after := #[{ on := 2, ground := Ground.data }], guard := none }) rfl rfl (fun K hK => ?_) ?_
          · clear hHeld
            obtain ⟨v1, V1, e1, o1, g1⟩ := append_ints (IOwns.nil V0 V0.heap.size) (none) 0 ([] : List Int) (fun _ => rfl) (HIA.out _ _) (Nat.le_refl _) (by simp)
            rw [List.nil_append] at o1
            have HB1 : Hid (Below V0.heap.size V0 V1) := below_grown (Below.refl _ _) (IOwns.nil V0 V0.heap.size) (Nat.le_refl _) (Nat.le_refl _) g1
            rw [List.length_nil] at e1
            refine oper_append (.const (.slice none 0 0)) (.tmp 23) 44 rfl 44 rfl (.slice none 0 0) (.slice (none) 0 0) v1 V1 (by rfl) (by rfl) ?_ ?_
            with_reducible exact e1
            clear e1 g1
            have HO1 := hide o1
            clear o1
            refine hK.out _ _ (trivial) (fun hHeld => ?_)
            clear hK K
            try simp only [Act.put, lD, lE, lF]
            refine wpAnyH_ready (rs := [7]) (by kernel_rfl) (by simp) ?_
            refine ready_cons ({ dst := some 28, op := Op.call { callee := Callee.builtin Builtin.append, args := #[Operand.tmp 24, Operand.tmp 27], argTypes := #[44, 44] }, type := 44, pos := "ref.go:44", after := #[{ on := 3, ground := Ground.data }, { on := 6, ground := Ground.data }, { on := 3, ground := Ground.chain }], guard := none }) rfl rfl (fun K hK => ?_) ?_
            · clear hHeld
              obtain ⟨v2, V2, e2, o2, g2⟩ := append_ints HO1.out (none) 0 ([] : List Int) (fun _ => rfl) (HIA.out _ _) HB1.out.size (by simp)
              have HB2 : Hid (Below V0.heap.size V0 V2) := below_grown HB1.out HO1.out (Nat.le_refl _) HB1.out.size g2
              rw [List.length_nil] at e2
              refine oper_append (.tmp 24) (.tmp 27) 44 rfl 44 rfl v1 (.slice (none) 0 0) v2 V2 (by rfl) (by rfl) ?_ ?_
              with_reducible exact e2
              clear e2 g2
              have HO2 := hide o2
              clear o2
              refine hK.out _ _ (trivial) (fun hHeld => ?_)
              clear hK K
              try simp only [Act.put, lD, lE, lF]
              refine wpAnyH_take (i := 8) (v := ?v7) rfl (by kernel_rfl) (by kernel_rfl) (by kernel_rfl) (fun _ _ _ h => h) (Or.inl ⟨by rfl, ?hy7⟩) (by assumption) ?rest7
              case hy7 => (intro w hSw; (try dsimp only at hSw); go_simp; try with_reducible rfl)
              try simp only [Act.put, lA, lB, lC, lD, lE, lF]
              refine wpAnyH_done (by kernel_rfl) ?_ _
              clear hHeld
              go_wp2
              go_ret
              exact ⟨v2, rfl, by rw [HTN.out]; exact IOwns.base HO2.out HBV.out.size, below_step HBV.out HB2.out⟩
            exact AllReadyH.nil
          exact AllReadyH.nil
        | some ad =>
          obtain ⟨b, off, spot⟩ := ad
          clear hnil hk hakk
          go_upto_region 7 with fail
          obtain ⟨V0, hV0⟩ : ∃ V, V = wr.drew := ⟨_, rfl⟩
          have HBV : Hid (Below w.heap.size w V0) := by show Below _ _ _; rw [hV0]; exact below_step HB.out (below_drew _)
          refine wp_region_held_drew (S := (fun _ => True)) (by kernel_rfl) trivial (fun hHeld => ?_)
          rw [← hV0]
          clear hV0
          change wpAnyH Try.prog .any _ _ _ 9 #[false, false, false, false, false, false, false, false, false] _ _
          refine wpAnyH_take (i := 0) (v := ?v8) rfl (by kernel_rfl) (by kernel_rfl) (by kernel_rfl) (fun _ _ _ h => h) (Or.inl ⟨by rfl, ?hy8⟩) (by assumption) ?rest8
          case hy8 => (intro w hSw; (try dsimp only at hSw); go_simp; try with_reducible rfl)
          try simp only [Act.put, lA, lB, lD, lE, lF]
          refine wpAnyH_take (i := 1) (v := ?v9) rfl (by kernel_rfl) (by kernel_rfl) (by kernel_rfl) (fun _ _ _ h => h) (Or.inl ⟨by rfl, ?hy9⟩) (by assumption) ?rest9
          case hy9 => (intro w hSw; (try dsimp only at hSw); go_simp; try with_reducible rfl)
          try simp only [Act.put, lA, lB, lC, lD, lE, lF]
          refine wpAnyH_take (i := 2) (v := ?v10) rfl (by kernel_rfl) (by kernel_rfl) (by kernel_rfl) (fun _ _ _ h => h) (Or.inl ⟨by rfl, ?hy10⟩) (by assumption) ?rest10
          case hy10 => (intro w hSw; (try dsimp only at hSw); go_simp; try with_reducible rfl)
          try simp only [Act.put, lA, lB, lC, lD, lE, lF]
          refine wpAnyH_take (i := 4) (v := ?v11) rfl (by kernel_rfl) (by kernel_rfl) (by kernel_rfl) (fun _ _ _ h => h) (Or.inl ⟨by rfl, ?hy11⟩) (by assumption) ?rest11
          case hy11 => (intro w hSw; (try dsimp only at hSw); go_simp; try with_reducible rfl)
          try simp only [Act.put, lA, lB, lC, lD, lE, lF]
          refine wpAnyH_take (i := 5) (v := ?v12) rfl (by kernel_rfl) (by kernel_rfl) (by kernel_rfl) (fun _ _ _ h => h) (Or.inl ⟨by rfl, ?hy12⟩) (by assumption) ?rest12
          case hy12 => (intro w hSw; (try dsimp only at hSw); go_simp; try with_reducible rfl)
          try simp only [Act.put, lA, lB, lC, lD, lE, lF]
          refine wpAnyH_take (i := 6) (v := ?v13) rfl (by kernel_rfl) (by kernel_rfl) (by kernel_rfl) (fun _ _ _ h => h) (Or.inl ⟨by rfl, ?hy13⟩) (by assumption) ?rest13
          case hy13 => (intro w hSw; (try dsimp only at hSw); go_simp; try with_reducible rfl)
          try simp only [Act.put, lA, lB, lC, lD, lE, lF]
          refine wpAnyH_ready (rs := [3]) (by kernel_rfl) (by simp) ?_
          refine ready_cons ({ dst := some 24, op := Op.call { callee := Callee.builtin Builtin.append, args := #[Operand.const (Value.slice none 0 0), Operand.tmp 23], argTypes := #[44, 44] }, type := 44, pos := "ref.go:44", after := #[{ on := 2, ground := Ground.data }], guard := none }) rfl rfl (fun K hK => ?_) ?_
          · clear hHeld
            obtain ⟨v1, V1, e1, o1, g1⟩ := append_ints (IOwns.nil V0 V0.heap.size) (some ⟨b, off, spot⟩) k1 ([] : List Int) (fun h => by cases h) (HIA.out _ _) (Nat.le_refl _) (by simp)
            rw [List.nil_append] at o1
            have HB1 : Hid (Below V0.heap.size V0 V1) := below_grown (Below.refl _ _) (IOwns.nil V0 V0.heap.size) (Nat.le_refl _) (Nat.le_refl _) g1
            rw [List.length_nil] at e1
            refine oper_append (.const (.slice none 0 0)) (.tmp 23) 44 rfl 44 rfl (.slice none 0 0) (.slice (some ⟨b, off, spot⟩) 0 k1) v1 V1 (by rfl) (by rfl) ?_ ?_
            with_reducible exact e1
            clear e1 g1
            have HO1 := hide o1
            clear o1
            refine hK.out _ _ (trivial) (fun hHeld => ?_)
            clear hK K
            try simp only [Act.put, lD, lE, lF]
            refine wpAnyH_ready (rs := [7]) (by kernel_rfl) (by simp) ?_
            refine ready_cons ({ dst := some 28, op := Op.call { callee := Callee.builtin Builtin.append, args := #[Operand.tmp 24, Operand.tmp 27], argTypes := #[44, 44] }, type := 44, pos := "ref.go:44", after := #[{ on := 3, ground := Ground.data }, { on := 6, ground := Ground.data }, { on := 3, ground := Ground.chain }], guard := none }) rfl rfl (fun K hK => ?_) ?_
            · clear hHeld
              obtain ⟨v2, V2, e2, o2, g2⟩ := append_ints HO1.out (some ⟨b, off, spot⟩) k1 ([] : List Int) (fun h => by cases h) (HIA.out _ _) HB1.out.size (by simp)
              have HB2 : Hid (Below V0.heap.size V0 V2) := below_grown HB1.out HO1.out (Nat.le_refl _) HB1.out.size g2
              rw [List.length_nil] at e2
              refine oper_append (.tmp 24) (.tmp 27) 44 rfl 44 rfl v1 (.slice (some ⟨b, off, spot⟩) 0 k1) v2 V2 (by rfl) (by rfl) ?_ ?_
              with_reducible exact e2
              clear e2 g2
              have HO2 := hide o2
              clear o2
              refine hK.out _ _ (trivial) (fun hHeld => ?_)
              clear hK K
              try simp only [Act.put, lD, lE, lF]
              refine wpAnyH_take (i := 8) (v := ?v14) rfl (by kernel_rfl) (by kernel_rfl) (by kernel_rfl) (fun _ _ _ h => h) (Or.inl ⟨by rfl, ?hy14⟩) (by assumption) ?rest14
              case hy14 => (intro w hSw; (try dsimp only at hSw); go_simp; try with_reducible rfl)
              try simp only [Act.put, lA, lB, lC, lD, lE, lF]
              refine wpAnyH_done (by kernel_rfl) ?_ _
              clear hHeld
              go_wp2
              go_ret
              exact ⟨v2, rfl, by rw [HTN.out]; exact IOwns.base HO2.out HBV.out.size, below_step HBV.out HB2.out⟩
            exact AllReadyH.nil
          exact AllReadyH.nil
      · rcases HM.out with h | ⟨b, off, rfl, hL⟩
        · rw [h] at h0; simp at h0
        have hka : ¬ k1 = a := by omega
        have HL := hide hL
        clear hL hnil h0
        go_upto_region 7 with fail
        obtain ⟨V0, hV0⟩ : ∃ V, V = wr.drew := ⟨_, rfl⟩
        have HBV : Hid (Below w.heap.size w V0) := by show Below _ _ _; rw [hV0]; exact below_step HB.out (below_drew _)
        have HIA : Hid (∀ V, Below V0.heap.size V0 V → IHas V (some ⟨b, off + a, none⟩) (l.drop a)) := fun V hV => ihas_drop (HL.out.later (below_step HBV.out hV))
        have HIB : Hid (∀ V, Below V0.heap.size V0 V → IHas V (some ⟨b, off, none⟩) (l.take a)) := fun V hV => ihas_take (HL.out.later (below_step HBV.out hV))
        refine wp_region_held_drew (S := (fun _ => True)) (by kernel_rfl) trivial (fun hHeld => ?_)
        rw [← hV0]
        clear hV0
        change wpAnyH Try.prog .any _ _ _ 9 #[false, false, false, false, false, false, false, false, false] _ _
        refine wpAnyH_take (i := 0) (v := ?v15) rfl (by kernel_rfl) (by kernel_rfl) (by kernel_rfl) (fun _ _ _ h => h) (Or.inl ⟨by rfl, ?hy15⟩) (by assumption) ?rest15
        case hy15 => (intro w hSw; (try dsimp only at hSw); go_simp; try with_reducible rfl)
        try simp only [Act.put, lA, lB, lD, lE, lF]
        refine wpAnyH_take (i := 1) (v := ?v16) rfl (by kernel_rfl) (by kernel_rfl) (by kernel_rfl) (fun _ _ _ h => h) (Or.inl ⟨by rfl, ?hy16⟩) (by assumption) ?rest16
        case hy16 => (intro w hSw; (try dsimp only at hSw); go_simp; try with_reducible rfl)
        try simp only [Act.put, lA, lB, lC, lD, lE, lF]
        refine wpAnyH_take (i := 2) (v := ?v17) rfl (by kernel_rfl) (by kernel_rfl) (by kernel_rfl) (fun _ _ _ h => h) (Or.inl ⟨by rfl, ?hy17⟩) (by assumption) ?rest17
        case hy17 => (intro w hSw; (try dsimp only at hSw); go_simp; try with_reducible rfl)
        try simp only [Act.put, lA, lB, lC, lD, lE, lF]
        refine wpAnyH_take (i := 4) (v := ?v18) rfl (by kernel_rfl) (by kernel_rfl) (by kernel_rfl) (fun _ _ _ h => h) (Or.inl ⟨by rfl, ?hy18⟩) (by assumption) ?rest18
        case hy18 => (intro w hSw; (try dsimp only at hSw); go_simp; try with_reducible rfl)
        try simp only [Act.put, lA, lB, lC, lD, lE, lF]
        refine wpAnyH_take (i := 5) (v := ?v19) rfl (by kernel_rfl) (by kernel_rfl) (by kernel_rfl) (fun _ _ _ h => h) (Or.inl ⟨by rfl, ?hy19⟩) (by assumption) ?rest19
        case hy19 => (intro w hSw; (try dsimp only at hSw); go_simp; try with_reducible rfl)
        try simp only [Act.put, lA, lB, lC, lD, lE, lF]
        refine wpAnyH_take (i := 6) (v := ?v20) rfl (by kernel_rfl) (by kernel_rfl) (by kernel_rfl) (fun _ _ _ h => h) (Or.inl ⟨by rfl, ?hy20⟩) (by assumption) ?rest20
        case hy20 => (intro w hSw; (try dsimp only at hSw); go_simp; try with_reducible rfl)
        try simp only [Act.put, lA, lB, lC, lD, lE, lF]
        refine wpAnyH_ready (rs := [3]) (by kernel_rfl) (by simp) ?_
        refine ready_cons ({ dst := some 24, op := Op.call { callee := Callee.builtin Builtin.append, args := #[Operand.const (Value.slice none 0 0), Operand.tmp 23], argTypes := #[44, 44] }, type := 44, pos := "ref.go:44", after := #[{ on := 2, ground := Ground.data }], guard := none }) rfl rfl (fun K hK => ?_) ?_
        · clear hHeld
          obtain ⟨v1, V1, e1, o1, g1⟩ := append_ints (IOwns.nil V0 V0.heap.size) (some ⟨b, off + a, none⟩) (k1 - a) (l.drop a) (fun h => by cases h) (HIA.out V0 (Below.refl _ _)) (Nat.le_refl _) (by simp; omega)
          rw [List.nil_append] at o1
          have HB1 : Hid (Below V0.heap.size V0 V1) := below_grown (Below.refl _ _) (IOwns.nil V0 V0.heap.size) (Nat.le_refl _) (Nat.le_refl _) g1
          rw [HLA.out] at e1
          refine oper_append (.const (.slice none 0 0)) (.tmp 23) 44 rfl 44 rfl (.slice none 0 0) (.slice (some ⟨b, off + a, none⟩) (l.length - a) (k1 - a)) v1 V1 (by rfl) (by rfl) ?_ ?_
          with_reducible exact e1
          clear e1 g1
          have HO1 := hide o1
          clear o1
          refine hK.out _ _ (trivial) (fun hHeld => ?_)
          clear hK K
          try simp only [Act.put, lD, lE, lF]
          refine wpAnyH_ready (rs := [7]) (by kernel_rfl) (by simp) ?_
          refine ready_cons ({ dst := some 28, op := Op.call { callee := Callee.builtin Builtin.append, args := #[Operand.tmp 24, Operand.tmp 27], argTypes := #[44, 44] }, type := 44, pos := "ref.go:44", after := #[{ on := 3, ground := Ground.data }, { on := 6, ground := Ground.data }, { on := 3, ground := Ground.chain }], guard := none }) rfl rfl (fun K hK => ?_) ?_
          · clear hHeld
            obtain ⟨v2, V2, e2, o2, g2⟩ := append_ints HO1.out (some ⟨b, off, none⟩) k1 (l.take a) (fun h => by cases h) (HIB.out V1 HB1.out) HB1.out.size (by rw [HLA.out, HLB.out]; omega)
            have HB2 : Hid (Below V0.heap.size V0 V2) := below_grown HB1.out HO1.out (Nat.le_refl _) HB1.out.size g2
            rw [HLB.out] at e2
            refine oper_append (.tmp 24) (.tmp 27) 44 rfl 44 rfl v1 (.slice (some ⟨b, off, none⟩) a k1) v2 V2 (by rfl) (by rfl) ?_ ?_
            with_reducible exact e2
            clear e2 g2
            have HO2 := hide o2
            clear o2
            refine hK.out _ _ (trivial) (fun hHeld => ?_)
            clear hK K
            try simp only [Act.put, lD, lE, lF]
            refine wpAnyH_take (i := 8) (v := ?v21) rfl (by kernel_rfl) (by kernel_rfl) (by kernel_rfl) (fun _ _ _ h => h) (Or.inl ⟨by rfl, ?hy21⟩) (by assumption) ?rest21
            case hy21 => (intro w hSw; (try dsimp only at hSw); go_simp; try with_reducible rfl)
            try simp only [Act.put, lA, lB, lC, lD, lE, lF]
            refine wpAnyH_done (by kernel_rfl) ?_ _
            clear hHeld
            go_wp2
            go_ret
            exact ⟨v2, rfl, by rw [HTL.out]; exact IOwns.base HO2.out HBV.out.size, below_step HBV.out HB2.out⟩
          exact AllReadyH.nil
        exact AllReadyH.nil
end Go.Proofs.Ytcgdmonejogbaaa
