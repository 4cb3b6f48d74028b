/- The document's Sub of nets, carried from rot. -/
import Derived.Test.YtcgdmonejogbaaaV2
import Derived.Test.YtcgdmonejogbaaaN6
import Derived.Test.YtcgdmonejogbaaaY8
import Derived.Test.YtcgdmonejogbaaaY26
open List renaming setIfInBounds_toArray → lD, set_cons_zero → lE, set_cons_succ → lF
namespace Go.Proofs.Ytcgdmonejogbaaa
open Go.RowKit Go.Sort
open Go
set_option maxRecDepth 100000 in
set_option maxHeartbeats 4000000 in
theorem chosen52 (p : Option Addr) (l : List Int) (cap : Nat) (n : Int) (w : World) (hl : l.length ≤ maxLen) (h : IHas w p l) : Calls Try.prog 100 #[.slice p l.length cap, .int .i64 n] w fun e w' => e = .returned (.int .i64 (errL l n)) ∧ Below w.heap.size w w' := by
  have HH := hide h
  clear h
  unfold maxLen at hl
  go_enter Try.func100, Try.ntmps100
  go_wp2_with fail
  go_loopw [5] (fun t wr => ∃ k : Nat, k ≤ l.length ∧ t = .int .i64 k ∧ Hid (Below w.heap.size w wr) ∧ Hid (∀ j, j < k → chk l n j = 0)) (fun t _ => l.length - (intOf t).toNat)
  case atStart => exact ⟨0, by omega, rfl, Below.refl _ _, fun j hj => by omega⟩
  case round =>
    obtain ⟨k, hk, rfl, HB, HC⟩ := hrel
    by_cases hlk : k < l.length
    · rcases HH.out.later HB.out with h | ⟨b, off, rfl, hL⟩
      · subst h; simp at hlk
      have cl := hL k hlk
      have HLL := hide hL
      have hchk : Hid (chk l n k = if belowB (iat l k) n then (if metB l k then 18 else 0) else 2) := rfl
      have hbx : Hid (belowB (iat l k) n = (decide (0 ≤ iat l k) && decide (iat l k < n))) := rfl
      obtain ⟨x, hx⟩ : ∃ x, iat l k = x := ⟨_, rfl⟩
      rw [hx] at cl hbx hchk
      have HX := hide hx
      clear hL hx
      by_cases hx0 : x < 0
      · have hE : Hid (errL l n = 2) := by
          have h2 : chk l n k = 2 := by rw [hchk.out, hbx.out, if_neg (by simp; omega)]
          show _ = _
          unfold errL; rw [errN_first HC.out (by rw [h2]; omega) _ hlk, h2]
        go_wp2
        go_ret
        exact ⟨retI (by rw [hE.out]), HB.out⟩
      by_cases hxn : n ≤ x
      · have hE : Hid (errL l n = 2) := by
          have h2 : chk l n k = 2 := by rw [hchk.out, hbx.out, if_neg (by simp; omega)]
          show _ = _
          unfold errL; rw [errN_first HC.out (by rw [h2]; omega) _ hlk, h2]
        go_wp2
        go_ret
        exact ⟨retI (by rw [hE.out]), HB.out⟩
      have hbt : Hid (belowB x n = true) := by show _ = _; rw [hbx.out]; simp; omega
      go_wp2_with fail
      obtain ⟨w1, rfl⟩ : ∃ w1, w1 = wr := ⟨wr, rfl⟩
      go_loopw [6] (fun t wr => ∃ i : Nat, i ≤ k ∧ t = .int .i64 i ∧ Hid (Below w1.heap.size w1 wr) ∧ Hid (∀ j, j < i → iat l j ≠ x)) (fun t _ => k - (intOf t).toNat)
      case atStart => exact ⟨0, by omega, rfl, Below.refl _ _, fun j hj => by omega⟩
      case round =>
        obtain ⟨i, hi, rfl, HBi, HNi⟩ := hrel
        by_cases hik : i < k
        · have d0 := HLL.out.later HBi.out i (by omega)
          have d1 := HLL.out.later HBi.out k hlk
          rw [HX.out] at d1
          obtain ⟨y, hy⟩ : ∃ y, iat l i = y := ⟨_, rfl⟩
          rw [hy] at d0
          have i1 : (i : Int) < l.length := by omega
          have i2 : (0 : Int) ≤ i := by omega
          have i3 : (k : Int) < l.length := by omega
          have i4 : (0 : Int) ≤ k := by omega
          clear cl
          by_cases hyx : y = x
          · subst hyx
            have hE : Hid (errL l n = 18) := by
              have h2 : chk l n k = 18 := by rw [hchk.out, hbt.out, if_pos rfl, metB_yes hik (by rw [hy, HX.out]), if_pos rfl]
              show _ = _
              unfold errL; rw [errN_first HC.out (by rw [h2]; omega) _ hlk, h2]
            go_wp2_with fail
            go_quiet (fail)
            go_wp2
            go_ret
            exact ⟨retI (by rw [hE.out]), Below.trans HB.out (below_drewN (HBi.out.mono HB.out.size))⟩
          · have hyb : (y == x) = false := by simpa using hyx
            go_wp2_with fail
            go_quiet (fail)
            go_wp2
            go_roundw
            case rel => exact ⟨i + 1, by omega, by go_num, below_drewN HBi.out, more HNi.out (by rw [hy]; exact hyx)⟩
            case measure => simp [intOf]; omega
        · have hin : i = k := by omega
          subst hin
          have h2 : Hid (chk l n i = 0) := by show _ = _; rw [hchk.out, hbt.out, if_pos rfl, metB_of_no (by rw [HX.out]; exact HNi.out)]; rfl
          go_wp2
          go_roundw
          case rel => exact ⟨i + 1, by omega, by go_num, Below.trans HB.out (HBi.out.mono HB.out.size), more HC.out h2.out⟩
          case measure => simp [intOf]; omega
    · have hin : k = l.length := by omega
      subst hin
      have hE : Hid (errL l n = 0) := errN_zero _ HC.out
      go_wp2
      go_ret
      exact ⟨retI (by rw [hE.out]), HB.out⟩
set_option maxRecDepth 100000 in
set_option maxHeartbeats 4000000 in
theorem copy53 (n : Int) (p : Option Addr) (es : List Pt) (cp : Nat) (w : World) (hnil : p = none → cp = 0) (hl : es.length ≤ 90000) (h : Has w p es) : Calls Try.prog 65 #[nv n p es.length cp] w fun e w' => ∃ q c, e = .returned (nv n q es.length c) ∧ Owns w' w.heap.size (.slice q es.length c) es ∧ Below w.heap.size w w' := by
  obtain ⟨W, hW, hb, a0, b0⟩ := two_nets w n p es.length cp
  have HB := hide hb
  have HA := hide a0
  have HN := hide b0
  have hws : w.heap.size + 1 < W.heap.size := block_lt_of_cell b0.1
  obtain ⟨v1, D1, e1, o1, gr1⟩ := append_prs (w := W.drew) (base := W.heap.size) (v := .slice none 0 0) (l := []) (Owns.nil _ _) p cp es hnil ((h.later hb).later (below_drew _)) (by simp) (by simp; omega)
  have hb1 : Below W.heap.size W D1 := below_grown (w := W.drew) (below_drew _) (Owns.nil W.drew W.heap.size) (Nat.le_refl _) (by simp) gr1
  rw [List.nil_append] at o1
  obtain ⟨q, c, rfl, _, _, _, _⟩ := o1.form
  have HO1 := hide o1
  have HB1 := hide (below_step hb hb1)
  have HN1 := hide (b0.later hb1)
  have HA1 := hide (a0.later hb1)
  clear hb h o1 gr1 hb1
  obtain ⟨q0, q1, _, _⟩ := a0
  obtain ⟨r0, r1, r2, r3⟩ := HN1.out
  clear b0
  go_enter Try.func65, Try.ntmps65
  go_wp2_with fail
  rw [← hW]
  clear hW
  go_region_held3 (fun W => W.cell? ⟨w.heap.size, 0, none⟩ = some (.int .i64 n) ∧ W.cell? ⟨w.heap.size, 1, none⟩ = some (.slice p es.length cp))
    (first | exact ⟨HA.out.1, HA.out.2.1⟩ | exact ⟨HA1.out.1, HA1.out.2.1⟩ | exact ⟨other2 HA1.out.1 (by simp), other2 HA1.out.2.1 (by simp)⟩)
    (first | (refine step_run_append (by rfl) (.const (.slice none 0 0)) (.tmp 6) 22 (by rfl) 22 (by rfl) (.slice none 0 0) (.slice p es.length cp) (.slice q es.length c) D1 (by rfl) (by rfl) ?_ ?_; with_reducible exact e1))
  rename_i hHeld
  clear hHeld
  obtain ⟨V, hV⟩ : ∃ V, V = (D1.setCell ⟨w.heap.size + 1, 0, none⟩ (.int .i64 n)).setCell ⟨w.heap.size + 1, 1, none⟩ (.slice q es.length c) := ⟨_, rfl⟩
  have kV : NOwn V (w.heap.size + 1) n q es.length c := by rw [hV]; exact HN1.out.set _ _ _ _
  have bV : Below w.heap.size w V := by rw [hV]; exact (HB1.out.setCell (by simp) _).setCell (by simp) _
  have oV : Owns V w.heap.size (.slice q es.length c) es := by rw [hV]; exact (owns_other (owns_other HO1.out hws _) hws _).base HB.out.size
  rw [← hV]
  go_wp2_with fail
  exact bodyPost_ret (ret_net1 Try.results65 rfl kV) rfl ⟨q, c, rfl, oV, bV⟩
/-- One edge behind the others, in a list of the call's own. -/
theorem app1 {w : World} {B : Nat} {v : Value} {l : List Pt} (o : Owns w B v l) (x y : Int) (hB : B ≤ w.heap.size) (hl : l.length ≤ 90000) : ∃ v' w', (Builtin.append_ #[22, 22] 22 #[v, .slice (some ⟨w.heap.size, 0, none⟩) 1 1]).run Try.prog (w.alloc (.cells #[.int .i64 x, .int .i64 y] 64)) = .ok v' w' ∧ Owns w' B v' (l ++ [⟨x, y⟩]) ∧ (w.alloc (.cells #[.int .i64 x, .int .i64 y] 64)).grownBy w' v.ownBlock ∧ Below B w w' := by
  have o' : Owns (w.alloc (.cells #[.int .i64 x, .int .i64 y] 64)) B v l := o.later (by go_grown)
  have hL : Lies (w.alloc (.cells #[.int .i64 x, .int .i64 y] 64)) w.heap.size 0 [⟨x, y⟩] := by
    intro j hj
    simp at hj
    subst hj
    exact ⟨by simp only [at', List.getD_cons_zero]; go_cell, by simp only [at', List.getD_cons_zero]; go_cell⟩
  obtain ⟨v', w', e1, o1, gr⟩ := append_prs o' (some ⟨w.heap.size, 0, none⟩) 1 [⟨x, y⟩] (fun h => by cases h) (Or.inr ⟨_, _, rfl, hL⟩) (by simp; omega) (by simp; omega)
  exact ⟨v', w', e1, o1, gr, below_grown (w := w.alloc (.cells #[.int .i64 x, .int .i64 y] 64)) ((Below.refl _ _).alloc hB _) o' (Nat.le_refl _) (by simp; omega) gr⟩
theorem wp_append {P : Program} {w : World} {o : Oper} {a : Act} {K : Act → World → Prop} {Q : Exit → Act → World → Prop} (s x : Operand) (t : TypeId)
    (ho : o.op = .call { callee := .builtin .append, args := #[s, x], argTypes := #[t, t] }) (ty : TypeId) (hty : o.type = ty) (vs vx v' : Value) (w' : World) (hs : a.eval s = vs) (hx : a.eval x = vx)
    (hr : (Builtin.append_ #[t, t] ty #[vs, vx]).run P w = .ok v' w') (h : K (a.put o.dst v') w') : Oper.wp P o a w K Q := by
  subst hty
  unfold Oper.wp execOp
  simp only [ho, resolve, invoke, builtin, Sem.run_bind, Sem.run_pure, Result.andThen_ok, List.map_toArray, List.map_cons, List.map_nil, hs, hx, hr]
  exact h
theorem nown_set1 {W : World} {g : Nat} {n : Int} {p : Option Addr} {l c : Nat} (h : NOwn W g n p l c) (p' : Option Addr) (l' c' : Nat) : NOwn (W.setCell ⟨g, 1, none⟩ (.slice p' l' c')) g n p' l' c' := by
  obtain ⟨q0, q1, q2, q3⟩ := h
  refine ⟨?_, ?_, ?_, ?_⟩
  all_goals go_cell
theorem nown_below {W W' : World} {B g : Nat} {n : Int} {p : Option Addr} {l c : Nat} (h : NOwn W g n p l c) (hb : Below B W W') (hg : g < B) : NOwn W' g n p l c := by
  obtain ⟨q0, q1, q2, q3⟩ := h
  exact ⟨(hb.cell (p := ⟨g, 0, none⟩) hg).trans q0, (hb.cell (p := ⟨g, 1, none⟩) hg).trans q1, (hb.frozen (p := ⟨g, 0, none⟩) hg).trans q2, (hb.frozen (p := ⟨g, 1, none⟩) hg).trans q3⟩
theorem pick_more (es : List Pt) (l : List Int) {i : Nat} (hi : i < l.length) : pick es (l.take (i + 1)) = pick es (l.take i) ++ [at' es (iat l i).toNat] := by
  unfold pick iat
  rw [List.take_add_one, List.map_append, List.getElem?_eq_getElem hi, List.getD_eq_getElem?_getD, List.getElem?_eq_getElem hi]
  rfl
set_option maxRecDepth 100000 in
set_option maxHeartbeats 8000000 in
theorem sub50 (n : Int) (p q : Option Addr) (es : List Pt) (l : List Int) (cp cq : Nat) (w : World) (hlen : l.length ≤ 90000) (hc : errL l es.length = 0) (hin : ∀ j, j < l.length → 0 ≤ iat l j ∧ iat l j < es.length) (h : Has w p es) (hq : IHas w q l) : Calls Try.prog 90 #[nv n p es.length cp, .slice q l.length cq] w fun e w' => ∃ q' c, e = .returned (.tuple #[nv n q' l.length c, .int .i64 0]) ∧ Owns w' w.heap.size (.slice q' l.length c) (pick es l) ∧ Below w.heap.size w w' := by
  obtain ⟨W, hW, hb, a0, b0⟩ := two_nets w n p es.length cp
  have C1 := hide (chosen52 q l cq es.length W (by unfold maxLen; omega) (hq.later hb))
  rw [hc] at C1
  have HH := hide (h.later hb)
  have HQ := hide (hq.later hb)
  have HB := hide hb
  have HA := hide a0
  have HN := hide b0
  have hWs : W.heap.size = w.heap.size + 1 + 1 := by rw [hW]; simp
  have HWS := hide hWs
  clear h hq hb a0 b0 hc hWs
  go_enter Try.func90, Try.ntmps90
  go_wp2_with fail
  rw [← hW]
  clear hW
  refine C1.out.mono ?_
  rintro e w1 ⟨rfl, hb1⟩
  have HA1 := hide (HA.out.later hb1)
  have HB1 := hide hb1
  clear C1 hb1
  obtain ⟨q0, q1, _, _⟩ := HA1.out
  go_upto_region 5 with fail
  obtain ⟨X, hX, hbX, xN⟩ := one_net w1 n none 0 0
  have HX := hide (below_step HB1.out hbX)
  have hXs : X.heap.size = w1.heap.size + 1 := by rw [hX]; simp
  have hkw : W.heap.size ≤ w1.heap.size := HB1.out.size
  rw [← hX]
  obtain ⟨kb, hkb⟩ : ∃ kb, w1.heap.size = kb := ⟨_, rfl⟩
  rw [hkb] at xN hXs hkw ⊢
  have HXN := hide xN
  have HXS := hide hXs
  have HKB := hide hkw
  clear hX hbX xN hXs hkw hkb q0 q1 HA1 HB1
  obtain ⟨kw, hkw⟩ : ∃ k, w.heap.size = k := ⟨_, rfl⟩
  have HKW := hide hkw
  rw [hkw] at HA HN HWS ⊢
  clear hkw
  go_wp2_with fail
  go_loopw [8] (fun t wr => ∃ i : Nat, i ≤ l.length ∧ t = .int .i64 i ∧ ∃ q' c', Hid (Below W.heap.size W wr ∧ kb + 1 ≤ wr.heap.size ∧ NOwn wr kb n q' i c' ∧ Owns wr (kb + 1) (.slice q' i c') (pick es (l.take i)))) (fun t _ => l.length - (intOf t).toNat)
  case atStart => exact ⟨0, by omega, rfl, none, 0, HX.out, by rw [HXS.out]; omega, HXN.out, Owns.nil _ _⟩
  case round =>
    obtain ⟨i, hi, rfl, q', c', HR⟩ := hrel
    have hA := HA.out.later HR.out.1
    obtain ⟨y0, y1, y2, y3⟩ := HR.out.2.2.1
    by_cases hlt : i < l.length
    · obtain ⟨x0, x1⟩ := hin i hlt
      have HPK := hide (pick_more es l hlt)
      rcases HQ.out with hz | ⟨b2, off2, rfl, hL2⟩
      · subst hz; simp at hlt
      have c2 := hL2 i hlt
      obtain ⟨x, hx⟩ : ∃ x : Nat, iat l i = x := ⟨(iat l i).toNat, by omega⟩
      rw [hx] at c2 x0 x1
      rw [hx, Int.toNat_natCast] at HPK
      rcases HH.out with hz | ⟨b, off, rfl, hL⟩
      · subst hz; simp at x1; omega
      obtain ⟨c3, c4⟩ := hL x (by omega)
      have hpl : (pick es (l.take i)).length = i := by rw [pick_length, List.length_take]; omega
      obtain ⟨V0, hV0⟩ : ∃ V, V = wr.drew := ⟨_, rfl⟩
      have bd : Below wr.heap.size wr V0 := by rw [hV0]; exact below_drew _
      have HB0 := hide (below_step HR.out.1 bd)
      have HN0 := hide (HR.out.2.2.1.later bd)
      have z0 : kb + 1 ≤ V0.heap.size := Nat.le_trans HR.out.2.1 bd.size
      have o0 : Owns V0 (kb + 1) (.slice q' (pick es (l.take i)).length c') (pick es (l.take i)) := by rw [hpl]; exact HR.out.2.2.2.later bd
      obtain ⟨v', D, e1, o1, gr1, hbD⟩ := app1 o0 (at' es x).x (at' es x).y z0 (by rw [hpl]; omega)
      obtain ⟨q1, c1, rfl, _, _, _, _⟩ := o1.form
      rw [List.length_append, hpl] at e1 o1
      simp only [List.length_cons, List.length_nil, Nat.zero_add] at e1 o1
      obtain ⟨V1, hV1⟩ : ∃ V, V = V0.alloc (.cells #[.int .i64 (at' es x).x, .int .i64 (at' es x).y] 64) := ⟨_, rfl⟩
      have b1 : Below V0.heap.size V0 V1 := by rw [hV1]; go_grown
      have HBD : Hid (Below W.heap.size W D) := Below.trans HB0.out (hbD.mono (by have := HKB.out; omega))
      have HND := hide (nown_below HN0.out hbD (by omega))
      have HBK0 : Hid (V0.cell? ⟨kb, 1, none⟩ = some (.slice q' i c')) := HN0.out.2.1
      have HBK1 : Hid (V1.cell? ⟨kb, 1, none⟩ = some (.slice q' i c')) := later b1 HN0.out.2.1
      have HDK : Hid (D.cell? ⟨kb, 1, none⟩ = some (.slice q' i c') ∧ D.frozen? ⟨kb, 1, none⟩ = false) := ⟨HND.out.2.1, HND.out.2.2.2⟩
      have HS : ∀ V, Below W.heap.size W V → (V.cell? ⟨kw, 1, none⟩ = some (.slice (some ⟨b, off, none⟩) es.length cp) ∧ V.cell? ⟨b2, off2 + i, none⟩ = some (.int .i64 x) ∧ V.cell? ⟨b, off + x * 2, none⟩ = some (.int .i64 (at' es x).x) ∧ V.cell? ⟨b, off + x * 2 + 1, none⟩ = some (.int .i64 (at' es x).y)) := fun V hV => ⟨(HA.out.later hV).2.1, later hV c2, later hV c3, later hV c4⟩
      have HS1 := hide (HS V1 (below_step HB0.out b1))
      have HS2 := hide (HS D HBD.out)
      obtain ⟨s0, s1, s2, s3⟩ := HS V0 HB0.out
      have nk0 : kw ≠ kb := by have := HKB.out; have := HWS.out; omega
      have nk1 : b2 ≠ kb := by have : b2 < W.heap.size := block_lt_of_cell c2; have := HKB.out; omega
      have nk2 : b ≠ kb := by have : b < W.heap.size := block_lt_of_cell c3; have := HKB.out; omega
      have HO1 := hide o1
      have HV1 := hide hV1
      rw [← hV1] at e1
      have i1 : (i : Int) < l.length := by omega
      have i2 : (x : Int) < es.length := by omega
      clear hL2 c2 hL c3 c4 bd z0 o0 o1 gr1 hbD hV1 b1 HS hx hpl hA y0 y1 y2 y3 HB0 HN0
      go_wp2_with fail
      refine wp_region_held_drew (S := (fun W' => W'.cell? ⟨kw, 1, none⟩ = some (.slice (some ⟨b, off, none⟩) es.length cp) ∧ W'.cell? ⟨b2, off2 + i, none⟩ = some (.int .i64 x) ∧ W'.cell? ⟨b, off + x * 2, none⟩ = some (.int .i64 (at' es x).x) ∧ W'.cell? ⟨b, off + x * 2 + 1, none⟩ = some (.int .i64 (at' es x).y))) (by kernel_rfl) (by rw [← hV0]; exact ⟨s0, s1, s2, s3⟩) (fun hHeld => ?_)
      rw [← hV0] at hHeld ⊢
      clear hV0
      change wpAnyH Try.prog .any _ _ _ 14 #[false, false, false, false, false, false, false, false, false, false, false, false, false, false] _ _
      refine wpAnyH_take (i := 0) (v := ?v1) rfl (by kernel_rfl) (by kernel_rfl) (by kernel_rfl) (fun _ _ _ h => h) (Or.inl ⟨by rfl, ?hy1⟩) (by assumption) ?rest1
      case hy1 => (intro w hSw; (try dsimp only at hSw); go_simp; try with_reducible rfl)
      try simp only [Act.put, lD, lE]
      refine wpAnyH_take (i := 2) (v := ?v2) rfl (by kernel_rfl) (by kernel_rfl) (by kernel_rfl) (fun _ _ _ h => h) (Or.inl ⟨by rfl, ?hy2⟩) (by assumption) ?rest2
      case hy2 => (intro w hSw; (try dsimp only at hSw); go_simp; try with_reducible rfl)
      try simp only [Act.put, lD, lE, lF]
      refine wpAnyH_take (i := 3) (v := ?v3) rfl (by kernel_rfl) (by kernel_rfl) (by kernel_rfl) (fun _ _ _ h => h) (Or.inl ⟨by rfl, ?hy3⟩) (by assumption) ?rest3
      case hy3 => (intro w hSw; (try dsimp only at hSw); go_simp; try with_reducible rfl)
      try simp only [Act.put, lD, lE, lF]
      refine wpAnyH_take (i := 4) (v := ?v4) rfl (by kernel_rfl) (by kernel_rfl) (by kernel_rfl) (fun _ _ _ h => h) (Or.inl ⟨by rfl, ?hy4⟩) (by assumption) ?rest4
      case hy4 => (intro w hSw; (try dsimp only at hSw); go_simp; try with_reducible rfl)
      try simp only [Act.put, lD, lE, lF]
      refine wpAnyH_take (i := 5) (v := ?v5) rfl (by kernel_rfl) (by kernel_rfl) (by kernel_rfl) (fun _ _ _ h => h) (Or.inl ⟨by rfl, ?hy5⟩) (by assumption) ?rest5
      case hy5 => (intro w hSw; (try dsimp only at hSw); go_simp; try with_reducible rfl)
      try simp only [Act.put, lD, lE, lF]
      refine wpAnyH_take (i := 6) (v := ?v6) rfl (by kernel_rfl) (by kernel_rfl) (by kernel_rfl) (fun _ _ _ h => h) (Or.inl ⟨by rfl, ?hy6⟩) (by assumption) ?rest6
      case hy6 => (intro w hSw; (try dsimp only at hSw); go_simp; try with_reducible rfl)
      try simp only [Act.put, lD, lE, lF]
      refine wpAnyH_take (i := 7) (v := ?v7) rfl (by kernel_rfl) (by kernel_rfl) (by kernel_rfl) (fun _ _ _ h => h) (Or.inl ⟨by rfl, ?hy7⟩) (by assumption) ?rest7
      case hy7 => (intro w hSw; (try dsimp only at hSw); go_simp; try with_reducible rfl)
      try simp only [Act.put, lD, lE, lF]
      refine wpAnyH_take (i := 8) (v := ?v8) rfl (by kernel_rfl) (by kernel_rfl) (by kernel_rfl) (fun _ _ _ h => h) (Or.inl ⟨by rfl, ?hy8⟩) (by assumption) ?rest8
      case hy8 => (intro w hSw; (try dsimp only at hSw); go_simp; try with_reducible rfl)
      try simp only [Act.put, lD, lE, lF]
      refine wpAnyH_take (i := 9) (v := ?v9) rfl (by kernel_rfl) (by kernel_rfl) (by kernel_rfl) (fun _ _ _ h => h) (Or.inl ⟨by rfl, ?hy9⟩) (by assumption) ?rest9
      case hy9 => (intro w hSw; (try dsimp only at hSw); go_simp; try with_reducible rfl)
      try simp only [Act.put, lD, lE, lF]
      refine wpAnyH_ready (rs := [1, 10]) (by kernel_rfl) (by simp) ?_
      refine ready_cons ({ dst := some 28, op := Op.load 22 (Operand.tmp 27), type := 22, pos := "ref.go:169", after := #[{ on := 0, ground := Ground.data }], guard := none }) rfl rfl (fun K hK => ?_) ?_
      · clear hHeld
        have d0 := HBK0.out
        refine wp_val (v := ?vl1) (w2 := V0) ?hl1 ?_
        case hl1 => (go_simp; try with_reducible rfl)
        clear d0
        refine hK.out _ _ (by first | exact ⟨s0, s1, s2, s3⟩ | exact ⟨cell_other s0 nk0, cell_other s1 nk1, cell_other s2 nk2, cell_other s3 nk2⟩) (fun hHeld => ?_)
        clear hK K
        try simp only [Act.put, lD, lE, lF]
        refine wpAnyH_ready (rs := [10]) (by kernel_rfl) (by simp) ?_
        refine ready_cons ({ dst := some 37, op := Op.buildSlice 22 1 #[(0, Operand.tmp 36)], type := 22, pos := "ref.go:169", after := #[{ on := 9, ground := Ground.data }], guard := none }) rfl rfl (fun K hK => ?_) ?_
        · clear hHeld
          go_simp
          rw [← HV1.out]
          clear s0 s1 s2 s3
          obtain ⟨s0, s1, s2, s3⟩ := HS1.out
          refine hK.out _ _ (by first | exact ⟨s0, s1, s2, s3⟩ | exact ⟨cell_other s0 nk0, cell_other s1 nk1, cell_other s2 nk2, cell_other s3 nk2⟩) (fun hHeld => ?_)
          clear hK K
          try simp only [lD, lE, lF]
          refine wpAnyH_ready (rs := [11]) (by kernel_rfl) (by simp) ?_
          refine ready_cons ({ dst := some 38, op := Op.call { callee := Callee.builtin Builtin.append, args := #[Operand.tmp 28, Operand.tmp 37], argTypes := #[22, 22] }, type := 22, pos := "ref.go:169", after := #[{ on := 1, ground := Ground.data }, { on := 10, ground := Ground.data }], guard := none }) rfl rfl (fun K hK => ?_) ?_
          · clear hHeld
            clear s0 s1 s2 s3
            obtain ⟨s0, s1, s2, s3⟩ := HS2.out
            refine wp_append (.tmp 28) (.tmp 37) 22 (by rfl) 22 (by rfl) (.slice q' i c') (.slice (some ⟨V0.heap.size, 0, none⟩) 1 1) (.slice q1 (i + 1) c1) D (by rfl) (by rfl) ?_ ?_
            with_reducible exact e1
            refine hK.out _ _ (by first | exact ⟨s0, s1, s2, s3⟩ | exact ⟨cell_other s0 nk0, cell_other s1 nk1, cell_other s2 nk2, cell_other s3 nk2⟩) (fun hHeld => ?_)
            clear hK K
            try simp only [Act.put, lD, lE, lF]
            refine wpAnyH_take (i := 12) (v := ?v10) rfl (by kernel_rfl) (by kernel_rfl) (by kernel_rfl) (fun _ _ _ h => h) (Or.inl ⟨by rfl, ?hy10⟩) (by assumption) ?rest10
            case hy10 => (intro w hSw; (try dsimp only at hSw); go_simp; try with_reducible rfl)
            try simp only [Act.put, lD, lE, lF]
            refine wpAnyH_ready (rs := [13]) (by kernel_rfl) (by simp) ?_
            refine ready_cons ({ dst := none, op := Op.store 22 (Operand.tmp 39) (Operand.tmp 38), type := 0, pos := "ref.go:169", after := #[{ on := 12, ground := Ground.data }, { on := 11, ground := Ground.data }, { on := 11, ground := Ground.chain }, { on := 0, ground := Ground.phase }, { on := 1, ground := Ground.phase }, { on := 2, ground := Ground.phase }, { on := 3, ground := Ground.phase }, { on := 4, ground := Ground.phase }, { on := 5, ground := Ground.phase }, { on := 6, ground := Ground.phase }, { on := 7, ground := Ground.phase }, { on := 8, ground := Ground.phase }, { on := 9, ground := Ground.phase }, { on := 10, ground := Ground.phase }, { on := 11, ground := Ground.phase }], guard := none }) rfl rfl (fun K hK => ?_) ?_
            · clear hHeld
              have d0 := HDK.out.1
              have d1 := HDK.out.2
              go_simp
              clear d0 d1
              refine hK.out _ _ (by first | exact ⟨s0, s1, s2, s3⟩ | exact ⟨cell_other s0 nk0, cell_other s1 nk1, cell_other s2 nk2, cell_other s3 nk2⟩) (fun hHeld => ?_)
              clear hK K
              try simp only [lD, lE, lF]
              refine wpAnyH_done (by kernel_rfl) ?_ _
              clear hHeld
              obtain ⟨E, hE⟩ : ∃ E, E = D.setCell ⟨kb, 1, none⟩ (.slice q1 (i + 1) c1) := ⟨_, rfl⟩
              have nE : NOwn E kb n q1 (i + 1) c1 := by rw [hE]; exact nown_set1 HND.out _ _ _
              have oE : Owns E (kb + 1) (.slice q1 (i + 1) c1) (pick es (l.take (i + 1))) := by rw [hE, HPK.out]; exact owns_other HO1.out (by omega) _
              have bE : Below W.heap.size W E := by rw [hE]; exact HBD.out.setCell (p := ⟨kb, 1, none⟩) HKB.out _
              have zE : kb + 1 ≤ E.heap.size := by have := block_lt_of_cell nE.1; exact this
              rw [← hE]
              have HREL := hide (And.intro bE (And.intro zE (And.intro nE oE)))
              clear hE nE oE bE zE s0 s1 s2 s3
              go_wp2
              go_roundw
              case rel => exact ⟨i + 1, by omega, by go_num, q1, c1, HREL.out⟩
              case measure => simp [intOf]; omega
            exact AllReadyH.nil
          exact AllReadyH.nil
        exact AllReadyH.nil
      refine ready_cons ({ dst := some 37, op := Op.buildSlice 22 1 #[(0, Operand.tmp 36)], type := 22, pos := "ref.go:169", after := #[{ on := 9, ground := Ground.data }], guard := none }) rfl rfl (fun K hK => ?_) ?_
      · clear hHeld
        go_simp
        rw [← HV1.out]
        clear s0 s1 s2 s3
        obtain ⟨s0, s1, s2, s3⟩ := HS1.out
        refine hK.out _ _ (by first | exact ⟨s0, s1, s2, s3⟩ | exact ⟨cell_other s0 nk0, cell_other s1 nk1, cell_other s2 nk2, cell_other s3 nk2⟩) (fun hHeld => ?_)
        clear hK K
        try simp only [lD, lE, lF]
        refine wpAnyH_ready (rs := [1]) (by kernel_rfl) (by simp) ?_
        refine ready_cons ({ dst := some 28, op := Op.load 22 (Operand.tmp 27), type := 22, pos := "ref.go:169", after := #[{ on := 0, ground := Ground.data }], guard := none }) rfl rfl (fun K hK => ?_) ?_
        · clear hHeld
          have d0 := HBK1.out
          refine wp_val (v := ?vl2) (w2 := V1) ?hl2 ?_
          case hl2 => (go_simp; try with_reducible rfl)
          clear d0
          refine hK.out _ _ (by first | exact ⟨s0, s1, s2, s3⟩ | exact ⟨cell_other s0 nk0, cell_other s1 nk1, cell_other s2 nk2, cell_other s3 nk2⟩) (fun hHeld => ?_)
          clear hK K
          try simp only [Act.put, lD, lE, lF]
          refine wpAnyH_ready (rs := [11]) (by kernel_rfl) (by simp) ?_
          refine ready_cons ({ dst := some 38, op := Op.call { callee := Callee.builtin Builtin.append, args := #[Operand.tmp 28, Operand.tmp 37], argTypes := #[22, 22] }, type := 22, pos := "ref.go:169", after := #[{ on := 1, ground := Ground.data }, { on := 10, ground := Ground.data }], guard := none }) rfl rfl (fun K hK => ?_) ?_
          · clear hHeld
            clear s0 s1 s2 s3
            obtain ⟨s0, s1, s2, s3⟩ := HS2.out
            refine wp_append (.tmp 28) (.tmp 37) 22 (by rfl) 22 (by rfl) (.slice q' i c') (.slice (some ⟨V0.heap.size, 0, none⟩) 1 1) (.slice q1 (i + 1) c1) D (by rfl) (by rfl) ?_ ?_
            with_reducible exact e1
            refine hK.out _ _ (by first | exact ⟨s0, s1, s2, s3⟩ | exact ⟨cell_other s0 nk0, cell_other s1 nk1, cell_other s2 nk2, cell_other s3 nk2⟩) (fun hHeld => ?_)
            clear hK K
            try simp only [Act.put, lD, lE, lF]
            refine wpAnyH_take (i := 12) (v := ?v11) rfl (by kernel_rfl) (by kernel_rfl) (by kernel_rfl) (fun _ _ _ h => h) (Or.inl ⟨by rfl, ?hy11⟩) (by assumption) ?rest11
            case hy11 => (intro w hSw; (try dsimp only at hSw); go_simp; try with_reducible rfl)
            try simp only [Act.put, lD, lE, lF]
            refine wpAnyH_ready (rs := [13]) (by kernel_rfl) (by simp) ?_
            refine ready_cons ({ dst := none, op := Op.store 22 (Operand.tmp 39) (Operand.tmp 38), type := 0, pos := "ref.go:169", after := #[{ on := 12, ground := Ground.data }, { on := 11, ground := Ground.data }, { on := 11, ground := Ground.chain }, { on := 0, ground := Ground.phase }, { on := 1, ground := Ground.phase }, { on := 2, ground := Ground.phase }, { on := 3, ground := Ground.phase }, { on := 4, ground := Ground.phase }, { on := 5, ground := Ground.phase }, { on := 6, ground := Ground.phase }, { on := 7, ground := Ground.phase }, { on := 8, ground := Ground.phase }, { on := 9, ground := Ground.phase }, { on := 10, ground := Ground.phase }, { on := 11, ground := Ground.phase }], guard := none }) rfl rfl (fun K hK => ?_) ?_
            · clear hHeld
              have d0 := HDK.out.1
              have d1 := HDK.out.2
              go_simp
              clear d0 d1
              refine hK.out _ _ (by first | exact ⟨s0, s1, s2, s3⟩ | exact ⟨cell_other s0 nk0, cell_other s1 nk1, cell_other s2 nk2, cell_other s3 nk2⟩) (fun hHeld => ?_)
              clear hK K
              try simp only [lD, lE, lF]
              refine wpAnyH_done (by kernel_rfl) ?_ _
              clear hHeld
              obtain ⟨E, hE⟩ : ∃ E, E = D.setCell ⟨kb, 1, none⟩ (.slice q1 (i + 1) c1) := ⟨_, rfl⟩
              have nE : NOwn E kb n q1 (i + 1) c1 := by rw [hE]; exact nown_set1 HND.out _ _ _
              have oE : Owns E (kb + 1) (.slice q1 (i + 1) c1) (pick es (l.take (i + 1))) := by rw [hE, HPK.out]; exact owns_other HO1.out (by omega) _
              have bE : Below W.heap.size W E := by rw [hE]; exact HBD.out.setCell (p := ⟨kb, 1, none⟩) HKB.out _
              have zE : kb + 1 ≤ E.heap.size := by have := block_lt_of_cell nE.1; exact this
              rw [← hE]
              have HREL := hide (And.intro bE (And.intro zE (And.intro nE oE)))
              clear hE nE oE bE zE s0 s1 s2 s3
              go_wp2
              go_roundw
              case rel => exact ⟨i + 1, by omega, by go_num, q1, c1, HREL.out⟩
              case measure => simp [intOf]; omega
            exact AllReadyH.nil
          exact AllReadyH.nil
        exact AllReadyH.nil
      exact AllReadyH.nil
    · have hie : i = l.length := by omega
      subst hie
      have HNr := hide (HN.out.later HR.out.1)
      obtain ⟨c0, c1, c2, c3⟩ := HNr.out
      have HO := hide HR.out.2.2.2
      rw [List.take_length] at HO
      have nk : kw + 1 ≠ kb := by have := HKB.out; have := HWS.out; omega
      go_wp2_with fail
      have hkw1 : kw + 1 < W.heap.size := by have := HWS.out; omega
      have hkb1 : kw + 1 < kb + 1 := by have := HKB.out; omega
      refine bodyPost_ret (ret_net Try.results90 rfl rfl (HNr.out.set _ _ _ _)) rfl ⟨q', c', rfl, ?_, ?_⟩
      · exact (owns_other (owns_other HO.out hkb1 _) hkb1 _).base (by rw [HKW.out]; omega)
      · rw [HKW.out]
        have := below_step HB.out HR.out.1
        rw [HKW.out] at this
        exact (this.setCell (p := ⟨kw + 1, 0, none⟩) (by simp) _).setCell (p := ⟨kw + 1, 1, none⟩) (by simp) _
end Go.Proofs.Ytcgdmonejogbaaa
