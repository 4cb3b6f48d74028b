/- The document's Copy and Chosen, appends (carried). -/
import Derived.Test.YtaebbfilgfkckaaT2
import Derived.Test.YtaebbfilgfkckaaT4
import Derived.Test.YtaebbfilgfkckaaR1
import Derived.Test.YtaebbfilgfkckaaX3
namespace Go.Proofs.Ytaebbfilgfkckaa
open Go.RowKit Go.Sort
open Go

/-- A number behind numbers that are owned: what comes of an append, and that nothing below changes. -/
theorem push_int {w : World} {B : Nat} {v : Value} {l : List Int} (o : IOwns w B v l) (x : Int) (hB : B ≤ w.heap.size) (hl : l.length ≤ 90000) : ∃ v' w', (Builtin.append_ #[25, 25] 25 #[v, .slice (some ⟨w.heap.size, 0, none⟩) 1 1]).run Try.prog (w.alloc (.cells #[.int .i64 x] 3)) = .ok v' w' ∧ IOwns w' B v' (l ++ [x]) ∧ Below B w w' := by
  have o' : IOwns (w.alloc (.cells #[.int .i64 x] 3)) B v l := o.later (by go_grown)
  obtain ⟨v', w', e1, o1, gr, _⟩ := append_int o' (one_int w x) (by simp; omega) hl
  exact ⟨v', w', e1, o1, below_grown (w := w.alloc (.cells #[.int .i64 x] 3)) (by go_grown) o' (Nat.le_refl _) (by simp; omega) gr⟩
set_option maxRecDepth 100000 in
set_option maxHeartbeats 4000000 in
theorem chosen52 (p : Option Addr) (l : List Int) (cap : Nat) (n : Int) (w : World) (hl : l.length ≤ maxLen) (h : IHas w p l) : Calls Try.prog 31 #[.slice p l.length cap, .int .i64 n] w fun e w' => e = .returned (.int .i64 (errL l n)) ∧ Below w.heap.size w w' := by
  have HH := hide h
  clear h
  unfold maxLen at hl
  go_enter Try.func31, Try.ntmps31
  go_wp2_with fail
  go_loopw [5] (fun t wr => ∃ k : Nat, k ≤ l.length ∧ t = .int .i64 k ∧ Hid (Below w.heap.size w wr) ∧ Hid (∀ j, j < k → chk l n j = 0)) (fun t _ => l.length - (intOf t).toNat)
  case atStart => exact ⟨0, by omega, rfl, Below.refl _ _, fun j hj => by omega⟩
  case round =>
    obtain ⟨k, hk, rfl, HB, HC⟩ := hrel
    by_cases hlk : k < l.length
    · rcases HH.out.later HB.out with h | ⟨b, off, rfl, hL⟩
      · subst h; simp at hlk
      have cl := hL k hlk
      have HLL := hide hL
      have hchk : Hid (chk l n k = if belowB (iat l k) n then (if metB l k then 18 else 0) else 2) := rfl
      have hbx : Hid (belowB (iat l k) n = (decide (0 ≤ iat l k) && decide (iat l k < n))) := rfl
      obtain ⟨x, hx⟩ : ∃ x, iat l k = x := ⟨_, rfl⟩
      rw [hx] at cl hbx hchk
      have HX := hide hx
      clear hL hx
      by_cases hx0 : x < 0
      · have hE : Hid (errL l n = 2) := by
          have h2 : chk l n k = 2 := by rw [hchk.out, hbx.out, if_neg (by simp; omega)]
          show _ = _
          unfold errL; rw [errN_first HC.out (by rw [h2]; omega) _ hlk, h2]
        go_wp2
        go_ret
        exact ⟨retI (by rw [hE.out]), HB.out⟩
      by_cases hxn : n ≤ x
      · have hE : Hid (errL l n = 2) := by
          have h2 : chk l n k = 2 := by rw [hchk.out, hbx.out, if_neg (by simp; omega)]
          show _ = _
          unfold errL; rw [errN_first HC.out (by rw [h2]; omega) _ hlk, h2]
        go_wp2
        go_ret
        exact ⟨retI (by rw [hE.out]), HB.out⟩
      have hbt : Hid (belowB x n = true) := by show _ = _; rw [hbx.out]; simp; omega
      go_wp2_with fail
      obtain ⟨w1, rfl⟩ : ∃ w1, w1 = wr := ⟨wr, rfl⟩
      go_loopw [6] (fun t wr => ∃ i : Nat, i ≤ k ∧ t = .int .i64 i ∧ Hid (Below w1.heap.size w1 wr) ∧ Hid (∀ j, j < i → iat l j ≠ x)) (fun t _ => k - (intOf t).toNat)
      case atStart => exact ⟨0, by omega, rfl, Below.refl _ _, fun j hj => by omega⟩
      case round =>
        obtain ⟨i, hi, rfl, HBi, HNi⟩ := hrel
        by_cases hik : i < k
        · have d0 := HLL.out.later HBi.out i (by omega)
          have d1 := HLL.out.later HBi.out k hlk
          rw [HX.out] at d1
          obtain ⟨y, hy⟩ : ∃ y, iat l i = y := ⟨_, rfl⟩
          rw [hy] at d0
          have i1 : (i : Int) < l.length := by omega
          have i2 : (0 : Int) ≤ i := by omega
          have i3 : (k : Int) < l.length := by omega
          have i4 : (0 : Int) ≤ k := by omega
          clear cl
          by_cases hyx : y = x
          · subst hyx
            have hE : Hid (errL l n = 18) := by
              have h2 : chk l n k = 18 := by rw [hchk.out, hbt.out, if_pos rfl, metB_yes hik (by rw [hy, HX.out]), if_pos rfl]
              show _ = _
              unfold errL; rw [errN_first HC.out (by rw [h2]; omega) _ hlk, h2]
            go_wp2_with fail
            go_quiet (fail)
            go_wp2
            go_ret
            exact ⟨retI (by rw [hE.out]), Below.trans HB.out (below_drewN (HBi.out.mono HB.out.size))⟩
          · have hyb : (y == x) = false := by simpa using hyx
            go_wp2_with fail
            go_quiet (fail)
            go_wp2
            go_roundw
            case rel => exact ⟨i + 1, by omega, by go_num, below_drewN HBi.out, more HNi.out (by rw [hy]; exact hyx)⟩
            case measure => simp [intOf]; omega
        · have hin : i = k := by omega
          subst hin
          have h2 : Hid (chk l n i = 0) := by show _ = _; rw [hchk.out, hbt.out, if_pos rfl, metB_of_no (by rw [HX.out]; exact HNi.out)]; rfl
          go_wp2
          go_roundw
          case rel => exact ⟨i + 1, by omega, by go_num, Below.trans HB.out (HBi.out.mono HB.out.size), more HC.out h2.out⟩
          case measure => simp [intOf]; omega
    · have hin : k = l.length := by omega
      subst hin
      have hE : Hid (errL l n = 0) := errN_zero _ HC.out
      go_wp2
      go_ret
      exact ⟨retI (by rw [hE.out]), HB.out⟩
set_option maxRecDepth 100000 in
set_option maxHeartbeats 4000000 in
theorem copy53 (n : Int) (p : Option Addr) (es : List Pt) (cp : Nat) (w : World) (hnil : p = none → cp = 0) (hl : es.length ≤ 90000) (h : Has w p es) : Calls Try.prog 47 #[nv n p es.length cp] w fun e w' => ∃ q c, e = .returned (nv n q es.length c) ∧ Owns w' w.heap.size (.slice q es.length c) es ∧ Below w.heap.size w w' := by
  obtain ⟨W, hW, hb, a0, b0⟩ := two_nets w n p es.length cp
  have HB := hide hb
  have HA := hide a0
  have HN := hide b0
  have hws : w.heap.size + 1 < W.heap.size := block_lt_of_cell b0.1
  obtain ⟨v1, D1, e1, o1, gr1⟩ := append_prs (w := W.drew) (base := W.heap.size) (v := .slice none 0 0) (l := []) (Owns.nil _ _) p cp es hnil ((h.later hb).later (below_drew _)) (by simp) (by simp; omega)
  have hb1 : Below W.heap.size W D1 := below_grown (w := W.drew) (below_drew _) (Owns.nil W.drew W.heap.size) (Nat.le_refl _) (by simp) gr1
  rw [List.nil_append] at o1
  obtain ⟨q, c, rfl, _, _, _, _⟩ := o1.form
  have HO1 := hide o1
  have HB1 := hide (below_step hb hb1)
  have HN1 := hide (b0.later hb1)
  have HA1 := hide (a0.later hb1)
  clear hb h o1 gr1 hb1
  obtain ⟨q0, q1, _, _⟩ := a0
  obtain ⟨r0, r1, r2, r3⟩ := HN1.out
  clear b0
  go_enter Try.func47, Try.ntmps47
  go_wp2_with fail
  rw [← hW]
  clear hW
  go_region_held3 (fun W => W.cell? ⟨w.heap.size, 0, none⟩ = some (.int .i64 n) ∧ W.cell? ⟨w.heap.size, 1, none⟩ = some (.slice p es.length cp))
    (first | exact ⟨HA.out.1, HA.out.2.1⟩ | exact ⟨HA1.out.1, HA1.out.2.1⟩ | exact ⟨other2 HA1.out.1 (by simp), other2 HA1.out.2.1 (by simp)⟩)
    (first | (refine step_run_append (by rfl) (.const (.slice none 0 0)) (.tmp 6) 22 (by rfl) 22 (by rfl) (.slice none 0 0) (.slice p es.length cp) (.slice q es.length c) D1 (by rfl) (by rfl) ?_ ?_; with_reducible exact e1))
  rename_i hHeld
  clear hHeld
  obtain ⟨V, hV⟩ : ∃ V, V = (D1.setCell ⟨w.heap.size + 1, 0, none⟩ (.int .i64 n)).setCell ⟨w.heap.size + 1, 1, none⟩ (.slice q es.length c) := ⟨_, rfl⟩
  have kV : NOwn V (w.heap.size + 1) n q es.length c := by rw [hV]; exact HN1.out.set _ _ _ _
  have bV : Below w.heap.size w V := by rw [hV]; exact (HB1.out.setCell (by simp) _).setCell (by simp) _
  have oV : Owns V w.heap.size (.slice q es.length c) es := by rw [hV]; exact (owns_other (owns_other HO1.out hws _) hws _).base HB.out.size
  rw [← hV]
  go_wp2_with fail
  exact bodyPost_ret (ret_net1 Try.results47 rfl kV) rfl ⟨q, c, rfl, oV, bV⟩
/-- One edge behind the others, in a list of the call's own. -/
theorem app1 {w : World} {B : Nat} {v : Value} {l : List Pt} (o : Owns w B v l) (x y : Int) (hB : B ≤ w.heap.size) (hl : l.length ≤ 90000) : ∃ v' w', (Builtin.append_ #[22, 22] 22 #[v, .slice (some ⟨w.heap.size, 0, none⟩) 1 1]).run Try.prog (w.alloc (.cells #[.int .i64 x, .int .i64 y] 57)) = .ok v' w' ∧ Owns w' B v' (l ++ [⟨x, y⟩]) ∧ (w.alloc (.cells #[.int .i64 x, .int .i64 y] 57)).grownBy w' v.ownBlock ∧ Below B w w' := by
  have o' : Owns (w.alloc (.cells #[.int .i64 x, .int .i64 y] 57)) B v l := o.later (by go_grown)
  have hL : Lies (w.alloc (.cells #[.int .i64 x, .int .i64 y] 57)) w.heap.size 0 [⟨x, y⟩] := by
    intro j hj
    simp at hj
    subst hj
    exact ⟨by simp only [at', List.getD_cons_zero]; go_cell, by simp only [at', List.getD_cons_zero]; go_cell⟩
  obtain ⟨v', w', e1, o1, gr⟩ := append_prs o' (some ⟨w.heap.size, 0, none⟩) 1 [⟨x, y⟩] (fun h => by cases h) (Or.inr ⟨_, _, rfl, hL⟩) (by simp; omega) (by simp; omega)
  exact ⟨v', w', e1, o1, gr, below_grown (w := w.alloc (.cells #[.int .i64 x, .int .i64 y] 57)) ((Below.refl _ _).alloc hB _) o' (Nat.le_refl _) (by simp; omega) gr⟩
theorem wp_append {P : Program} {w : World} {o : Oper} {a : Act} {K : Act → World → Prop} {Q : Exit → Act → World → Prop} (s x : Operand) (t : TypeId)
    (ho : o.op = .call { callee := .builtin .append, args := #[s, x], argTypes := #[t, t] }) (ty : TypeId) (hty : o.type = ty) (vs vx v' : Value) (w' : World) (hs : a.eval s = vs) (hx : a.eval x = vx)
    (hr : (Builtin.append_ #[t, t] ty #[vs, vx]).run P w = .ok v' w') (h : K (a.put o.dst v') w') : Oper.wp P o a w K Q := by
  subst hty
  unfold Oper.wp execOp
  simp only [ho, resolve, invoke, builtin, Sem.run_bind, Sem.run_pure, Result.andThen_ok, List.map_toArray, List.map_cons, List.map_nil, hs, hx, hr]
  exact h
theorem nown_set1 {W : World} {g : Nat} {n : Int} {p : Option Addr} {l c : Nat} (h : NOwn W g n p l c) (p' : Option Addr) (l' c' : Nat) : NOwn (W.setCell ⟨g, 1, none⟩ (.slice p' l' c')) g n p' l' c' := by
  obtain ⟨q0, q1, q2, q3⟩ := h
  refine ⟨?_, ?_, ?_, ?_⟩
  all_goals go_cell
theorem nown_below {W W' : World} {B g : Nat} {n : Int} {p : Option Addr} {l c : Nat} (h : NOwn W g n p l c) (hb : Below B W W') (hg : g < B) : NOwn W' g n p l c := by
  obtain ⟨q0, q1, q2, q3⟩ := h
  exact ⟨(hb.cell (p := ⟨g, 0, none⟩) hg).trans q0, (hb.cell (p := ⟨g, 1, none⟩) hg).trans q1, (hb.frozen (p := ⟨g, 0, none⟩) hg).trans q2, (hb.frozen (p := ⟨g, 1, none⟩) hg).trans q3⟩
end Go.Proofs.Ytaebbfilgfkckaa
