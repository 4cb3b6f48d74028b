/- The document's stack, in every world. -/
import Derived.Test.YtncnghbkdbhpbaaF1
import Derived.Test.YtncnghbkdbhpbaaE11
namespace Go.Proofs.Ytncnghbkdbhpbaa
open Go.RowKit Go.Sort
open Go

theorem app3 {w : World} {B : Nat} {v : Value} {l : List Pt} (o : Owns w B v l) (a b c d e f : Int) (hB : B ≤ w.heap.size) (hl : l.length ≤ 90000) : ∃ v' w', (Builtin.append_ #[26, 26] 26 #[v, .slice (some ⟨w.heap.size, 0, none⟩) 3 3]).run Try.prog (w.alloc (.cells #[.int .i64 a, .int .i64 b, .int .i64 c, .int .i64 d, .int .i64 e, .int .i64 f] 48)) = .ok v' w' ∧ Owns w' B v' (l ++ [⟨a, b⟩, ⟨c, d⟩, ⟨e, f⟩]) ∧ Below B w w' ∧ Keeps w w' ∧ w.heap.size ≤ w'.heap.size := by
  have o' : Owns (w.alloc (.cells #[.int .i64 a, .int .i64 b, .int .i64 c, .int .i64 d, .int .i64 e, .int .i64 f] 48)) B v l := o.later (by go_grown)
  have hL : Lies (w.alloc (.cells #[.int .i64 a, .int .i64 b, .int .i64 c, .int .i64 d, .int .i64 e, .int .i64 f] 48)) w.heap.size 0 [⟨a, b⟩, ⟨c, d⟩, ⟨e, f⟩] := by
    intro j hj
    have h3 : j = 0 ∨ j = 1 ∨ j = 2 := by simp at hj; omega
    rcases h3 with rfl | rfl | rfl
    all_goals exact ⟨by rw [lit_cell _ _ _ _ _ rfl]; rfl, by rw [lit_cell _ _ _ _ _ rfl]; rfl⟩
  obtain ⟨v', w', e1, o1, gr⟩ := append_prs o' (some ⟨w.heap.size, 0, none⟩) 3 [⟨a, b⟩, ⟨c, d⟩, ⟨e, f⟩] (fun h => by cases h) (Or.inr ⟨_, _, rfl, hL⟩) (by simp; omega) (by simp; omega)
  have hk : Keeps w (w.alloc (.cells #[.int .i64 a, .int .i64 b, .int .i64 c, .int .i64 d, .int .i64 e, .int .i64 f] 48)) := Keeps.below (by go_grown)
  refine ⟨v', w', e1, o1, below_grown (w := w.alloc (.cells #[.int .i64 a, .int .i64 b, .int .i64 c, .int .i64 d, .int .i64 e, .int .i64 f] 48)) (by go_grown) o' (Nat.le_refl _) (by simp; omega) gr, hk.trans (keeps_grown o' gr), ?_⟩
  have := gr.size
  simp at this
  omega
theorem row_tri {w : World} {g i base e size n : Nat} {cur : Array Value} {v : Value} {xs : List Value} (o : w.ownsRow base e size v n xs) (hg : w.heap[g]? = some (.cells cur 67 (0, 0))) (he : e ≠ 67) (u : Value) : (w.setCell ⟨g, i, none⟩ u).ownsRow base e size v n xs := ownsRow_setCell_other (a := ⟨g, i, none⟩) o (row_apart hg o he) u
theorem row_tri3 {w : World} {g i1 i2 i3 base e size n : Nat} {cur : Array Value} {v : Value} {xs : List Value} (o : w.ownsRow base e size v n xs) (hg : w.heap[g]? = some (.cells cur 67 (0, 0))) (he : e ≠ 67) (u1 u2 u3 : Value) : (((w.setCell ⟨g, i1, none⟩ u1).setCell ⟨g, i2, none⟩ u2).setCell ⟨g, i3, none⟩ u3).ownsRow base e size v n xs := by
  obtain ⟨c1, h1⟩ := tri_set (i := i1) hg u1
  obtain ⟨c2, h2⟩ := tri_set (i := i2) h1 u2
  exact row_tri (row_tri (row_tri o hg he u1) h1 he u2) h2 he u3
theorem row_grownT {w w' : World} {B2 base e size n : Nat} {v u : Value} {xs : List Value} {ts : List Tr} (h : w.ownsRow base e size v n xs) (o : TOwns w B2 u ts) (hg : w.grownBy w' u.ownBlock) (he : e ≠ 67) : w'.ownsRow base e size v n xs := by
  refine World.ownsRow.kept h hg ?_
  by_cases hp : v.ownBlock = none
  · exact Or.inl hp
  · refine Or.inr fun hc => ?_
    obtain ⟨_, ⟨k1, _⟩ | ⟨g2, c2, cur2, k1, _, k2, _⟩⟩ := h
    · rw [k1] at hp; simp [Value.ownBlock] at hp
    · rw [k1] at hc
      exact row_apart k2 o (fun h => he h.symm) hc.symm
theorem box_cell {w : World} {k i : Nat} {arr : Array Value} {ty : TypeId} (h : w.heap[k]? = some (.cells arr ty (0, 0))) : w.cell? ⟨k, i, none⟩ = arr[i]? := by
  unfold World.cell?
  rw [h]
  simp
theorem ring3 : ringL 0 3 = [⟨0, 1⟩, ⟨1, 2⟩, ⟨2, 0⟩] := by decide
set_option maxRecDepth 100000 in
set_option maxHeartbeats 4000000 in
theorem stack28big (n seed : Int) (w : World) (h : 1024 < n) : Calls Try.prog 28 #[.int .i64 n, .int .u64 seed] w fun e w' => Made w 0 [] 3 e w' := by
  go_enter Try.func28, Try.ntmps28
  go_wp2
  refine bodyPost_ret (ret_net Try.results28 rfl rfl ?kk1) rfl ⟨?bb1, none, 0, rfl, Owns.nil _ _⟩
  · exact ⟨by go_cell, by go_cell, by go_cell, by go_cell⟩
  · go_grown
set_option maxRecDepth 100000 in
set_option maxHeartbeats 8000000 in
theorem stack28ok (n : Nat) (seed : Int) (w : World) (h0 : 3 ≤ n) (h1 : n ≤ 1024) : Calls Try.prog 28 #[.int .i64 n, .int .u64 seed] w fun e w' => (madeO n (stk seed (n - 3)).es).made w e w' := by
  obtain ⟨W, hW, hb, hN, hsz⟩ := one_box w
  have HB := hide hb
  have HN := hide hN
  have hlt0 : w.heap.size < W.heap.size := by rw [hsz]; omega
  clear hb hN hsz
  have R := hide (ring23 (.slice none 0 0) [] 0 3 W.heap.size W (Owns.nil _ _) (Nat.le_refl _) (by simp) (by omega) (by omega) (by omega))
  go_enter Try.func28, Try.ntmps28
  go_wp2_with fail
  rw [← hW]
  clear hW
  refine R.out.mono ?_
  rintro e w1 ⟨v0, rfl, ho, hb1⟩
  rw [List.nil_append, ring3] at ho
  obtain ⟨Y, hY⟩ : ∃ Y, Y = w1.alloc (.cells #[.int .i64 0, .int .i64 1, .int .i64 2, .int .i64 0, .int .i64 2, .int .i64 1] 67) := ⟨_, rfl⟩
  have hbY : Below w1.heap.size w1 Y := by rw [hY]; go_grown
  have HOY : Hid (Owns Y W.heap.size v0 (stk seed 0).es) := ho.later hbY
  have HBY : Hid (Below W.heap.size W Y) := below_step hb1 hbY
  have HTY : Hid (TOwns Y W.heap.size (.slice (some ⟨w1.heap.size, 0, none⟩) 2 2) (stk seed 0).ts) := by
    show World.ownsRow _ _ _ _ _ _ _
    rw [hY]
    have := World.ownsRow_lit (base := W.heap.size) (e := 67) (size := 3) w1 #[.int .i64 0, .int .i64 1, .int .i64 2, .int .i64 0, .int .i64 2, .int .i64 1] 2 hb1.size (by unfold maxLen; omega) rfl
    simp at this
    exact this
  clear ho hb1 hbY
  go_wp2_with fail
  rw [← hY]
  clear hY
  go_loopw [6, 7, 8, 9] (fun l s g t wr => ∃ j : Nat, j ≤ n - 3 ∧ t = .int .i64 (3 + j) ∧ g = .int .u64 (stk seed j).st ∧ Hid (Below W.heap.size W wr) ∧ Hid (Owns wr W.heap.size l (stk seed j).es) ∧ Hid (TOwns wr W.heap.size s (stk seed j).ts)) (fun _ _ _ t _ => n - (intOf t).toNat)
  case atStart => exact ⟨0, by omega, by go_num, rfl, HBY.out, HOY.out, HTY.out⟩
  case round =>
    obtain ⟨j, hj, rfl, rfl, HBr, HOr, HTr⟩ := hrel
    by_cases hlt : j < n - 3
    · obtain ⟨HL1, HL2⟩ := stk_length seed j
      obtain ⟨S, hS⟩ : ∃ S, stk seed j = S := ⟨_, rfl⟩
      rw [hS] at HOr HTr HL1 HL2 ⊢
      have L1 := hide HL1
      have L2 := hide HL2
      clear HL1 HL2
      obtain ⟨g, c, rfl, hgB, _⟩ := HTr.out.form (by rw [L1.out]; omega)
      have D0 := hide (draw46 S.st S.ts.length wr (by rw [L1.out]; omega) (by rw [L1.out]; omega))
      obtain ⟨d, hd⟩ : ∃ d, drawS (nextS S.st) S.ts.length = d := ⟨_, rfl⟩
      have hdl : d < S.ts.length := by rw [← hd]; exact drawS_lt _ _ (by rw [L1.out]; omega)
      obtain ⟨x, hx⟩ : ∃ x, tat S.ts d = x := ⟨_, rfl⟩
      have HE : Hid (stk seed (j + 1) = ⟨nextS S.st, S.ts.set d ⟨x.a, x.b, 3 + j⟩ ++ [⟨x.b, x.c, 3 + j⟩, ⟨x.c, x.a, 3 + j⟩], S.es ++ [⟨3 + j, x.a⟩, ⟨3 + j, x.b⟩, ⟨3 + j, x.c⟩]⟩) := by
        show _ = _
        rw [← hx, ← hd, ← hS]
        simp only [stk, List.append_assoc, List.cons_append, List.nil_append]
      rw [hd] at D0
      have HX := hide hx
      clear hS hd hx
      go_wp2_with fail
      refine D0.out.mono ?_
      rintro e X1 ⟨rfl, hb1⟩
      have HB1 := hide (below_step HBr.out hb1)
      have HO1 := hide (HOr.out.later hb1)
      have HT1 := hide (HTr.out.later hb1)
      clear hb1 D0
      obtain ⟨c0, c1, c2, _, _, _⟩ := HT1.out.at d hdl
      rw [HX.out] at c0 c1 c2
      have i1 : (d : Int) < S.ts.length := by omega
      have i2 : (0 : Int) ≤ d := by omega
      obtain ⟨g', c', hgc, _, cur1, hcur1⟩ := HT1.out.form (by rw [L1.out]; omega)
      simp only [Value.slice.injEq, Option.some.injEq, Addr.mk.injEq, true_and, and_true] at hgc
      obtain ⟨rfl, rfl⟩ := hgc
      have hgl : g < X1.heap.size := (Array.getElem?_eq_some_iff.1 hcur1).1
      obtain ⟨X2, hX2⟩ : ∃ X2, X2 = X1.alloc (.cells #[.int .i64 x.a, .int .i64 x.b, .int .i64 x.c] 67) := ⟨_, rfl⟩
      have hbX2 : Below X1.heap.size X1 X2 := by rw [hX2]; go_grown
      have hbox : X2.heap[X1.heap.size]? = some (.cells #[.int .i64 x.a, .int .i64 x.b, .int .i64 x.c] 67 (0, 0)) := by rw [hX2]; exact heap_alloc_new _ _
      have hX2s : X2.heap.size = X1.heap.size + 1 := by rw [hX2]; simp
      obtain ⟨v1, D, e1, o1, b1, k1, z1⟩ := app3 (HO1.out.later hbX2) (3 + j) x.a (3 + j) x.b (3 + j) x.c (by have := HB1.out.size; have := hbX2.size; omega) (by rw [L2.out]; omega)
      have hboxD := k1 _ _ _ _ hbox (by decide) (by decide)
      have bc0 : D.cell? ⟨X1.heap.size, 0, none⟩ = some (.int .i64 x.a) := box_cell hboxD
      have bc1 : D.cell? ⟨X1.heap.size, 1, none⟩ = some (.int .i64 x.b) := box_cell hboxD
      have bc2 : D.cell? ⟨X1.heap.size, 2, none⟩ = some (.int .i64 x.c) := box_cell hboxD
      have HTD : Hid (TOwns D W.heap.size (.slice (some ⟨g, 0, none⟩) S.ts.length c) S.ts) := Keeps.row k1 (HT1.out.later hbX2) (by decide) (by decide)
      have HBD : Hid (Below W.heap.size W D) := Below.trans (Below.trans HB1.out (hbX2.mono HB1.out.size)) b1
      obtain ⟨t0, t1, t2, f0, f1, f2⟩ := HTD.out.at d hdl
      obtain ⟨g', c', hgc, _, cur, hcur⟩ := HTD.out.form (by rw [L1.out]; omega)
      simp only [Value.slice.injEq, Option.some.injEq, Addr.mk.injEq, true_and, and_true] at hgc
      obtain ⟨rfl, rfl⟩ := hgc
      have HROW := hide (HTD.out.set' d x.a x.b (3 + j))
      have HOD := hide (row_tri3 (i1 := d * 3) (i2 := d * 3 + 1) (i3 := d * 3 + 2) o1 hcur (by decide) (.int .i64 x.a) (.int .i64 x.b) (.int .i64 (3 + j)))
      have hne : X1.heap.size ≠ g := by omega
      have hne2 : X1.heap.size < D.heap.size := by omega
      rw [hX2, World.size_alloc] at e1
      obtain ⟨i0, hi0, hz0, hz1, hz2⟩ := info_parts info67
      clear hbX2 hbox hX2s o1 b1 k1 z1 hboxD hcur hcur1 hX2
      go_wp2_with (first | (at_builtin; refine wpList_run_append rfl (.tmp 38) (.tmp 51) 26 rfl 26 rfl _ _ v1 D rfl rfl e1 ?_) | (at_builtin; refine wpList_append_own _ rfl _ _ 68 rfl W.heap.size 67 i0 (.agg #[.int .i64 0, .int .i64 0, .int .i64 0]) 3 24 Try.underlying68 hi0 hz0 hz1 hz2 rfl (by decide) _ _ _ rfl (World.ownsRow.alloc HROW.out _) ⟨D.heap.size, 0, none⟩ 2 2 [.int .i64 x.b, .int .i64 x.c, .int .i64 (3 + j), .int .i64 x.c, .int .i64 x.a, .int .i64 (3 + j)] rfl rfl ?d1 ?d2 ?d3 ?d4 ?d5 ?_))
      case d1 =>
        intro q u hq
        rw [Go.WideShapes.add_plain, lit_cell _ _ _ _ _ (by simp)]
        simpa using hq
      case d2 => intro u hu; simp at hu; rcases hu with rfl | rfl | rfl | rfl | rfl | rfl <;> rfl
      case d3 => have := L1.out; unfold maxLen; omega
      case d4 => have := L1.out; omega
      case d5 => have := HBD.out.size; simp; omega
      intro v' w5 hown' hgrow _
      have HT6 : Hid (TOwns w5 W.heap.size v' (S.ts.set d ⟨x.a, x.b, 3 + j⟩ ++ [⟨x.b, x.c, 3 + j⟩, ⟨x.c, x.a, 3 + j⟩])) := towns_more (by rw [List.length_set]; exact hown')
      have HO6 : Hid (Owns w5 W.heap.size v1 (S.es ++ [⟨3 + j, x.a⟩, ⟨3 + j, x.b⟩, ⟨3 + j, x.c⟩])) := row_grownT (World.ownsRow.alloc HOD.out _) (tri_alloc List.length_set HROW.out _) hgrow (by decide)
      have HB6 : Hid (Below W.heap.size W w5) := below_grown ((((HBD.out.setCell hgB _).setCell hgB _).setCell hgB _).alloc (by have := HBD.out.size; simp; omega) _) (World.ownsRow.alloc HROW.out _) (Nat.le_refl _) (by have := HBD.out.size; simp; omega) hgrow
      clear hown' hgrow c0 c1 c2 f0 f1 f2 t0 t1 t2 bc0 bc1 bc2 HROW HOD
      go_wp2
      go_roundw
      case rel =>
        exact ⟨j + 1, by omega, by go_num, by rw [HE.out], HB6.out, by show Owns _ _ _ _; rw [HE.out]; exact HO6.out, by show TOwns _ _ _ _; rw [HE.out]; exact HT6.out⟩
      case measure => simp [intOf]; omega
    · have hin : j = n - 3 := by omega
      subst hin
      clear HTr
      obtain ⟨p, c, rfl, hHas, _, _, _⟩ := HOr.out.form
      have M := hide (made22 (n) p ((stk seed (n - 3)).es) c wr hHas)
      clear hHas
      go_wp2_with fail
      refine M.out.mono ?_
      rintro e w1 ⟨hm, hb1⟩
      obtain ⟨N, q, len, k, err, rfl, hN1, kV, mV⟩ := end_made hlt0 (HN.out.later HBr.out) HOr.out (below_step HB.out HBr.out) hm hb1
      have KV := hide kV
      have MV := hide mV
      clear hm hb1 kV mV M
      obtain ⟨r0, r1, r2, r3⟩ := hN1
      go_wp2
      exact bodyPost_ret (ret_net Try.results28 rfl rfl KV.out) rfl MV.out
end Go.Proofs.Ytncnghbkdbhpbaa
