/- plays: Back and Copy. -/
import Derived.Test.YtgfiofogcnnkhaaRF
import Derived.Test.YtgfiofogcnnkhaaR8
import Derived.Test.YtgfiofogcnnkhaaRG
/- Copy. -/
namespace Go.Proofs.Ytgfiofogcnnkhaa
open Go.RowKit Go.Sort
open Go

theorem app_all {w : World} (t e : TypeId) (z : Value) (size bytes : Nat) (ht : Try.prog.underlying t = some (.slice e)) (hinfo : (Try.prog.info? e).map (fun i => (i.zero, i.size, i.bytes)) = some (some z, size, bytes)) (hzs : z.cells.size = size) (hsz : 0 < size) {g n c : Nat} {xs : List Value} (o : w.ownsRow 0 e size (.slice (some ⟨g, 0, none⟩) n c) n xs) (h1 : ∀ u ∈ xs, u.oneCell' = true) (hn : n ≤ 5000000) (hb : bytes ≤ 100) :
    ∃ v' D, (Builtin.append_ #[t, t] t #[.slice (some ⟨w.heap.size, 0, none⟩) 0 0, .slice (some ⟨g, 0, none⟩) n c]).run Try.prog (w.alloc (.cells #[] e)) = .ok v' D ∧ D.ownsRow w.heap.size e size v' n xs ∧ Below w.heap.size w D := by
  obtain ⟨i0, hi0, hz0, hz1, hz2⟩ := info_parts hinfo
  have hb0 : Below w.heap.size w (w.alloc (.cells #[] e)) := by go_grown
  have o0 : (w.alloc (.cells #[] e)).ownsRow w.heap.size e size (.slice (some ⟨w.heap.size, 0, none⟩) 0 0) 0 [] := ⟨by simp, Or.inr ⟨w.heap.size, 0, #[], rfl, Nat.le_refl _, (by show (w.heap.push _)[w.heap.size]? = _; rw [Array.getElem?_push, if_pos rfl]), Nat.le_refl _, Nat.zero_le _, by simp, by simp⟩⟩
  have os : (w.alloc (.cells #[] e)).ownsRow 0 e size (.slice (some ⟨g, 0, none⟩) n c) n xs := (Frame.of_below hb0 (fun _ => False)).row o (fun _ _ => id)
  obtain ⟨cur, R, hcur, _, _, hxl⟩ := row_is o
  obtain ⟨v', D, a1, a2, a3, _, _⟩ := run_append_own_at (P := Try.prog) (w.alloc (.cells #[] e)) w.heap.size t t e i0 z size bytes ht hi0 hz0 hz1 hz2 hzs hsz _ 0 [] o0 ⟨g, 0, none⟩ n c xs hxl (fun j u hj => by
    have hjl : j < xs.length := (List.getElem?_eq_some_iff.1 hj).1
    rw [Go.WideShapes.add_plain, Nat.zero_add, World.ownsRow.cellAt os j (by omega)]
    exact hj) h1 (by unfold maxLen; omega) (by have : (0 + n) * bytes ≤ 5000001 * 100 := Nat.mul_le_mul (by omega) hb; omega) hb0.size
  rw [List.nil_append, Nat.zero_add] at a2
  exact ⟨v', D, a1, a2, below_grown hb0 o0 (Nat.le_refl _) hb0.size a3⟩
theorem mcells_one : ∀ (l : List (Int × Nat)), ∀ u ∈ mcells l, u.oneCell' = true
  | [], u, h => by simp [mcells] at h
  | x :: r, u, h => by
    simp only [mcells, List.mem_cons] at h
    rcases h with rfl | rfl | h
    · rfl
    · rfl
    · exact mcells_one r u h
/-- A clone of a row. -/
def ClPost (e size n : Nat) (xs : List Value) (w : World) (en : Ending) (w' : World) : Prop := ∃ v, en = .returned v ∧ w'.ownsRow w.heap.size e size v n xs ∧ Below w.heap.size w w'
set_option maxRecDepth 100000 in
set_option maxHeartbeats 8000000 in
theorem clone68 (v : Value) (n : Nat) (xs : List Value) (w : World) (o : w.ownsRow 0 76 3 v n xs) (h1 : ∀ u ∈ xs, u.oneCell' = true) (hn : n ≤ 5000000) : Calls Try.prog 68 #[v] w (ClPost 76 3 n xs w) := by
  obtain ⟨p, c, rfl, _⟩ := row_form o
  have hq := Lib.run_eql_slice_nil (P := Try.prog) w 77 76 p n c 0 0 Try.underlying77
  cases p with
  | none =>
    have hx : n = 0 ∧ xs = [] ∧ c = 0 := by
      obtain ⟨h0, ⟨k1, k2⟩ | ⟨g2, c2, cur2, k1, _⟩⟩ := o
      · simp only [Value.slice.injEq, true_and] at k1
        exact ⟨k1.1, by rw [k1.1] at h0; exact List.length_eq_zero_iff.1 (by simpa using h0), k1.2⟩
      · simp at k1
    obtain ⟨rfl, rfl, rfl⟩ := hx
    clear o h1 hn
    go_enter Try.func68, Try.ntmps68
    go_wp2
    go_ret
    exact ⟨_, rfl, World.ownsRow_nil _ _ _ _, Below.refl _ _⟩
  | some ad =>
    obtain ⟨g, hg⟩ : ∃ g, ad = ⟨g, 0, none⟩ := by
      obtain ⟨h0, ⟨k1, k2⟩ | ⟨g2, c2, cur2, k1, _⟩⟩ := o
      · simp at k1
      · simp only [Value.slice.injEq, Option.some.injEq] at k1
        exact ⟨g2, k1.1⟩
    subst hg
    obtain ⟨v1, D, ea, o1, hb⟩ := app_all 77 76 (.agg #[.int .i64 0, .int .i64 0, .int .i64 0]) 3 24 Try.underlying77 info76 rfl (by decide) o h1 hn (by decide)
    have HB := hide hb
    have HO := hide o1
    clear o h1 o1 hb
    go_enter Try.func68, Try.ntmps68
    go_wp2_with (at_builtin; refine wpList_run_append rfl (.tmp 5) (.tmp 6) 77 rfl 77 rfl _ _ _ D rfl rfl ea ?_)
    go_ret
    exact ⟨_, rfl, HO.out, HB.out⟩
set_option maxRecDepth 100000 in
set_option maxHeartbeats 8000000 in
theorem clone69 (v : Value) (n : Nat) (xs : List Value) (w : World) (o : w.ownsRow 0 89 2 v n xs) (h1 : ∀ u ∈ xs, u.oneCell' = true) (hn : n ≤ 5000000) : Calls Try.prog 69 #[v] w (ClPost 89 2 n xs w) := by
  obtain ⟨p, c, rfl, _⟩ := row_form o
  have hq := Lib.run_eql_slice_nil (P := Try.prog) w 78 89 p n c 0 0 Try.underlying78
  cases p with
  | none =>
    have hx : n = 0 ∧ xs = [] ∧ c = 0 := by
      obtain ⟨h0, ⟨k1, k2⟩ | ⟨g2, c2, cur2, k1, _⟩⟩ := o
      · simp only [Value.slice.injEq, true_and] at k1
        exact ⟨k1.1, by rw [k1.1] at h0; exact List.length_eq_zero_iff.1 (by simpa using h0), k1.2⟩
      · simp at k1
    obtain ⟨rfl, rfl, rfl⟩ := hx
    clear o h1 hn
    go_enter Try.func69, Try.ntmps69
    go_wp2
    go_ret
    exact ⟨_, rfl, World.ownsRow_nil _ _ _ _, Below.refl _ _⟩
  | some ad =>
    obtain ⟨g, hg⟩ : ∃ g, ad = ⟨g, 0, none⟩ := by
      obtain ⟨h0, ⟨k1, k2⟩ | ⟨g2, c2, cur2, k1, _⟩⟩ := o
      · simp at k1
      · simp only [Value.slice.injEq, Option.some.injEq] at k1
        exact ⟨g2, k1.1⟩
    subst hg
    obtain ⟨v1, D, ea, o1, hb⟩ := app_all 78 89 (.agg #[.int .i64 0, .int .i64 0]) 2 16 Try.underlying78 info89 rfl (by decide) o h1 hn (by decide)
    have HB := hide hb
    have HO := hide o1
    clear o h1 o1 hb
    go_enter Try.func69, Try.ntmps69
    go_wp2_with (at_builtin; refine wpList_run_append rfl (.tmp 5) (.tmp 6) 78 rfl 78 rfl _ _ _ D rfl rfl ea ?_)
    go_ret
    exact ⟨_, rfl, HO.out, HB.out⟩
set_option maxRecDepth 100000 in
set_option maxHeartbeats 8000000 in
theorem clone70 (v : Value) (n : Nat) (xs : List Value) (w : World) (o : w.ownsRow 0 93 1 v n xs) (h1 : ∀ u ∈ xs, u.oneCell' = true) (hn : n ≤ 5000000) : Calls Try.prog 70 #[v] w (ClPost 93 1 n xs w) := by
  obtain ⟨p, c, rfl, _⟩ := row_form o
  have hq := Lib.run_eql_slice_nil (P := Try.prog) w 79 93 p n c 0 0 Try.underlying79
  cases p with
  | none =>
    have hx : n = 0 ∧ xs = [] ∧ c = 0 := by
      obtain ⟨h0, ⟨k1, k2⟩ | ⟨g2, c2, cur2, k1, _⟩⟩ := o
      · simp only [Value.slice.injEq, true_and] at k1
        exact ⟨k1.1, by rw [k1.1] at h0; exact List.length_eq_zero_iff.1 (by simpa using h0), k1.2⟩
      · simp at k1
    obtain ⟨rfl, rfl, rfl⟩ := hx
    clear o h1 hn
    go_enter Try.func70, Try.ntmps70
    go_wp2
    go_ret
    exact ⟨_, rfl, World.ownsRow_nil _ _ _ _, Below.refl _ _⟩
  | some ad =>
    obtain ⟨g, hg⟩ : ∃ g, ad = ⟨g, 0, none⟩ := by
      obtain ⟨h0, ⟨k1, k2⟩ | ⟨g2, c2, cur2, k1, _⟩⟩ := o
      · simp at k1
      · simp only [Value.slice.injEq, Option.some.injEq] at k1
        exact ⟨g2, k1.1⟩
    subst hg
    obtain ⟨v1, D, ea, o1, hb⟩ := app_all 79 93 .nilFunc 1 8 Try.underlying79 info93 rfl (by decide) o h1 hn (by decide)
    have HB := hide hb
    have HO := hide o1
    clear o h1 o1 hb
    go_enter Try.func70, Try.ntmps70
    go_wp2_with (at_builtin; refine wpList_run_append rfl (.tmp 5) (.tmp 6) 79 rfl 79 rfl _ _ _ D rfl rfl ea ?_)
    go_ret
    exact ⟨_, rfl, HO.out, HB.out⟩

/-- What Copy answers. -/
def CopyPost (w : World) (b : Nat) (s : GV) (G : Gr) (e : Ending) (w' : World) : Prop := ∃ b' s', e = .returned (ptr b') ∧ GAt w' b' s' G ∧ s'.t = (fun k => s.t k ∨ GB b s k) ∧ Below w.heap.size w w' ∧ ∀ k, GB b' s' k → w.heap.size ≤ k
set_option maxRecDepth 100000 in
set_option maxHeartbeats 16000000 in
theorem copy29 (b : Nat) (s : GV) (G : Gr) (w : World) (h : GAt w b s G) (hd : G.dn.length ≤ 5000000) (hm : G.ms.length ≤ 64) (hn : G.ns.length ≤ 5000) (he : G.es.length ≤ 5000) : Calls Try.prog 29 #[ptr b] w (CopyPost w b s G) := by
  have A := none50 b s G w h
  obtain ⟨pn, cn, pe, ce, pm, cm, pd, cd, t0, hs, _⟩ := h.form
  obtain ⟨q0, q1, q2, q3, q4, q5, q6, q7⟩ := h.cells
  rw [hs] at q1 q2 q5 q7
  simp only at q1 q2 q5 q7
  have HC : Hid (∀ U, Below w.heap.size w U → U.cell? ⟨b, 1, none⟩ = some (.slice pn G.ns.length cn) ∧ U.cell? ⟨b, 2, none⟩ = some (.slice pe G.es.length ce) ∧ U.cell? ⟨b, 5, none⟩ = some (.slice pm G.ms.length cm) ∧ U.cell? ⟨b, 7, none⟩ = some (.slice pd G.dn.length cd)) := fun U hU => ⟨later hU q1, later hU q2, later hU q5, later hU q7⟩
  have hz : pn = none → cn = 0 := fun hp => by
    have o := h.nod
    rw [hs, hp] at o
    obtain ⟨_, ⟨k1, _⟩ | ⟨g2, c2, cur2, k1, _⟩⟩ := o
    · simp only [Value.slice.injEq] at k1; exact k1.2.2
    · simp at k1
  have C1 : Hid (∀ U, Below w.heap.size w U → Calls Try.prog 62 #[.slice pn G.ns.length cn] U fun e w' => ∃ v, e = .returned v ∧ IOwns w' U.heap.size v G.ns ∧ Below U.heap.size U w') := fun U hU => by
    have o := (h.later hU).nod
    rw [hs] at o
    exact clone61 pn G.ns cn U (own_ihas o) hz (by omega)
  have C2 : Hid (∀ U, Below w.heap.size w U → Calls Try.prog 68 #[.slice pe G.es.length ce] U (ClPost 76 3 G.es.length (ecells G.es) U)) := fun U hU => by
    have o := (h.later hU).edg
    rw [hs] at o
    exact clone68 _ _ _ U o (ecells_one _) (by omega)
  have C3 : Hid (∀ U, Below w.heap.size w U → Calls Try.prog 69 #[.slice pm G.ms.length cm] U (ClPost 89 2 G.ms.length (mcells G.ms) U)) := fun U hU => by
    have o := (h.later hU).mks
    rw [hs] at o
    exact clone69 _ _ _ U o (mcells_one _) (by omega)
  obtain ⟨fs, od, hua, tb⟩ := h.don
  have C4 : Hid (∀ U, Below w.heap.size w U → Calls Try.prog 70 #[.slice pd G.dn.length cd] U (ClPost 93 1 G.dn.length fs U)) := fun U hU => by
    have o := (Frame.of_below hU (fun _ => False)).row od (fun _ _ => id)
    rw [hs] at o
    exact clone70 _ _ _ U o hua.one hd
  have H := hide h
  have HUA := hide (And.intro hua tb)
  obtain ⟨U0, hU0⟩ : ∃ U, U = w.alloc (.cells #[.bool true, .slice pn G.ns.length cn, .slice pe G.es.length ce, .int .i64 G.nn, .int .i64 G.ne, .slice pm G.ms.length cm, .int .i64 G.lm, .slice pd G.dn.length cd] 81) := ⟨_, rfl⟩
  have HB0 : Hid (Below w.heap.size w U0) := by show Below _ _ _; rw [hU0]; go_grown
  have HX0 : Hid (U0.ownsRow w.heap.size 81 8 (.slice (some ⟨w.heap.size, 0, none⟩) 1 1) 1 [.bool true, .slice pn G.ns.length cn, .slice pe G.es.length ce, .int .i64 G.nn, .int .i64 G.ne, .slice pm G.ms.length cm, .int .i64 G.lm, .slice pd G.dn.length cd]) := by
    show World.ownsRow _ _ _ _ _ _ _
    rw [hU0]
    exact ⟨rfl, Or.inr ⟨_, 1, _, rfl, Nat.le_refl _, heap_alloc_new _ _, by omega, by unfold maxLen; omega, rfl, rfl⟩⟩
  have hb := h.lt
  have hbn : b ≠ w.heap.size := by omega
  clear h hs od hua tb hz
  go_enter Try.func29, Try.ntmps29
  go_upto_region 4 with (go_at_call 50; refine A.mono ?_; rintro e w' ⟨rfl, hw⟩; have hw2 := hw.symm; subst hw2)
  rw [← hU0]
  clear hU0 q0 q1 q2 q3 q4 q5 q6 q7 A
  obtain ⟨k3, hk3⟩ : ∃ k, w.heap.size = k := ⟨_, rfl⟩
  rw [hk3]
  rw [hk3] at HX0
  have HK := hide hk3
  clear hk3 hbn
  have y1 := (HC.out _ HB0.out).1
  go_upto_region 5 with (go_at_call 62; refine Calls.mono (C1.out _ HB0.out) ?_; rintro e w1 ⟨v1, rfl, o1, hb1⟩; obtain ⟨pp1, cc1, hv1, _⟩ := row_form o1; subst hv1; have x1 := (Frame.of_below hb1 (fun _ => False)).row HX0.out (fun _ _ => id); have z1 := World.ownsRow.cellAt x1 1 (by omega); have zf1 := World.ownsRow.frozenAt x1 1)
  obtain ⟨U1, hU1⟩ : ∃ U, U = w1.setCell ⟨k3, 1, none⟩ (.slice pp1 G.ns.length cc1) := ⟨_, rfl⟩
  have HX1 : Hid (World.ownsRow U1 k3 81 8 (.slice (some ⟨k3, 0, none⟩) 1 1) 1 [.bool true, .slice pp1 G.ns.length cc1, .slice pe G.es.length ce, .int .i64 G.nn, .int .i64 G.ne, .slice pm G.ms.length cm, .int .i64 G.lm, .slice pd G.dn.length cd]) := by show World.ownsRow _ _ _ _ _ _ _; rw [hU1, ← HK.out]; exact (World.ownsRow.stored (by have := x1; rw [← HK.out] at this; exact this) 1 _).1
  have HB1 : Hid (Below w.heap.size w U1) := by show Below _ _ _; rw [hU1]; exact (below_step HB0.out hb1).setCell (p := ⟨k3, 1, none⟩) (show w.heap.size ≤ k3 by have := HK.out; omega) _
  have hle1 : k3 ≤ U0.heap.size := by have := HB0.out.size; have := HK.out; omega
  have HR11 : Hid (IOwns U1 k3 (.slice pp1 G.ns.length cc1) G.ns) := by show World.ownsRow _ _ _ _ _ _ _; rw [hU1]; exact row_set (owns_base o1 hle1) (fun e => apart o1 x1 (by decide) e rfl) _
  rw [← hU1]
  clear hU1 x1 z1 zf1 o1 hb1 hle1 y1
  have y2 := (HC.out _ HB1.out).2.1
  go_upto_region 6 with (go_at_call 68; refine Calls.mono (C2.out _ HB1.out) ?_; rintro e w2 ⟨v2, rfl, o2, hb2⟩; obtain ⟨pp2, cc2, hv2, _⟩ := row_form o2; subst hv2; have x2 := (Frame.of_below hb2 (fun _ => False)).row HX1.out (fun _ _ => id); have z2 := World.ownsRow.cellAt x2 2 (by omega); have zf2 := World.ownsRow.frozenAt x2 2)
  obtain ⟨U2, hU2⟩ : ∃ U, U = w2.setCell ⟨k3, 2, none⟩ (.slice pp2 G.es.length cc2) := ⟨_, rfl⟩
  have HX2 : Hid (World.ownsRow U2 k3 81 8 (.slice (some ⟨k3, 0, none⟩) 1 1) 1 [.bool true, .slice pp1 G.ns.length cc1, .slice pp2 G.es.length cc2, .int .i64 G.nn, .int .i64 G.ne, .slice pm G.ms.length cm, .int .i64 G.lm, .slice pd G.dn.length cd]) := by show World.ownsRow _ _ _ _ _ _ _; rw [hU2, ← HK.out]; exact (World.ownsRow.stored (by have := x2; rw [← HK.out] at this; exact this) 2 _).1
  have HB2 : Hid (Below w.heap.size w U2) := by show Below _ _ _; rw [hU2]; exact (below_step HB1.out hb2).setCell (p := ⟨k3, 2, none⟩) (show w.heap.size ≤ k3 by have := HK.out; omega) _
  have hle2 : k3 ≤ U1.heap.size := by have := HB1.out.size; have := HK.out; omega
  have HR22 : Hid (World.ownsRow U2 k3 76 3 (.slice pp2 G.es.length cc2) G.es.length (ecells G.es)) := by show World.ownsRow _ _ _ _ _ _ _; rw [hU2]; exact row_set (owns_base o2 hle2) (fun e => apart o2 x2 (by decide) e rfl) _
  have HR12 : Hid (IOwns U2 k3 (.slice pp1 G.ns.length cc1) G.ns) := by show World.ownsRow _ _ _ _ _ _ _; rw [hU2]; have o := (Frame.of_below hb2 (fun _ => False)).row HR11.out (fun _ _ => id); exact row_set o (fun e => apart o x2 (by decide) e rfl) _
  rw [← hU2]
  clear hU2 x2 z2 zf2 o2 hb2 hle2 y2
  have y3 := (HC.out _ HB2.out).2.2.1
  go_upto_region 7 with (go_at_call 69; refine Calls.mono (C3.out _ HB2.out) ?_; rintro e w3 ⟨v3, rfl, o3, hb3⟩; obtain ⟨pp3, cc3, hv3, _⟩ := row_form o3; subst hv3; have x3 := (Frame.of_below hb3 (fun _ => False)).row HX2.out (fun _ _ => id); have z3 := World.ownsRow.cellAt x3 5 (by omega); have zf3 := World.ownsRow.frozenAt x3 5)
  obtain ⟨U3, hU3⟩ : ∃ U, U = w3.setCell ⟨k3, 5, none⟩ (.slice pp3 G.ms.length cc3) := ⟨_, rfl⟩
  have HX3 : Hid (World.ownsRow U3 k3 81 8 (.slice (some ⟨k3, 0, none⟩) 1 1) 1 [.bool true, .slice pp1 G.ns.length cc1, .slice pp2 G.es.length cc2, .int .i64 G.nn, .int .i64 G.ne, .slice pp3 G.ms.length cc3, .int .i64 G.lm, .slice pd G.dn.length cd]) := by show World.ownsRow _ _ _ _ _ _ _; rw [hU3, ← HK.out]; exact (World.ownsRow.stored (by have := x3; rw [← HK.out] at this; exact this) 5 _).1
  have HB3 : Hid (Below w.heap.size w U3) := by show Below _ _ _; rw [hU3]; exact (below_step HB2.out hb3).setCell (p := ⟨k3, 5, none⟩) (show w.heap.size ≤ k3 by have := HK.out; omega) _
  have hle3 : k3 ≤ U2.heap.size := by have := HB2.out.size; have := HK.out; omega
  have HR33 : Hid (World.ownsRow U3 k3 89 2 (.slice pp3 G.ms.length cc3) G.ms.length (mcells G.ms)) := by show World.ownsRow _ _ _ _ _ _ _; rw [hU3]; exact row_set (owns_base o3 hle3) (fun e => apart o3 x3 (by decide) e rfl) _
  have HR13 : Hid (IOwns U3 k3 (.slice pp1 G.ns.length cc1) G.ns) := by show World.ownsRow _ _ _ _ _ _ _; rw [hU3]; have o := (Frame.of_below hb3 (fun _ => False)).row HR12.out (fun _ _ => id); exact row_set o (fun e => apart o x3 (by decide) e rfl) _
  have HR23 : Hid (World.ownsRow U3 k3 76 3 (.slice pp2 G.es.length cc2) G.es.length (ecells G.es)) := by show World.ownsRow _ _ _ _ _ _ _; rw [hU3]; have o := (Frame.of_below hb3 (fun _ => False)).row HR22.out (fun _ _ => id); exact row_set o (fun e => apart o x3 (by decide) e rfl) _
  rw [← hU3]
  clear hU3 x3 z3 zf3 o3 hb3 hle3 y3
  have y4 := (HC.out _ HB3.out).2.2.2
  go_upto_region 8 with (go_at_call 70; refine Calls.mono (C4.out _ HB3.out) ?_; rintro e w4 ⟨v4, rfl, o4, hb4⟩; obtain ⟨pp4, cc4, hv4, _⟩ := row_form o4; subst hv4; have x4 := (Frame.of_below hb4 (fun _ => False)).row HX3.out (fun _ _ => id); have z4 := World.ownsRow.cellAt x4 7 (by omega); have zf4 := World.ownsRow.frozenAt x4 7)
  obtain ⟨U4, hU4⟩ : ∃ U, U = w4.setCell ⟨k3, 7, none⟩ (.slice pp4 G.dn.length cc4) := ⟨_, rfl⟩
  have HX4 : Hid (World.ownsRow U4 k3 81 8 (.slice (some ⟨k3, 0, none⟩) 1 1) 1 [.bool true, .slice pp1 G.ns.length cc1, .slice pp2 G.es.length cc2, .int .i64 G.nn, .int .i64 G.ne, .slice pp3 G.ms.length cc3, .int .i64 G.lm, .slice pp4 G.dn.length cc4]) := by show World.ownsRow _ _ _ _ _ _ _; rw [hU4, ← HK.out]; exact (World.ownsRow.stored (by have := x4; rw [← HK.out] at this; exact this) 7 _).1
  have HB4 : Hid (Below w.heap.size w U4) := by show Below _ _ _; rw [hU4]; exact (below_step HB3.out hb4).setCell (p := ⟨k3, 7, none⟩) (show w.heap.size ≤ k3 by have := HK.out; omega) _
  have hle4 : k3 ≤ U3.heap.size := by have := HB3.out.size; have := HK.out; omega
  have HR44 : Hid (World.ownsRow U4 k3 93 1 (.slice pp4 G.dn.length cc4) G.dn.length fs) := by show World.ownsRow _ _ _ _ _ _ _; rw [hU4]; exact row_set (owns_base o4 hle4) (fun e => apart o4 x4 (by decide) e rfl) _
  have HR14 : Hid (IOwns U4 k3 (.slice pp1 G.ns.length cc1) G.ns) := by show World.ownsRow _ _ _ _ _ _ _; rw [hU4]; have o := (Frame.of_below hb4 (fun _ => False)).row HR13.out (fun _ _ => id); exact row_set o (fun e => apart o x4 (by decide) e rfl) _
  have HR24 : Hid (World.ownsRow U4 k3 76 3 (.slice pp2 G.es.length cc2) G.es.length (ecells G.es)) := by show World.ownsRow _ _ _ _ _ _ _; rw [hU4]; have o := (Frame.of_below hb4 (fun _ => False)).row HR23.out (fun _ _ => id); exact row_set o (fun e => apart o x4 (by decide) e rfl) _
  have HR34 : Hid (World.ownsRow U4 k3 89 2 (.slice pp3 G.ms.length cc3) G.ms.length (mcells G.ms)) := by show World.ownsRow _ _ _ _ _ _ _; rw [hU4]; have o := (Frame.of_below hb4 (fun _ => False)).row HR33.out (fun _ _ => id); exact row_set o (fun e => apart o x4 (by decide) e rfl) _
  rw [← hU4]
  clear hU4 x4 z4 zf4 o4 hb4 hle4 y4
  have GBK : ∀ k, GB k3 ⟨.slice pp1 G.ns.length cc1, .slice pp2 G.es.length cc2, .slice pp3 G.ms.length cc3, .slice pp4 G.dn.length cc4, fun k => s.t k ∨ GB b s k⟩ k → w.heap.size ≤ k := by
    rintro k (e | e | e | e | e)
    · have := HK.out; omega
    · have := (World.ownsRow.lt HR14.out k e).1; have := HK.out; omega
    · have := (World.ownsRow.lt HR24.out k e).1; have := HK.out; omega
    · have := (World.ownsRow.lt HR34.out k e).1; have := HK.out; omega
    · have := (World.ownsRow.lt HR44.out k e).1; have := HK.out; omega
  go_wp2_with fail
  go_ret
  refine ⟨k3, ⟨.slice pp1 G.ns.length cc1, .slice pp2 G.es.length cc2, .slice pp3 G.ms.length cc3, .slice pp4 G.dn.length cc4, fun k => s.t k ∨ GB b s k⟩, rfl, ⟨owns_base HX4.out (Nat.zero_le _), owns_base HR14.out (Nat.zero_le _), owns_base HR24.out (Nat.zero_le _), owns_base HR34.out (Nat.zero_le _), fs, owns_base HR44.out (Nat.zero_le _), ?_, ?_⟩, rfl, HB4.out, ?_⟩
  · refine HUA.out.1.keep (Frame.of_below HB4.out (fun _ => False)) (fun _ _ => False.elim) ?_
    rintro k (hk | hk | hk)
    · right
      exact GBK k hk
    · exact Or.inl (Or.inr hk)
    · exact Or.inl (Or.inl hk)
  · rintro k (hk | hk)
    · exact Nat.lt_of_lt_of_le (HUA.out.2 k hk) HB4.out.size
    · exact Nat.lt_of_lt_of_le (H.out.blt hk) HB4.out.size
  · exact GBK
end Go.Proofs.Ytgfiofogcnnkhaa

/- The document's Back. -/
namespace Go.Proofs.Ytgfiofogcnnkhaa
open Go.RowKit Go.Sort
open Go

theorem mvcells_at : ∀ (l : List MV) (j : Nat) (x : MV), l[j]? = some x → (mvcells l)[j * 5]? = some (.int .i64 x.n) ∧ (mvcells l)[j * 5 + 1]? = some x.vn ∧ (mvcells l)[j * 5 + 2]? = some x.ve ∧ (mvcells l)[j * 5 + 3]? = some (.int .i64 x.a) ∧ (mvcells l)[j * 5 + 4]? = some (.int .i64 x.b)
  | [], j, x, h => by simp at h
  | y :: r, 0, x, h => by
    simp at h
    subst h
    exact ⟨rfl, rfl, rfl, rfl, rfl⟩
  | y :: r, j + 1, x, h => by
    have := mvcells_at r j x (by simpa using h)
    have e : (j + 1) * 5 = j * 5 + 1 + 1 + 1 + 1 + 1 := by omega
    rw [e]
    exact this
theorem mvcells_take : ∀ (l : List MV) (i : Nat), (mvcells l).take (i * 5) = mvcells (l.take i)
  | [], i => by simp [mvcells]
  | x :: r, 0 => by simp [mvcells]
  | x :: r, i + 1 => by
    have e : (i + 1) * 5 = i * 5 + 1 + 1 + 1 + 1 + 1 := by omega
    rw [e]
    simp only [mvcells, List.take_succ_cons, mvcells_take r i]
/-- The first mark with the number x. -/
def mxM : List (Int × Gr) → Int → Nat
  | [], _ => 0
  | m :: r, x => if m.1 = x then 0 else mxM r x + 1
def mM (M : List (Int × Gr)) (j : Nat) : Int × Gr := M.getD j (0, G0)
theorem mxM_hit : ∀ {l : List (Int × Gr)} {x : Int} {k : Nat}, k < l.length → (∀ j, j < k → (mM l j).1 ≠ x) → (mM l k).1 = x → mxM l x = k
  | [], _, _, h, _, _ => by simp at h
  | m :: r, x, 0, _, _, h => if_pos h
  | m :: r, x, k + 1, h, h1, h2 => by
    have h0 : ¬ m.1 = x := h1 0 (by omega)
    unfold mxM
    rw [if_neg h0, mxM_hit (l := r) (k := k) (by simpa using h) (fun j hj => h1 (j + 1) (by omega)) h2]
theorem mxM_none : ∀ {l : List (Int × Gr)} {x : Int}, (∀ j, j < l.length → (mM l j).1 ≠ x) → mxM l x = l.length
  | [], _, _ => rfl
  | m :: r, x, h => by
    have h0 : ¬ m.1 = x := h 0 (by simp)
    unfold mxM
    rw [if_neg h0, mxM_none (l := r) (fun j hj => h (j + 1) (by simpa using hj))]
    rfl
def rbE (M : List (Int × Gr)) (x : Int) : Int := if mxM M x < M.length then 0 else 14
def rbG (R : Gr) (M : List (Int × Gr)) (x : Int) : Gr := if mxM M x < M.length then (mM M (mxM M x)).2 else R
def rbM (M : List (Int × Gr)) (x : Int) : List (Int × Gr) := if mxM M x < M.length then M.take (mxM M x + 1) else M
theorem mM_at {M : List (Int × Gr)} {j : Nat} (h : j < M.length) : M[j]? = some (mM M j) := by
  unfold mM
  rw [List.getD_eq_getElem?_getD, List.getElem?_eq_getElem h]
  rfl
/-- A mark's place in memory. -/
theorem RAt.mark {w : World} {b : Nat} {V : RV} {G : Gr} {M : List (Int × Gr)} {L : Int} (h : RAt w b V G M L) {j : Nat} (hj : j < M.length) : ∃ g c pn cn pe ce, V.vm = .slice (some ⟨g, 0, none⟩) M.length c ∧ M.length ≤ c ∧ c ≤ maxLen ∧ w.cell? ⟨g, j * 5, none⟩ = some (.int .i64 (mM M j).1) ∧ w.cell? ⟨g, j * 5 + 1, none⟩ = some (.slice pn (mM M j).2.ns.length cn) ∧ w.cell? ⟨g, j * 5 + 2, none⟩ = some (.slice pe (mM M j).2.es.length ce) ∧ w.cell? ⟨g, j * 5 + 3, none⟩ = some (.int .i64 ((mM M j).2.nn - 1)) ∧ w.cell? ⟨g, j * 5 + 4, none⟩ = some (.int .i64 ((mM M j).2.ne - 1)) ∧ (IHas w pn (mM M j).2.ns ∧ (pn = none → cn = 0)) ∧ (EHas w pe (mM M j).2.es ∧ (pe = none → ce = 0)) := by
  obtain ⟨mv, o, ha, _⟩ := h.mks
  obtain ⟨p, c, hv, hnc, hcm⟩ := row_form o
  rw [hv] at o
  obtain ⟨g, rfl, _, _⟩ := own_some o (by omega)
  have hl : mv.length = M.length := ha.1
  have hx : mv[j]? = some (mv[j]'(by omega)) := List.getElem?_eq_getElem (by omega)
  obtain ⟨k0, k1, k2, k3, k4⟩ := mvcells_at mv j _ hx
  obtain ⟨a1, a2, a3, ⟨pn, cn, b1, b2, b3, _⟩, ⟨pe, ce, c1, c2, c3, _⟩⟩ := ha.2 j _ _ hx (mM_at hj)
  rw [a1] at k0
  rw [b1] at k1
  rw [c1] at k2
  rw [a2] at k3
  rw [a3] at k4
  exact ⟨g, c, pn, cn, pe, ce, hv, hnc, hcm, by rw [World.ownsRow.cellAt o (j * 5) (by omega)]; exact k0, by rw [World.ownsRow.cellAt o (j * 5 + 1) (by omega)]; exact k1, by rw [World.ownsRow.cellAt o (j * 5 + 2) (by omega)]; exact k2, by rw [World.ownsRow.cellAt o (j * 5 + 3) (by omega)]; exact k3, by rw [World.ownsRow.cellAt o (j * 5 + 4) (by omega)]; exact k4, ⟨b3, b2⟩, c3, c2⟩
/-- Another state is laid into the graph. -/
theorem RAt.putS {w w' : World} {b : Nat} {V : RV} {G A : Gr} {M : List (Int × Gr)} {L : Int} (h : RAt w b V G M L) (hb : Below w.heap.size w w') {vn ve : Value} (on : IOwns w' w.heap.size vn A.ns) (oe : w'.ownsRow w.heap.size 102 3 ve A.es.length (ecells A.es)) : RAt ((((w'.setCell ⟨b, 0, none⟩ vn).setCell ⟨b, 1, none⟩ ve).setCell ⟨b, 2, none⟩ (.int .i64 (A.nn - 1))).setCell ⟨b, 3, none⟩ (.int .i64 (A.ne - 1))) b ⟨vn, ve, V.vm, V.t⟩ A M L ∧ RFr w ((((w'.setCell ⟨b, 0, none⟩ vn).setCell ⟨b, 1, none⟩ ve).setCell ⟨b, 2, none⟩ (.int .i64 (A.nn - 1))).setCell ⟨b, 3, none⟩ (.int .i64 (A.ne - 1))) b V ⟨vn, ve, V.vm, V.t⟩ := by
  have hlt := h.lt
  obtain ⟨g1, r1⟩ := h.setN (w' := w') (v := vn) (l := A.ns) (Frame.of_below hb _) (owns_base on (Nat.zero_le _)) (fun i hi => Or.inr (World.ownsRow.lt on i hi).1)
  have oe2 : (w'.setCell ⟨b, 0, none⟩ vn).ownsRow 0 102 3 ve A.es.length (ecells A.es) := owns_base (row_set oe (fun e => by have h' : w.heap.size ≤ b := (World.ownsRow.lt oe _ e).1; omega) vn) (Nat.zero_le _)
  have hge : ∀ i, ve.ownBlock = some i → w.heap.size ≤ i := fun i hi => (World.ownsRow.lt oe i hi).1
  have hF : Frame w ((w'.setCell ⟨b, 0, none⟩ vn).setCell ⟨b, 1, none⟩ ve) (RB b V) := r1.fr.trans (Frame.set _ _ _ (Or.inl rfl))
  have hL : ∀ k, RB b ⟨vn, ve, V.vm, V.t⟩ k → RB b V k ∨ w.heap.size ≤ k := by
    rintro k (e | e | e | e)
    · exact Or.inl (Or.inl e)
    · exact Or.inr ((World.ownsRow.lt on k e).1)
    · exact Or.inr (hge k e)
    · exact Or.inl (Or.inr (Or.inr (Or.inr e)))
  have g2 : RAt ((w'.setCell ⟨b, 0, none⟩ vn).setCell ⟨b, 1, none⟩ ve) b ⟨vn, ve, V.vm, V.t⟩ { G with ns := A.ns, es := A.es } M L := by
    obtain ⟨mv0, om0, hma0, tb⟩ := h.mks
    refine ⟨(World.ownsRow.stored g1.box 1 ve).1, row_set g1.nod (rbox_ne g1.box g1.nod (by decide)) ve, row_set oe2 (rbox_ne g1.box oe2 (by decide)) ve, mv0, ?_, hma0.keep hF (fun _ _ h => Or.inl h) (rn_lie hL), fun i hi => Nat.lt_of_lt_of_le (tb i hi) hF.size⟩
    have omw := (Frame.of_below hb (fun _ => False)).row om0 (fun _ _ => id)
    have x1 := row_set omw (i := 0) (b := b) (h.ne.2.2) vn
    exact row_set x1 (i := 1) (b := b) (h.ne.2.2) ve
  obtain ⟨g3, r3⟩ := g2.setC 2 (.int .i64 (A.nn - 1)) { G with ns := A.ns, es := A.es, nn := A.nn } L rfl rfl rfl
  obtain ⟨g4, r4⟩ := g3.setC 3 (.int .i64 (A.ne - 1)) A L rfl rfl rfl
  exact ⟨g4, (RFr.mk hF hL rfl).trans (r3.trans r4)⟩
theorem MAll.take {w : World} {N : Nat → Prop} {mv : List MV} {M : List (Int × Gr)} (h : MAll w N mv M) (k : Nat) : MAll w N (mv.take k) (M.take k) := by
  refine ⟨by simp [h.1], fun j f u h1 h2 => ?_⟩
  rw [List.getElem?_take] at h1 h2
  split at h1
  · rename_i hj
    rw [if_pos hj] at h2
    exact h.2 j f u h1 h2
  · cases h1
/-- The marks are cut. -/
theorem RAt.cutM {w : World} {b : Nat} {V : RV} {G : Gr} {M : List (Int × Gr)} {L : Int} (h : RAt w b V G M L) (k g c : Nat) (hkl : k ≤ M.length) (hv : V.vm = .slice (some ⟨g, 0, none⟩) M.length c) : RAt (w.setCell ⟨b, 4, none⟩ (.slice (some ⟨g, 0, none⟩) k c)) b { V with vm := .slice (some ⟨g, 0, none⟩) k c } G (M.take k) L ∧ RFr w (w.setCell ⟨b, 4, none⟩ (.slice (some ⟨g, 0, none⟩) k c)) b V { V with vm := .slice (some ⟨g, 0, none⟩) k c } := by
  obtain ⟨mv, oe, ha, _⟩ := h.mks
  rw [hv] at oe
  obtain ⟨cur, R, hcur, _, _, hxl⟩ := row_is oe
  have o1 : w.ownsRow 0 106 5 (.slice (some ⟨g, 0, none⟩) k c) k (cur.take (k * 5)) := R.own (by omega) (Nat.zero_le _)
  have e1 : cur.take (k * 5) = mvcells (mv.take k) := by
    rw [← mvcells_take, ← hcur, List.take_take, Nat.min_eq_left (Nat.mul_le_mul_right _ hkl)]
  have e2 : (M.take k).length = k := by rw [List.length_take]; omega
  rw [e1] at o1
  exact h.setMs (w' := w) (M' := M.take k) (v := .slice (some ⟨g, 0, none⟩) k c) (Frame.of_below (Below.refl _ _) _) (by rw [e2]; exact o1) (fun i hi => Or.inl (by rw [hv]; exact hi)) (ha.take k)
set_option maxRecDepth 100000 in
set_option maxHeartbeats 16000000 in
theorem rBack46 (b : Nat) (V : RV) (G : Gr) (M : List (Int × Gr)) (L x : Int) (w : World) (h : RAt w b V G M L) (hm : M.length ≤ 64) (hz : ∀ j, j < M.length → (mM M j).2.ns.length ≤ 5000 ∧ (mM M j).2.es.length ≤ 5000) : Calls Try.prog 46 #[ptr b, .int .i64 x] w (RTurns w b V (.int .i64 (rbE M x)) (rbG G M x) (rbM M x) L) := by
  obtain ⟨pn0, cn0, pe0, ce0, pm, cm, _, hV, _, _, _, _, hmc, hcm, _⟩ := h.form
  have q4 : w.cell? ⟨b, 4, none⟩ = some (.slice pm M.length cm) := by have := h.cells.2.2.2.2.1; rw [hV] at this; exact this
  have HVM : Hid (V.vm = .slice pm M.length cm) := by show _ = _; rw [hV]
  have H := hide h
  have HZ := hide hz
  clear h hV hz
  go_enter Try.func46, Try.ntmps46
  go_wp2
  go_loopw [5] (fun t5 wr => ∃ k : Nat, k ≤ M.length ∧ t5 = .int .i64 k ∧ wr = w ∧ Hid (∀ j, j < k → (mM M j).1 ≠ x)) (fun t5 _ => M.length - (intOf t5).toNat)
  case atStart => exact ⟨0, by omega, rfl, rfl, fun j hj => absurd hj (Nat.not_lt_zero _)⟩
  case round =>
    obtain ⟨k, hk, rfl, hw, HN⟩ := hrel
    have hw2 := hw.symm
    subst hw2
    by_cases hlt : k < M.length
    · obtain ⟨g, c, pn, cn, pe, ce, hv, hnc, hcm, m0, m1, m2, m3, m4, ⟨mi, zn⟩, me, ze⟩ := H.out.mark hlt
      rw [HVM.out] at hv
      simp only [Value.slice.injEq, true_and] at hv
      obtain ⟨rfl, rfl⟩ := hv
      obtain ⟨ln, le⟩ := HZ.out k hlt
      have e1 : (k : Int) < M.length := by omega
      have e0 : (0 : Int) ≤ k := by omega
      obtain ⟨A, hA⟩ : ∃ A, (mM M k).2 = A := ⟨_, rfl⟩
      obtain ⟨y, hy⟩ : ∃ y, (mM M k).1 = y := ⟨_, rfl⟩
      rw [hA] at m1 m2 m3 m4 mi me ln le
      rw [hy] at m0
      have HY := hide hy
      have HA := hide hA
      clear hy hA
      by_cases hyx : y = x
      · have d1 : (y == x) = true := by simpa using hyx
        have HX : Hid (mxM M x = k) := mxM_hit hlt HN.out (by rw [HY.out]; exact hyx)
        have HE : Hid (rbE M x = 0) := by show _ = _; unfold rbE; rw [HX.out, if_pos hlt]
        have HG : Hid (rbG G M x = A) := by show _ = _; unfold rbG; rw [HX.out, if_pos hlt]; exact HA.out
        have HM : Hid (rbM M x = M.take (k + 1)) := by show _ = _; unfold rbM; rw [HX.out, if_pos hlt]
        have CP := hide (copy77 pn A.ns cn pe A.es ce (A.nn - 1) (A.ne - 1) w mi me zn ze ln le)
        have hb := H.out.lt
        clear hyx mi me zn ze ln le HX HY HA HN
        go_upto_region 6 with (go_at_call 77; refine CP.out.mono ?_; rintro e w1 ⟨p1, c1, p2, c2, rfl, o1, o2, hb1⟩; obtain ⟨g5, r5⟩ := H.out.putS (A := A) hb1 o1 o2; have HG5 := hide g5; have HR5 := hide r5; have z0 := (H.out.later hb1).cells; have zf := (H.out.later hb1).free; have zl := (H.out.later hb1).lt; clear o1 o2 hb1 g5 r5)
        obtain ⟨Y, hY⟩ : ∃ Y, Y = ((((w1.setCell ⟨b, 0, none⟩ (.slice p1 A.ns.length c1)).setCell ⟨b, 1, none⟩ (.slice p2 A.es.length c2)).setCell ⟨b, 2, none⟩ (.int .i64 (A.nn - 1))).setCell ⟨b, 3, none⟩ (.int .i64 (A.ne - 1))) := ⟨_, rfl⟩
        rw [← hY] at HG5 HR5 ⊢
        clear hY z0 zf zl m0 m1 m2 m3 m4 q4
        have y4 := HG5.out.cells.2.2.2.2.1
        rw [HVM.out] at y4
        have yf := HG5.out.free 4
        obtain ⟨g6, r6⟩ := HG5.out.cutM (k + 1) g cm (by omega) HVM.out
        have HG6 := hide g6
        have HR6 := hide (HR5.out.trans r6)
        have j1 : (k : Int) + 1 ≤ cm := by omega
        have j2 : IntKind.i64.wrap ((k : Int) + 1) = (k : Int) + 1 := by rw [IntKind.wrap_i64]; omega
        clear g6 r6 HG5 HR5
        go_wp2_with fail
        go_ret
        exact ⟨by rw [HE.out]; rfl, _, by rw [HG.out, HM.out]; exact HG6.out, HR6.out⟩
      · have d1 : (y == x) = false := by simpa using hyx
        have HX := hide hyx
        clear hyx
        go_wp2_with fail
        go_roundw
        case rel =>
          refine ⟨k + 1, by omega, by go_num, by first | rfl | trivial, fun j hj => ?_⟩
          by_cases hjk : j = k
          · rw [hjk, HY.out]; exact HX.out
          · exact HN.out j (by omega)
        case measure => simp [intOf]; omega
    · have e1 : ¬ (k : Int) < M.length := by omega
      have HX : Hid (mxM M x = M.length) := mxM_none (fun j hj => HN.out j (by omega))
      have HE : Hid (rbE M x = 14) := by show _ = _; unfold rbE; rw [HX.out, if_neg (by omega)]
      have HG : Hid (rbG G M x = G) := by show _ = _; unfold rbG; rw [HX.out, if_neg (by omega)]
      have HM : Hid (rbM M x = M) := by show _ = _; unfold rbM; rw [HX.out, if_neg (by omega)]
      go_wp2_with fail
      go_ret
      exact ⟨by rw [HE.out]; rfl, V, by rw [HG.out, HM.out]; exact H.out, RFr.of_below (Below.refl _ _)⟩
end Go.Proofs.Ytgfiofogcnnkhaa

namespace Go.Proofs.Ytgfiofogcnnkhaa
open Go.RowKit Go.Sort
open Go

/-- The mark that is gone back to. -/
def bkM (mk : List Int) (a : Int) : Int := if 0 ≤ a ∧ 0 < mk.length then iat mk (a.toNat % mk.length) else a
/-- A copy beside a run. -/
structure Cop (w0 w : World) (b b' br kr : Nat) (s s' : GV) (V : RV) (vk : Value) (G : Gr) : Prop where
  ga : GAt w b' s' G
  c1 : ∀ k, GB b s k → s'.t k
  c2 : ∀ k, RB br V k → s'.t k
  c3 : ∀ k, KB kr vk k → s'.t k
  c4 : ∀ k, GB b' s' k → V.t k
  c5 : ∀ k, GB b' s' k → ¬ s'.t k
  c6 : ∀ k, GB b' s' k → w0.heap.size ≤ k
theorem Cop.onA {w0 w w' : World} {b b' br kr : Nat} {s s2 s' : GV} {V : RV} {vk : Value} {G G2 : Gr} (h : Cop w0 w b b' br kr s s' V vk G) (g : GAt w' b s2 G2) (r : GFr w w' b s s2) : Cop w0 w' b b' br kr s2 { s' with t := grown s'.t w w' } { V with t := grown V.t w w' } vk G := by
  obtain ⟨a1, a2⟩ := h.ga.across r.fr h.c1 h.c5
  refine ⟨a1, fun k hk => ?_, fun k hk => Or.inl (h.c2 k hk), fun k hk => Or.inl (h.c3 k hk), fun k hk => Or.inl (h.c4 k hk), a2, h.c6⟩
  rcases r.lie k hk with h1 | h1
  · exact Or.inl (h.c1 k h1)
  · exact Or.inr ⟨h1, g.blt hk⟩
theorem Cop.new {w0 w w1 : World} {kr b b' br : Nat} {s s' : GV} {V : RV} {G R : Gr} {M : List (Int × Gr)} {L : Int} {vk : Value} {mk : List Int} (h : Run w0 w kr b br s V G R M L vk mk) (g1 : GAt w1 b' s' G) (t1 : s'.t = (fun k => s.t k ∨ GB b s k)) (hb1 : Below w.heap.size w w1) (l1 : ∀ k, GB b' s' k → w.heap.size ≤ k) : Run w0 w1 kr b br s { V with t := grown V.t w w1 } G R M L vk mk ∧ Cop w0 w1 b b' br kr s s' { V with t := grown V.t w w1 } vk G := by
  have hsz := h.bel.size
  refine ⟨h.onA (h.two.ga.later hb1) (GFr.of_below hb1), g1, fun k hk => by rw [t1]; exact Or.inr hk, fun k hk => by rw [t1]; exact Or.inl (h.two.d2 k hk), fun k hk => by rw [t1]; exact Or.inl (h.t1 k hk), fun k hk => Or.inr ⟨l1 k hk, g1.blt hk⟩, fun k hk hk2 => ?_, fun k hk => by have := l1 k hk; omega⟩
  rw [t1] at hk2
  have := l1 k hk
  rcases hk2 with h1 | h1
  · obtain ⟨_, _, _, tb⟩ := h.two.ga.don
    have := tb k h1
    omega
  · have := h.two.ga.blt h1
    omega
theorem Run.swap {w0 w : World} {kr b b' br : Nat} {s s' : GV} {V : RV} {G0' G R : Gr} {M : List (Int × Gr)} {L : Int} {vk : Value} {mk : List Int} (h : Run w0 w kr b br s V G0' R M L vk mk) (c : Cop w0 w b b' br kr s s' V vk G) : ∃ s2 V2, Run w0 (w.setCell ⟨kr, 0, none⟩ (ptr b')) kr b' br s2 V2 G R M L vk mk := by
  have hF : Frame w (w.setCell ⟨kr, 0, none⟩ (ptr b')) (KB kr vk) := Frame.set _ _ _ (Or.inl rfl)
  obtain ⟨a1, a2⟩ := c.ga.across hF c.c3 c.c5
  obtain ⟨r1, r2⟩ := h.two.ra.across hF h.t2 h.two.e2
  have hne : vk.ownBlock ≠ some kr := fun k => apart h.mks h.box (by decide) k rfl
  refine ⟨_, _, ⟨⟨a1, r1, fun k hk => Or.inl (c.c4 k hk), fun k hk => Or.inl (c.c2 k hk), a2, r2⟩, (World.ownsRow.stored h.box 0 (ptr b')).1, row_set h.mks hne _, fun k hk => Or.inl (c.c3 k hk), fun k hk => Or.inl (h.t2 k hk), frame_below h.bel hF h.l1, h.l1, c.c6, h.l3⟩⟩
/-- What plays answers and leaves, where the graph may be another one. -/
def QPost (w0 : World) (kr br : Nat) (G' R' : Gr) (M' : List (Int × Gr)) (L' : Int) (mk' : List Int) (P : Prop) (e : Ending) (w' : World) : Prop := ∃ b, PPost w0 kr b br G' R' M' L' mk' P e w'
set_option maxRecDepth 100000 in
set_option maxHeartbeats 16000000 in
theorem play12 (kr b br : Nat) (s : GV) (V : RV) (G G1 G2 G3 R : Gr) (M : List (Int × Gr)) (L : Int) (vk v1 v2 v3 : Value) (mk : List Int) (a bb c : Int) (w0 w : World) (h : Run w0 w kr b br s V G R M L vk mk)
    (CC : ∀ U s, GAt U b s G → Calls Try.prog 29 #[ptr b] U (CopyPost U b s G))
    (C1 : ∀ U s, GAt U b s G → Calls Try.prog 23 #[ptr b] U (Turns U b s v1 G1))
    (C2 : ∀ U s, GAt U b s G1 → Calls Try.prog 25 #[ptr b, .int .i64 1] U (Turns U b s v2 G2))
    (C3 : ∀ U s, GAt U b s G2 → Calls Try.prog 21 #[ptr b] U (Turns U b s v3 G3)) :
    Calls Try.prog 14 #[ptr kr, opv 12 a bb c] w (QPost w0 kr br G R M L mk True) := by
  obtain ⟨U, hU⟩ : ∃ U, U = w.alloc (.cells #[.int .i64 12, .int .i64 a, .int .i64 bb, .int .i64 c] 43) := ⟨_, rfl⟩
  have hbU : Below w.heap.size w U := by rw [hU]; go_grown
  have HR := hide (h.later hbU)
  have HC := hide HR.out.cells
  clear h
  go_enter Try.func14, Try.ntmps14
  go_upto_region 42 with fail
  rw [← hU]
  clear hU hbU
  have q0 := HC.out.1
  go_upto_region 45 with (go_at_call 29; refine Calls.mono (CC _ _ HR.out.two.ga) ?_; rintro e w1 ⟨b', s', rfl, g1, t1, hb1, l1⟩; have HX1 := hide (Cop.new HR.out g1 t1 hb1 l1); have HR1 := hide HX1.out.1; have HCP := hide HX1.out.2; clear g1 t1 hb1 l1 HX1)
  clear q0
  have q0 := HR1.out.cells.1
  go_upto_region 46 with (go_at_call 23; refine Calls.mono (C1 _ _ HR1.out.two.ga) ?_; rintro e w2 ⟨rfl, s2, g2, r2⟩; have HR2 := hide (HR1.out.onA g2 r2); have HC2 := hide (HCP.out.onA g2 r2); clear g2 r2)
  clear q0
  have q0 := HR2.out.cells.1
  go_upto_region 47 with (go_at_call 25; refine Calls.mono (C2 _ _ HR2.out.two.ga) ?_; rintro e w3 ⟨rfl, s3, g3, r3⟩; have HR3 := hide (HR2.out.onA g3 r3); have HC3 := hide (HC2.out.onA g3 r3); clear g3 r3)
  clear q0
  have q0 := HR3.out.cells.1
  go_upto_region 48 with (go_at_call 21; refine Calls.mono (C3 _ _ HR3.out.two.ga) ?_; rintro e w4 ⟨rfl, s4, g4, r4⟩; have HR4 := hide (HR3.out.onA g4 r4); have HC4 := hide (HC3.out.onA g4 r4); clear g4 r4)
  clear q0
  have q0 := HR4.out.cells.1
  have qf := HR4.out.cells.2.2.2.2.1
  obtain ⟨s5, V5, hr5⟩ := HR4.out.swap HC4.out
  have HR5 := hide hr5
  clear hr5
  go_wp2_with fail
  go_ret
  exact ⟨b', _, _, _, _, rfl, fun _ => rfl, HR5.out⟩
set_option maxRecDepth 100000 in
set_option maxHeartbeats 16000000 in
theorem play11 (kr b br : Nat) (s : GV) (V : RV) (G G' R R' : Gr) (M M' : List (Int × Gr)) (L : Int) (vk : Value) (mk : List Int) (a bb c x x' : Int) (w0 w : World) (h : Run w0 w kr b br s V G R M L vk mk) (hmk : mk.length ≤ 90000)
    (CA : ∀ U s, GAt U b s G → Calls Try.prog 22 #[ptr b, .int .i64 (bkM mk a)] U (Turns U b s (.int .i64 x) G'))
    (CB : ∀ U V, RAt U br V R M L → Calls Try.prog 46 #[ptr br, .int .i64 (bkM mk a)] U (RTurns U br V (.int .i64 x') R' M' L)) :
    Calls Try.prog 14 #[ptr kr, opv 11 a bb c] w (PPost w0 kr b br G' R' M' L mk (x = x')) := by
  obtain ⟨pk, ck, rfl, hik, _⟩ := h.mks.form
  obtain ⟨U, hU⟩ : ∃ U, U = w.alloc (.cells #[.int .i64 11, .int .i64 a, .int .i64 bb, .int .i64 c] 43) := ⟨_, rfl⟩
  have hbU : Below w.heap.size w U := by rw [hU]; go_grown
  have q1 : U.cell? ⟨w.heap.size, 1, none⟩ = some (.int .i64 a) := by rw [hU]; go_cell
  have HIK := hide (hik.later hbU)
  have HR := hide (h.later hbU)
  have HC := hide HR.out.cells
  have HA := hide (fun X (hX : Below U.heap.size U X) => CA X s (HR.out.later hX).two.ga)
  have q2 := HC.out.2.2.1
  have q0 := HC.out.1
  obtain ⟨kx, hkx⟩ : ∃ kx, w.heap.size = kx := ⟨_, rfl⟩
  rw [hkx] at q1
  clear h CA hik
  by_cases ha : 0 ≤ a
  · by_cases hl : 0 < mk.length
    · obtain ⟨r, hr⟩ : ∃ r, a.toNat % mk.length = r := ⟨_, rfl⟩
      have hrl : r < mk.length := by rw [← hr]; exact Nat.mod_lt _ hl
      have htm : Int.tmod a mk.length = r := by
        obtain ⟨z, rfl⟩ : ∃ z : Nat, a = z := ⟨a.toNat, by omega⟩
        rw [Int.toNat_natCast] at hr
        rw [← hr]
        rfl
      have hbk : bkM mk a = iat mk r := by unfold bkM; rw [if_pos ⟨ha, hl⟩, hr]
      rw [hbk] at HA CB
      rcases HIK.out with h0 | ⟨g, off, rfl, hc⟩
      · rw [h0] at hl; simp at hl
      have q3 := hc r hrl
      obtain ⟨y, hy⟩ : ∃ y, iat mk r = y := ⟨_, rfl⟩
      rw [hy] at q3 HA CB
      have e1 : decide (0 ≤ a) = true := decide_eq_true ha
      have e2 : (0 : Int) < mk.length := by omega
      have e3 : ¬ mk.length = 0 := by omega
      have e4 : (0 : Int) ≤ r := by omega
      have e5 : (r : Int) < mk.length := by omega
      clear hc hy hbk hr HIK
      go_enter Try.func14, Try.ntmps14
      go_upto_region 37 with fail
      rw [← hU]
      try rw [hkx]
      clear hU hbU hkx
      go_upto_region 39 with fail
      have HT : Hid (∀ X, Below U.heap.size U X → X.cell? ⟨kr, 2, none⟩ = some (.slice (some ⟨g, off, none⟩) mk.length ck) ∧ X.cell? ⟨kx, 1, none⟩ = some (.int .i64 a) ∧ X.cell? ⟨g, off + r, none⟩ = some (.int .i64 y)) := fun X hX => ⟨later hX q2, later hX q1, later hX q3⟩
      go_region_held3 (fun X => X.cell? ⟨kr, 2, none⟩ = some (.slice (some ⟨g, off, none⟩) mk.length ck) ∧ X.cell? ⟨kx, 1, none⟩ = some (.int .i64 a) ∧ X.cell? ⟨g, off + r, none⟩ = some (.int .i64 y)) (first | exact HT.out _ (Below.refl _ _) | exact HT.out _ (below_drew _)) (fail)
      rename_i hHeld
      clear hHeld HT
      go_upto_region 40 with fail
      clear q3
      clear q0 q1 q2
      have HS : Hid (∀ X, Below U.heap.size U X → X.cell? ⟨kr, 0, none⟩ = some (ptr b) ∧ X.cell? ⟨kr, 1, none⟩ = some (ptr br)) := fun X hX => ⟨later hX HC.out.1, later hX HC.out.2.1⟩
      have HBD : Hid (Below U.heap.size U U.drew.drew) := below_step (below_drew _) (below_drew _)
      go_region_held3 (fun X => X.cell? ⟨kr, 0, none⟩ = some (ptr b) ∧ X.cell? ⟨kr, 1, none⟩ = some (ptr br)) (first | exact HS.out _ (Below.refl _ _) | exact HS.out _ (below_drew _) | exact HS.out _ HBD.out | exact HW1.out | exact HW2.out)
        (first | (go_at_call 22; refine Calls.mono (HA.out _ HBD.out) ?_; rintro e w1 ⟨rfl, s1, g1, r1⟩; have HR1 := hide (Run.onA (HR.out.later HBD.out) g1 r1); have HW1 : Hid (w1.cell? ⟨kr, 0, none⟩ = some (ptr b) ∧ w1.cell? ⟨kr, 1, none⟩ = some (ptr br)) := ⟨HR1.out.cells.1, HR1.out.cells.2.1⟩; clear g1 r1) | (go_at_call 46; refine Calls.mono (CB _ _ HR1.out.two.ra) ?_; rintro e w2 ⟨rfl, V2, g2, r2⟩; have HR2 := hide (HR1.out.onB g2 r2); have HW2 : Hid (w2.cell? ⟨kr, 0, none⟩ = some (ptr b) ∧ w2.cell? ⟨kr, 1, none⟩ = some (ptr br)) := ⟨HR2.out.cells.1, HR2.out.cells.2.1⟩; clear g2 r2))
      rename_i hHeld
      clear hHeld
      go_wp2_with fail
      go_ret
      exact ⟨_, _, _, _, rfl, fun hp => by simp [hp], HR2.out⟩
    · have hbk : bkM mk a = a := by unfold bkM; rw [if_neg (by omega)]
      rw [hbk] at HA CB
      have e1 : decide (0 ≤ a) = true := decide_eq_true ha
      have e2 : ¬ (0 : Int) < mk.length := by omega
      clear hbk HIK
      go_enter Try.func14, Try.ntmps14
      go_upto_region 37 with fail
      rw [← hU]
      try rw [hkx]
      clear hU hbU hkx
      go_upto_region 40 with fail
      clear q0 q1 q2
      have HS : Hid (∀ X, Below U.heap.size U X → X.cell? ⟨kr, 0, none⟩ = some (ptr b) ∧ X.cell? ⟨kr, 1, none⟩ = some (ptr br)) := fun X hX => ⟨later hX HC.out.1, later hX HC.out.2.1⟩
      have HBD := hide (below_drew U)
      go_region_held3 (fun X => X.cell? ⟨kr, 0, none⟩ = some (ptr b) ∧ X.cell? ⟨kr, 1, none⟩ = some (ptr br)) (first | exact HS.out _ (Below.refl _ _) | exact HS.out _ (below_drew _) | exact HS.out _ HBD.out | exact HW1.out | exact HW2.out)
        (first | (go_at_call 22; refine Calls.mono (HA.out _ (below_drew _)) ?_; rintro e w1 ⟨rfl, s1, g1, r1⟩; have HR1 := hide (Run.onA (HR.out.later (below_drew _)) g1 r1); have HW1 : Hid (w1.cell? ⟨kr, 0, none⟩ = some (ptr b) ∧ w1.cell? ⟨kr, 1, none⟩ = some (ptr br)) := ⟨HR1.out.cells.1, HR1.out.cells.2.1⟩; clear g1 r1) | (go_at_call 46; refine Calls.mono (CB _ _ HR1.out.two.ra) ?_; rintro e w2 ⟨rfl, V2, g2, r2⟩; have HR2 := hide (HR1.out.onB g2 r2); have HW2 : Hid (w2.cell? ⟨kr, 0, none⟩ = some (ptr b) ∧ w2.cell? ⟨kr, 1, none⟩ = some (ptr br)) := ⟨HR2.out.cells.1, HR2.out.cells.2.1⟩; clear g2 r2))
      rename_i hHeld
      clear hHeld
      go_wp2_with fail
      go_ret
      exact ⟨_, _, _, _, rfl, fun hp => by simp [hp], HR2.out⟩
  · have hbk : bkM mk a = a := by unfold bkM; rw [if_neg (fun h => ha h.1)]
    rw [hbk] at HA CB
    have e1 : decide (0 ≤ a) = false := decide_eq_false ha
    clear hbk HIK
    go_enter Try.func14, Try.ntmps14
    go_upto_region 37 with fail
    rw [← hU]
    try rw [hkx]
    clear hU hbU hkx
    go_upto_region 40 with fail
    clear q0 q1 q2
    have HS : Hid (∀ X, Below U.heap.size U X → X.cell? ⟨kr, 0, none⟩ = some (ptr b) ∧ X.cell? ⟨kr, 1, none⟩ = some (ptr br)) := fun X hX => ⟨later hX HC.out.1, later hX HC.out.2.1⟩
    have HBD := hide (below_drew U)
    go_region_held3 (fun X => X.cell? ⟨kr, 0, none⟩ = some (ptr b) ∧ X.cell? ⟨kr, 1, none⟩ = some (ptr br)) (first | exact HS.out _ (Below.refl _ _) | exact HS.out _ (below_drew _) | exact HS.out _ HBD.out | exact HW1.out | exact HW2.out)
      (first | (go_at_call 22; refine Calls.mono (HA.out _ (below_drew _)) ?_; rintro e w1 ⟨rfl, s1, g1, r1⟩; have HR1 := hide (Run.onA (HR.out.later (below_drew _)) g1 r1); have HW1 : Hid (w1.cell? ⟨kr, 0, none⟩ = some (ptr b) ∧ w1.cell? ⟨kr, 1, none⟩ = some (ptr br)) := ⟨HR1.out.cells.1, HR1.out.cells.2.1⟩; clear g1 r1) | (go_at_call 46; refine Calls.mono (CB _ _ HR1.out.two.ra) ?_; rintro e w2 ⟨rfl, V2, g2, r2⟩; have HR2 := hide (HR1.out.onB g2 r2); have HW2 : Hid (w2.cell? ⟨kr, 0, none⟩ = some (ptr b) ∧ w2.cell? ⟨kr, 1, none⟩ = some (ptr br)) := ⟨HR2.out.cells.1, HR2.out.cells.2.1⟩; clear g2 r2))
    rename_i hHeld
    clear hHeld
    go_wp2_with fail
    go_ret
    exact ⟨_, _, _, _, rfl, fun hp => by simp [hp], HR2.out⟩
end Go.Proofs.Ytgfiofogcnnkhaa
