/- WalkOdd: its walk, where it looks. -/
import Derived.Test.YtghffodjffkijabE12
import Derived.Test.YtghffodjffkijabO2
import Derived.Test.YtghffodjffkijabT4
import Derived.Lib.QuietBelow
import Derived.BigQuiet
import Derived.Deep.QuietTactic
import Derived.Deep.RegionHeld3
/- WalkOdd: its walk. -/
/- The document's Copy, Ints and Split. -/
namespace Go.Proofs.Ytghffodjffkijab
open Go.RowKit Go.Sort
open Go

set_option maxRecDepth 100000 in
set_option maxHeartbeats 4000000 in
theorem copy22 (n : Int) (p : Option Addr) (es : List Pt) (cp : Nat) (w : World) (hnil : p = none → cp = 0) (hl : es.length ≤ 90000) (h : Has w p es) : Calls Try.prog 22 #[nv n p es.length cp] w fun e w' => ∃ q c, e = .returned (nv n q es.length c) ∧ Owns w' w.heap.size (.slice q es.length c) es ∧ Below w.heap.size w w' := by
  obtain ⟨W, hW, hb, a0, b0⟩ := two_nets w n p es.length cp
  have HB := hide hb
  have HA := hide a0
  have HN := hide b0
  have hws : w.heap.size + 1 < W.heap.size := block_lt_of_cell b0.1
  obtain ⟨v1, D1, e1, o1, gr1⟩ := append_prs (w := W.drew) (base := W.heap.size) (v := .slice none 0 0) (l := []) (Owns.nil _ _) p cp es hnil ((h.later hb).later (below_drew _)) (by simp) (by simp; omega)
  have hb1 : Below W.heap.size W D1 := below_grown (w := W.drew) (below_drew _) (Owns.nil W.drew W.heap.size) (Nat.le_refl _) (by simp) gr1
  rw [List.nil_append] at o1
  obtain ⟨q, c, rfl, _, _, _, _⟩ := o1.form
  have HO1 := hide o1
  have HB1 := hide (below_step hb hb1)
  have HN1 := hide (b0.later hb1)
  have HA1 := hide (a0.later hb1)
  clear hb h o1 gr1 hb1
  obtain ⟨q0, q1, _, _⟩ := a0
  obtain ⟨r0, r1, r2, r3⟩ := HN1.out
  clear b0
  go_enter Try.func22, Try.ntmps22
  go_wp2_with fail
  rw [← hW]
  clear hW
  go_region_held3 (fun W => W.cell? ⟨w.heap.size, 0, none⟩ = some (.int .i64 n) ∧ W.cell? ⟨w.heap.size, 1, none⟩ = some (.slice p es.length cp))
    (first | exact ⟨HA.out.1, HA.out.2.1⟩ | exact ⟨HA1.out.1, HA1.out.2.1⟩ | exact ⟨other2 HA1.out.1 (by simp), other2 HA1.out.2.1 (by simp)⟩)
    (first | (refine step_run_append (by rfl) (.const (.slice none 0 0)) (.tmp 6) 22 (by rfl) 22 (by rfl) (.slice none 0 0) (.slice p es.length cp) (.slice q es.length c) D1 (by rfl) (by rfl) ?_ ?_; with_reducible exact e1))
  rename_i hHeld
  clear hHeld
  obtain ⟨V, hV⟩ : ∃ V, V = (D1.setCell ⟨w.heap.size + 1, 0, none⟩ (.int .i64 n)).setCell ⟨w.heap.size + 1, 1, none⟩ (.slice q es.length c) := ⟨_, rfl⟩
  have kV : NOwn V (w.heap.size + 1) n q es.length c := by rw [hV]; exact HN1.out.set _ _ _ _
  have bV : Below w.heap.size w V := by rw [hV]; exact (HB1.out.setCell (by simp) _).setCell (by simp) _
  have oV : Owns V w.heap.size (.slice q es.length c) es := by rw [hV]; exact (owns_other (owns_other HO1.out hws _) hws _).base HB.out.size
  rw [← hV]
  go_wp2_with fail
  exact bodyPost_ret (ret_net1 Try.results22 rfl kV) rfl ⟨q, c, rfl, oV, bV⟩
/-- One edge behind the others, in a list of the call's own. -/
theorem app1 {w : World} {B : Nat} {v : Value} {l : List Pt} (o : Owns w B v l) (x y : Int) (hB : B ≤ w.heap.size) (hl : l.length ≤ 90000) : ∃ v' w', (Builtin.append_ #[22, 22] 22 #[v, .slice (some ⟨w.heap.size, 0, none⟩) 1 1]).run Try.prog (w.alloc (.cells #[.int .i64 x, .int .i64 y] 47)) = .ok v' w' ∧ Owns w' B v' (l ++ [⟨x, y⟩]) ∧ (w.alloc (.cells #[.int .i64 x, .int .i64 y] 47)).grownBy w' v.ownBlock ∧ Below B w w' := by
  have o' : Owns (w.alloc (.cells #[.int .i64 x, .int .i64 y] 47)) B v l := o.later (by go_grown)
  have hL : Lies (w.alloc (.cells #[.int .i64 x, .int .i64 y] 47)) w.heap.size 0 [⟨x, y⟩] := by
    intro j hj
    simp at hj
    subst hj
    exact ⟨by simp only [at', List.getD_cons_zero]; go_cell, by simp only [at', List.getD_cons_zero]; go_cell⟩
  obtain ⟨v', w', e1, o1, gr⟩ := append_prs o' (some ⟨w.heap.size, 0, none⟩) 1 [⟨x, y⟩] (fun h => by cases h) (Or.inr ⟨_, _, rfl, hL⟩) (by simp; omega) (by simp; omega)
  exact ⟨v', w', e1, o1, gr, below_grown (w := w.alloc (.cells #[.int .i64 x, .int .i64 y] 47)) ((Below.refl _ _).alloc hB _) o' (Nat.le_refl _) (by simp; omega) gr⟩
theorem grown_cell {w w' : World} {r : Option Nat} (h : w.grownBy w' r) {a : Addr} {v : Value} (hc : w.cell? a = some v) (hr : r ≠ some a.block) : w'.cell? a = some v ∧ w'.frozen? a = w.frozen? a := by
  have hb : a.block < w.heap.size := block_lt_of_cell hc
  have := h.block a.block hb (fun e => hr e.symm)
  unfold World.cell? World.frozen? at *
  rw [this]
  exact ⟨hc, rfl⟩
set_option maxHeartbeats 1000000 in
theorem ints9 (p q : Option Addr) (a b : List Int) (cp cq : Nat) (w : World) (hla : a.length ≤ maxLen) (hp : IHas w p a) (hq : IHas w q b) : Calls Try.prog 9 #[.slice p a.length cp, .slice q b.length cq] w fun e w' => e = .returned (.bool (decide (a = b))) ∧ Below w.heap.size w w' := by
  have H := hide hp
  have K := hide hq
  unfold maxLen at hla
  clear hp hq
  by_cases hl : a.length = b.length
  · go_enter Try.func9, Try.ntmps9
    have hli : ((a.length : Int) != b.length) = false := by simp [hl]
    go_wp2_with fail
    go_loopw [5] (fun t wr => ∃ i : Nat, i ≤ a.length ∧ t = .int .i64 i ∧ Hid (∀ j, j < i → iat a j = iat b j) ∧ Hid (Below w.heap.size w wr)) (fun t _ => a.length - (intOf t).toNat)
    case atStart => exact ⟨0, by omega, rfl, fun j hj => by omega, Below.refl _ _⟩
    case round =>
      obtain ⟨i, hi, rfl, HP, HB⟩ := hrel
      by_cases hlt : i < a.length
      · rcases H.out.later HB.out with h | ⟨b1, o1, rfl, l1⟩
        · subst h; simp at hlt
        rcases K.out.later HB.out with h | ⟨b2, o2, rfl, l2⟩
        · rw [h] at hl; simp at hl; rw [hl] at hlt; simp at hlt
        have c0 := l1 i hlt
        have d0 := l2 i (by omega)
        clear l1 l2
        obtain ⟨x, hx⟩ : ∃ x, iat a i = x := ⟨_, rfl⟩
        obtain ⟨y, hy⟩ : ∃ y, iat b i = y := ⟨_, rfl⟩
        rw [hx] at c0
        rw [hy] at d0
        have e1 : (i : Int) < a.length := by omega
        have e2 : (i : Int) < b.length := by omega
        by_cases hxy : x = y
        · subst hxy
          go_wp2_with fail
          go_quiet (fail)
          go_wp2
          go_roundw
          case rel => exact ⟨i + 1, by omega, by go_num, more HP.out (by rw [hx, hy]), below_drewN HB.out⟩
          case measure => simp [intOf]; omega
        · have hxb : (x != y) = true := by simpa using hxy
          go_wp2_with fail
          go_quiet (fail)
          go_wp2
          go_ret
          refine ⟨retB ?_, below_drewN HB.out⟩
          have hne : a ≠ b := by
            intro e
            subst e
            rw [hx] at hy
            exact absurd hy hxy
          simp [hne]
      · go_wp2
        go_ret
        have : i = a.length := by omega
        subst this
        exact ⟨retB (by simp [iat_ext hl HP.out]), HB.out⟩
  · go_enter Try.func9, Try.ntmps9
    have hli : ((a.length : Int) != b.length) = true := by simp; omega
    go_wp2
    go_ret
    refine ⟨retB ?_, Below.refl _ _⟩
    have hne : a ≠ b := fun e => hl (by rw [e])
    simp [hne]

theorem wp_append {P : Program} {w : World} {o : Oper} {a : Act} {K : Act → World → Prop} {Q : Exit → Act → World → Prop} (s x : Operand) (t : TypeId)
    (ho : o.op = .call { callee := .builtin .append, args := #[s, x], argTypes := #[t, t] }) (ty : TypeId) (hty : o.type = ty) (vs vx v' : Value) (w' : World) (hs : a.eval s = vs) (hx : a.eval x = vx)
    (hr : (Builtin.append_ #[t, t] ty #[vs, vx]).run P w = .ok v' w') (h : K (a.put o.dst v') w') : Oper.wp P o a w K Q := by
  subst hty
  unfold Oper.wp execOp
  simp only [ho, resolve, invoke, builtin, Sem.run_bind, Sem.run_pure, Result.andThen_ok, List.map_toArray, List.map_cons, List.map_nil, hs, hx, hr]
  exact h
theorem cells_sety : ∀ (ps : List Pt) (j : Nat) (y : Int), j < ps.length → (cells ps).set (j * 2 + 1) (.int .i64 y) = cells (ps.set j ⟨(at' ps j).x, y⟩)
  | [], j, y, h => by simp at h
  | p :: ps, 0, y, _ => by simp [cells, at']
  | p :: ps, j + 1, y, h => by
    have ih := cells_sety ps j y (by simpa using h)
    have e : (j + 1) * 2 + 1 = (j * 2 + 1) + 1 + 1 := by omega
    rw [e]
    simp only [cells, List.set_cons_succ, ih]
    rfl
theorem Owns.sety {w : World} {base g cap : Nat} {ps : List Pt} (h : Owns w base (.slice (some ⟨g, 0, none⟩) ps.length cap) ps) {j : Nat} (hj : j < ps.length) (y : Int) : Owns (w.setCell ⟨g, j * 2 + 1, none⟩ (.int .i64 y)) base (.slice (some ⟨g, 0, none⟩) (ps.set j ⟨(at' ps j).x, y⟩).length cap) (ps.set j ⟨(at' ps j).x, y⟩) := by
  have := (World.ownsRow.stored h (j * 2 + 1) (.int .i64 y)).1
  unfold Owns
  rw [List.length_set, ← cells_sety ps j y hj]
  exact this
theorem split_is (m : Int) (es : List Pt) {a : Nat} (ha : a < es.length) : (es.set a ⟨(at' es a).x, m⟩) ++ [(⟨m, (at' es a).y⟩ : Pt)] = splitL m es a := by
  unfold splitL
  rw [List.set_append_left _ _ ha, List.set_append_right _ _ (by rw [List.length_set]; exact Nat.le_refl _), List.length_set, Nat.sub_self]
  rfl
set_option maxRecDepth 100000 in
set_option maxHeartbeats 8000000 in
theorem split8 (m : Nat) (p : Option Addr) (es : List Pt) (cp a : Nat) (w : World) (h : Has w p es) (hnil : p = none → cp = 0) (hm : netB m es = true) (ha : a < es.length) (h1 : m + 1 ≤ 1024) (h2 : es.length + 1 ≤ 3072) : Calls Try.prog 8 #[nv m p es.length cp, .int .i64 a] w fun e w' => ∃ q c, e = .returned (.tuple #[nv ((m : Int) + 1) q (es.length + 1) c, .int .i64 0]) ∧ Owns w' w.heap.size (.slice q (splitL m es a).length c) (splitL m es a) ∧ Below w.heap.size w w' := by
  obtain ⟨W, hW, hb, a0, b0⟩ := two_nets w m p es.length cp
  have hs := split_net hm ha h1 h2
  have C1 := hide (copy22 m p es cp W hnil (by omega) (h.later hb))
  have MY : Hid (∀ V q c, Has V q (splitL m es a) → Calls Try.prog 5 #[nv ((m : Int) + 1) q (splitL m es a).length c] V fun e w' => e = .returned (.bool true) ∧ Below V.heap.size V w') := fun V q c hV => by have := may12 ((m : Int) + 1) q (splitL m es a) c V hV; rw [hs] at this; exact this
  have hq : ∃ b off, p = some ⟨b, off, none⟩ ∧ Lies w b off es := by
    rcases h with h0 | h0
    · subst h0; simp at ha
    · exact h0
  obtain ⟨b, off, rfl, hLW⟩ := hq
  have HLW := hide (hLW.later hb)
  have HB := hide hb
  have HA := hide a0
  have HN := hide b0
  have hWs : W.heap.size = w.heap.size + 1 + 1 := by rw [hW]; simp
  have HWS := hide hWs
  have i1 : ¬ (a : Int) < 0 := by omega
  have i2 : ¬ (es.length : Int) ≤ a := by omega
  have i3 : (a : Int) < es.length := by omega
  have i4 : (0 : Int) ≤ a := by omega
  obtain ⟨q0, q1, _, _⟩ := a0
  clear h hb b0 hm hs hLW hnil hWs
  go_enter Try.func8, Try.ntmps8
  go_wp2_with fail
  rw [← hW]
  clear hW
  refine C1.out.mono ?_
  rintro e w1 ⟨qh, ch, rfl, hoh, hb1⟩
  obtain ⟨g, ch', hv, _, hg1, hg2⟩ := owns_block hoh (by omega)
  cases hv
  obtain ⟨X, hX⟩ : ∃ X, X = w1.alloc (nbx m (some ⟨g, 0, none⟩) es.length ch) := ⟨_, rfl⟩
  have hbX : Below w1.heap.size w1 X := by rw [hX]; go_grown
  have xb : NOwn X w1.heap.size m (some ⟨g, 0, none⟩) es.length ch := by rw [hX]; exact ⟨by unfold nbx; go_cell, by unfold nbx; go_cell, by unfold nbx; go_cell, by unfold nbx; go_cell⟩
  have hXs : X.heap.size = w1.heap.size + 1 := by rw [hX]; simp
  have hkX : X.heap[w1.heap.size]? = some (nbx m (some ⟨g, 0, none⟩) es.length ch) := by rw [hX]; exact World.alloc_heap_new w1 _
  have HBX := hide (below_step hb1 hbX)
  have HOX := hide (hoh.later hbX)
  have HXB := hide xb
  have HKX := hide hkX
  have HXS := hide hXs
  have hW1 := hb1.size
  have HSZ : Hid (W.heap.size ≤ g ∧ g < w1.heap.size ∧ W.heap.size ≤ w1.heap.size) := ⟨hg1, hg2, hW1⟩
  clear q0 q1 C1 hoh hb1 hbX xb hXs hkX hg1 hg2 hW1
  go_upto_region 4 with fail
  rw [← hX]
  clear hX
  obtain ⟨kh, hkh⟩ : ∃ k, w1.heap.size = k := ⟨_, rfl⟩
  rw [hkh] at HXB HKX HXS HSZ ⊢
  clear hkh
  obtain ⟨kw, hkw⟩ : ∃ k, w.heap.size = k := ⟨_, rfl⟩
  have HKW := hide hkw
  rw [hkw] at HA HN HWS ⊢
  clear hkw
  have HAX := hide (HA.out.later HBX.out)
  have HNX := hide (HN.out.later HBX.out)
  obtain ⟨q0, q1, _, _⟩ := HAX.out
  obtain ⟨y0, y1, y2, y3⟩ := HXB.out
  have d0 : X.cell? ⟨g, a * 2 + 1, none⟩ = some (.int .i64 (at' es a).y) := (HOX.out.lies a ha).2 |> (fun h => by simpa using h)
  have d1 : X.frozen? ⟨g, a * 2 + 1, none⟩ = false := World.ownsRow.frozenAt HOX.out (a * 2 + 1)
  have n1 : g ≠ kh := by have := HSZ.out; omega
  have n2 : g ≠ kw := by have := HSZ.out; have := HWS.out; omega
  go_region
  obtain ⟨Y, hY⟩ : ∃ Y, Y = (X.setCell ⟨g, a * 2 + 1, none⟩ (.int .i64 m)).drew := ⟨_, rfl⟩
  have oY : Owns Y W.heap.size (.slice (some ⟨g, 0, none⟩) es.length ch) (es.set a ⟨(at' es a).x, m⟩) := by
    rw [hY]
    have := (Owns.sety HOX.out ha (m : Int)).later (below_drew _)
    rw [List.length_set] at this
    exact this
  have bY : Below W.heap.size W Y := by rw [hY]; exact below_step (HBX.out.setCell (p := ⟨g, a * 2 + 1, none⟩) HSZ.out.1 _) (below_drew _)
  have kY : Y.cell? ⟨kh, 0, none⟩ = some (.int .i64 m) ∧ Y.cell? ⟨kh, 1, none⟩ = some (.slice (some ⟨g, 0, none⟩) es.length ch) ∧ Y.frozen? ⟨kh, 0, none⟩ = false ∧ Y.frozen? ⟨kh, 1, none⟩ = false := by
    have := HXB.out.other (k := g) (i := a * 2 + 1) n1 (.int .i64 m)
    have := this.later (below_drew _)
    rw [hY]
    exact this
  have hYk : Y.heap[kh]? = some (nbx m (some ⟨g, 0, none⟩) es.length ch) := by
    rw [hY]
    exact ((Frame.set X ⟨g, a * 2 + 1, none⟩ (.int .i64 m) (p := fun i => i = g) rfl).block kh (by have := HXS.out; omega) (fun e => n1 e.symm)).trans HKX.out
  have aY : NOwn Y kw m (some ⟨b, off, none⟩) es.length cp := HA.out.later bY
  have lY := (HLW.out.later bY) a ha
  have sYk : kh < Y.heap.size := block_lt_of_cell kY.1
  have HBY0 := hide bY
  rw [← hY]
  clear hY q0 q1 y0 y1 y2 y3 d0 d1 HOX HXB HAX HNX HBX HKX HXS
  -- the world behind the draw, with the literal, and with the longer list
  obtain ⟨V0, hV0⟩ : ∃ V, V = Y.drew := ⟨_, rfl⟩
  have bd : Below Y.heap.size Y V0 := by rw [hV0]; exact below_drew _
  have oV : Owns V0 W.heap.size (.slice (some ⟨g, 0, none⟩) es.length ch) (es.set a ⟨(at' es a).x, m⟩) := oY.later bd
  have hlen : (es.set a (⟨(at' es a).x, m⟩ : Pt)).length = es.length := List.length_set ..
  have oV' : Owns V0 W.heap.size (.slice (some ⟨g, 0, none⟩) (es.set a (⟨(at' es a).x, m⟩ : Pt)).length ch) (es.set a ⟨(at' es a).x, m⟩) := by rw [hlen]; exact oV
  have sV : W.heap.size ≤ V0.heap.size := by have := bd.size; have := HBY0.out.size; omega
  obtain ⟨v', D, e1, o1, gr1, hbD⟩ := app1 oV' (m : Int) (at' es a).y sV (by rw [hlen]; omega)
  rw [split_is (m : Int) es ha] at o1
  rw [hlen] at e1 gr1
  obtain ⟨q', c', rfl, hH', _, _, _⟩ := o1.form
  have hspl : (splitL (m : Int) es a).length = es.length + 1 := splitL_length _ _ _
  rw [hspl] at e1
  obtain ⟨V1, hV1⟩ : ∃ V, V = V0.alloc (.cells #[.int .i64 m, .int .i64 (at' es a).y] 47) := ⟨_, rfl⟩
  have b1 : Below V0.heap.size V0 V1 := by rw [hV1]; go_grown
  have hob : (Value.slice (some ⟨g, 0, none⟩) es.length ch).ownBlock ≠ some kh := fun e => n1 (by simpa [Value.ownBlock] using e)
  rw [← hV1] at e1 gr1
  have g0 := grown_cell gr1 (later b1 (later bd kY.1)) hob
  have g1 := grown_cell gr1 (later b1 (later bd kY.2.1)) hob
  have f0 : D.frozen? ⟨kh, 0, none⟩ = false := g0.2.trans (laterF b1 (later bd kY.1) (laterF bd kY.1 kY.2.2.1))
  have f1 : D.frozen? ⟨kh, 1, none⟩ = false := g1.2.trans (laterF b1 (later bd kY.2.1) (laterF bd kY.2.1 kY.2.2.2))
  have hkD : D.heap[kh]? = some (nbx m (some ⟨g, 0, none⟩) es.length ch) := by
    rw [gr1.block kh (by have := bd.size; have := b1.size; omega) (fun e => hob e.symm), b1.block kh (by have := bd.size; omega), bd.block kh sYk]
    exact hYk
  have hap : (Value.slice q' (splitL (m : Int) es a).length c').ownBlock ≠ some kh := row_apart hkD o1 (by decide)
  have bD : Below W.heap.size W D := Below.trans (below_step HBY0.out bd) hbD
  have HBK0 : Hid (V0.cell? ⟨kh, 1, none⟩ = some (.slice (some ⟨g, 0, none⟩) es.length ch) ∧ True) := ⟨later bd kY.2.1, trivial⟩
  have HBK1 : Hid (V1.cell? ⟨kh, 1, none⟩ = some (.slice (some ⟨g, 0, none⟩) es.length ch) ∧ True) := ⟨later b1 (later bd kY.2.1), trivial⟩
  have HDK : Hid (D.cell? ⟨kh, 1, none⟩ = some (.slice (some ⟨g, 0, none⟩) es.length ch) ∧ D.frozen? ⟨kh, 1, none⟩ = false) := ⟨g1.1, f1⟩
  have HV1 := hide hV1
  have lY2 : Y.cell? ⟨b, off + a * 2 + 1, none⟩ = some (.int .i64 (at' es a).y) := lY.2
  have aD := HA.out.later bD
  have lD := (HLW.out.later bD) a ha
  have lD2 : D.cell? ⟨b, off + a * 2 + 1, none⟩ = some (.int .i64 (at' es a).y) := lD.2
  have HS1 : Hid (V1.cell? ⟨kw, 0, none⟩ = some (.int .i64 m) ∧ V1.cell? ⟨kw, 1, none⟩ = some (.slice (some ⟨b, off, none⟩) es.length cp) ∧ V1.cell? ⟨b, off + a * 2 + 1, none⟩ = some (.int .i64 (at' es a).y)) := ⟨later b1 (later bd aY.1), later b1 (later bd aY.2.1), later b1 (later bd lY2)⟩
  have HS2 : Hid (D.cell? ⟨kw, 0, none⟩ = some (.int .i64 m) ∧ D.cell? ⟨kw, 1, none⟩ = some (.slice (some ⟨b, off, none⟩) es.length cp) ∧ D.cell? ⟨b, off + a * 2 + 1, none⟩ = some (.int .i64 (at' es a).y)) := ⟨aD.1, aD.2.1, lD2⟩
  have s0 := later bd aY.1
  have s1 := later bd aY.2.1
  have s2 := later bd lY2
  have nkw : kw ≠ kh := by have := HSZ.out; have := HWS.out; omega
  have nkb : b ≠ kh := by have : b < W.heap.size := block_lt_of_cell (HLW.out a ha).2; have := HSZ.out; omega
  have HO1 := hide o1
  have HAP := hide hap
  have HG0 := hide (And.intro g0.1 f0)
  have HBD := hide bD
  have HND := hide (HN.out.later bD)
  have HKH : Hid (W.heap.size ≤ kh) := HSZ.out.2.2
  have HSPL := hide hspl
  have w1' : wrap64 ((m : Int) + 1) = m + 1 := by unfold wrap64; omega
  clear kY hYk aY lY sYk bd oV oV' hlen sV hbD gr1 hH' hspl b1 hob g0 g1 f0 f1 hkD hap bD aD lD lY2 lD2 oY bY o1 hV1
  go_upto_region 5 with fail
  refine wp_region_held_drew (S := (fun W' => W'.cell? ⟨kw, 0, none⟩ = some (.int .i64 m) ∧ W'.cell? ⟨kw, 1, none⟩ = some (.slice (some ⟨b, off, none⟩) es.length cp) ∧ W'.cell? ⟨b, off + a * 2 + 1, none⟩ = some (.int .i64 (at' es a).y))) (by kernel_rfl) (by rw [← hV0]; exact ⟨s0, s1, s2⟩) (fun hHeld => ?_)
  rw [← hV0] at hHeld ⊢
  clear hV0
  change wpAnyH Try.prog .any _ _ _ 15 #[false, false, false, false, false, false, false, false, false, false, false, false, false, false, false] _ _
  refine wpAnyH_take (i := 0) (v := ?v13) rfl (by kernel_rfl) (by kernel_rfl) (by kernel_rfl) (fun _ _ _ h => h) (Or.inl ⟨by rfl, ?hy13⟩) (by assumption) ?rest13
  case hy13 => (intro w hSw; (try dsimp only at hSw); go_simp; try with_reducible rfl)
  try simp only [Act.put, List.setIfInBounds_toArray, List.set_cons_zero]
  refine wpAnyH_take (i := 2) (v := ?v14) rfl (by kernel_rfl) (by kernel_rfl) (by kernel_rfl) (fun _ _ _ h => h) (Or.inl ⟨by rfl, ?hy14⟩) (by assumption) ?rest14
  case hy14 => (intro w hSw; (try dsimp only at hSw); go_simp; try with_reducible rfl)
  try simp only [Act.put, List.setIfInBounds_toArray, List.set_cons_zero, List.set_cons_succ]
  refine wpAnyH_take (i := 3) (v := ?v15) rfl (by kernel_rfl) (by kernel_rfl) (by kernel_rfl) (fun _ _ _ h => h) (Or.inl ⟨by rfl, ?hy15⟩) (by assumption) ?rest15
  case hy15 => (intro w hSw; (try dsimp only at hSw); go_simp; try with_reducible rfl)
  try simp only [Act.put, List.setIfInBounds_toArray, List.set_cons_zero, List.set_cons_succ]
  refine wpAnyH_take (i := 4) (v := ?v16) rfl (by kernel_rfl) (by kernel_rfl) (by kernel_rfl) (fun _ _ _ h => h) (Or.inl ⟨by rfl, ?hy16⟩) (by assumption) ?rest16
  case hy16 => (intro w hSw; (try dsimp only at hSw); go_simp; try with_reducible rfl)
  try simp only [Act.put, List.setIfInBounds_toArray, List.set_cons_zero, List.set_cons_succ]
  refine wpAnyH_take (i := 5) (v := ?v17) rfl (by kernel_rfl) (by kernel_rfl) (by kernel_rfl) (fun _ _ _ h => h) (Or.inl ⟨by rfl, ?hy17⟩) (by assumption) ?rest17
  case hy17 => (intro w hSw; (try dsimp only at hSw); go_simp; try with_reducible rfl)
  try simp only [Act.put, List.setIfInBounds_toArray, List.set_cons_zero, List.set_cons_succ]
  refine wpAnyH_take (i := 6) (v := ?v18) rfl (by kernel_rfl) (by kernel_rfl) (by kernel_rfl) (fun _ _ _ h => h) (Or.inl ⟨by rfl, ?hy18⟩) (by assumption) ?rest18
  case hy18 => (intro w hSw; (try dsimp only at hSw); go_simp; try with_reducible rfl)
  try simp only [Act.put, List.setIfInBounds_toArray, List.set_cons_zero, List.set_cons_succ]
  refine wpAnyH_take (i := 7) (v := ?v19) rfl (by kernel_rfl) (by kernel_rfl) (by kernel_rfl) (fun _ _ _ h => h) (Or.inl ⟨by rfl, ?hy19⟩) (by assumption) ?rest19
  case hy19 => (intro w hSw; (try dsimp only at hSw); go_simp; try with_reducible rfl)
  try simp only [Act.put, List.setIfInBounds_toArray, List.set_cons_zero, List.set_cons_succ]
  refine wpAnyH_take (i := 8) (v := ?v20) rfl (by kernel_rfl) (by kernel_rfl) (by kernel_rfl) (fun _ _ _ h => h) (Or.inl ⟨by rfl, ?hy20⟩) (by assumption) ?rest20
  case hy20 => (intro w hSw; (try dsimp only at hSw); go_simp; try with_reducible rfl)
  try simp only [Act.put, List.setIfInBounds_toArray, List.set_cons_zero, List.set_cons_succ]
  refine wpAnyH_take (i := 9) (v := ?v21) rfl (by kernel_rfl) (by kernel_rfl) (by kernel_rfl) (fun _ _ _ h => h) (Or.inl ⟨by rfl, ?hy21⟩) (by assumption) ?rest21
  case hy21 => (intro w hSw; (try dsimp only at hSw); go_simp; try with_reducible rfl)
  try simp only [Act.put, List.setIfInBounds_toArray, List.set_cons_zero, List.set_cons_succ]
  refine wpAnyH_take (i := 10) (v := ?v22) rfl (by kernel_rfl) (by kernel_rfl) (by kernel_rfl) (fun _ _ _ h => h) (Or.inl ⟨by rfl, ?hy22⟩) (by assumption) ?rest22
  case hy22 => (intro w hSw; (try dsimp only at hSw); go_simp; try with_reducible rfl)
  try simp only [Act.put, List.setIfInBounds_toArray, List.set_cons_zero, List.set_cons_succ]
  refine wpAnyH_ready (rs := [1, 11]) (by kernel_rfl) (by simp) ?_
  refine ready_cons ({ dst := some 27, op := Op.load 22 (Operand.tmp 26), type := 22, pos := "ref.go:208", after := #[{ on := 0, ground := Ground.data }], guard := none }) rfl rfl (fun K hK => ?_) ?_
  · clear hHeld
    have d0 := HBK0.out.1
    refine wp_val (v := ?vl3) (w2 := V0) ?hl3 ?_
    case hl3 => (go_simp; try with_reducible rfl)
    clear d0
    refine hK.out _ _ (by first | exact ⟨s0, s1, s2⟩ | exact ⟨cell_other s0 nkw, cell_other s1 nkw, cell_other s2 nkb⟩) (fun hHeld => ?_)
    clear hK K
    try simp only [Act.put, List.setIfInBounds_toArray, List.set_cons_zero, List.set_cons_succ]
    refine wpAnyH_ready (rs := [11]) (by kernel_rfl) (by simp) ?_
    refine ready_cons ({ dst := some 37, op := Op.buildSlice 22 1 #[(0, Operand.tmp 36)], type := 22, pos := "ref.go:208", after := #[{ on := 10, ground := Ground.data }], guard := none }) rfl rfl (fun K hK => ?_) ?_
    · clear hHeld
      go_simp
      rw [← HV1.out]
      clear s0 s1 s2
      have s0 := HS1.out.1
      have s1 := HS1.out.2.1
      have s2 := HS1.out.2.2
      refine hK.out _ _ (by first | exact ⟨s0, s1, s2⟩ | exact ⟨cell_other s0 nkw, cell_other s1 nkw, cell_other s2 nkb⟩) (fun hHeld => ?_)
      clear hK K
      try simp only [List.setIfInBounds_toArray, List.set_cons_zero, List.set_cons_succ]
      refine wpAnyH_ready (rs := [12]) (by kernel_rfl) (by simp) ?_
      refine ready_cons ({ dst := some 38, op := Op.call { callee := Callee.builtin Builtin.append, args := #[Operand.tmp 27, Operand.tmp 37], argTypes := #[22, 22] }, type := 22, pos := "ref.go:208", after := #[{ on := 1, ground := Ground.data }, { on := 11, ground := Ground.data }], guard := none }) rfl rfl (fun K hK => ?_) ?_
      · clear hHeld
        clear s0 s1 s2
        have s0 := HS2.out.1
        have s1 := HS2.out.2.1
        have s2 := HS2.out.2.2
        refine wp_append (.tmp 27) (.tmp 37) 22 (by rfl) 22 (by rfl) (.slice (some ⟨g, 0, none⟩) es.length ch) (.slice (some ⟨V0.heap.size, 0, none⟩) 1 1) (.slice q' (es.length + 1) c') D (by rfl) (by rfl) ?_ ?_
        with_reducible exact e1
        refine hK.out _ _ (by first | exact ⟨s0, s1, s2⟩ | exact ⟨cell_other s0 nkw, cell_other s1 nkw, cell_other s2 nkb⟩) (fun hHeld => ?_)
        clear hK K
        try simp only [Act.put, List.setIfInBounds_toArray, List.set_cons_zero, List.set_cons_succ]
        refine wpAnyH_take (i := 13) (v := ?v23) rfl (by kernel_rfl) (by kernel_rfl) (by kernel_rfl) (fun _ _ _ h => h) (Or.inl ⟨by rfl, ?hy23⟩) (by assumption) ?rest23
        case hy23 => (intro w hSw; (try dsimp only at hSw); go_simp; try with_reducible rfl)
        try simp only [Act.put, List.setIfInBounds_toArray, List.set_cons_zero, List.set_cons_succ]
        refine wpAnyH_ready (rs := [14]) (by kernel_rfl) (by simp) ?_
        refine ready_cons ({ dst := none, op := Op.store 22 (Operand.tmp 39) (Operand.tmp 38), type := 0, pos := "ref.go:208", after := #[{ on := 13, ground := Ground.data }, { on := 12, ground := Ground.data }, { on := 12, ground := Ground.chain }, { on := 0, ground := Ground.phase }, { on := 1, ground := Ground.phase }, { on := 2, ground := Ground.phase }, { on := 3, ground := Ground.phase }, { on := 4, ground := Ground.phase }, { on := 5, ground := Ground.phase }, { on := 6, ground := Ground.phase }, { on := 7, ground := Ground.phase }, { on := 8, ground := Ground.phase }, { on := 9, ground := Ground.phase }, { on := 10, ground := Ground.phase }, { on := 11, ground := Ground.phase }, { on := 12, ground := Ground.phase }], guard := none }) rfl rfl (fun K hK => ?_) ?_
        · clear hHeld
          have d0 := HDK.out.1
          have d1 := HDK.out.2
          go_simp
          clear d0 d1
          refine hK.out _ _ (by first | exact ⟨s0, s1, s2⟩ | exact ⟨cell_other s0 nkw, cell_other s1 nkw, cell_other s2 nkb⟩) (fun hHeld => ?_)
          clear hK K
          try simp only [List.setIfInBounds_toArray, List.set_cons_zero, List.set_cons_succ]
          refine wpAnyH_done (by kernel_rfl) ?_ _
          clear hHeld
          obtain ⟨E, hE⟩ : ∃ E, E = (D.setCell ⟨kh, 1, none⟩ (.slice q' (es.length + 1) c')).setCell ⟨kh, 0, none⟩ (.int .i64 ((m : Int) + 1)) := ⟨_, rfl⟩
          have z0 : E.cell? ⟨kh, 0, none⟩ = some (.int .i64 ((m : Int) + 1)) := by rw [hE]; exact World.cell?_setCell_same' _ _ _ (by rw [World.cell?_setCell_other _ _ _ _ (by simp), HG0.out.1]; rfl)
          have z1 : E.cell? ⟨kh, 1, none⟩ = some (.slice q' (es.length + 1) c') := by rw [hE, World.cell?_setCell_other _ _ _ _ (by simp)]; exact World.cell?_setCell_same' _ _ _ (by rw [HDK.out.1]; rfl)
          have oE : Owns E W.heap.size (.slice q' (splitL (m : Int) es a).length c') (splitL m es a) := by rw [hE]; exact ownsRow_setCell_other (ownsRow_setCell_other HO1.out HAP.out _) HAP.out _
          have bE : Below W.heap.size W E := by rw [hE]; exact (HBD.out.setCell (p := ⟨kh, 1, none⟩) HKH.out _).setCell (p := ⟨kh, 0, none⟩) HKH.out _
          have hHE : Has E q' (splitL m es a) := by
            obtain ⟨a1, a2, a3, a4, _⟩ := oE.form
            have : q' = a1 := by injection a3
            rw [this]
            exact a4
          have C2 := hide (MY.out E q' c' hHE)
          rw [HSPL.out] at C2
          have HOE := hide oE
          have HBE := hide bE
          have HNE := hide (HN.out.later bE)
          have k0 := HG0.out.1
          have k1 := HDK.out.1
          have k2 := HG0.out.2
          have k3 := HDK.out.2
          clear oE bE hHE s0 s1 s2
          go_upto_region 7 with fail
          rw [← hE]
          clear hE k0 k1 k2 k3
          go_wp2_with fail
          refine C2.out.mono ?_
          rintro e w5 ⟨rfl, hb5⟩
          have z0' := later hb5 z0
          have z1' := later hb5 z1
          have HO5 := hide (HOE.out.later hb5)
          have HB5 := hide (below_step HBE.out hb5)
          have HN5 := hide (HNE.out.later hb5)
          clear hb5 C2 z0 z1 HOE HBE HNE
          obtain ⟨c0, c1, c2, c3⟩ := HN5.out
          have nk : kw + 1 ≠ kh := by have := HKH.out; have := HWS.out; omega
          go_wp2_with fail
          have hkw1 : kw + 1 < W.heap.size := by have := HWS.out; omega
          refine bodyPost_ret (ret_net Try.results8 rfl rfl (HN5.out.set _ _ _ _)) rfl ⟨q', c', rfl, ?_, ?_⟩
          · exact (owns_other (owns_other HO5.out hkw1 _) hkw1 _).base (by rw [HKW.out, HWS.out]; omega)
          · rw [HKW.out]
            have := below_step HB.out HB5.out
            rw [HKW.out] at this
            exact (this.setCell (p := ⟨kw + 1, 0, none⟩) (by simp) _).setCell (p := ⟨kw + 1, 1, none⟩) (by simp) _
        exact AllReadyH.nil
      exact AllReadyH.nil
    exact AllReadyH.nil
  refine ready_cons ({ dst := some 37, op := Op.buildSlice 22 1 #[(0, Operand.tmp 36)], type := 22, pos := "ref.go:208", after := #[{ on := 10, ground := Ground.data }], guard := none }) rfl rfl (fun K hK => ?_) ?_
  · clear hHeld
    go_simp
    rw [← HV1.out]
    clear s0 s1 s2
    have s0 := HS1.out.1
    have s1 := HS1.out.2.1
    have s2 := HS1.out.2.2
    refine hK.out _ _ (by first | exact ⟨s0, s1, s2⟩ | exact ⟨cell_other s0 nkw, cell_other s1 nkw, cell_other s2 nkb⟩) (fun hHeld => ?_)
    clear hK K
    try simp only [List.setIfInBounds_toArray, List.set_cons_zero, List.set_cons_succ]
    refine wpAnyH_ready (rs := [1]) (by kernel_rfl) (by simp) ?_
    refine ready_cons ({ dst := some 27, op := Op.load 22 (Operand.tmp 26), type := 22, pos := "ref.go:208", after := #[{ on := 0, ground := Ground.data }], guard := none }) rfl rfl (fun K hK => ?_) ?_
    · clear hHeld
      have d0 := HBK1.out.1
      refine wp_val (v := ?vl4) (w2 := V1) ?hl4 ?_
      case hl4 => (go_simp; try with_reducible rfl)
      clear d0
      refine hK.out _ _ (by first | exact ⟨s0, s1, s2⟩ | exact ⟨cell_other s0 nkw, cell_other s1 nkw, cell_other s2 nkb⟩) (fun hHeld => ?_)
      clear hK K
      try simp only [Act.put, List.setIfInBounds_toArray, List.set_cons_zero, List.set_cons_succ]
      refine wpAnyH_ready (rs := [12]) (by kernel_rfl) (by simp) ?_
      refine ready_cons ({ dst := some 38, op := Op.call { callee := Callee.builtin Builtin.append, args := #[Operand.tmp 27, Operand.tmp 37], argTypes := #[22, 22] }, type := 22, pos := "ref.go:208", after := #[{ on := 1, ground := Ground.data }, { on := 11, ground := Ground.data }], guard := none }) rfl rfl (fun K hK => ?_) ?_
      · clear hHeld
        clear s0 s1 s2
        have s0 := HS2.out.1
        have s1 := HS2.out.2.1
        have s2 := HS2.out.2.2
        refine wp_append (.tmp 27) (.tmp 37) 22 (by rfl) 22 (by rfl) (.slice (some ⟨g, 0, none⟩) es.length ch) (.slice (some ⟨V0.heap.size, 0, none⟩) 1 1) (.slice q' (es.length + 1) c') D (by rfl) (by rfl) ?_ ?_
        with_reducible exact e1
        refine hK.out _ _ (by first | exact ⟨s0, s1, s2⟩ | exact ⟨cell_other s0 nkw, cell_other s1 nkw, cell_other s2 nkb⟩) (fun hHeld => ?_)
        clear hK K
        try simp only [Act.put, List.setIfInBounds_toArray, List.set_cons_zero, List.set_cons_succ]
        refine wpAnyH_take (i := 13) (v := ?v24) rfl (by kernel_rfl) (by kernel_rfl) (by kernel_rfl) (fun _ _ _ h => h) (Or.inl ⟨by rfl, ?hy24⟩) (by assumption) ?rest24
        case hy24 => (intro w hSw; (try dsimp only at hSw); go_simp; try with_reducible rfl)
        try simp only [Act.put, List.setIfInBounds_toArray, List.set_cons_zero, List.set_cons_succ]
        refine wpAnyH_ready (rs := [14]) (by kernel_rfl) (by simp) ?_
        refine ready_cons ({ dst := none, op := Op.store 22 (Operand.tmp 39) (Operand.tmp 38), type := 0, pos := "ref.go:208", after := #[{ on := 13, ground := Ground.data }, { on := 12, ground := Ground.data }, { on := 12, ground := Ground.chain }, { on := 0, ground := Ground.phase }, { on := 1, ground := Ground.phase }, { on := 2, ground := Ground.phase }, { on := 3, ground := Ground.phase }, { on := 4, ground := Ground.phase }, { on := 5, ground := Ground.phase }, { on := 6, ground := Ground.phase }, { on := 7, ground := Ground.phase }, { on := 8, ground := Ground.phase }, { on := 9, ground := Ground.phase }, { on := 10, ground := Ground.phase }, { on := 11, ground := Ground.phase }, { on := 12, ground := Ground.phase }], guard := none }) rfl rfl (fun K hK => ?_) ?_
        · clear hHeld
          have d0 := HDK.out.1
          have d1 := HDK.out.2
          go_simp
          clear d0 d1
          refine hK.out _ _ (by first | exact ⟨s0, s1, s2⟩ | exact ⟨cell_other s0 nkw, cell_other s1 nkw, cell_other s2 nkb⟩) (fun hHeld => ?_)
          clear hK K
          try simp only [List.setIfInBounds_toArray, List.set_cons_zero, List.set_cons_succ]
          refine wpAnyH_done (by kernel_rfl) ?_ _
          clear hHeld
          obtain ⟨E, hE⟩ : ∃ E, E = (D.setCell ⟨kh, 1, none⟩ (.slice q' (es.length + 1) c')).setCell ⟨kh, 0, none⟩ (.int .i64 ((m : Int) + 1)) := ⟨_, rfl⟩
          have z0 : E.cell? ⟨kh, 0, none⟩ = some (.int .i64 ((m : Int) + 1)) := by rw [hE]; exact World.cell?_setCell_same' _ _ _ (by rw [World.cell?_setCell_other _ _ _ _ (by simp), HG0.out.1]; rfl)
          have z1 : E.cell? ⟨kh, 1, none⟩ = some (.slice q' (es.length + 1) c') := by rw [hE, World.cell?_setCell_other _ _ _ _ (by simp)]; exact World.cell?_setCell_same' _ _ _ (by rw [HDK.out.1]; rfl)
          have oE : Owns E W.heap.size (.slice q' (splitL (m : Int) es a).length c') (splitL m es a) := by rw [hE]; exact ownsRow_setCell_other (ownsRow_setCell_other HO1.out HAP.out _) HAP.out _
          have bE : Below W.heap.size W E := by rw [hE]; exact (HBD.out.setCell (p := ⟨kh, 1, none⟩) HKH.out _).setCell (p := ⟨kh, 0, none⟩) HKH.out _
          have hHE : Has E q' (splitL m es a) := by
            obtain ⟨a1, a2, a3, a4, _⟩ := oE.form
            have : q' = a1 := by injection a3
            rw [this]
            exact a4
          have C2 := hide (MY.out E q' c' hHE)
          rw [HSPL.out] at C2
          have HOE := hide oE
          have HBE := hide bE
          have HNE := hide (HN.out.later bE)
          have k0 := HG0.out.1
          have k1 := HDK.out.1
          have k2 := HG0.out.2
          have k3 := HDK.out.2
          clear oE bE hHE s0 s1 s2
          go_upto_region 7 with fail
          rw [← hE]
          clear hE k0 k1 k2 k3
          go_wp2_with fail
          refine C2.out.mono ?_
          rintro e w5 ⟨rfl, hb5⟩
          have z0' := later hb5 z0
          have z1' := later hb5 z1
          have HO5 := hide (HOE.out.later hb5)
          have HB5 := hide (below_step HBE.out hb5)
          have HN5 := hide (HNE.out.later hb5)
          clear hb5 C2 z0 z1 HOE HBE HNE
          obtain ⟨c0, c1, c2, c3⟩ := HN5.out
          have nk : kw + 1 ≠ kh := by have := HKH.out; have := HWS.out; omega
          go_wp2_with fail
          have hkw1 : kw + 1 < W.heap.size := by have := HWS.out; omega
          refine bodyPost_ret (ret_net Try.results8 rfl rfl (HN5.out.set _ _ _ _)) rfl ⟨q', c', rfl, ?_, ?_⟩
          · exact (owns_other (owns_other HO5.out hkw1 _) hkw1 _).base (by rw [HKW.out, HWS.out]; omega)
          · rw [HKW.out]
            have := below_step HB.out HB5.out
            rw [HKW.out] at this
            exact (this.setCell (p := ⟨kw + 1, 0, none⟩) (by simp) _).setCell (p := ⟨kw + 1, 1, none⟩) (by simp) _
        exact AllReadyH.nil
      exact AllReadyH.nil
    exact AllReadyH.nil
  exact AllReadyH.nil
end Go.Proofs.Ytghffodjffkijab

namespace Go.Proofs.Ytghffodjffkijab
open Go.RowKit Go.Sort
open Go
variable {es : List Pt}

/-- The way round that Sides tells: closed, and odd. -/
theorem odd_way {m e : Nat} (hm : netB m es = true) (he : e < es.length) (ha : alike es (everyN es m m).Fa e) : ∃ a, a < m ∧ Way es (cloL es (everyN es m m) (2 * e)) a a ∧ (cloL es (everyN es m m) (2 * e)).length % 2 = 1 := by
  obtain ⟨n0, n1, hes, hE⟩ := netB_is hm
  obtain ⟨c, hall⟩ := everyN_shut (es := es) hm m (Nat.le_refl _)
  obtain ⟨x0, x1, y0, y1⟩ := hE e he
  obtain ⟨x, hx⟩ : ∃ x : Nat, (at' es e).x = x := ⟨(at' es e).x.toNat, by omega⟩
  obtain ⟨y, hy⟩ : ∃ y : Nat, (at' es e).y = y := ⟨(at' es e).y.toNat, by omega⟩
  unfold alike at ha
  rw [hx, hy, Int.toNat_natCast, Int.toNat_natCast] at ha
  generalize everyN es m m = T at *
  have f1 : fromL es (2 * e) = x := by unfold fromL; rw [if_pos (by omega), show 2 * e / 2 = e by omega, hx]
  have t1 : toL es (2 * e) = y := by unfold toL; rw [if_pos (by omega), show 2 * e / 2 = e by omega, hy]
  have fx := hall x (by omega)
  have fy := hall y (by omega)
  have hr := (c.all (2 * e) x y (by omega) f1 t1 fx).2
  obtain ⟨L, z, hz, hlen⟩ := cloL_loop c.tree (by omega : 2 * e < 2 * es.length) t1 f1 (by omega) (by omega) fy fx hr.symm (fun v hv h0 heq => by
    obtain ⟨q, q1, q2, q3, q4, q5, q6, _⟩ := root_par c.tree hv h0
    rw [q2, Int.toNat_natCast] at heq
    have hqe : q / 2 = e := by omega
    unfold toL at q3
    unfold fromL at q4
    rw [hqe] at q3 q4
    by_cases h2 : q % 2 = 0
    · rw [if_pos h2, hy] at q3
      rw [if_pos h2, hx] at q4
      have e1 : y = v := by omega
      have e2 : x = par es T v := by omega
      rw [e1, e2] at ha
      omega
    · rw [if_neg h2, hx] at q3
      rw [if_neg h2, hy] at q4
      have e1 : x = v := by omega
      have e2 : y = par es T v := by omega
      rw [e1, e2] at ha
      omega)
  obtain ⟨a, hw⟩ := L.way
  have hf := hw.first L.pos
  obtain ⟨k, hk, hk2⟩ := hw.at_ 0 L.pos
  rw [hk, Int.toNat_natCast] at hf
  have := fromL_in hm k hk2
  exact ⟨a, by omega, hw, by omega⟩
/-- Ring's way round is even where there are two sides. -/
theorem ring_even {m : Nat} {c : Nat → Nat} (hm : netB m es = true) (hc : Proper es c) (h : rgN es m m ≠ []) : (rgN es m m).length % 2 = 0 := by
  rcases ring_loop hm m (Nat.le_refl _) with e | L
  · exact absurd e h
  · obtain ⟨a, hw⟩ := L.way
    have := proper_par hc hw
    omega
theorem alike_dec (es : List Pt) (Fa : List Int) : (∀ e, e < es.length → ¬ alike es Fa e) ∨ ∃ e, e < es.length ∧ alike es Fa e := by
  by_cases h : ∃ e, e < es.length ∧ alike es Fa e
  · exact Or.inr h
  · exact Or.inl (fun e he ha => h ⟨e, he, ha⟩)
theorem sd_take {m : Nat} {F G : List Int} (h : ∀ v, v < m → iat F v % 2 = iat G v % 2) : (sdL F (m + 2) (m + 2)).take m = sdL G m m := by
  apply List.ext_getElem
  · rw [List.length_take, sdL_len, sdL_len]; omega
  · intro i a1 a2
    have hi : i < m := by rw [sdL_len] at a2; exact a2
    have e1 := sdL_at F (m + 2) i (by omega) (m + 2) (Nat.le_refl _)
    have e2 := sdL_at G m i hi m (Nat.le_refl _)
    rw [if_pos (by omega)] at e1
    rw [if_pos hi] at e2
    unfold iat at e1 e2
    rw [List.getD_eq_getElem?_getD, List.getElem?_eq_getElem (by rw [sdL_len]; omega)] at e1
    rw [List.getD_eq_getElem?_getD, List.getElem?_eq_getElem a2] at e2
    rw [List.getElem_take]
    have := h i hi
    unfold iat at this
    simp only [Option.getD_some] at e1 e2
    rw [e1, e2]
    exact this
set_option maxRecDepth 100000 in
set_option maxHeartbeats 8000000 in
theorem odd_no (n : Int) (p : Option Addr) (es : List Pt) (cp : Nat) (e0 : Int) (w : World) (h : Has w p es) (hno : netB n es = false ∨ es.length = 0 ∨ 60 < es.length ∨ 100 < n ∨ e0 < 0) : Calls Try.prog 3 #[nv n p es.length cp, .int .i64 e0] w fun e w' => e = .returned (.bool true) ∧ Below w.heap.size w w' := by
  obtain ⟨W, hW, hb, a0⟩ := one_net w n p es.length cp
  have MY : Hid (∀ V, Has V p es → Calls Try.prog 5 #[nv n p es.length cp] V fun e w' => e = .returned (.bool (netB n es)) ∧ Below V.heap.size V w') := fun V hV => may12 n p es cp V hV
  have BG := hide (begun9 W)
  have HH := hide (h.later hb)
  have HB := hide hb
  have HA := hide a0
  clear h hb a0
  generalize netB n es = bm at *
  obtain ⟨ln, hln⟩ : ∃ l, es.length = l := ⟨_, rfl⟩
  rw [hln] at MY HA hno hW ⊢
  clear hln
  go_enter Try.func3, Try.ntmps3
  go_wp2_with fail
  rw [← hW]
  clear hW
  refine BG.out.mono ?_
  rintro e w1 ⟨rfl, hb1⟩
  have C1 := hide (MY.out w1 (HH.out.later hb1))
  have HB1 := hide (below_step HB.out hb1)
  have HA1 := hide (HA.out.later hb1)
  obtain ⟨q0, q1, _, _⟩ := HA1.out
  clear hb1 BG
  go_wp2_with fail
  refine C1.out.mono ?_
  rintro e w2 ⟨rfl, hb2⟩
  have HB2 := hide (below_step HB1.out hb2)
  have HA2 := hide (HA1.out.later hb2)
  clear q0 q1 C1 hb2
  obtain ⟨q0, q1, _, _⟩ := HA2.out
  cases bm
  · go_wp2
    go_ret
    exact ⟨rfl, HB2.out⟩
  · have hcase : ln = 0 ∨ (ln ≠ 0 ∧ 60 < ln) ∨ (ln ≠ 0 ∧ ¬ 60 < ln ∧ 100 < n) ∨ (ln ≠ 0 ∧ ¬ 60 < ln ∧ ¬ 100 < n ∧ e0 < 0) := by
      rcases hno with h | h | h | h | h
      · simp at h
      · omega
      · omega
      · omega
      · omega
    clear hno
    rcases hcase with h1 | ⟨h1, h2⟩ | ⟨h1, h2, h3⟩ | ⟨h1, h2, h3, h4⟩
    · subst h1
      go_wp2
      go_ret
      exact ⟨rfl, HB2.out⟩
    · have t1 : ((ln : Int) == 0) = false := by simp; omega
      have t2 : (ln : Int) > 60 := by omega
      go_wp2
      go_ret
      exact ⟨rfl, HB2.out⟩
    · have t1 : ((ln : Int) == 0) = false := by simp; omega
      have t2 : ¬ (ln : Int) > 60 := by omega
      go_wp2
      go_ret
      exact ⟨rfl, HB2.out⟩
    · have t1 : ((ln : Int) == 0) = false := by simp; omega
      have t2 : ¬ (ln : Int) > 60 := by omega
      go_wp2
      go_ret
      exact ⟨rfl, HB2.out⟩
end Go.Proofs.Ytghffodjffkijab

namespace Go.Proofs.Ytghffodjffkijab
open Go.RowKit Go.Sort
open Go

theorem IHas.take {w : World} {p : Option Addr} {l : List Int} (h : IHas w p l) (k : Nat) : IHas w p (l.take k) := by
  rcases h with rfl | ⟨b, off, e, hl⟩
  · exact Or.inl (by simp)
  · refine Or.inr ⟨b, off, e, fun j hj => ?_⟩
    have hj2 : j < k ∧ j < l.length := by rw [List.length_take] at hj; omega
    rw [hl j hj2.2]
    unfold iat
    rw [List.getD_eq_getElem?_getD, List.getD_eq_getElem?_getD, List.getElem?_take, if_pos hj2.1]
set_option maxRecDepth 100000 in
set_option maxHeartbeats 8000000 in
theorem odd_yes (m : Nat) (p : Option Addr) (es : List Pt) (cp a : Nat) (e0 : Int) (w : World) (h : Has w p es) (hnil : p = none → cp = 0) (hm : netB m es = true) (hl0 : 0 < es.length) (hl : es.length ≤ 60) (hl2 : m ≤ 100) (he : 0 ≤ e0) (hat : Int.tmod e0 es.length = a) (ha : a < es.length) : Calls Try.prog 3 #[nv m p es.length cp, .int .i64 e0] w fun e w' => e = .returned (.bool true) ∧ Below w.heap.size w w' := by
  obtain ⟨W, hW, hb, a0⟩ := one_net w m p es.length cp
  have hm2 := twice_net hm ha (by omega) (by omega)
  have hm1 : netB ((m + 1 : Nat) : Int) (splitL m es a) = true := by rw [show ((m + 1 : Nat) : Int) = (m : Int) + 1 by omega]; exact split_net hm ha (by omega) (by omega)
  have MY : Hid (∀ V, Has V p es → Calls Try.prog 5 #[nv m p es.length cp] V fun e w' => e = .returned (.bool true) ∧ Below V.heap.size V w') := fun V hV => by have := may12 m p es cp V hV; rw [hm] at this; exact this
  have SD : Hid (∀ V, Has V p es → Calls Try.prog 6 #[nv m p es.length cp] V fun e w' => ∃ a b, e = .returned (.tuple #[a, b, .int .i64 0]) ∧ SidesPost w' V.heap.size m es (everyN es m m) a b ∧ Below V.heap.size V w') := fun V hV => sides28 m p es cp V hV hm
  have RG : Hid (∀ V, Has V p es → Calls Try.prog 7 #[nv m p es.length cp] V fun e w' => ∃ v, e = .returned (.tuple #[v, .int .i64 (if rgN es m m = [] then 14 else 0)]) ∧ IOwns w' V.heap.size v (rgN es m m) ∧ Below V.heap.size V w') := fun V hV => ring31 m p es cp V hV hm
  have S1 : Hid (∀ V, Has V p es → Calls Try.prog 8 #[nv m p es.length cp, .int .i64 a] V fun e w' => ∃ q c, e = .returned (.tuple #[nv ((m : Int) + 1) q (es.length + 1) c, .int .i64 0]) ∧ Owns w' V.heap.size (.slice q (splitL m es a).length c) (splitL m es a) ∧ Below V.heap.size V w') := fun V hV => split8 m p es cp a V hV hnil hm ha (by omega) (by omega)
  have S2 : Hid (∀ V q c, (q = none → c = 0) → Has V q (splitL m es a) → Calls Try.prog 8 #[nv ((m : Int) + 1) q (es.length + 1) c, .int .i64 a] V fun e w' => ∃ q2 c2, e = .returned (.tuple #[nv ((m : Int) + 2) q2 (es.length + 2) c2, .int .i64 0]) ∧ Owns w' V.heap.size (.slice q2 (twiceL m es a).length c2) (twiceL m es a) ∧ Below V.heap.size V w') := fun V q c hn hV => by
    have := split8 (m + 1) q (splitL m es a) c a V hV hn hm1 (by rw [splitL_length]; omega) (by omega) (by rw [splitL_length]; omega)
    rw [show ((m + 1 : Nat) : Int) = (m : Int) + 1 by omega, splitL_length, show (m : Int) + 1 + 1 = (m : Int) + 2 by omega] at this
    exact this
  have SD2 : Hid (∀ V q c, Has V q (twiceL m es a) → Calls Try.prog 6 #[nv ((m : Int) + 2) q (es.length + 2) c] V fun e w' => ∃ a1 b1, e = .returned (.tuple #[a1, b1, .int .i64 0]) ∧ SidesPost w' V.heap.size (m + 2) (twiceL m es a) (everyN (twiceL m es a) (m + 2) (m + 2)) a1 b1 ∧ Below V.heap.size V w') := fun V q c hV => by
    have := sides28 (m + 2) q (twiceL m es a) c V hV hm2
    rw [show ((m + 2 : Nat) : Int) = (m : Int) + 2 by omega, twice_len] at this
    exact this
  have HPA : Hid ((∀ e, e < es.length → ¬ alike es (everyN es m m).Fa e) → (∀ e, e < (twiceL m es a).length → ¬ alike (twiceL m es a) (everyN (twiceL m es a) (m + 2) (m + 2)).Fa e)) := fun hh => proper_sides hm2 (proper_twice hm ha (by omega) (by omega) (far_proper hm hh))
  have HPB : Hid ((∀ e, e < (twiceL m es a).length → ¬ alike (twiceL m es a) (everyN (twiceL m es a) (m + 2) (m + 2)).Fa e) → ∀ e, e < es.length → ¬ alike es (everyN es m m).Fa e) := fun hh => proper_sides hm (proper_back hm ha (by omega) (by omega) (far_proper hm2 hh))
  have HEV : Hid ((∀ e, e < es.length → ¬ alike es (everyN es m m).Fa e) → rgN es m m ≠ [] → (rgN es m m).length % 2 = 0) := fun hh hr => ring_even hm (far_proper hm hh) hr
  have HOD : Hid (∀ e, e < es.length → alike es (everyN es m m).Fa e → rgN es m m ≠ []) := fun e he' hal => by
    obtain ⟨x, x1, x2, x3⟩ := odd_way hm he' hal
    exact odd_ring hm x2 x1 x3
  have HSE : Hid ((∀ e, e < (twiceL m es a).length → ¬ alike (twiceL m es a) (everyN (twiceL m es a) (m + 2) (m + 2)).Fa e) → (sdL (everyN (twiceL m es a) (m + 2) (m + 2)).Fa (m + 2) (m + 2)).take m = sdL (everyN es m m).Fa m m) := fun hh => sd_take (twice_sides hm ha (by omega) (by omega) hh)
  have BG := hide (begun9 W)
  have HH := hide (h.later hb)
  have HB := hide hb
  have HA := hide a0
  have t1 : ((es.length : Int) == 0) = false := by rw [beq_eq_false_iff_ne]; omega
  have t2 : ¬ (es.length : Int) > 60 := by omega
  have t3 : ¬ (m : Int) > 100 := by omega
  have t4 : ¬ e0 < 0 := by omega
  have t5 : ¬ (es.length : Int) = 0 := by omega
  have t6 : ¬ es.length = 0 := by omega
  clear h hb a0 hm hm1 hm2 hnil he
  go_enter Try.func3, Try.ntmps3
  go_wp2_with fail
  rw [← hW]
  clear hW
  refine BG.out.mono ?_
  rintro e w1 ⟨rfl, hb1⟩
  have C1 := hide (MY.out w1 (HH.out.later hb1))
  have HH1 := hide (HH.out.later hb1)
  have HB1 := hide (below_step HB.out hb1)
  have HA1 := hide (HA.out.later hb1)
  obtain ⟨q0, q1, _, _⟩ := HA1.out
  clear hb1 BG
  go_wp2_with fail
  refine C1.out.mono ?_
  rintro e w2 ⟨rfl, hb2⟩
  have HH2 := hide (HH1.out.later hb2)
  have C2 := hide (SD.out w2 HH2.out)
  have HB2 := hide (below_step HB1.out hb2)
  have HA2 := hide (HA1.out.later hb2)
  clear q0 q1 C1 hb2
  obtain ⟨q0, q1, _, _⟩ := HA2.out
  go_wp2_with fail
  refine C2.out.mono ?_
  rintro e w3 ⟨sa, sb, rfl, hpost, hb3⟩
  have HH3 := hide (HH2.out.later hb3)
  have C3 := hide (RG.out w3 HH3.out)
  have HB3 := hide (below_step HB2.out hb3)
  have HA3 := hide (HA2.out.later hb3)
  clear q0 q1 C2 hb3
  obtain ⟨q0, q1, _, _⟩ := HA3.out
  rcases hpost with ⟨hno, rfl, ga, rfl, hga⟩ | ⟨ed, hed, _, hal, rfl, hob⟩
  · -- two sides
    go_wp2_with fail
    refine C3.out.mono ?_
    rintro e X ⟨rv, rfl, hrv, hbX⟩
    obtain ⟨pr, cr, rfl, _⟩ := hrv.form
    have HHX := hide (HH3.out.later hbX)
    have HBX := hide (below_step HB3.out hbX)
    have HAX := hide (HA3.out.later hbX)
    have HGX := hide (hga.later hbX)
    have HNO := hide hno
    have C4 := hide (S1.out X HHX.out)
    clear q0 q1 C3 hbX hrv hga hno
    obtain ⟨q0, q1, _, _⟩ := HAX.out
    have hev := HEV.out HNO.out
    generalize rgN es m m = R at *
    have hcase : R = [] ∨ (R ≠ [] ∧ Int.tmod (R.length : Int) 2 = 0) := by
      by_cases hR : R = []
      · exact Or.inl hR
      · refine Or.inr ⟨hR, ?_⟩
        have := hev hR
        rw [Int.tmod_eq_emod_of_nonneg (by omega)]
        omega
    clear hev
    clear HEV HOD RG MY SD HH HH1 HH2 HH3 HB HB1 HB2 HB3 HA HA1 HA2 HA3
    rcases hcase with hR | ⟨hR, hR2⟩
    · subst hR
      go_wp2_with fail
      refine C4.out.mono ?_
      rintro e w5 ⟨qs, cs, rfl, hos, hb5⟩
      have hHs : Has w5 qs (splitL m es a) ∧ (qs = none → cs = 0) := by
        obtain ⟨qs', cs', hqs, hHs, _, hns, _⟩ := hos.form
        injection hqs with e1 _ e2
        rw [e1, e2]
        exact ⟨hHs, hns⟩
      obtain ⟨Y, hY, hbY, yN⟩ := one_net w5 ((m : Int) + 1) qs (es.length + 1) cs
      have HX5 : Hid (X.heap.size ≤ w5.heap.size) := hb5.size
      have HBY := hide (below_step hb5 hbY)
      have hsY : Y.heap.size = w5.heap.size + 1 := by rw [hY]; simp
      have C5 := hide (S2.out Y qs cs hHs.2 (hHs.1.later hbY))
      have HYN := hide yN
      obtain ⟨y0, y1, y2, y3⟩ := yN
      clear q0 q1 C4 hos hHs hb5 hbY
      go_upto_region 11 with fail
      rw [← hY]
      clear hY
      go_wp2_with fail
      refine C5.out.mono ?_
      rintro e Z ⟨q2, c2, rfl, ho2, hbZ⟩
      have HNZ := hide (HYN.out.later hbZ)
      have zN := HNZ.out
      obtain ⟨E, hE⟩ : ∃ E, E = (Z.setCell ⟨w5.heap.size, 0, none⟩ (.int .i64 ((m : Int) + 2))).setCell ⟨w5.heap.size, 1, none⟩ (.slice q2 (es.length + 2) c2) := ⟨_, rfl⟩
      have eN : NOwn E w5.heap.size ((m : Int) + 2) q2 (es.length + 2) c2 := by rw [hE]; exact zN.set _ _ _ _
      have oE : Owns E Y.heap.size (.slice q2 (twiceL m es a).length c2) (twiceL m es a) := by rw [hE]; exact owns_other (owns_other ho2 (by omega) _) (by omega) _
      have hHE : Has E q2 (twiceL m es a) := by
        obtain ⟨q', c', hq', hH', _⟩ := oE.form
        injection hq' with e1 _ _
        rw [e1]
        exact hH'
      have HBE : Hid (Below X.heap.size X E) := by
        rw [hE]
        have := HX5.out
        exact ((below_step HBY.out hbZ).setCell (by exact this) _).setCell (by exact this) _
      have C6 := hide (SD2.out E q2 c2 hHE)
      have HEN := hide eN
      obtain ⟨z0, z1, z2, z3⟩ := zN
      clear C5 ho2 hbZ oE hHE y0 y1 y2 y3 eN
      go_upto_region 12 with fail
      rw [← hE]
      clear hE z0 z1 z2 z3
      obtain ⟨z0, z1, z2, z3⟩ := HEN.out
      go_wp2_with fail
      refine C6.out.mono ?_
      rintro e U ⟨a1, b1, rfl, hp2, hbU⟩
      have HBU := hide (below_step HBE.out hbU)
      have HAU := hide (HAX.out.later HBU.out)
      have HGU := hide (HGX.out.later HBU.out)
      rcases hp2 with ⟨hno2, rfl, gt, rfl, hgt⟩ | ⟨e2, he2, _, hal2, _⟩
      rotate_left
      · exact absurd hal2 (HPA.out HNO.out e2 he2)
      have C7 := hide (ints9 (some ⟨gt, 0, none⟩) (some ⟨ga, 0, none⟩) ((sdL (everyN (twiceL m es a) (m + 2) (m + 2)).Fa (m + 2) (m + 2)).take m) (sdL (everyN es m m).Fa m m) (m + 2) m U (by rw [List.length_take, sdL_len]; unfold maxLen; omega) (hgt.has.take m) HGU.out.has)
      rw [HSE.out hno2, sdL_len, decide_eq_true rfl] at C7
      have tq : (((m + 2 : Nat) : Int) == (m : Int) + 2) = true := by rw [beq_iff_eq]; omega
      clear C6 hno2 hgt z0 z1 z2 z3
      obtain ⟨u0, u1, _, _⟩ := HAU.out
      go_wp2_with fail
      refine C7.out.mono ?_
      rintro e U2 ⟨rfl, hbU2⟩
      have HBF := hide (below_step HBX.out (below_step HBU.out hbU2))
      go_wp2
      go_ret
      exact ⟨rfl, HBF.out⟩
    · go_wp2_with fail
      refine C4.out.mono ?_
      rintro e w5 ⟨qs, cs, rfl, hos, hb5⟩
      have hHs : Has w5 qs (splitL m es a) ∧ (qs = none → cs = 0) := by
        obtain ⟨qs', cs', hqs, hHs, _, hns, _⟩ := hos.form
        injection hqs with e1 _ e2
        rw [e1, e2]
        exact ⟨hHs, hns⟩
      obtain ⟨Y, hY, hbY, yN⟩ := one_net w5 ((m : Int) + 1) qs (es.length + 1) cs
      have HX5 : Hid (X.heap.size ≤ w5.heap.size) := hb5.size
      have HBY := hide (below_step hb5 hbY)
      have hsY : Y.heap.size = w5.heap.size + 1 := by rw [hY]; simp
      have C5 := hide (S2.out Y qs cs hHs.2 (hHs.1.later hbY))
      have HYN := hide yN
      obtain ⟨y0, y1, y2, y3⟩ := yN
      clear q0 q1 C4 hos hHs hb5 hbY
      go_upto_region 11 with fail
      rw [← hY]
      clear hY
      go_wp2_with fail
      refine C5.out.mono ?_
      rintro e Z ⟨q2, c2, rfl, ho2, hbZ⟩
      have HNZ := hide (HYN.out.later hbZ)
      have zN := HNZ.out
      obtain ⟨E, hE⟩ : ∃ E, E = (Z.setCell ⟨w5.heap.size, 0, none⟩ (.int .i64 ((m : Int) + 2))).setCell ⟨w5.heap.size, 1, none⟩ (.slice q2 (es.length + 2) c2) := ⟨_, rfl⟩
      have eN : NOwn E w5.heap.size ((m : Int) + 2) q2 (es.length + 2) c2 := by rw [hE]; exact zN.set _ _ _ _
      have oE : Owns E Y.heap.size (.slice q2 (twiceL m es a).length c2) (twiceL m es a) := by rw [hE]; exact owns_other (owns_other ho2 (by omega) _) (by omega) _
      have hHE : Has E q2 (twiceL m es a) := by
        obtain ⟨q', c', hq', hH', _⟩ := oE.form
        injection hq' with e1 _ _
        rw [e1]
        exact hH'
      have HBE : Hid (Below X.heap.size X E) := by
        rw [hE]
        have := HX5.out
        exact ((below_step HBY.out hbZ).setCell (by exact this) _).setCell (by exact this) _
      have C6 := hide (SD2.out E q2 c2 hHE)
      have HEN := hide eN
      obtain ⟨z0, z1, z2, z3⟩ := zN
      clear C5 ho2 hbZ oE hHE y0 y1 y2 y3 eN
      go_upto_region 12 with fail
      rw [← hE]
      clear hE z0 z1 z2 z3
      obtain ⟨z0, z1, z2, z3⟩ := HEN.out
      go_wp2_with fail
      refine C6.out.mono ?_
      rintro e U ⟨a1, b1, rfl, hp2, hbU⟩
      have HBU := hide (below_step HBE.out hbU)
      have HAU := hide (HAX.out.later HBU.out)
      have HGU := hide (HGX.out.later HBU.out)
      rcases hp2 with ⟨hno2, rfl, gt, rfl, hgt⟩ | ⟨e2, he2, _, hal2, _⟩
      rotate_left
      · exact absurd hal2 (HPA.out HNO.out e2 he2)
      have C7 := hide (ints9 (some ⟨gt, 0, none⟩) (some ⟨ga, 0, none⟩) ((sdL (everyN (twiceL m es a) (m + 2) (m + 2)).Fa (m + 2) (m + 2)).take m) (sdL (everyN es m m).Fa m m) (m + 2) m U (by rw [List.length_take, sdL_len]; unfold maxLen; omega) (hgt.has.take m) HGU.out.has)
      rw [HSE.out hno2, sdL_len, decide_eq_true rfl] at C7
      have tq : (((m + 2 : Nat) : Int) == (m : Int) + 2) = true := by rw [beq_iff_eq]; omega
      clear C6 hno2 hgt z0 z1 z2 z3
      obtain ⟨u0, u1, _, _⟩ := HAU.out
      go_wp2_with fail
      refine C7.out.mono ?_
      rintro e U2 ⟨rfl, hbU2⟩
      have HBF := hide (below_step HBX.out (below_step HBU.out hbU2))
      go_wp2
      go_ret
      exact ⟨rfl, HBF.out⟩
  · have hR := HOD.out ed hed hal
    obtain ⟨gl, cl, rfl, _, _, _⟩ := iowns_block hob (cloL_pos _ _ _)
    have hl1 := cloL_pos es (everyN es m m) (2 * ed)
    have tl1 : (((cloL es (everyN es m m) (2 * ed)).length : Int) == 0) = false := by rw [beq_eq_false_iff_ne]; omega
    have tl2 : (((cloL es (everyN es m m) (2 * ed)).length : Int) > 0) := by omega
    generalize hL1 : cloL es (everyN es m m) (2 * ed) = L1 at *
    clear hL1
    go_wp2_with fail
    refine C3.out.mono ?_
    rintro e X ⟨rv, rfl, hrv, hbX⟩
    obtain ⟨pr, cr, rfl, _⟩ := hrv.form
    rw [if_neg hR]
    have HHX := hide (HH3.out.later hbX)
    have HBX := hide (below_step HB3.out hbX)
    have HAX := hide (HA3.out.later hbX)
    have C4 := hide (S1.out X HHX.out)
    clear q0 q1 C3 hbX hrv
    obtain ⟨q0, q1, _, _⟩ := HAX.out
    generalize rgN es m m = R at *
    clear HEV HOD RG MY SD HH HH1 HH2 HH3 HB HB1 HB2 HB3 HA HA1 HA2 HA3
    go_wp2_with fail
    refine C4.out.mono ?_
    rintro e w5 ⟨qs, cs, rfl, hos, hb5⟩
    have hHs : Has w5 qs (splitL m es a) ∧ (qs = none → cs = 0) := by
      obtain ⟨qs', cs', hqs, hHs, _, hns, _⟩ := hos.form
      injection hqs with e1 _ e2
      rw [e1, e2]
      exact ⟨hHs, hns⟩
    obtain ⟨Y, hY, hbY, yN⟩ := one_net w5 ((m : Int) + 1) qs (es.length + 1) cs
    have HX5 : Hid (X.heap.size ≤ w5.heap.size) := hb5.size
    have HBY := hide (below_step hb5 hbY)
    have hsY : Y.heap.size = w5.heap.size + 1 := by rw [hY]; simp
    have C5 := hide (S2.out Y qs cs hHs.2 (hHs.1.later hbY))
    have HYN := hide yN
    obtain ⟨y0, y1, y2, y3⟩ := yN
    clear q0 q1 C4 hos hHs hb5 hbY
    go_upto_region 11 with fail
    rw [← hY]
    clear hY
    go_wp2_with fail
    refine C5.out.mono ?_
    rintro e Z ⟨q2, c2, rfl, ho2, hbZ⟩
    have HNZ := hide (HYN.out.later hbZ)
    have zN := HNZ.out
    obtain ⟨E, hE⟩ : ∃ E, E = (Z.setCell ⟨w5.heap.size, 0, none⟩ (.int .i64 ((m : Int) + 2))).setCell ⟨w5.heap.size, 1, none⟩ (.slice q2 (es.length + 2) c2) := ⟨_, rfl⟩
    have eN : NOwn E w5.heap.size ((m : Int) + 2) q2 (es.length + 2) c2 := by rw [hE]; exact zN.set _ _ _ _
    have oE : Owns E Y.heap.size (.slice q2 (twiceL m es a).length c2) (twiceL m es a) := by rw [hE]; exact owns_other (owns_other ho2 (by omega) _) (by omega) _
    have hHE : Has E q2 (twiceL m es a) := by
      obtain ⟨q', c', hq', hH', _⟩ := oE.form
      injection hq' with e1 _ _
      rw [e1]
      exact hH'
    have HBE : Hid (Below X.heap.size X E) := by
      rw [hE]
      have := HX5.out
      exact ((below_step HBY.out hbZ).setCell (by exact this) _).setCell (by exact this) _
    have C6 := hide (SD2.out E q2 c2 hHE)
    have HEN := hide eN
    obtain ⟨z0, z1, z2, z3⟩ := zN
    clear C5 ho2 hbZ oE hHE y0 y1 y2 y3 eN
    go_upto_region 12 with fail
    rw [← hE]
    clear hE z0 z1 z2 z3
    obtain ⟨z0, z1, z2, z3⟩ := HEN.out
    go_wp2_with fail
    refine C6.out.mono ?_
    rintro e U ⟨a1, b1, rfl, hp2, hbU⟩
    have HBU := hide (below_step HBE.out hbU)
    have HAU := hide (HAX.out.later HBU.out)
    rcases hp2 with ⟨hno2, _⟩ | ⟨e2, he2, _, hal2, rfl, hob2⟩
    · exact absurd hal (HPB.out hno2 ed hed)
    obtain ⟨gm, cm, rfl, _, _, _⟩ := iowns_block hob2 (cloL_pos _ _ _)
    have hm0 := cloL_pos (twiceL m es a) (everyN (twiceL m es a) (m + 2) (m + 2)) (2 * e2)
    have tm : (((cloL (twiceL m es a) (everyN (twiceL m es a) (m + 2) (m + 2)) (2 * e2)).length : Int) == 0) = false := by rw [beq_eq_false_iff_ne]; omega
    have HBF := hide (below_step HBX.out HBU.out)
    generalize (cloL (twiceL m es a) (everyN (twiceL m es a) (m + 2) (m + 2)) (2 * e2)) = M2 at *
    clear C6 z0 z1 z2 z3 hob2
    obtain ⟨u0, u1, _, _⟩ := HAU.out
    go_wp2
    go_ret
    exact ⟨rfl, HBF.out⟩
theorem odd_walk (n : Int) (p : Option Addr) (es : List Pt) (cp : Nat) (e0 : Int) (w : World) (hnil : p = none → cp = 0) (h : Has w p es) : Calls Try.prog 3 #[nv n p es.length cp, .int .i64 e0] w fun e w' => e = .returned (.bool true) ∧ Below w.heap.size w w' := by
  by_cases hno : netB n es = false ∨ es.length = 0 ∨ 60 < es.length ∨ 100 < n ∨ e0 < 0
  · exact odd_no n p es cp e0 w h hno
  · have hm : netB n es = true := by cases hb : netB n es with | true => rfl | false => exact absurd (Or.inl hb) hno
    obtain ⟨n0, _⟩ := netB_is hm
    have hb : ¬ es.length = 0 ∧ ¬ 60 < es.length ∧ ¬ 100 < n ∧ ¬ e0 < 0 := ⟨fun h => hno (Or.inr (Or.inl h)), fun h => hno (Or.inr (Or.inr (Or.inl h))), fun h => hno (Or.inr (Or.inr (Or.inr (Or.inl h)))), fun h => hno (Or.inr (Or.inr (Or.inr (Or.inr h))))⟩
    obtain ⟨m, rfl⟩ : ∃ m : Nat, n = m := ⟨n.toNat, by omega⟩
    have t0 : 0 ≤ Int.tmod e0 es.length := Int.tmod_nonneg _ (by omega)
    have t1 : Int.tmod e0 es.length < es.length := Int.tmod_lt_of_pos _ (by omega)
    exact odd_yes m p es cp (Int.tmod e0 es.length).toNat e0 w h hnil hm (by omega) (by omega) (by omega) (by omega) (by omega) (by omega)
end Go.Proofs.Ytghffodjffkijab
