/- The document's Split (carried from the net seat). -/
import Derived.Test.YtaebbfilgfkckaaSW
import Derived.Test.YtaebbfilgfkckaaNC
import Derived.Test.YtaebbfilgfkckaaMK
namespace Go.Proofs.Ytaebbfilgfkckaa
open Go.RowKit Go.Sort
open Go

/-- All blocks that were there are as they were, but for those that are named. -/
structure Frame (w w' : World) (p : Nat → Prop) : Prop where
  os : w'.os = w.os
  tape : w'.tape = w.tape
  output : w'.output = w.output
  size : w.heap.size ≤ w'.heap.size
  block : ∀ i, i < w.heap.size → ¬ p i → w'.heap[i]? = w.heap[i]?
theorem Frame.below {w w' : World} {p : Nat → Prop} {B : Nat} (h : Frame w w' p) (hB : B ≤ w.heap.size) (hp : ∀ i, p i → B ≤ i) : Below B w w' :=
  ⟨h.os, h.tape, h.output, h.size, fun i hi => h.block i (by omega) (fun k => by have := hp i k; omega)⟩
theorem Frame.row {w w' : World} {p : Nat → Prop} {base e size n : Nat} {v : Value} {xs : List Value} (h : Frame w w' p) (o : w.ownsRow base e size v n xs) (hp : ∀ i, v.ownBlock = some i → ¬ p i) : w'.ownsRow base e size v n xs := by
  obtain ⟨h0, ⟨h1, h2⟩ | ⟨g, cap, cur, h1, h2, h3, h4⟩⟩ := o
  · exact ⟨h0, Or.inl ⟨h1, h2⟩⟩
  · refine ⟨h0, Or.inr ⟨g, cap, cur, h1, h2, ?_, h4⟩⟩
    rw [h.block g (Array.getElem?_eq_some_iff.1 h3).1 (hp g (by rw [h1]; rfl))]
    exact h3
theorem Frame.of_below {w w' : World} (h : Below w.heap.size w w') (p : Nat → Prop) : Frame w w' p := ⟨h.os, h.tape, h.output, h.size, fun i hi _ => h.block i hi⟩
theorem Frame.trans {a b c : World} {p : Nat → Prop} (h : Frame a b p) (k : Frame b c p) : Frame a c p :=
  ⟨k.os.trans h.os, k.tape.trans h.tape, k.output.trans h.output, Nat.le_trans h.size k.size, fun i hi hp => (k.block i (Nat.lt_of_lt_of_le hi h.size) hp).trans (h.block i hi hp)⟩
theorem Frame.mono {a b : World} {p q : Nat → Prop} (h : Frame a b p) (hpq : ∀ i, i < a.heap.size → p i → q i) : Frame a b q :=
  ⟨h.os, h.tape, h.output, h.size, fun i hi hq => h.block i hi (fun hp => hq (hpq i hi hp))⟩
theorem Frame.set (w : World) (a : Addr) (v : Value) {p : Nat → Prop} (hp : p a.block) : Frame w (w.setCell a v) p :=
  ⟨rfl, rfl, rfl, by simp [World.setCell], fun _ _ hi => Below.heap_setCell _ _ _ _ (fun e => hi (by first | (rw [e]; exact hp) | (rw [← e]; exact hp)))⟩
theorem Frame.grown {w w' : World} {r : Option Nat} {p : Nat → Prop} (h : w.grownBy w' r) (hp : ∀ i, r = some i → p i) : Frame w w' p :=
  ⟨h.os, h.tape, h.output, h.size, fun i hi hn => h.block i hi (fun e => hn (hp i e.symm))⟩
/-- An operation that gives a value. -/
theorem wp_val {P : Program} {o : Oper} {a : Act} {w w2 : World} {K : Act → World → Prop} {Q : Exit → Act → World → Prop} {v : Value} (h : (execOp a.eval o).run P w = .ok (.value v) w2) (hk : K (a.put o.dst v) w2) : Oper.wp P o a w K Q := by
  unfold Oper.wp
  rw [h]
  exact hk
/-- One of those that may come up, where it has no guard: the step stands as it is. -/
theorem ready_cons {P : Program} {md : Region.Mode} {ops : Array Oper} {Q : Exit → Act → World → Prop} {S : World → Prop} {fuel : Nat} {listed : Array Bool} {a : Act} {w : World} {i : Nat} (o : Oper) {rs : List Nat} (ho : ops[i]? = some o) (hg : o.guard = none)
    (h : ∀ K' : Act → World → Prop, Go.Shut (∀ a w, S w → (S w → wpAnyH P md ops Q S fuel (listed.setIfInBounds i true) a w) → K' a w) → Oper.wp P o a w K' Q)
    (hs : AllReadyH P md ops Q S fuel listed a w rs) : AllReadyH P md ops Q S fuel listed a w (i :: rs) :=
  AllReadyH.cons ho (fun K hK => by rw [if_pos (by simp [Region.wanted, hg])]; exact h K hK) hs
theorem grown_cell {w w' : World} {r : Option Nat} (h : w.grownBy w' r) {a : Addr} {v : Value} (hc : w.cell? a = some v) (hr : r ≠ some a.block) : w'.cell? a = some v ∧ w'.frozen? a = w.frozen? a := by
  have hb : a.block < w.heap.size := block_lt_of_cell hc
  have := h.block a.block hb (fun e => hr e.symm)
  unfold World.cell? World.frozen? at *
  rw [this]
  exact ⟨hc, rfl⟩

theorem cells_sety : ∀ (ps : List Pt) (j : Nat) (y : Int), j < ps.length → (cells ps).set (j * 2 + 1) (.int .i64 y) = cells (ps.set j ⟨(at' ps j).x, y⟩)
  | [], j, y, h => by simp at h
  | p :: ps, 0, y, _ => by simp [cells, at']
  | p :: ps, j + 1, y, h => by
    have ih := cells_sety ps j y (by simpa using h)
    have e : (j + 1) * 2 + 1 = (j * 2 + 1) + 1 + 1 := by omega
    rw [e]
    simp only [cells, List.set_cons_succ, ih]
    rfl
theorem Owns.sety {w : World} {base g cap : Nat} {ps : List Pt} (h : Owns w base (.slice (some ⟨g, 0, none⟩) ps.length cap) ps) {j : Nat} (hj : j < ps.length) (y : Int) : Owns (w.setCell ⟨g, j * 2 + 1, none⟩ (.int .i64 y)) base (.slice (some ⟨g, 0, none⟩) (ps.set j ⟨(at' ps j).x, y⟩).length cap) (ps.set j ⟨(at' ps j).x, y⟩) := by
  have := (World.ownsRow.stored h (j * 2 + 1) (.int .i64 y)).1
  unfold Owns
  rw [List.length_set, ← cells_sety ps j y hj]
  exact this
theorem split_is (m : Int) (es : List Pt) {a : Nat} (ha : a < es.length) : (es.set a ⟨(at' es a).x, m⟩) ++ [(⟨m, (at' es a).y⟩ : Pt)] = splitL m es a := by
  unfold splitL
  rw [List.set_append_left _ _ ha, List.set_append_right _ _ (by rw [List.length_set]; exact Nat.le_refl _), List.length_set, Nat.sub_self]
  rfl
set_option maxRecDepth 100000 in
set_option maxHeartbeats 8000000 in
theorem split8 (m : Nat) (p : Option Addr) (es : List Pt) (cp a : Nat) (w : World) (h : Has w p es) (hnil : p = none → cp = 0) (hm : netB m es = true) (ha : a < es.length) (h1 : m + 1 ≤ 1024) (h2 : es.length + 1 ≤ 3072) : Calls Try.prog 27 #[nv m p es.length cp, .int .i64 a] w fun e w' => ∃ q c, e = .returned (.tuple #[nv ((m : Int) + 1) q (es.length + 1) c, .int .i64 0]) ∧ Owns w' w.heap.size (.slice q (splitL m es a).length c) (splitL m es a) ∧ Below w.heap.size w w' := by
  obtain ⟨W, hW, hb, a0, b0⟩ := two_nets w m p es.length cp
  have hs := split_net hm ha h1 h2
  have C1 := hide (copy53 m p es cp W hnil (by omega) (h.later hb))
  have MY : Hid (∀ V q c, Has V q (splitL m es a) → Calls Try.prog 24 #[nv ((m : Int) + 1) q (splitL m es a).length c] V fun e w' => e = .returned (.bool true) ∧ Below V.heap.size V w') := fun V q c hV => by have := may12 ((m : Int) + 1) q (splitL m es a) c V hV; rw [hs] at this; exact this
  have hq : ∃ b off, p = some ⟨b, off, none⟩ ∧ Lies w b off es := by
    rcases h with h0 | h0
    · subst h0; simp at ha
    · exact h0
  obtain ⟨b, off, rfl, hLW⟩ := hq
  have HLW := hide (hLW.later hb)
  have HB := hide hb
  have HA := hide a0
  have HN := hide b0
  have hWs : W.heap.size = w.heap.size + 1 + 1 := by rw [hW]; simp
  have HWS := hide hWs
  have i1 : ¬ (a : Int) < 0 := by omega
  have i2 : ¬ (es.length : Int) ≤ a := by omega
  have i3 : (a : Int) < es.length := by omega
  have i4 : (0 : Int) ≤ a := by omega
  obtain ⟨q0, q1, _, _⟩ := a0
  clear h hb b0 hm hs hLW hnil hWs
  go_enter Try.func27, Try.ntmps27
  go_wp2_with fail
  rw [← hW]
  clear hW
  refine C1.out.mono ?_
  rintro e w1 ⟨qh, ch, rfl, hoh, hb1⟩
  obtain ⟨g, ch', hv, _, hg1, hg2⟩ := owns_block hoh (by omega)
  cases hv
  obtain ⟨X, hX⟩ : ∃ X, X = w1.alloc (nbx m (some ⟨g, 0, none⟩) es.length ch) := ⟨_, rfl⟩
  have hbX : Below w1.heap.size w1 X := by rw [hX]; go_grown
  have xb : NOwn X w1.heap.size m (some ⟨g, 0, none⟩) es.length ch := by rw [hX]; exact ⟨by unfold nbx; go_cell, by unfold nbx; go_cell, by unfold nbx; go_cell, by unfold nbx; go_cell⟩
  have hXs : X.heap.size = w1.heap.size + 1 := by rw [hX]; simp
  have hkX : X.heap[w1.heap.size]? = some (nbx m (some ⟨g, 0, none⟩) es.length ch) := by rw [hX]; exact heap_alloc_new w1 _
  have HBX := hide (below_step hb1 hbX)
  have HOX := hide (hoh.later hbX)
  have HXB := hide xb
  have HKX := hide hkX
  have HXS := hide hXs
  have hW1 := hb1.size
  have HSZ : Hid (W.heap.size ≤ g ∧ g < w1.heap.size ∧ W.heap.size ≤ w1.heap.size) := ⟨hg1, hg2, hW1⟩
  clear q0 q1 C1 hoh hb1 hbX xb hXs hkX hg1 hg2 hW1
  go_upto_region 4 with fail
  rw [← hX]
  clear hX
  obtain ⟨kh, hkh⟩ : ∃ k, w1.heap.size = k := ⟨_, rfl⟩
  rw [hkh] at HXB HKX HXS HSZ ⊢
  clear hkh
  obtain ⟨kw, hkw⟩ : ∃ k, w.heap.size = k := ⟨_, rfl⟩
  have HKW := hide hkw
  rw [hkw] at HA HN HWS ⊢
  clear hkw
  have HAX := hide (HA.out.later HBX.out)
  have HNX := hide (HN.out.later HBX.out)
  obtain ⟨q0, q1, _, _⟩ := HAX.out
  obtain ⟨y0, y1, y2, y3⟩ := HXB.out
  have d0 : X.cell? ⟨g, a * 2 + 1, none⟩ = some (.int .i64 (at' es a).y) := (HOX.out.lies a ha).2 |> (fun h => by simpa using h)
  have d1 : X.frozen? ⟨g, a * 2 + 1, none⟩ = false := World.ownsRow.frozenAt HOX.out (a * 2 + 1)
  have n1 : g ≠ kh := by have := HSZ.out; omega
  have n2 : g ≠ kw := by have := HSZ.out; have := HWS.out; omega
  go_region
  obtain ⟨Y, hY⟩ : ∃ Y, Y = (X.setCell ⟨g, a * 2 + 1, none⟩ (.int .i64 m)).drew := ⟨_, rfl⟩
  have oY : Owns Y W.heap.size (.slice (some ⟨g, 0, none⟩) es.length ch) (es.set a ⟨(at' es a).x, m⟩) := by
    rw [hY]
    have := (Owns.sety HOX.out ha (m : Int)).later (below_drew _)
    rw [List.length_set] at this
    exact this
  have bY : Below W.heap.size W Y := by rw [hY]; exact below_step (HBX.out.setCell (p := ⟨g, a * 2 + 1, none⟩) HSZ.out.1 _) (below_drew _)
  have kY : Y.cell? ⟨kh, 0, none⟩ = some (.int .i64 m) ∧ Y.cell? ⟨kh, 1, none⟩ = some (.slice (some ⟨g, 0, none⟩) es.length ch) ∧ Y.frozen? ⟨kh, 0, none⟩ = false ∧ Y.frozen? ⟨kh, 1, none⟩ = false := by
    have := HXB.out.other (k := g) (i := a * 2 + 1) n1 (.int .i64 m)
    have := this.later (below_drew _)
    rw [hY]
    exact this
  have hYk : Y.heap[kh]? = some (nbx m (some ⟨g, 0, none⟩) es.length ch) := by
    rw [hY]
    exact ((Frame.set X ⟨g, a * 2 + 1, none⟩ (.int .i64 m) (p := fun i => i = g) rfl).block kh (by have := HXS.out; omega) (fun e => n1 e.symm)).trans HKX.out
  have aY : NOwn Y kw m (some ⟨b, off, none⟩) es.length cp := HA.out.later bY
  have lY := (HLW.out.later bY) a ha
  have sYk : kh < Y.heap.size := block_lt_of_cell kY.1
  have HBY0 := hide bY
  rw [← hY]
  clear hY q0 q1 y0 y1 y2 y3 d0 d1 HOX HXB HAX HNX HBX HKX HXS
  -- the world behind the draw, with the literal, and with the longer list
  obtain ⟨V0, hV0⟩ : ∃ V, V = Y.drew := ⟨_, rfl⟩
  have bd : Below Y.heap.size Y V0 := by rw [hV0]; exact below_drew _
  have oV : Owns V0 W.heap.size (.slice (some ⟨g, 0, none⟩) es.length ch) (es.set a ⟨(at' es a).x, m⟩) := oY.later bd
  have hlen : (es.set a (⟨(at' es a).x, m⟩ : Pt)).length = es.length := List.length_set ..
  have oV' : Owns V0 W.heap.size (.slice (some ⟨g, 0, none⟩) (es.set a (⟨(at' es a).x, m⟩ : Pt)).length ch) (es.set a ⟨(at' es a).x, m⟩) := by rw [hlen]; exact oV
  have sV : W.heap.size ≤ V0.heap.size := by have := bd.size; have := HBY0.out.size; omega
  obtain ⟨v', D, e1, o1, gr1, hbD⟩ := app1 oV' (m : Int) (at' es a).y sV (by rw [hlen]; omega)
  rw [split_is (m : Int) es ha] at o1
  rw [hlen] at e1 gr1
  obtain ⟨q', c', rfl, hH', _, _, _⟩ := o1.form
  have hspl : (splitL (m : Int) es a).length = es.length + 1 := splitL_length _ _ _
  rw [hspl] at e1
  obtain ⟨V1, hV1⟩ : ∃ V, V = V0.alloc (.cells #[.int .i64 m, .int .i64 (at' es a).y] 57) := ⟨_, rfl⟩
  have b1 : Below V0.heap.size V0 V1 := by rw [hV1]; go_grown
  have hob : (Value.slice (some ⟨g, 0, none⟩) es.length ch).ownBlock ≠ some kh := fun e => n1 (by simpa [Value.ownBlock] using e)
  rw [← hV1] at e1 gr1
  have g0 := grown_cell gr1 (later b1 (later bd kY.1)) hob
  have g1 := grown_cell gr1 (later b1 (later bd kY.2.1)) hob
  have f0 : D.frozen? ⟨kh, 0, none⟩ = false := g0.2.trans (laterF b1 (later bd kY.1) (laterF bd kY.1 kY.2.2.1))
  have f1 : D.frozen? ⟨kh, 1, none⟩ = false := g1.2.trans (laterF b1 (later bd kY.2.1) (laterF bd kY.2.1 kY.2.2.2))
  have hkD : D.heap[kh]? = some (nbx m (some ⟨g, 0, none⟩) es.length ch) := by
    rw [gr1.block kh (by have := bd.size; have := b1.size; omega) (fun e => hob e.symm), b1.block kh (by have := bd.size; omega), bd.block kh sYk]
    exact hYk
  have hap : (Value.slice q' (splitL (m : Int) es a).length c').ownBlock ≠ some kh := row_apart hkD o1 (by decide)
  have bD : Below W.heap.size W D := Below.trans (below_step HBY0.out bd) hbD
  have HBK0 : Hid (V0.cell? ⟨kh, 1, none⟩ = some (.slice (some ⟨g, 0, none⟩) es.length ch) ∧ True) := ⟨later bd kY.2.1, trivial⟩
  have HBK1 : Hid (V1.cell? ⟨kh, 1, none⟩ = some (.slice (some ⟨g, 0, none⟩) es.length ch) ∧ True) := ⟨later b1 (later bd kY.2.1), trivial⟩
  have HDK : Hid (D.cell? ⟨kh, 1, none⟩ = some (.slice (some ⟨g, 0, none⟩) es.length ch) ∧ D.frozen? ⟨kh, 1, none⟩ = false) := ⟨g1.1, f1⟩
  have HV1 := hide hV1
  have lY2 : Y.cell? ⟨b, off + a * 2 + 1, none⟩ = some (.int .i64 (at' es a).y) := lY.2
  have aD := HA.out.later bD
  have lD := (HLW.out.later bD) a ha
  have lD2 : D.cell? ⟨b, off + a * 2 + 1, none⟩ = some (.int .i64 (at' es a).y) := lD.2
  have HS1 : Hid (V1.cell? ⟨kw, 0, none⟩ = some (.int .i64 m) ∧ V1.cell? ⟨kw, 1, none⟩ = some (.slice (some ⟨b, off, none⟩) es.length cp) ∧ V1.cell? ⟨b, off + a * 2 + 1, none⟩ = some (.int .i64 (at' es a).y)) := ⟨later b1 (later bd aY.1), later b1 (later bd aY.2.1), later b1 (later bd lY2)⟩
  have HS2 : Hid (D.cell? ⟨kw, 0, none⟩ = some (.int .i64 m) ∧ D.cell? ⟨kw, 1, none⟩ = some (.slice (some ⟨b, off, none⟩) es.length cp) ∧ D.cell? ⟨b, off + a * 2 + 1, none⟩ = some (.int .i64 (at' es a).y)) := ⟨aD.1, aD.2.1, lD2⟩
  have s0 := later bd aY.1
  have s1 := later bd aY.2.1
  have s2 := later bd lY2
  have nkw : kw ≠ kh := by have := HSZ.out; have := HWS.out; omega
  have nkb : b ≠ kh := by have : b < W.heap.size := block_lt_of_cell (HLW.out a ha).2; have := HSZ.out; omega
  have HO1 := hide o1
  have HAP := hide hap
  have HG0 := hide (And.intro g0.1 f0)
  have HBD := hide bD
  have HND := hide (HN.out.later bD)
  have HKH : Hid (W.heap.size ≤ kh) := HSZ.out.2.2
  have HSPL := hide hspl
  have w1' : wrap64 ((m : Int) + 1) = m + 1 := by unfold wrap64; omega
  clear kY hYk aY lY sYk bd oV oV' hlen sV hbD gr1 hH' hspl b1 hob g0 g1 f0 f1 hkD hap bD aD lD lY2 lD2 oY bY o1 hV1
  go_upto_region 5 with fail
  refine wp_region_held_drew (S := (fun W' => W'.cell? ⟨kw, 0, none⟩ = some (.int .i64 m) ∧ W'.cell? ⟨kw, 1, none⟩ = some (.slice (some ⟨b, off, none⟩) es.length cp) ∧ W'.cell? ⟨b, off + a * 2 + 1, none⟩ = some (.int .i64 (at' es a).y))) (by kernel_rfl) (by rw [← hV0]; exact ⟨s0, s1, s2⟩) (fun hHeld => ?_)
  rw [← hV0] at hHeld ⊢
  clear hV0
  change wpAnyH Try.prog .any _ _ _ 15 #[false, false, false, false, false, false, false, false, false, false, false, false, false, false, false] _ _
  refine wpAnyH_take (i := 0) (v := ?v13) rfl (by kernel_rfl) (by kernel_rfl) (by kernel_rfl) (fun _ _ _ h => h) (Or.inl ⟨by rfl, ?hy13⟩) (by assumption) ?rest13
  case hy13 => (intro w hSw; (try dsimp only at hSw); go_simp; try with_reducible rfl)
  try simp only [Act.put, List.setIfInBounds_toArray, List.set_cons_zero]
  refine wpAnyH_take (i := 2) (v := ?v14) rfl (by kernel_rfl) (by kernel_rfl) (by kernel_rfl) (fun _ _ _ h => h) (Or.inl ⟨by rfl, ?hy14⟩) (by assumption) ?rest14
  case hy14 => (intro w hSw; (try dsimp only at hSw); go_simp; try with_reducible rfl)
  try simp only [Act.put, List.setIfInBounds_toArray, List.set_cons_zero, List.set_cons_succ]
  refine wpAnyH_take (i := 3) (v := ?v15) rfl (by kernel_rfl) (by kernel_rfl) (by kernel_rfl) (fun _ _ _ h => h) (Or.inl ⟨by rfl, ?hy15⟩) (by assumption) ?rest15
  case hy15 => (intro w hSw; (try dsimp only at hSw); go_simp; try with_reducible rfl)
  try simp only [Act.put, List.setIfInBounds_toArray, List.set_cons_zero, List.set_cons_succ]
  refine wpAnyH_take (i := 4) (v := ?v16) rfl (by kernel_rfl) (by kernel_rfl) (by kernel_rfl) (fun _ _ _ h => h) (Or.inl ⟨by rfl, ?hy16⟩) (by assumption) ?rest16
  case hy16 => (intro w hSw; (try dsimp only at hSw); go_simp; try with_reducible rfl)
  try simp only [Act.put, List.setIfInBounds_toArray, List.set_cons_zero, List.set_cons_succ]
  refine wpAnyH_take (i := 5) (v := ?v17) rfl (by kernel_rfl) (by kernel_rfl) (by kernel_rfl) (fun _ _ _ h => h) (Or.inl ⟨by rfl, ?hy17⟩) (by assumption) ?rest17
  case hy17 => (intro w hSw; (try dsimp only at hSw); go_simp; try with_reducible rfl)
  try simp only [Act.put, List.setIfInBounds_toArray, List.set_cons_zero, List.set_cons_succ]
  refine wpAnyH_take (i := 6) (v := ?v18) rfl (by kernel_rfl) (by kernel_rfl) (by kernel_rfl) (fun _ _ _ h => h) (Or.inl ⟨by rfl, ?hy18⟩) (by assumption) ?rest18
  case hy18 => (intro w hSw; (try dsimp only at hSw); go_simp; try with_reducible rfl)
  try simp only [Act.put, List.setIfInBounds_toArray, List.set_cons_zero, List.set_cons_succ]
  refine wpAnyH_take (i := 7) (v := ?v19) rfl (by kernel_rfl) (by kernel_rfl) (by kernel_rfl) (fun _ _ _ h => h) (Or.inl ⟨by rfl, ?hy19⟩) (by assumption) ?rest19
  case hy19 => (intro w hSw; (try dsimp only at hSw); go_simp; try with_reducible rfl)
  try simp only [Act.put, List.setIfInBounds_toArray, List.set_cons_zero, List.set_cons_succ]
  refine wpAnyH_take (i := 8) (v := ?v20) rfl (by kernel_rfl) (by kernel_rfl) (by kernel_rfl) (fun _ _ _ h => h) (Or.inl ⟨by rfl, ?hy20⟩) (by assumption) ?rest20
  case hy20 => (intro w hSw; (try dsimp only at hSw); go_simp; try with_reducible rfl)
  try simp only [Act.put, List.setIfInBounds_toArray, List.set_cons_zero, List.set_cons_succ]
  refine wpAnyH_take (i := 9) (v := ?v21) rfl (by kernel_rfl) (by kernel_rfl) (by kernel_rfl) (fun _ _ _ h => h) (Or.inl ⟨by rfl, ?hy21⟩) (by assumption) ?rest21
  case hy21 => (intro w hSw; (try dsimp only at hSw); go_simp; try with_reducible rfl)
  try simp only [Act.put, List.setIfInBounds_toArray, List.set_cons_zero, List.set_cons_succ]
  refine wpAnyH_take (i := 10) (v := ?v22) rfl (by kernel_rfl) (by kernel_rfl) (by kernel_rfl) (fun _ _ _ h => h) (Or.inl ⟨by rfl, ?hy22⟩) (by assumption) ?rest22
  case hy22 => (intro w hSw; (try dsimp only at hSw); go_simp; try with_reducible rfl)
  try simp only [Act.put, List.setIfInBounds_toArray, List.set_cons_zero, List.set_cons_succ]
  refine wpAnyH_ready (rs := [1, 11]) (by kernel_rfl) (by simp) ?_
  refine ready_cons ({ dst := some 27, op := Op.load 22 (Operand.tmp 26), type := 22, pos := "ref.go:208", after := #[{ on := 0, ground := Ground.data }], guard := none }) rfl rfl (fun K hK => ?_) ?_
  · clear hHeld
    have d0 := HBK0.out.1
    refine wp_val (v := ?vl3) (w2 := V0) ?hl3 ?_
    case hl3 => (go_simp; try with_reducible rfl)
    clear d0
    refine hK.out _ _ (by first | exact ⟨s0, s1, s2⟩ | exact ⟨cell_other s0 nkw, cell_other s1 nkw, cell_other s2 nkb⟩) (fun hHeld => ?_)
    clear hK K
    try simp only [Act.put, List.setIfInBounds_toArray, List.set_cons_zero, List.set_cons_succ]
    refine wpAnyH_ready (rs := [11]) (by kernel_rfl) (by simp) ?_
    refine ready_cons ({ dst := some 37, op := Op.buildSlice 22 1 #[(0, Operand.tmp 36)], type := 22, pos := "ref.go:208", after := #[{ on := 10, ground := Ground.data }], guard := none }) rfl rfl (fun K hK => ?_) ?_
    · clear hHeld
      go_simp
      rw [← HV1.out]
      clear s0 s1 s2
      have s0 := HS1.out.1
      have s1 := HS1.out.2.1
      have s2 := HS1.out.2.2
      refine hK.out _ _ (by first | exact ⟨s0, s1, s2⟩ | exact ⟨cell_other s0 nkw, cell_other s1 nkw, cell_other s2 nkb⟩) (fun hHeld => ?_)
      clear hK K
      try simp only [List.setIfInBounds_toArray, List.set_cons_zero, List.set_cons_succ]
      refine wpAnyH_ready (rs := [12]) (by kernel_rfl) (by simp) ?_
      refine ready_cons ({ dst := some 38, op := Op.call { callee := Callee.builtin Builtin.append, args := #[Operand.tmp 27, Operand.tmp 37], argTypes := #[22, 22] }, type := 22, pos := "ref.go:208", after := #[{ on := 1, ground := Ground.data }, { on := 11, ground := Ground.data }], guard := none }) rfl rfl (fun K hK => ?_) ?_
      · clear hHeld
        clear s0 s1 s2
        have s0 := HS2.out.1
        have s1 := HS2.out.2.1
        have s2 := HS2.out.2.2
        refine wp_append (.tmp 27) (.tmp 37) 22 (by rfl) 22 (by rfl) (.slice (some ⟨g, 0, none⟩) es.length ch) (.slice (some ⟨V0.heap.size, 0, none⟩) 1 1) (.slice q' (es.length + 1) c') D (by rfl) (by rfl) ?_ ?_
        with_reducible exact e1
        refine hK.out _ _ (by first | exact ⟨s0, s1, s2⟩ | exact ⟨cell_other s0 nkw, cell_other s1 nkw, cell_other s2 nkb⟩) (fun hHeld => ?_)
        clear hK K
        try simp only [Act.put, List.setIfInBounds_toArray, List.set_cons_zero, List.set_cons_succ]
        refine wpAnyH_take (i := 13) (v := ?v23) rfl (by kernel_rfl) (by kernel_rfl) (by kernel_rfl) (fun _ _ _ h => h) (Or.inl ⟨by rfl, ?hy23⟩) (by assumption) ?rest23
        case hy23 => (intro w hSw; (try dsimp only at hSw); go_simp; try with_reducible rfl)
        try simp only [Act.put, List.setIfInBounds_toArray, List.set_cons_zero, List.set_cons_succ]
        refine wpAnyH_ready (rs := [14]) (by kernel_rfl) (by simp) ?_
        refine ready_cons ({ dst := none, op := Op.store 22 (Operand.tmp 39) (Operand.tmp 38), type := 0, pos := "ref.go:208", after := #[{ on := 13, ground := Ground.data }, { on := 12, ground := Ground.data }, { on := 12, ground := Ground.chain }, { on := 0, ground := Ground.phase }, { on := 1, ground := Ground.phase }, { on := 2, ground := Ground.phase }, { on := 3, ground := Ground.phase }, { on := 4, ground := Ground.phase }, { on := 5, ground := Ground.phase }, { on := 6, ground := Ground.phase }, { on := 7, ground := Ground.phase }, { on := 8, ground := Ground.phase }, { on := 9, ground := Ground.phase }, { on := 10, ground := Ground.phase }, { on := 11, ground := Ground.phase }, { on := 12, ground := Ground.phase }], guard := none }) rfl rfl (fun K hK => ?_) ?_
        · clear hHeld
          have d0 := HDK.out.1
          have d1 := HDK.out.2
          go_simp
          clear d0 d1
          refine hK.out _ _ (by first | exact ⟨s0, s1, s2⟩ | exact ⟨cell_other s0 nkw, cell_other s1 nkw, cell_other s2 nkb⟩) (fun hHeld => ?_)
          clear hK K
          try simp only [List.setIfInBounds_toArray, List.set_cons_zero, List.set_cons_succ]
          refine wpAnyH_done (by kernel_rfl) ?_ _
          clear hHeld
          obtain ⟨E, hE⟩ : ∃ E, E = (D.setCell ⟨kh, 1, none⟩ (.slice q' (es.length + 1) c')).setCell ⟨kh, 0, none⟩ (.int .i64 ((m : Int) + 1)) := ⟨_, rfl⟩
          have z0 : E.cell? ⟨kh, 0, none⟩ = some (.int .i64 ((m : Int) + 1)) := by rw [hE]; exact World.cell?_setCell_same' _ _ _ (by rw [World.cell?_setCell_other _ _ _ _ (by simp), HG0.out.1]; rfl)
          have z1 : E.cell? ⟨kh, 1, none⟩ = some (.slice q' (es.length + 1) c') := by rw [hE, World.cell?_setCell_other _ _ _ _ (by simp)]; exact World.cell?_setCell_same' _ _ _ (by rw [HDK.out.1]; rfl)
          have oE : Owns E W.heap.size (.slice q' (splitL (m : Int) es a).length c') (splitL m es a) := by rw [hE]; exact ownsRow_setCell_other (ownsRow_setCell_other HO1.out HAP.out _) HAP.out _
          have bE : Below W.heap.size W E := by rw [hE]; exact (HBD.out.setCell (p := ⟨kh, 1, none⟩) HKH.out _).setCell (p := ⟨kh, 0, none⟩) HKH.out _
          have hHE : Has E q' (splitL m es a) := by
            obtain ⟨a1, a2, a3, a4, _⟩ := oE.form
            have : q' = a1 := by injection a3
            rw [this]
            exact a4
          have C2 := hide (MY.out E q' c' hHE)
          rw [HSPL.out] at C2
          have HOE := hide oE
          have HBE := hide bE
          have HNE := hide (HN.out.later bE)
          have k0 := HG0.out.1
          have k1 := HDK.out.1
          have k2 := HG0.out.2
          have k3 := HDK.out.2
          clear oE bE hHE s0 s1 s2
          go_upto_region 7 with fail
          rw [← hE]
          clear hE k0 k1 k2 k3
          go_wp2_with fail
          refine C2.out.mono ?_
          rintro e w5 ⟨rfl, hb5⟩
          have z0' := later hb5 z0
          have z1' := later hb5 z1
          have HO5 := hide (HOE.out.later hb5)
          have HB5 := hide (below_step HBE.out hb5)
          have HN5 := hide (HNE.out.later hb5)
          clear hb5 C2 z0 z1 HOE HBE HNE
          obtain ⟨c0, c1, c2, c3⟩ := HN5.out
          have nk : kw + 1 ≠ kh := by have := HKH.out; have := HWS.out; omega
          go_wp2_with fail
          have hkw1 : kw + 1 < W.heap.size := by have := HWS.out; omega
          refine bodyPost_ret (ret_net Try.results27 rfl rfl (HN5.out.set _ _ _ _)) rfl ⟨q', c', rfl, ?_, ?_⟩
          · exact (owns_other (owns_other HO5.out hkw1 _) hkw1 _).base (by rw [HKW.out, HWS.out]; omega)
          · rw [HKW.out]
            have := below_step HB.out HB5.out
            rw [HKW.out] at this
            exact (this.setCell (p := ⟨kw + 1, 0, none⟩) (by simp) _).setCell (p := ⟨kw + 1, 1, none⟩) (by simp) _
        exact AllReadyH.nil
      exact AllReadyH.nil
    exact AllReadyH.nil
  refine ready_cons ({ dst := some 37, op := Op.buildSlice 22 1 #[(0, Operand.tmp 36)], type := 22, pos := "ref.go:208", after := #[{ on := 10, ground := Ground.data }], guard := none }) rfl rfl (fun K hK => ?_) ?_
  · clear hHeld
    go_simp
    rw [← HV1.out]
    clear s0 s1 s2
    have s0 := HS1.out.1
    have s1 := HS1.out.2.1
    have s2 := HS1.out.2.2
    refine hK.out _ _ (by first | exact ⟨s0, s1, s2⟩ | exact ⟨cell_other s0 nkw, cell_other s1 nkw, cell_other s2 nkb⟩) (fun hHeld => ?_)
    clear hK K
    try simp only [List.setIfInBounds_toArray, List.set_cons_zero, List.set_cons_succ]
    refine wpAnyH_ready (rs := [1]) (by kernel_rfl) (by simp) ?_
    refine ready_cons ({ dst := some 27, op := Op.load 22 (Operand.tmp 26), type := 22, pos := "ref.go:208", after := #[{ on := 0, ground := Ground.data }], guard := none }) rfl rfl (fun K hK => ?_) ?_
    · clear hHeld
      have d0 := HBK1.out.1
      refine wp_val (v := ?vl4) (w2 := V1) ?hl4 ?_
      case hl4 => (go_simp; try with_reducible rfl)
      clear d0
      refine hK.out _ _ (by first | exact ⟨s0, s1, s2⟩ | exact ⟨cell_other s0 nkw, cell_other s1 nkw, cell_other s2 nkb⟩) (fun hHeld => ?_)
      clear hK K
      try simp only [Act.put, List.setIfInBounds_toArray, List.set_cons_zero, List.set_cons_succ]
      refine wpAnyH_ready (rs := [12]) (by kernel_rfl) (by simp) ?_
      refine ready_cons ({ dst := some 38, op := Op.call { callee := Callee.builtin Builtin.append, args := #[Operand.tmp 27, Operand.tmp 37], argTypes := #[22, 22] }, type := 22, pos := "ref.go:208", after := #[{ on := 1, ground := Ground.data }, { on := 11, ground := Ground.data }], guard := none }) rfl rfl (fun K hK => ?_) ?_
      · clear hHeld
        clear s0 s1 s2
        have s0 := HS2.out.1
        have s1 := HS2.out.2.1
        have s2 := HS2.out.2.2
        refine wp_append (.tmp 27) (.tmp 37) 22 (by rfl) 22 (by rfl) (.slice (some ⟨g, 0, none⟩) es.length ch) (.slice (some ⟨V0.heap.size, 0, none⟩) 1 1) (.slice q' (es.length + 1) c') D (by rfl) (by rfl) ?_ ?_
        with_reducible exact e1
        refine hK.out _ _ (by first | exact ⟨s0, s1, s2⟩ | exact ⟨cell_other s0 nkw, cell_other s1 nkw, cell_other s2 nkb⟩) (fun hHeld => ?_)
        clear hK K
        try simp only [Act.put, List.setIfInBounds_toArray, List.set_cons_zero, List.set_cons_succ]
        refine wpAnyH_take (i := 13) (v := ?v24) rfl (by kernel_rfl) (by kernel_rfl) (by kernel_rfl) (fun _ _ _ h => h) (Or.inl ⟨by rfl, ?hy24⟩) (by assumption) ?rest24
        case hy24 => (intro w hSw; (try dsimp only at hSw); go_simp; try with_reducible rfl)
        try simp only [Act.put, List.setIfInBounds_toArray, List.set_cons_zero, List.set_cons_succ]
        refine wpAnyH_ready (rs := [14]) (by kernel_rfl) (by simp) ?_
        refine ready_cons ({ dst := none, op := Op.store 22 (Operand.tmp 39) (Operand.tmp 38), type := 0, pos := "ref.go:208", after := #[{ on := 13, ground := Ground.data }, { on := 12, ground := Ground.data }, { on := 12, ground := Ground.chain }, { on := 0, ground := Ground.phase }, { on := 1, ground := Ground.phase }, { on := 2, ground := Ground.phase }, { on := 3, ground := Ground.phase }, { on := 4, ground := Ground.phase }, { on := 5, ground := Ground.phase }, { on := 6, ground := Ground.phase }, { on := 7, ground := Ground.phase }, { on := 8, ground := Ground.phase }, { on := 9, ground := Ground.phase }, { on := 10, ground := Ground.phase }, { on := 11, ground := Ground.phase }, { on := 12, ground := Ground.phase }], guard := none }) rfl rfl (fun K hK => ?_) ?_
        · clear hHeld
          have d0 := HDK.out.1
          have d1 := HDK.out.2
          go_simp
          clear d0 d1
          refine hK.out _ _ (by first | exact ⟨s0, s1, s2⟩ | exact ⟨cell_other s0 nkw, cell_other s1 nkw, cell_other s2 nkb⟩) (fun hHeld => ?_)
          clear hK K
          try simp only [List.setIfInBounds_toArray, List.set_cons_zero, List.set_cons_succ]
          refine wpAnyH_done (by kernel_rfl) ?_ _
          clear hHeld
          obtain ⟨E, hE⟩ : ∃ E, E = (D.setCell ⟨kh, 1, none⟩ (.slice q' (es.length + 1) c')).setCell ⟨kh, 0, none⟩ (.int .i64 ((m : Int) + 1)) := ⟨_, rfl⟩
          have z0 : E.cell? ⟨kh, 0, none⟩ = some (.int .i64 ((m : Int) + 1)) := by rw [hE]; exact World.cell?_setCell_same' _ _ _ (by rw [World.cell?_setCell_other _ _ _ _ (by simp), HG0.out.1]; rfl)
          have z1 : E.cell? ⟨kh, 1, none⟩ = some (.slice q' (es.length + 1) c') := by rw [hE, World.cell?_setCell_other _ _ _ _ (by simp)]; exact World.cell?_setCell_same' _ _ _ (by rw [HDK.out.1]; rfl)
          have oE : Owns E W.heap.size (.slice q' (splitL (m : Int) es a).length c') (splitL m es a) := by rw [hE]; exact ownsRow_setCell_other (ownsRow_setCell_other HO1.out HAP.out _) HAP.out _
          have bE : Below W.heap.size W E := by rw [hE]; exact (HBD.out.setCell (p := ⟨kh, 1, none⟩) HKH.out _).setCell (p := ⟨kh, 0, none⟩) HKH.out _
          have hHE : Has E q' (splitL m es a) := by
            obtain ⟨a1, a2, a3, a4, _⟩ := oE.form
            have : q' = a1 := by injection a3
            rw [this]
            exact a4
          have C2 := hide (MY.out E q' c' hHE)
          rw [HSPL.out] at C2
          have HOE := hide oE
          have HBE := hide bE
          have HNE := hide (HN.out.later bE)
          have k0 := HG0.out.1
          have k1 := HDK.out.1
          have k2 := HG0.out.2
          have k3 := HDK.out.2
          clear oE bE hHE s0 s1 s2
          go_upto_region 7 with fail
          rw [← hE]
          clear hE k0 k1 k2 k3
          go_wp2_with fail
          refine C2.out.mono ?_
          rintro e w5 ⟨rfl, hb5⟩
          have z0' := later hb5 z0
          have z1' := later hb5 z1
          have HO5 := hide (HOE.out.later hb5)
          have HB5 := hide (below_step HBE.out hb5)
          have HN5 := hide (HNE.out.later hb5)
          clear hb5 C2 z0 z1 HOE HBE HNE
          obtain ⟨c0, c1, c2, c3⟩ := HN5.out
          have nk : kw + 1 ≠ kh := by have := HKH.out; have := HWS.out; omega
          go_wp2_with fail
          have hkw1 : kw + 1 < W.heap.size := by have := HWS.out; omega
          refine bodyPost_ret (ret_net Try.results27 rfl rfl (HN5.out.set _ _ _ _)) rfl ⟨q', c', rfl, ?_, ?_⟩
          · exact (owns_other (owns_other HO5.out hkw1 _) hkw1 _).base (by rw [HKW.out, HWS.out]; omega)
          · rw [HKW.out]
            have := below_step HB.out HB5.out
            rw [HKW.out] at this
            exact (this.setCell (p := ⟨kw + 1, 0, none⟩) (by simp) _).setCell (p := ⟨kw + 1, 1, none⟩) (by simp) _
        exact AllReadyH.nil
      exact AllReadyH.nil
    exact AllReadyH.nil
  exact AllReadyH.nil
end Go.Proofs.Ytaebbfilgfkckaa
