/- GraphNone's walk. -/
import Derived.Test.YtgfiofogcnnkhaaHD
namespace Go.Proofs.Ytgfiofogcnnkhaa
open Go.RowKit Go.Sort Go.Shelf
open Go

/-- The mark that a range over a function leaves among the deferred calls. -/
def mkD (D : Nat) : Deferred := { target := .collected D, args := #[] }
/-- The blocks of the marks. -/
def Marks (B : Nat) (W : World) (Ds : List Nat) : Prop := Ds.Nodup ∧ ∀ D ∈ Ds, B ≤ D ∧ W.heap[D]? = some (.deferred (some []))
theorem leave_marks {F : Fence} {n : Nat} {P : Program} {fn : Func} {tmps : Array Value} {R : Ending → World → Prop} {B : Nat} : ∀ (Ds : List Nat) (W : World), Marks B W Ds → (∀ W', Below B W W' → (∀ a v, W.cell? a = some v → W'.cell? a = some v) → LeavesInM F n P fn tmps R [] .returning W') → LeavesInM F n P fn tmps R (Ds.map mkD) .returning W
  | [], W, _, h => h W (Below.refl _ _) (fun _ _ hv => hv)
  | D :: Ds, W, hM, h => by
    obtain ⟨hn, hD⟩ := hM
    obtain ⟨hDB, hDl⟩ := hD D (by simp)
    rw [List.nodup_cons] at hn
    refine ⟨by simp, .inl ⟨D, _, rfl, run_takeDeferred hDl, ?_⟩⟩
    refine leave_marks (B := B) Ds _ ⟨hn.2, fun E hE => ?_⟩ ?_
    · refine ⟨(hD E (by simp [hE])).1, (World.putObj_heap_other (fun e => hn.1 (by rw [← e]; exact hE))).trans (hD E (by simp [hE])).2⟩
    · intro W' hb hc
      refine h W' (Below.trans ?_ hb) (fun a v hv => hc a v (cell_kept hv (grownBy_putObj' _ D _) (fun r e => by cases e; exact ⟨_, hDl, rfl⟩)))
      exact (Below.refl B W).grown (grownBy_putObj' W D _) (by have := (Array.getElem?_eq_some_iff.1 hDl).1; omega) (fun k e => by cases e; omega)
theorem Marks.later {B : Nat} {W W' : World} {Ds : List Nat} (h : Marks B W Ds) (hb : Below W.heap.size W W') : Marks B W' Ds :=
  ⟨h.1, fun D hD => ⟨(h.2 D hD).1, (hb.block D (Array.getElem?_eq_some_iff.1 (h.2 D hD).2).1).trans (h.2 D hD).2⟩⟩
/-- The law of a range over a function whose body never leaves, where nothing is assigned. -/
theorem range_skip {F : Fence} {n : Nat} {P : Program} {α : Type} {g : Operand} {ps : Array Tmp} {body : Code} {Q : Exit → Act → World → Prop} {a : Act} {w : World}
    (hro : F.round = none) (h1 : 1 ≤ n) {gf : Nat} {lb : Array Value} (hg : a.eval g = .func (.func gf) #[] lb) (hFg : F.fn gf) (eg : ∀ args w, (callFunc gf args).run P w = .ok (.enter gf args) w)
    {encs : α → Array Value} {Kp : World → World → Prop} {S Sp : List α → Prop} {N : Nat} {w0 : World} (hseq : SeqStopsK F (n - 1) P gf lb encs Kp S Sp N w0)
    (hKt : ∀ {A B C : World}, Kp A B → Kp B C → Kp A C) (hKb : ∀ (W : World) (l : Nat) (o o' : Obj), w.heap.size ≤ l → W.heap[l]? = some o → o.isCells = false → o.isWalk = false → Kp W (W.putObj l o')) (hb0 : Below w0.heap.size w0 w) (hps : ∀ x, (encs x).size = ps.size)
    (I : List α → World → Prop) (hI : OwnFrom w.heap.size I) (h0 : I [] w)
    (hbody : ∀ (l : Nat) (pre : List α) (x : α) (W : World), I pre W → pre.length < N → body.wpIn (F.inRound l) (n - 1 - 1) P (ownPostG w.heap.size Kp I (fun _ _ _ => False) (pre ++ [x]) W) { tmps := (ps.zip (encs x)).foldl (fun t (p, v) => t.setIfInBounds p v) a.tmps, defers := [] } W)
    (hdone : ∀ (D : Nat) (xs : List α) (W : World), w.heap.size ≤ D → S xs → I xs W → W.heap[D]? = some (.deferred (some [])) → Q .normal { a with defers := { target := .collected D, args := #[] } :: a.defers } W) :
    (Code.rangeFunc g ps Code.skip body).wpIn F n P Q a w :=
  wpIn_rangeFunc_ownG hro h1 hg hFg eg hseq hKt hKb hb0 hps I (fun _ _ _ => False) hI (fun _ _ _ _ _ hs _ _ => hs) h0 (fun x => { tmps := (ps.zip (encs x)).foldl (fun t (p, v) => t.setIfInBounds p v) a.tmps, defers := [] }) (fun l x W K hK => by first | exact wpIn_skip.2 hK | exact wpIn_skip hK | (unfold Code.wpIn; exact hK)) hbody hdone (fun _ _ _ _ _ _ h _ => h.elim)
set_option maxRecDepth 100000 in
set_option maxHeartbeats 16000000 in
theorem none_walk (k a b c : Int) (w : World) : Calls Try.prog 6 #[.agg #[.int .i64 k, .int .i64 a, .int .i64 b, .int .i64 c]] w fun e w' => e = .returned (.bool true) ∧ Below w.heap.size w w' := by
  obtain ⟨W0, hW0⟩ : ∃ W, W = (w.alloc (.cells #[.int .i64 k, .int .i64 a, .int .i64 b, .int .i64 c] 43)).alloc (.cells #[.bool false] 4) := ⟨_, rfl⟩
  have hb0 : Below w.heap.size w W0 := by rw [hW0]; go_grown
  have hs0 : W0.heap.size = w.heap.size + 2 := by rw [hW0]; simp
  have HS0 : Hid (W0.cell? ⟨w.heap.size, 1, none⟩ = some (.int .i64 a) ∧ W0.cell? ⟨w.heap.size, 2, none⟩ = some (.int .i64 b) ∧ W0.cell? ⟨w.heap.size, 3, none⟩ = some (.int .i64 c) ∧ W0.cell? ⟨w.heap.size + 1, 0, none⟩ = some (.bool false)) := ⟨by rw [hW0]; go_cell, by rw [hW0]; go_cell, by rw [hW0]; go_cell, by rw [hW0]; go_cell⟩
  have f00 : W0.frozen? ⟨w.heap.size + 1, 0, none⟩ = false := by rw [hW0]; go_cell
  have HS : Hid (∀ V, Below W0.heap.size W0 V → V.cell? ⟨w.heap.size, 1, none⟩ = some (.int .i64 a) ∧ V.cell? ⟨w.heap.size, 2, none⟩ = some (.int .i64 b) ∧ V.cell? ⟨w.heap.size, 3, none⟩ = some (.int .i64 c) ∧ V.cell? ⟨w.heap.size + 1, 0, none⟩ = some (.bool false)) := fun V hV => ⟨later hV HS0.out.1, later hV HS0.out.2.1, later hV HS0.out.2.2.1, later hV HS0.out.2.2.2⟩
  have HF : Hid (∀ V, Below W0.heap.size W0 V → V.frozen? ⟨w.heap.size + 1, 0, none⟩ = false) := fun V hV => laterF hV HS0.out.2.2.2 f00
  have HB8 := hide (begun8 W0)
  have HB0 := hide hb0
  have HW := hide hW0
  have HZ := hide hs0
  have EF := eqlF
  clear hb0 hs0 hW0 HS0 f00
  refine (callsIn_wide (n := 9)).1 ?_
  refine callsIn_of_wp_marks Try.func6 rfl trivial ?_ rfl
  simp only [Try.ntmps6, List.size_toArray, List.length_cons, List.length_nil, Nat.reduceAdd, Nat.reduceSub, Array.replicate_succ, Array.replicate_zero, List.push_toArray, List.append_toArray, List.nil_append, List.cons_append]
  refine wpIn_wide.2 ?_
  go_upto_region 11 with (first
    | (go_at_call 8; rw [← HW.out]; refine HB8.out.mono ?_; rintro e w1 ⟨rfl, hb⟩; have HB := hide hb; clear hb; obtain ⟨q1, q2, q3, c0⟩ := HS.out _ HB.out; have f0 := HF.out _ HB.out)
    | (go_at_call 23; refine (nil23 _).mono ?_; rintro e w' ⟨rfl, hw⟩; have hw2 := hw.symm; subst hw2)
    | (go_at_call 24; refine (nil24 _ _ _).mono ?_; rintro e w' ⟨rfl, hw⟩; have hw2 := hw.symm; subst hw2)
    | (go_at_call 25; refine (nil25 _ _).mono ?_; rintro e w' ⟨rfl, hw⟩; have hw2 := hw.symm; subst hw2)
    | (go_at_call 17; refine (nil17 _ _).mono ?_; rintro e w' ⟨rfl, hw⟩; have hw2 := hw.symm; subst hw2)
    | (go_at_call 18; refine (nil18 _ _).mono ?_; rintro e w' ⟨rfl, hw⟩; have hw2 := hw.symm; subst hw2)
    | (go_at_call 16; refine (nil16 _ _).mono ?_; rintro e w' ⟨rfl, hw⟩; have hw2 := hw.symm; subst hw2)
    | (go_at_call 21; refine (nil21 _).mono ?_; rintro e w' ⟨rfl, hw⟩; have hw2 := hw.symm; subst hw2)
    | (go_at_call 27; refine (nil27 _ _).mono ?_; rintro e w' ⟨rfl, hw⟩; have hw2 := hw.symm; subst hw2)
    | (go_at_call 28; refine (nil28 _ _ _ _).mono ?_; rintro e w' ⟨rfl, hw⟩; have hw2 := hw.symm; subst hw2)
    | (go_at_call 29; refine (nil29 _).mono ?_; rintro e w' ⟨rfl, hw⟩; have hw2 := hw.symm; subst hw2)
    | (go_at_call 19; refine (nil19 _).mono ?_; rintro e w2 ⟨rfl, hb⟩; have HB := hide (below_step HB.out hb); clear hb q1 q2 q3 c0 f0; obtain ⟨q1, q2, q3, c0⟩ := HS.out _ HB.out; have f0 := HF.out _ HB.out))
  obtain ⟨V3, hV3⟩ : ∃ V, V = w2.alloc (nbx 0 none 0 0) := ⟨_, rfl⟩
  have hb : Below w2.heap.size w2 V3 := by rw [hV3]; go_grown
  have HN : Hid (V3.cell? ⟨w2.heap.size, 0, none⟩ = some (.int .i64 0) ∧ V3.cell? ⟨w2.heap.size, 1, none⟩ = some (.slice none 0 0)) := ⟨by rw [hV3]; go_cell, by rw [hV3]; go_cell⟩
  rw [← hV3]
  clear hV3
  have HB := hide (below_step HB.out hb); clear hb q1 q2 q3 c0 f0; obtain ⟨q1, q2, q3, c0⟩ := HS.out _ HB.out; have f0 := HF.out _ HB.out
  go_wp2_with (go_at_call 26; refine (edges26nil _ _).mono ?_; rintro e w4 ⟨kx, pp, cc, rfl, e1, _, _, hb⟩; have HE1 := hide e1; clear e1; have HN := hide (show w4.cell? ⟨w2.heap.size, 0, none⟩ = some (.int .i64 0) ∧ w4.cell? ⟨w2.heap.size, 1, none⟩ = some (.slice none 0 0) from ⟨later hb HN.out.1, later hb HN.out.2⟩); have HB := hide (below_step HB.out hb); clear hb q1 q2 q3 c0 f0; obtain ⟨q1, q2, q3, c0⟩ := HS.out _ HB.out; have f0 := HF.out _ HB.out)
  refine (wpIn_wide (n := 9)).1 ?_
  have hkx : kx < w4.heap.size := block_lt_of_cell HE1.out
  refine range_skip rfl (by omega) (gf := 94) (lb := #[ptr kx]) rfl trivial (enters_of Try.func94 (by kernel_rfl) rfl)
    (values94_stops Fence.wide (9 - 1) trivial rfl (by omega) kx 0 cc pp [] (by simp) (fun h => absurd h (by simp)) (fun A B => Frame A B (fun i => w4.heap.size ≤ i)) (fun A B h i j v hi hc => h.cell hc (fun hle => by have hle2 : w4.heap.size ≤ i := hle; rcases hi with h0 | ⟨h0, _⟩ <;> first | omega | (simp at h0))) w4 HE1.out (fun j hj => by simp at hj))
    (fun h k => Frame.trans h k) (fun W l o o' hl h _ _ => frame_put h hl) (Below.refl _ _) (fun _ => rfl)
    (fun pre W => Frame w4 W (fun i => w4.heap.size ≤ i)) ?own (Frame.of_below (Below.refl _ _) _) ?body ?done
  case own =>
    intro pre A B row h1 hg hr
    exact h1.trans (Frame.grown hg (fun i e => (hr i e).1))
  case body =>
    intro l pre x W h1 hlen
    simp at hlen
  case done =>
    rintro D xs W hD _ h1 hKD
    have hb := h1.below (B := w4.heap.size) (Nat.le_refl _) (fun i hi => hi)
    have hDl : D < W.heap.size := (Array.getElem?_eq_some_iff.1 hKD).1
    have hD2 : w4.heap.size ≤ D := hD
    have HN := hide (show W.cell? ⟨w2.heap.size, 0, none⟩ = some (.int .i64 0) ∧ W.cell? ⟨w2.heap.size, 1, none⟩ = some (.slice none 0 0) from ⟨later hb HN.out.1, later hb HN.out.2⟩)
    have HB := hide (below_step HB.out hb); clear hb q1 q2 q3 c0 f0; obtain ⟨q1, q2, q3, c0⟩ := HS.out _ HB.out; have f0 := HF.out _ HB.out
    have HKD := hide hKD
    have HSZ := hide (show w.heap.size + 2 ≤ w4.heap.size from by have := HZ.out; have := (Hid.out ‹Hid (Below W0.heap.size W0 w4)›).size; omega)
    obtain ⟨n0, n1⟩ := HN.out
    clear h1 hKD EF
    have c0x := hide c0
    have HSV : Hid (∀ V, Below W.heap.size W V → V.cell? ⟨w.heap.size, 1, none⟩ = some (.int .i64 a) ∧ V.cell? ⟨w.heap.size, 2, none⟩ = some (.int .i64 b) ∧ V.cell? ⟨w.heap.size, 3, none⟩ = some (.int .i64 c) ∧ V.cell? ⟨w2.heap.size, 0, none⟩ = some (.int .i64 0) ∧ V.cell? ⟨w2.heap.size, 1, none⟩ = some (.slice none 0 0)) := fun V hV => ⟨later hV q1, later hV q2, later hV q3, later hV n0, later hV n1⟩
    have w00 : IntKind.i64.wrap 0 = 0 := by decide
    have hne1 : w.heap.size ≠ w.heap.size + 1 := by omega
    have hne2 : w2.heap.size ≠ w.heap.size + 1 := by have := HZ.out; have := (Hid.out ‹Hid (Below W0.heap.size W0 w2)›).size; omega
    go_wp2_with fail
    simp only [List.append_eq, List.cons_append, List.nil_append]
    go_region_held3 (fun V => V.cell? ⟨w.heap.size, 1, none⟩ = some (.int .i64 a) ∧ V.cell? ⟨w.heap.size, 2, none⟩ = some (.int .i64 b) ∧ V.cell? ⟨w.heap.size, 3, none⟩ = some (.int .i64 c) ∧ V.cell? ⟨w2.heap.size, 0, none⟩ = some (.int .i64 0) ∧ V.cell? ⟨w2.heap.size, 1, none⟩ = some (.slice none 0 0))
      (first | exact HSV.out _ (Below.refl _ _) | exact HSV.out _ (below_drew _) | exact HSV.out _ HBV.out | exact ⟨cell_other (HSV.out _ HBV.out).1 hne1, cell_other (HSV.out _ HBV.out).2.1 hne1, cell_other (HSV.out _ HBV.out).2.2.1 hne1, cell_other (HSV.out _ HBV.out).2.2.2.1 hne2, cell_other (HSV.out _ HBV.out).2.2.2.2 hne2⟩)
      (first
      | (go_at_call 21; refine (nil21 _).mono ?_; rintro e w' ⟨rfl, hw⟩; have hw2 := hw.symm; subst hw2)
      | (go_at_call 27; refine (nil27 _ _).mono ?_; rintro e w' ⟨rfl, hw⟩; have hw2 := hw.symm; subst hw2)
      | (go_at_call 28; refine (nil28 _ _ _ _).mono ?_; rintro e w' ⟨rfl, hw⟩; have hw2 := hw.symm; subst hw2)
      | (go_at_call 29; refine (nil29 _).mono ?_; rintro e w' ⟨rfl, hw⟩; have hw2 := hw.symm; subst hw2)
      | (go_at_call 22; refine (nil22 _ _).mono ?_; rintro e w5 ⟨rfl, hb⟩; have HBV := hide (below_step (below_drew W) hb); have c0 := later HBV.out c0; have f0 := laterF HBV.out c0x.out f0; clear hb))
    rename_i hHeld
    clear hHeld
    go_wp2_with fail
    refine leave_marks (B := w.heap.size) [D] _ ?_ ?_
    · refine ⟨by simp, fun E hE => ?_⟩
      rw [List.mem_singleton] at hE
      subst hE
      refine ⟨by have := HSZ.out; omega, ?_⟩
      exact (Below.heap_setCell _ _ _ E (by have := HSZ.out; show E ≠ w.heap.size + 1; omega)).trans ((HBV.out.block E hDl).trans HKD.out)
    · intro W' hb hc
      have c7 := hc ⟨w.heap.size + 1, 0, none⟩ (.bool true) (World.cell?_setCell_same' _ _ _ (by rw [c0]; rfl))
      refine ⟨.bool true, ?_, rfl, ?_⟩
      · simp [results, Try.f6, go_sem, c7]
      · exact ((below_step (below_step HB0.out HB.out) HBV.out).setCell (p := ⟨w.heap.size + 1, 0, none⟩) (by show w.heap.size ≤ w.heap.size + 1; omega) _).trans hb
end Go.Proofs.Ytgfiofogcnnkhaa
