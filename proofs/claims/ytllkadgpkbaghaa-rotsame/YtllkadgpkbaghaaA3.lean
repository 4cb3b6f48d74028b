/- What find does to a tour. -/
import Derived.Test.YtllkadgpkbaghaaA2
namespace Go.Proofs.Ytllkadgpkbaghaa
open Go.RowKit Go.Sort
open Go


/-- All blocks that were there are as they were, but for those that are named. -/
structure Frame (w w' : World) (p : Nat → Prop) : Prop where
  os : w'.os = w.os
  tape : w'.tape = w.tape
  output : w'.output = w.output
  size : w.heap.size ≤ w'.heap.size
  block : ∀ i, i < w.heap.size → ¬ p i → w'.heap[i]? = w.heap[i]?
theorem Frame.below {w w' : World} {p : Nat → Prop} {B : Nat} (h : Frame w w' p) (hB : B ≤ w.heap.size) (hp : ∀ i, p i → B ≤ i) : Below B w w' :=
  ⟨h.os, h.tape, h.output, h.size, fun i hi => h.block i (by omega) (fun k => by have := hp i k; omega)⟩
theorem Frame.row {w w' : World} {p : Nat → Prop} {base e size n : Nat} {v : Value} {xs : List Value} (h : Frame w w' p) (o : w.ownsRow base e size v n xs) (hp : ∀ i, v.ownBlock = some i → ¬ p i) : w'.ownsRow base e size v n xs := by
  obtain ⟨h0, ⟨h1, h2⟩ | ⟨g, cap, cur, h1, h2, h3, h4⟩⟩ := o
  · exact ⟨h0, Or.inl ⟨h1, h2⟩⟩
  · refine ⟨h0, Or.inr ⟨g, cap, cur, h1, h2, ?_, h4⟩⟩
    rw [h.block g (Array.getElem?_eq_some_iff.1 h3).1 (hp g (by rw [h1]; rfl))]
    exact h3
theorem Frame.rows {w w' : World} {p : Nat → Prop} {B g n : Nat} {rv : Nat → Value} {L : Nat → List Int} (h : Frame w w' p) (o : Rows w B g n rv L) (hg : ¬ p g) (hp : ∀ v i, v < n → (rv v).ownBlock = some i → ¬ p i) : Rows w' B g n rv L :=
  ⟨h.row o.1 (fun i hi => by simp [Value.ownBlock] at hi; rw [← hi]; exact hg), o.2.1, fun v hv => h.row (o.2.2 v hv) (fun i hi => hp v i hv hi)⟩
theorem Frame.irow {w w' : World} {p : Nat → Prop} {B g n : Nat} {L : List Int} (h : Frame w w' p) (o : IRow w B g n L) (hg : ¬ p g) : IRow w' B g n L :=
  ⟨o.1, h.row o.2 (fun i hi => by simp [Value.ownBlock] at hi; rw [← hi]; exact hg)⟩
theorem Frame.iowns {w w' : World} {p : Nat → Prop} {B : Nat} {v : Value} {L : List Int} (h : Frame w w' p) (o : IOwns w B v L) (hp : ∀ i, v.ownBlock = some i → ¬ p i) : IOwns w' B v L := h.row o hp
theorem Frame.of_below {w w' : World} (h : Below w.heap.size w w') (p : Nat → Prop) : Frame w w' p := ⟨h.os, h.tape, h.output, h.size, fun i hi _ => h.block i hi⟩
theorem Frame.trans {a b c : World} {p : Nat → Prop} (h : Frame a b p) (k : Frame b c p) : Frame a c p :=
  ⟨k.os.trans h.os, k.tape.trans h.tape, k.output.trans h.output, Nat.le_trans h.size k.size, fun i hi hp => (k.block i (Nat.lt_of_lt_of_le hi h.size) hp).trans (h.block i hi hp)⟩
theorem Frame.mono {a b : World} {p q : Nat → Prop} (h : Frame a b p) (hpq : ∀ i, i < a.heap.size → p i → q i) : Frame a b q :=
  ⟨h.os, h.tape, h.output, h.size, fun i hi hq => h.block i hi (fun hp => hq (hpq i hi hp))⟩
theorem Frame.set (w : World) (a : Addr) (v : Value) {p : Nat → Prop} (hp : p a.block) : Frame w (w.setCell a v) p :=
  ⟨rfl, rfl, rfl, by simp [World.setCell], fun _ _ hi => Below.heap_setCell _ _ _ _ (fun e => hi (by first | (rw [e]; exact hp) | (rw [← e]; exact hp)))⟩
theorem Frame.grown {w w' : World} {r : Option Nat} {p : Nat → Prop} (h : w.grownBy w' r) (hp : ∀ i, r = some i → p i) : Frame w w' p :=
  ⟨h.os, h.tape, h.output, h.size, fun i hi hn => h.block i hi (fun e => hn (hp i e.symm))⟩
/-- The blocks of a tour. -/
def TBk (k gb gf : Nat) (vo : Value) (i : Nat) : Prop := i = k ∨ i = gb ∨ i = gf ∨ vo.ownBlock = some i
structure TB2 (w : World) (B k n : Nat) (vo : Value) (gb gf : Nat) (vl : Value) (O By Fa : List Int) : Prop extends TB w B k n vo gb gf vl O By Fa where
  base : B ≤ k
theorem TB.cells {w : World} {B k n : Nat} {vo : Value} {gb gf : Nat} {vl : Value} {O By Fa : List Int} (h : TB w B k n vo gb gf vl O By Fa) : w.cell? ⟨k, 0, none⟩ = some vo ∧ w.cell? ⟨k, 1, none⟩ = some (.slice (some ⟨gb, 0, none⟩) n n) ∧ w.cell? ⟨k, 2, none⟩ = some (.slice (some ⟨gf, 0, none⟩) n n) ∧ w.cell? ⟨k, 3, none⟩ = some vl ∧ w.frozen? ⟨k, 0, none⟩ = false ∧ w.frozen? ⟨k, 3, none⟩ = false :=
  ⟨World.ownsRow.cellAt h.box 0 (by omega), World.ownsRow.cellAt h.box 1 (by omega), World.ownsRow.cellAt h.box 2 (by omega), World.ownsRow.cellAt h.box 3 (by omega), World.ownsRow.frozenAt h.box 0, World.ownsRow.frozenAt h.box 3⟩
theorem TB.later {w w' : World} {B k n : Nat} {vo : Value} {gb gf : Nat} {vl : Value} {O By Fa : List Int} (h : TB w B k n vo gb gf vl O By Fa) (hb : Below w.heap.size w w') : TB w' B k n vo gb gf vl O By Fa :=
  ⟨World.ownsRow.kept h.box (grown_below hb) (Or.inr (by simp [Value.ownBlock])), h.ord.later hb, h.by_.later hb, h.far.later hb, h.ne1, h.ne2, h.ne3⟩
theorem TB.kne {w : World} {B k n : Nat} {vo : Value} {gb gf : Nat} {vl : Value} {O By Fa : List Int} (h : TB w B k n vo gb gf vl O By Fa) : gb ≠ k ∧ gf ≠ k ∧ vo.ownBlock ≠ some k := by
  obtain ⟨cur, hk⟩ := row_kind h.box
  have h1 := row_apart hk h.by_.2 (by decide)
  have h2 := row_apart hk h.far.2 (by decide)
  have h3 := row_apart hk h.ord (by decide)
  exact ⟨fun e => h1 (by rw [← e]; rfl), fun e => h2 (by rw [← e]; rfl), h3⟩
set_option maxRecDepth 100000 in
set_option maxHeartbeats 8000000 in
theorem find53 (B k n : Nat) (vo : Value) (gb gf : Nat) (vl : Value) (O By Fa : List Int) (v : Nat) (h far : Int) (w : World) (t : TB w B k n vo gb gf vl O By Fa) (hv : v < n) (hB : B ≤ w.heap.size) (hl : O.length ≤ 90000) :
    Calls Try.prog 91 #[.pointer (some ⟨k, 0, none⟩), .int .i64 v, .int .i64 h, .int .i64 far] w fun e w' => e = .returned (.tuple #[]) ∧ ∃ vo', TB w' B k n vo' gb gf vl (O ++ [(v : Int)]) (By.set v h) (Fa.set v far) ∧ Frame w w' (TBk k gb gf vo) ∧ (vo'.ownBlock = vo.ownBlock ∨ ∃ i, vo'.ownBlock = some i ∧ w.heap.size ≤ i) := by
  obtain ⟨n1, n2, n3⟩ := t.kne
  obtain ⟨U, hU⟩ : ∃ U, U = w.alloc (.cells #[.int .i64 v] 3) := ⟨_, rfl⟩
  have hbU : Below w.heap.size w U := by rw [hU]; go_grown
  have hsU : U.heap.size = w.heap.size + 1 := by rw [hU]; simp
  have hlit : U.cell? ⟨w.heap.size, 0, none⟩ = some (.int .i64 v) := by rw [hU]; exact one_int _ _
  have tU := t.later hbU
  obtain ⟨v1, D, e1, o1, gr, at1⟩ := append_int tU.ord hlit (by omega) hl
  obtain ⟨p1, l1, c1, rfl⟩ : ∃ p1 l1 c1, v1 = .slice p1 l1 c1 := by obtain ⟨p1, c1, h1, _⟩ := o1.form; exact ⟨_, _, _, h1⟩
  obtain ⟨p0, l0, c0, rfl⟩ : ∃ p0 l0 c0, vo = .slice p0 l0 c0 := by obtain ⟨p1, c1, h1, _⟩ := t.ord.form; exact ⟨_, _, _, h1⟩
  -- the world behind the append
  have dbox := World.ownsRow.kept tU.box gr (Or.inr (fun e => n3 (by rw [← e]; rfl)))
  have dby : IRow D B gb n By := ⟨tU.by_.1, World.ownsRow.kept tU.by_.2 gr (Or.inr (fun e => tU.ne2 (by rw [← e]; rfl)))⟩
  have dfa : IRow D B gf n Fa := ⟨tU.far.1, World.ownsRow.kept tU.far.2 gr (Or.inr (fun e => tU.ne3 (by rw [← e]; rfl)))⟩
  have hk1 : (Value.slice p1 l1 c1).ownBlock ≠ some k := by obtain ⟨cur, hk⟩ := row_kind dbox; exact row_apart hk o1 (by decide)
  have hg1 : (Value.slice p1 l1 c1).ownBlock ≠ some gb := by
    rcases at1 with e | e
    · rw [e]; exact t.ne2
    · rw [e, hsU]; have := t.by_.lt; intro e'; injection e' with e'; omega
  have hf1 : (Value.slice p1 l1 c1).ownBlock ≠ some gf := by
    rcases at1 with e | e
    · rw [e]; exact t.ne3
    · rw [e, hsU]; have := t.far.lt; intro e'; injection e' with e'; omega
  -- and behind the stores
  obtain ⟨D1, hD1⟩ : ∃ D1, D1 = D.setCell ⟨k, 0, none⟩ (.slice p1 l1 c1) := ⟨_, rfl⟩
  have b1 : D1.ownsRow 0 93 4 (.slice (some ⟨k, 0, none⟩) 1 1) 1 [.slice p1 l1 c1, .slice (some ⟨gb, 0, none⟩) n n, .slice (some ⟨gf, 0, none⟩) n n, vl] := by rw [hD1]; exact (World.ownsRow.stored dbox 0 _).1
  have t1 : TB D1 B k n (.slice p1 l1 c1) gb gf vl (O ++ [(v : Int)]) By Fa := ⟨b1, by rw [hD1]; exact ownsRow_setCell_other o1 hk1 _, by rw [hD1]; exact irow_other dby (Ne.symm n1) _, by rw [hD1]; exact irow_other dfa (Ne.symm n2) _, t.ne1, hg1, hf1⟩
  have fr1 : Frame w D1 (TBk k gb gf (.slice p0 l0 c0)) := by
    rw [hD1]
    exact ((Frame.of_below hbU _).trans (Frame.grown gr (fun i e => Or.inr (Or.inr (Or.inr e))))).trans (Frame.set _ _ _ (Or.inl rfl))
  have HT1 := hide t1
  have HFR := hide fr1
  have HAT : Hid ((Value.slice p1 l1 c1).ownBlock = (Value.slice p0 l0 c0).ownBlock ∨ ∃ i, (Value.slice p1 l1 c1).ownBlock = some i ∧ w.heap.size ≤ i) := at1.imp id (fun e => ⟨_, e, by omega⟩)
  have HNE := hide t.ne1
  obtain ⟨x0, x1, x2, x3, x4, _⟩ := t.cells
  have k1 : k < w.heap.size := block_lt_of_cell x0
  have k2 : k ≠ w.heap.size := by omega
  rw [hU] at e1
  obtain ⟨y0, y1, y2, y3, y4, _⟩ := (t1.later (Below.refl _ _)).cells
  have z0 : D.cell? ⟨k, 0, none⟩ = some (.slice p0 l0 c0) := World.ownsRow.cellAt dbox 0 (by omega)
  have z4 : D.frozen? ⟨k, 0, none⟩ = false := World.ownsRow.frozenAt dbox 0
  obtain ⟨g0, g1⟩ := t1.by_.cell hv
  obtain ⟨g2, g3⟩ := t1.far.cell hv
  have i1 : (v : Int) < n := by omega
  have i2 : (0 : Int) ≤ v := by omega
  have HN := hide (And.intro n1 n2)
  clear t tU hbU hlit o1 gr at1 dbox dby dfa hk1 hg1 hf1 b1 fr1 hsU t1 hU n3
  go_enter Try.func91, Try.ntmps91
  go_wp2_with (at_builtin; refine wpList_run_append rfl (.tmp 12) (.tmp 14) 27 rfl 27 rfl _ _ _ D rfl rfl e1 ?_)
  clear e1 x0 x1 x2 x3 x4
  go_wp2_with fail
  rw [← hD1]
  have HS : Hid (D1.cell? ⟨k, 1, none⟩ = some (.slice (some ⟨gb, 0, none⟩) n n) ∧ D1.cell? ⟨k, 2, none⟩ = some (.slice (some ⟨gf, 0, none⟩) n n)) := ⟨y1, y2⟩
  have nk1 : k ≠ gb := Ne.symm HN.out.1
  have nk2 : k ≠ gf := Ne.symm HN.out.2
  have nbf := HNE.out
  have nfb : gf ≠ gb := Ne.symm nbf
  clear z0 z4 y0 y3 y4 hD1 k1 k2
  go_region_held3 (fun V => V.cell? ⟨k, 1, none⟩ = some (.slice (some ⟨gb, 0, none⟩) n n) ∧ V.cell? ⟨k, 2, none⟩ = some (.slice (some ⟨gf, 0, none⟩) n n))
    (first | exact HS.out | exact ⟨cell_other HS.out.1 nk1, cell_other HS.out.2 nk1⟩ | exact ⟨cell_other (cell_other HS.out.1 nk1) nk2, cell_other (cell_other HS.out.2 nk1) nk2⟩)
    (fail)
  rename_i hHeld
  clear hHeld
  obtain ⟨V, hV⟩ : ∃ V, V = ((D1.setCell ⟨gb, v, none⟩ (.int .i64 h)).setCell ⟨gf, v, none⟩ (.int .i64 far)).drew := ⟨_, rfl⟩
  have tV : TB V B k n (.slice p1 l1 c1) gb gf vl (O ++ [(v : Int)]) (By.set v h) (Fa.set v far) := by
    rw [hV]
    have t1 := HT1.out
    refine TB.later (w := (D1.setCell ⟨gb, v, none⟩ (.int .i64 h)).setCell ⟨gf, v, none⟩ (.int .i64 far)) ?_ (by go_grown)
    refine ⟨?_, ?_, ?_, ?_, t1.ne1, t1.ne2, t1.ne3⟩
    · exact ownsRow_setCell_other (a := ⟨gf, v, none⟩) (ownsRow_setCell_other (a := ⟨gb, v, none⟩) t1.box (by simp [Value.ownBlock]; omega) _) (by simp [Value.ownBlock]; omega) _
    · exact ownsRow_setCell_other (a := ⟨gf, v, none⟩) (ownsRow_setCell_other (a := ⟨gb, v, none⟩) t1.ord t1.ne2 _) t1.ne3 _
    · exact irow_other (t1.by_.set v h) nfb _
    · exact (irow_other t1.far nbf _).set v far
  have frV : Frame w V (TBk k gb gf (.slice p0 l0 c0)) := by
    rw [hV]
    exact ((HFR.out.trans (Frame.set _ ⟨gb, v, none⟩ _ (Or.inr (Or.inl rfl)))).trans (Frame.set _ ⟨gf, v, none⟩ _ (Or.inr (Or.inr (Or.inl rfl))))).trans (Frame.of_below (by go_grown) _)
  rw [← hV]
  clear hV
  go_wp2
  go_end0
  exact ⟨rfl, _, tV, frV, HAT.out⟩
end Go.Proofs.Ytllkadgpkbaghaa
