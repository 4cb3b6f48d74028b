/- What find does to a tour. -/
import Derived.Test.YtobkejnlkjieoaaZC02
import Derived.Test.YtobkejnlkjieoaaZC03
import Derived.WalkSmall
import Derived.Deep.RegionHeld3
namespace Go.Proofs.Ytobkejnlkjieoaa
open Go.RowKit Go.Sort
open Go

/-- All blocks that were there are as they were, but for those that are named. -/
structure FrameW (w w' : World) (p : Nat → Prop) : Prop where
  os : w'.os = w.os
  tape : w'.tape = w.tape
  output : w'.output = w.output
  size : w.heap.size ≤ w'.heap.size
  block : ∀ i, i < w.heap.size → ¬ p i → w'.heap[i]? = w.heap[i]?
theorem FrameW.below {w w' : World} {p : Nat → Prop} {B : Nat} (h : FrameW w w' p) (hB : B ≤ w.heap.size) (hp : ∀ i, p i → B ≤ i) : Below B w w' :=
  ⟨h.os, h.tape, h.output, h.size, fun i hi => h.block i (by omega) (fun k => by have := hp i k; omega)⟩
theorem FrameW.row {w w' : World} {p : Nat → Prop} {base e size n : Nat} {v : Value} {xs : List Value} (h : FrameW w w' p) (o : w.ownsRow base e size v n xs) (hp : ∀ i, v.ownBlock = some i → ¬ p i) : w'.ownsRow base e size v n xs := by
  obtain ⟨h0, ⟨h1, h2⟩ | ⟨g, cap, cur, h1, h2, h3, h4⟩⟩ := o
  · exact ⟨h0, Or.inl ⟨h1, h2⟩⟩
  · refine ⟨h0, Or.inr ⟨g, cap, cur, h1, h2, ?_, h4⟩⟩
    rw [h.block g (Array.getElem?_eq_some_iff.1 h3).1 (hp g (by rw [h1]; rfl))]
    exact h3
theorem FrameW.rows {w w' : World} {p : Nat → Prop} {B g n : Nat} {rv : Nat → Value} {L : Nat → List Int} (h : FrameW w w' p) (o : Rows w B g n rv L) (hg : ¬ p g) (hp : ∀ v i, v < n → (rv v).ownBlock = some i → ¬ p i) : Rows w' B g n rv L :=
  ⟨h.row o.1 (fun i hi => by simp [Value.ownBlock] at hi; rw [← hi]; exact hg), o.2.1, fun v hv => h.row (o.2.2 v hv) (fun i hi => hp v i hv hi)⟩
theorem FrameW.irow {w w' : World} {p : Nat → Prop} {B g n : Nat} {L : List Int} (h : FrameW w w' p) (o : IRow w B g n L) (hg : ¬ p g) : IRow w' B g n L :=
  ⟨o.1, h.row o.2 (fun i hi => by simp [Value.ownBlock] at hi; rw [← hi]; exact hg)⟩
theorem FrameW.iowns {w w' : World} {p : Nat → Prop} {B : Nat} {v : Value} {L : List Int} (h : FrameW w w' p) (o : IOwns w B v L) (hp : ∀ i, v.ownBlock = some i → ¬ p i) : IOwns w' B v L := h.row o hp
theorem FrameW.of_below {w w' : World} (h : Below w.heap.size w w') (p : Nat → Prop) : FrameW w w' p := ⟨h.os, h.tape, h.output, h.size, fun i hi _ => h.block i hi⟩
theorem FrameW.trans {a b c : World} {p : Nat → Prop} (h : FrameW a b p) (k : FrameW b c p) : FrameW a c p :=
  ⟨k.os.trans h.os, k.tape.trans h.tape, k.output.trans h.output, Nat.le_trans h.size k.size, fun i hi hp => (k.block i (Nat.lt_of_lt_of_le hi h.size) hp).trans (h.block i hi hp)⟩
theorem FrameW.mono {a b : World} {p q : Nat → Prop} (h : FrameW a b p) (hpq : ∀ i, i < a.heap.size → p i → q i) : FrameW a b q :=
  ⟨h.os, h.tape, h.output, h.size, fun i hi hq => h.block i hi (fun hp => hq (hpq i hi hp))⟩
theorem FrameW.set (w : World) (a : Addr) (v : Value) {p : Nat → Prop} (hp : p a.block) : FrameW w (w.setCell a v) p :=
  ⟨rfl, rfl, rfl, by simp [World.setCell], fun _ _ hi => Below.heap_setCell _ _ _ _ (fun e => hi (by first | (rw [e]; exact hp) | (rw [← e]; exact hp)))⟩
theorem FrameW.grown {w w' : World} {r : Option Nat} {p : Nat → Prop} (h : w.grownBy w' r) (hp : ∀ i, r = some i → p i) : FrameW w w' p :=
  ⟨h.os, h.tape, h.output, h.size, fun i hi hn => h.block i hi (fun e => hn (hp i e.symm))⟩
/-- The blocks of a tour. -/
def TBk (k gb gf : Nat) (vo : Value) (i : Nat) : Prop := i = k ∨ i = gb ∨ i = gf ∨ vo.ownBlock = some i
structure TB2 (w : World) (B k n : Nat) (vo : Value) (gb gf : Nat) (vl : Value) (O By Fa : List Int) : Prop extends TB w B k n vo gb gf vl O By Fa where
  base : B ≤ k
theorem TB.cells {w : World} {B k n : Nat} {vo : Value} {gb gf : Nat} {vl : Value} {O By Fa : List Int} (h : TB w B k n vo gb gf vl O By Fa) : w.cell? ⟨k, 0, none⟩ = some vo ∧ w.cell? ⟨k, 1, none⟩ = some (.slice (some ⟨gb, 0, none⟩) n n) ∧ w.cell? ⟨k, 2, none⟩ = some (.slice (some ⟨gf, 0, none⟩) n n) ∧ w.cell? ⟨k, 3, none⟩ = some vl ∧ w.frozen? ⟨k, 0, none⟩ = false ∧ w.frozen? ⟨k, 3, none⟩ = false :=
  ⟨World.ownsRow.cellAt h.box 0 (by omega), World.ownsRow.cellAt h.box 1 (by omega), World.ownsRow.cellAt h.box 2 (by omega), World.ownsRow.cellAt h.box 3 (by omega), World.ownsRow.frozenAt h.box 0, World.ownsRow.frozenAt h.box 3⟩
theorem TB.later {w w' : World} {B k n : Nat} {vo : Value} {gb gf : Nat} {vl : Value} {O By Fa : List Int} (h : TB w B k n vo gb gf vl O By Fa) (hb : Below w.heap.size w w') : TB w' B k n vo gb gf vl O By Fa :=
  ⟨World.ownsRow.kept h.box (grown_below hb) (Or.inr (by simp [Value.ownBlock])), h.ord.later hb, h.by_.later hb, h.far.later hb, h.ne1, h.ne2, h.ne3⟩
theorem TB.kne {w : World} {B k n : Nat} {vo : Value} {gb gf : Nat} {vl : Value} {O By Fa : List Int} (h : TB w B k n vo gb gf vl O By Fa) : gb ≠ k ∧ gf ≠ k ∧ vo.ownBlock ≠ some k := by
  obtain ⟨cur, hk⟩ := row_kind h.box
  have h1 := row_apart hk h.by_.2 (by decide)
  have h2 := row_apart hk h.far.2 (by decide)
  have h3 := row_apart hk h.ord (by decide)
  exact ⟨fun e => h1 (by rw [← e]; rfl), fun e => h2 (by rw [← e]; rfl), h3⟩
set_option maxRecDepth 100000 in
set_option maxHeartbeats 8000000 in
theorem find53 (B k n : Nat) (vo : Value) (gb gf : Nat) (vl : Value) (O By Fa : List Int) (v : Nat) (h far : Int) (w : World) (t : TB w B k n vo gb gf vl O By Fa) (hv : v < n) (hB : B ≤ w.heap.size) (hl : O.length ≤ 90000) :
    Calls Try.prog 72 #[.pointer (some ⟨k, 0, none⟩), .int .i64 v, .int .i64 h, .int .i64 far] w fun e w' => e = .returned (.tuple #[]) ∧ ∃ vo', TB w' B k n vo' gb gf vl (O ++ [(v : Int)]) (By.set v h) (Fa.set v far) ∧ FrameW w w' (TBk k gb gf vo) ∧ (vo'.ownBlock = vo.ownBlock ∨ ∃ i, vo'.ownBlock = some i ∧ w.heap.size ≤ i) := by
  obtain ⟨n1, n2, n3⟩ := t.kne
  obtain ⟨U, hU⟩ : ∃ U, U = w.alloc (.cells #[.int .i64 v] 3) := ⟨_, rfl⟩
  have hbU : Below w.heap.size w U := by rw [hU]; go_grown
  have hsU : U.heap.size = w.heap.size + 1 := by rw [hU]; simp
  have hlit : U.cell? ⟨w.heap.size, 0, none⟩ = some (.int .i64 v) := by rw [hU]; exact one_int _ _
  have tU := t.later hbU
  obtain ⟨v1, D, e1, o1, gr, at1⟩ := append_int tU.ord hlit (by omega) hl
  obtain ⟨p1, l1, c1, rfl⟩ : ∃ p1 l1 c1, v1 = .slice p1 l1 c1 := by obtain ⟨p1, c1, h1, _⟩ := o1.form; exact ⟨_, _, _, h1⟩
  obtain ⟨p0, l0, c0, rfl⟩ : ∃ p0 l0 c0, vo = .slice p0 l0 c0 := by obtain ⟨p1, c1, h1, _⟩ := t.ord.form; exact ⟨_, _, _, h1⟩
  -- the world behind the append
  have dbox := World.ownsRow.kept tU.box gr (Or.inr (fun e => n3 (by rw [← e]; rfl)))
  have dby : IRow D B gb n By := ⟨tU.by_.1, World.ownsRow.kept tU.by_.2 gr (Or.inr (fun e => tU.ne2 (by rw [← e]; rfl)))⟩
  have dfa : IRow D B gf n Fa := ⟨tU.far.1, World.ownsRow.kept tU.far.2 gr (Or.inr (fun e => tU.ne3 (by rw [← e]; rfl)))⟩
  have hk1 : (Value.slice p1 l1 c1).ownBlock ≠ some k := by obtain ⟨cur, hk⟩ := row_kind dbox; exact row_apart hk o1 (by decide)
  have hg1 : (Value.slice p1 l1 c1).ownBlock ≠ some gb := by
    rcases at1 with e | e
    · rw [e]; exact t.ne2
    · rw [e, hsU]; have := t.by_.lt; intro e'; injection e' with e'; omega
  have hf1 : (Value.slice p1 l1 c1).ownBlock ≠ some gf := by
    rcases at1 with e | e
    · rw [e]; exact t.ne3
    · rw [e, hsU]; have := t.far.lt; intro e'; injection e' with e'; omega
  -- and behind the stores
  obtain ⟨D1, hD1⟩ : ∃ D1, D1 = D.setCell ⟨k, 0, none⟩ (.slice p1 l1 c1) := ⟨_, rfl⟩
  have b1 : D1.ownsRow 0 60 4 (.slice (some ⟨k, 0, none⟩) 1 1) 1 [.slice p1 l1 c1, .slice (some ⟨gb, 0, none⟩) n n, .slice (some ⟨gf, 0, none⟩) n n, vl] := by rw [hD1]; exact (World.ownsRow.stored dbox 0 _).1
  have t1 : TB D1 B k n (.slice p1 l1 c1) gb gf vl (O ++ [(v : Int)]) By Fa := ⟨b1, by rw [hD1]; exact ownsRow_setCell_other o1 hk1 _, by rw [hD1]; exact irow_other dby (Ne.symm n1) _, by rw [hD1]; exact irow_other dfa (Ne.symm n2) _, t.ne1, hg1, hf1⟩
  have fr1 : FrameW w D1 (TBk k gb gf (.slice p0 l0 c0)) := by
    rw [hD1]
    exact ((FrameW.of_below hbU _).trans (FrameW.grown gr (fun i e => Or.inr (Or.inr (Or.inr e))))).trans (FrameW.set _ _ _ (Or.inl rfl))
  have HT1 := hide t1
  have HFR := hide fr1
  have HAT : Hid ((Value.slice p1 l1 c1).ownBlock = (Value.slice p0 l0 c0).ownBlock ∨ ∃ i, (Value.slice p1 l1 c1).ownBlock = some i ∧ w.heap.size ≤ i) := at1.imp id (fun e => ⟨_, e, by omega⟩)
  have HNE := hide t.ne1
  obtain ⟨x0, x1, x2, x3, x4, _⟩ := t.cells
  have k1 : k < w.heap.size := block_lt_of_cell x0
  have k2 : k ≠ w.heap.size := by omega
  rw [hU] at e1
  obtain ⟨y0, y1, y2, y3, y4, _⟩ := (t1.later (Below.refl _ _)).cells
  have z0 : D.cell? ⟨k, 0, none⟩ = some (.slice p0 l0 c0) := World.ownsRow.cellAt dbox 0 (by omega)
  have z4 : D.frozen? ⟨k, 0, none⟩ = false := World.ownsRow.frozenAt dbox 0
  obtain ⟨g0, g1⟩ := t1.by_.cell hv
  obtain ⟨g2, g3⟩ := t1.far.cell hv
  have i1 : (v : Int) < n := by omega
  have i2 : (0 : Int) ≤ v := by omega
  have HN := hide (And.intro n1 n2)
  clear t tU hbU hlit o1 gr at1 dbox dby dfa hk1 hg1 hf1 b1 fr1 hsU t1 hU n3
  go_enter Try.func72, Try.ntmps72
  go_wp2_with (at_builtin; refine wpList_run_append rfl (.tmp 12) (.tmp 14) 32 rfl 32 rfl _ _ _ D rfl rfl e1 ?_)
  clear e1 x0 x1 x2 x3 x4
  go_wp2_with fail
  rw [← hD1]
  have HS : Hid (D1.cell? ⟨k, 1, none⟩ = some (.slice (some ⟨gb, 0, none⟩) n n) ∧ D1.cell? ⟨k, 2, none⟩ = some (.slice (some ⟨gf, 0, none⟩) n n)) := ⟨y1, y2⟩
  have nk1 : k ≠ gb := Ne.symm HN.out.1
  have nk2 : k ≠ gf := Ne.symm HN.out.2
  have nbf := HNE.out
  have nfb : gf ≠ gb := Ne.symm nbf
  clear z0 z4 y0 y3 y4 hD1 k1 k2
  go_region_held3 (fun V => V.cell? ⟨k, 1, none⟩ = some (.slice (some ⟨gb, 0, none⟩) n n) ∧ V.cell? ⟨k, 2, none⟩ = some (.slice (some ⟨gf, 0, none⟩) n n))
    (first | exact HS.out | exact ⟨cell_other HS.out.1 nk1, cell_other HS.out.2 nk1⟩ | exact ⟨cell_other (cell_other HS.out.1 nk1) nk2, cell_other (cell_other HS.out.2 nk1) nk2⟩)
    (fail)
  rename_i hHeld
  clear hHeld
  obtain ⟨V, hV⟩ : ∃ V, V = ((D1.setCell ⟨gb, v, none⟩ (.int .i64 h)).setCell ⟨gf, v, none⟩ (.int .i64 far)).drew := ⟨_, rfl⟩
  have tV : TB V B k n (.slice p1 l1 c1) gb gf vl (O ++ [(v : Int)]) (By.set v h) (Fa.set v far) := by
    rw [hV]
    have t1 := HT1.out
    refine TB.later (w := (D1.setCell ⟨gb, v, none⟩ (.int .i64 h)).setCell ⟨gf, v, none⟩ (.int .i64 far)) ?_ (by go_grown)
    refine ⟨?_, ?_, ?_, ?_, t1.ne1, t1.ne2, t1.ne3⟩
    · exact ownsRow_setCell_other (a := ⟨gf, v, none⟩) (ownsRow_setCell_other (a := ⟨gb, v, none⟩) t1.box (by simp [Value.ownBlock]; omega) _) (by simp [Value.ownBlock]; omega) _
    · exact ownsRow_setCell_other (a := ⟨gf, v, none⟩) (ownsRow_setCell_other (a := ⟨gb, v, none⟩) t1.ord t1.ne2 _) t1.ne3 _
    · exact irow_other (t1.by_.set v h) nfb _
    · exact (irow_other t1.far nbf _).set v far
  have frV : FrameW w V (TBk k gb gf (.slice p0 l0 c0)) := by
    rw [hV]
    exact ((HFR.out.trans (FrameW.set _ ⟨gb, v, none⟩ _ (Or.inr (Or.inl rfl)))).trans (FrameW.set _ ⟨gf, v, none⟩ _ (Or.inr (Or.inr (Or.inl rfl))))).trans (FrameW.of_below (by go_grown) _)
  rw [← hV]
  clear hV
  go_wp2
  go_end0
  exact ⟨rfl, _, tV, frV, HAT.out⟩
end Go.Proofs.Ytobkejnlkjieoaa

/- slices.Repeat of one number. -/
namespace Go.Proofs.Ytobkejnlkjieoaa
open Go.RowKit Go.Sort
open Go

theorem and_maskW (n : Nat) (h : n ≤ 100000) : bits BinOp.and IntKind.u64 (n : Int) 4294967295 = n := by
  have h1 := bits_and_u64_nat n 4294967295 (by omega) (by omega)
  have h2 : n &&& 4294967295 = n := by
    rw [show (4294967295 : Nat) = 2 ^ 32 - 1 by decide, Nat.and_two_pow_sub_one_eq_mod, Nat.mod_eq_of_lt (by omega)]
  rw [h2] at h1
  exact h1
set_option maxRecDepth 100000 in
set_option maxHeartbeats 4000000 in
theorem mul63W (n : Nat) (hn : n ≤ 100000) (w : World) : Calls Try.prog 87 #[.int .u64 1, .int .u64 n] w fun e w' => e = .returned (.tuple #[.int .u64 0, .int .u64 n]) ∧ w' = w := by
  have hA := and_maskW n hn
  have h1 : bits BinOp.and IntKind.u64 1 4294967295 = 1 := by decide
  have h0 : bits BinOp.and IntKind.u64 0 4294967295 = 0 := by decide
  have hw : IntKind.u64.wrap (n : Int) = n := by rw [IntKind.wrap_u64]; omega
  have hd : (n : Int) / 4294967296 = 0 := by omega
  go_enter Try.func87, Try.ntmps87
  go_wp2
  go_ret2
  exact ⟨rfl, rfl⟩
set_option maxHeartbeats 1000000 in
theorem mul60W (n : Nat) (hn : n ≤ 100000) (w : World) : Calls Try.prog 77 #[.int .u64 1, .int .u64 n] w fun e w' => e = .returned (.tuple #[.int .u64 0, .int .u64 n]) ∧ w' = w := by
  have M := hide (mul63W n hn w)
  go_enter Try.func77, Try.ntmps77
  go_wp2_with fail
  refine M.out.mono ?_
  rintro e w' ⟨rfl, hw⟩
  subst hw
  go_wp2
  go_ret2
  exact ⟨rfl, rfl⟩
theorem fill_splitW (n k c : Nat) (x : Int) (h : k + c ≤ n) : (icells (fillL n k x)).take k ++ List.replicate c (.int .i64 x) ++ (icells (fillL n k x)).drop (k + c) = icells (fillL n (k + c) x) := by
  unfold fillL icells
  rw [List.map_append, List.map_append, List.map_replicate, List.map_replicate, List.map_replicate, List.map_replicate]
  rw [List.take_append_of_le_length (by simp), List.take_of_length_le (by simp), List.drop_append, List.drop_of_length_le (by simp), List.nil_append, List.length_replicate, List.drop_replicate, List.replicate_append_replicate]
  congr 2
  omega
/-- More of the same number, copied behind what is there. -/
theorem fill_copyW {w : World} {B g n k c : Nat} {x : Int} (ty : TypeId) (h : IRow w B g n (fillL n k x)) (hk : k ≤ n) (a : Addr) (sLen sCap dCap : Nat) (hc : c = Nat.min sLen (n - k)) (hsrc : ∀ j, j < c → w.cell? (a.add j) = some (.int .i64 x)) :
    ∃ W, (Builtin.copy_ #[32, 32] ty #[.slice (some ⟨g, k, none⟩) (n - k) dCap, .slice (some a) sLen sCap]).run Try.prog w = .ok (.int .i64 c) W ∧ IRow W B g n (fillL n (k + c) x) ∧ Below B w W := by
  have hcn : c ≤ n - k := by rw [hc]; exact Nat.min_le_right _ _
  have ho := h.owns
  obtain ⟨hxs, ⟨h1, _⟩ | ⟨g1, cap, cur, h1, hb, hg, h4, h5, h6, h7⟩⟩ := ho
  · cases h1
  simp only [Value.slice.injEq, Option.some.injEq, Addr.mk.injEq, and_true] at h1
  obtain ⟨rfl, _, rfl⟩ := h1
  have hlen : (fillL n k x).length = n := h.1
  have hcur : cur.toList = icells (fillL n k x) := by
    rw [← h7, hlen]
    rw [List.take_of_length_le (by simp; omega)]
  have e := run_copy_row (P := Try.prog) w 32 32 ty 3 g k (n - k) dCap a sLen sCap cur 3 (List.replicate c (.int .i64 x)) Try.underlying32 (by kernel_rfl) hg (by rw [List.length_replicate]; exact hc) (by
    intro j v hj
    rw [List.getElem?_replicate] at hj
    split at hj
    · rename_i hj2; cases hj; exact hsrc j hj2
    · cases hj) (by rw [List.length_replicate, h6]; omega) (by intro v hv; rw [List.mem_replicate] at hv; rw [hv.2]; rfl)
  rw [List.length_replicate, hcur, fill_splitW n k c x (by omega)] at e
  refine ⟨_, e, ⟨fillL_length n (k + c) x (by omega), ?_⟩, ?_⟩
  · unfold IOwns
    rw [fillL_length n (k + c) x (by omega)]
    refine ⟨by simp [icells, fillL_length n (k + c) x (by omega)], Or.inr ⟨g, n, _, rfl, hb, setRow_heap w g cur _ 3 _ hg, Nat.le_refl _, h5, by simp [icells, fillL_length n (k + c) x (by omega)], ?_⟩⟩
    rw [List.take_of_length_le (by simp [icells, fillL_length n (k + c) x (by omega)])]
  · exact ⟨rfl, rfl, rfl, by simp, fun i hi => setRow_other w g i _ (by omega)⟩
theorem step_run_copyW {P : Program} {w : World} {ops : Array Oper} {o : Oper} {a : Act} {K : Act → World → Prop} {Q : Exit → Act → World → Prop} {E : Prop} (hgd : o.guard = none) (s x : Operand) (t : TypeId)
    (ho : o.op = .call { callee := .builtin .copy, args := #[s, x], argTypes := #[t, t] }) (ty : TypeId) (hty : o.type = ty) (vs vx v' : Value) (w' : World) (hs : a.eval s = vs) (hx : a.eval x = vx)
    (hr : (Builtin.copy_ #[t, t] ty #[vs, vx]).run P w = .ok v' w') (h : K (a.put o.dst v') w') :
    if Region.wanted o (yielded ops a.tmps) = true then Oper.wp P o a w K Q else E := by
  subst hty
  rw [if_pos (by unfold Region.wanted; rw [hgd])]
  unfold Oper.wp execOp
  simp only [ho, resolve, invoke, builtin, Sem.run_bind, Sem.run_pure, Result.andThen_ok, List.map_toArray, List.map_cons, List.map_nil, hs, hx, hr]
  exact h
theorem wpList_run_copyW {P : Program} {w : World} {ops : Array Oper} {rest : List Oper} {o : Oper} {a : Act} {Q : Exit → Act → World → Prop} (hgd : o.guard = none) (s x : Operand) (t : TypeId)
    (ho : o.op = .call { callee := .builtin .copy, args := #[s, x], argTypes := #[t, t] }) (ty : TypeId) (hty : o.type = ty) (vs vx v' : Value) (w' : World) (hs : a.eval s = vs) (hx : a.eval x = vx)
    (hr : (Builtin.copy_ #[t, t] ty #[vs, vx]).run P w = .ok v' w') (h : wpList P ops Q rest (a.put o.dst v') w') : wpList P ops Q (o :: rest) a w := by
  subst hty
  refine wpList_plain hgd fun K hK => ?_
  unfold Oper.wp execOp
  simp only [ho, resolve, invoke, builtin, Sem.run_bind, Sem.run_pure, Result.andThen_ok, List.map_toArray, List.map_cons, List.map_nil, hs, hx, hr]
  exact hK _ _ h
end Go.Proofs.Ytobkejnlkjieoaa

/- Breadth first, as a function: what is found, by which half-edge, how far. -/
namespace Go.Proofs.Ytobkejnlkjieoaa
open Go.RowKit Go.Sort
open Go

structure St where
  O : List Int
  By : List Int
  Fa : List Int
/-- One half-edge gone out by. -/
def bStep (es : List Pt) (u : Nat) (st : St) (h : Nat) : St :=
  if iat st.Fa (toL es h).toNat < 0 then ⟨st.O ++ [toL es h], st.By.set (toL es h).toNat h, st.Fa.set (toL es h).toNat (iat st.Fa u + 1)⟩ else st
/-- The first j half-edges of a node. -/
def bRow (es : List Pt) (u : Nat) (st : St) : Nat → St
  | 0 => st
  | j + 1 => bStep es u (bRow es u st j) (iat (outL es (2 * es.length) u) j).toNat
def bfs (es : List Pt) : Nat → Nat → St → St
  | 0, _, st => st
  | k + 1, j, st => if j < st.O.length then bfs es k (j + 1) (bRow es (iat st.O j).toNat st (outL es (2 * es.length) (iat st.O j).toNat).length) else st
def begin_ (st : St) (s : Nat) : St := ⟨st.O ++ [(s : Int)], st.By.set s (-1), st.Fa.set s 0⟩
/-- What holds of a tour that is under way. -/
structure Ok (n : Nat) (st : St) : Prop where
  lb : st.By.length = n
  lf : st.Fa.length = n
  mem : ∀ j, j < st.O.length → 0 ≤ iat st.O j ∧ iat st.O j < n
  cnt : st.O.length + unl st.Fa ≤ n
  val : ∀ v, v < n → -1 ≤ iat st.Fa v ∧ iat st.Fa v < st.O.length
  fnd : ∀ j, j < st.O.length → 0 ≤ iat st.Fa (iat st.O j).toNat
theorem iat_app {l : List Int} {x : Int} {j : Nat} : iat (l ++ [x]) j = if j < l.length then iat l j else if j = l.length then x else 0 := by
  unfold iat
  rw [List.getD_eq_getElem?_getD, List.getElem?_append]
  split
  · rw [List.getD_eq_getElem?_getD]
  · split
    · rename_i h1 h2; subst h2; simp
    · rename_i h1 h2
      have : j - l.length = (j - l.length - 1) + 1 := by omega
      rw [this]
      rfl
theorem Ok.find {n : Nat} {st : St} {v : Nat} {h f : Int} (o : Ok n st) (hv : v < n) (hn : iat st.Fa v < 0) (hf : 0 ≤ f) (hf2 : f ≤ st.O.length) : Ok n ⟨st.O ++ [(v : Int)], st.By.set v h, st.Fa.set v f⟩ where
  lb := by rw [List.length_set]; exact o.lb
  lf := by rw [List.length_set]; exact o.lf
  mem j hj := by
    simp only [List.length_append, List.length_cons, List.length_nil] at hj
    rw [iat_app]
    split
    · exact o.mem j (by omega)
    · rw [if_pos (by omega)]; omega
  cnt := by
    have := unl_set st.Fa v f (by rw [o.lf]; exact hv) (by omega) hf
    have := o.cnt
    simp only [List.length_append, List.length_cons, List.length_nil]
    omega
  val u hu := by
    simp only [List.length_append, List.length_cons, List.length_nil]
    by_cases e : u = v
    · rw [e, iat_putW (by rw [o.lf]; exact hv)]; omega
    · rw [iat_put_neW e]; have := o.val u hu; omega
  fnd j hj := by
    simp only [List.length_append, List.length_cons, List.length_nil] at hj
    show 0 ≤ iat (st.Fa.set v f) (iat (st.O ++ [(v : Int)]) j).toNat
    rw [iat_app]
    split
    · rename_i hj2
      have := o.fnd j hj2
      rw [iat_put_neW (fun e => by rw [e] at this; omega)]
      exact this
    · rw [if_pos (by omega), Int.toNat_natCast, iat_putW (by rw [o.lf]; exact hv)]
      exact hf
theorem Ok.begin_ {n : Nat} {st : St} {s : Nat} (o : Ok n st) (hs : s < n) (hn : iat st.Fa s < 0) : Ok n (begin_ st s) := o.find hs hn (by omega) (by omega)
theorem Ok.step {n : Nat} {es : List Pt} {st : St} {u h : Nat} (o : Ok n st) (hm : netB n es = true) (hu : u < n) (h0 : 0 ≤ iat st.Fa u) (hh : h < 2 * es.length) : Ok n (bStep es u st h) ∧ 0 ≤ iat (bStep es u st h).Fa u := by
  unfold bStep
  obtain ⟨t1, t2⟩ := toL_in hm h hh
  obtain ⟨x, hx⟩ : ∃ x : Nat, toL es h = x := ⟨(toL es h).toNat, by omega⟩
  rw [hx]
  rw [hx] at t2
  simp only [Int.toNat_natCast]
  split
  · rename_i hn
    have hv := o.val u hu
    refine ⟨o.find (by omega) hn (by omega) (by omega), ?_⟩
    have : u ≠ x := fun e => by rw [e] at h0; omega
    show 0 ≤ iat (st.Fa.set x _) u
    rw [iat_put_neW this]
    exact h0
  · exact ⟨o, h0⟩
theorem Ok.row {n : Nat} {es : List Pt} {st : St} {u : Nat} (o : Ok n st) (hm : netB n es = true) (hu : u < n) (h0 : 0 ≤ iat st.Fa u) : ∀ j, j ≤ (outL es (2 * es.length) u).length → Ok n (bRow es u st j) ∧ 0 ≤ iat (bRow es u st j).Fa u
  | 0, _ => ⟨o, h0⟩
  | j + 1, hj => by
    obtain ⟨o1, h1⟩ := Ok.row o hm hu h0 j (by omega)
    obtain ⟨k, hk, hk2, _⟩ := outL_at (es := es) (h := 2 * es.length) (v := u) (j := j) (by omega)
    simp only [bRow]
    rw [hk, Int.toNat_natCast]
    exact o1.step hm hu h1 hk2
theorem bStep_len (es : List Pt) (u : Nat) (st : St) (h : Nat) : st.O.length ≤ (bStep es u st h).O.length := by
  unfold bStep; split <;> simp
theorem bRow_len (es : List Pt) (u : Nat) (st : St) : ∀ j, st.O.length ≤ (bRow es u st j).O.length
  | 0 => Nat.le_refl _
  | j + 1 => Nat.le_trans (bRow_len es u st j) (bStep_len es u _ _)
theorem bfs_stop {es : List Pt} {st : St} {j : Nat} (h : ¬ j < st.O.length) : ∀ k, bfs es k j st = st
  | 0 => rfl
  | k + 1 => by simp only [bfs]; rw [if_neg h]
end Go.Proofs.Ytobkejnlkjieoaa

/- slices.Repeat of one number; a tour of which nothing is found. -/
namespace Go.Proofs.Ytobkejnlkjieoaa
open Go.RowKit Go.Sort
open Go

set_option maxRecDepth 100000 in
set_option maxHeartbeats 8000000 in
theorem repeat52W (k n : Nat) (x : Int) (w : World) (hn : n ≤ 100000) (hk : w.cell? ⟨k, 0, none⟩ = some (.int .i64 x)) : Calls Try.prog 60 #[.slice (some ⟨k, 0, none⟩) 1 1, .int .i64 n] w fun e w' => ∃ g, e = .returned (.slice (some ⟨g, 0, none⟩) n n) ∧ IRow w' w.heap.size g n (List.replicate n x) ∧ Below w.heap.size w w' := by
  obtain ⟨i0, hi0, hz0, hz1, hz2⟩ := info_parts info3
  have M := hide (mul60W n hn w)
  have HK := hide hk
  have i1 : ¬ (n : Int) < 0 := by omega
  have hw : IntKind.u64.wrap (n : Int) = n := by rw [IntKind.wrap_u64]; omega
  have hw2 : IntKind.i64.wrap (n : Int) = n := by rw [IntKind.wrap_i64]; omega
  have i2 : ¬ (9223372036854775807 : Int) < n := by omega
  clear hk
  go_enter Try.func60, Try.ntmps60
  go_wp2_with fail
  refine M.out.mono ?_
  rintro e w0 ⟨rfl, h0⟩
  have h0' := h0.symm
  subst h0'
  clear h0 M
  go_wp2_with (refine wpList_make_full _ rfl (.tmp 29) (.tmp 29) 32 rfl w.heap.size 3 i0 (.int .i64 0) 1 Try.underlying32 hi0 hz0 hz1 .i64 .i64 _ _ n rfl rfl rfl rfl ?c1 ?c2 ?c3 ?_)
  case c1 => rw [hz2]; omega
  case c2 => unfold maxLen; omega
  case c3 => exact Nat.le_refl _
  intro w2 hown hgrow
  have hR2 : IRow w2 w.heap.size w.heap.size n (fillL n 0 x) := by
    have := irow_made hown
    rw [show fillL n 0 x = List.replicate n 0 by simp [fillL]]
    exact this
  have HB2 := hide (below_made hgrow)
  clear hown hgrow
  obtain ⟨g, hg⟩ : ∃ g, w.heap.size = g := ⟨_, rfl⟩
  have HG := hide hg
  rw [hg] at hR2 ⊢
  obtain ⟨W, e1, hR3, hb3⟩ := fill_copyW (c := Nat.min 1 (n - 0)) 3 hR2 (by omega) ⟨k, 0, none⟩ 1 1 n rfl (by
    intro j hj
    have : j = 0 := by have h1 : Nat.min 1 (n - 0) ≤ 1 := Nat.min_le_left _ _; omega
    subst this
    exact later HB2.out HK.out)
  rw [Nat.sub_zero, Nat.zero_add] at hR3
  rw [Nat.sub_zero] at e1
  have HB3 : Hid (Below w.heap.size w W) := Below.trans HB2.out (by rw [HG.out]; exact hb3)
  have HR3 := hide hR3
  clear hR2 hR3 hb3 hg
  go_wp2_with (at_builtin; refine wpList_run_copyW rfl (.tmp 31) (.tmp 32) 32 rfl 3 rfl _ _ _ W rfl rfl e1 ?_)
  clear e1
  go_wp2_with fail
  go_loopw [8] (fun t wr => ∃ j : Nat, j ≤ n ∧ (n = 0 ∨ 0 < j) ∧ t = .int .i64 j ∧ Hid (IRow wr g g n (fillL n j x)) ∧ Hid (Below w.heap.size w wr)) (fun t _ => n - (intOf t).toNat)
  case atStart => exact ⟨Nat.min 1 n, Nat.min_le_right _ _, by rcases Nat.eq_zero_or_pos n with h | h; exact Or.inl h; right; exact Nat.lt_min.2 ⟨by omega, h⟩, by rfl, HR3.out, HB3.out⟩
  case round =>
    obtain ⟨j, hj, hj0, rfl, HR, HBr⟩ := hrel
    by_cases hlt : j < n
    · have hjp : 0 < j := by omega
      have k1 : (j : Int) < n := by omega
      have k2 : (0 : Int) ≤ j := by omega
      have k3 : (j : Int) ≤ n := by omega
      have k4 : ¬ n = j := by omega
      have k5 : ¬ j = n := by omega
      have hsz : g < wr.heap.size := HR.out.lt.2
      have hRd : IRow wr.drew g g n (fillL n j x) := HR.out.later (below_drew _)
      obtain ⟨W2, e2, hR2, hb2⟩ := fill_copyW (c := Nat.min j (n - j)) 3 hRd hj ⟨g, 0, none⟩ j n (n - j) rfl (by
        intro i hi
        have hi2 : i < j := Nat.lt_of_lt_of_le hi (Nat.min_le_left _ _)
        rw [Go.WideShapes.add_plain, Nat.zero_add, (hRd.cell (j := i) (by omega)).1]
        congr 2
        unfold fillL iat
        rw [List.getD_eq_getElem?_getD, List.getElem?_append_left (by simpa using hi2), List.getElem?_replicate, if_pos hi2]
        rfl)
      have hmin : Nat.min j (n - j) ≤ n - j := Nat.min_le_right _ _
      have hmin2 : 0 < Nat.min j (n - j) := Nat.lt_min.2 ⟨hjp, by omega⟩
      obtain ⟨c, hc⟩ : ∃ c, Nat.min j (n - j) = c := ⟨_, rfl⟩
      rw [hc] at e2 hR2 hmin hmin2
      have HRW := hide hR2
      have HBW : Hid (Below w.heap.size w W2) := Below.trans HBr.out (by rw [HG.out]; exact Below.trans (by exact (below_drew wr).mono (Nat.le_of_lt hsz)) hb2)
      have hadd : IntKind.i64.wrap ((j : Int) + c) = (j : Int) + c := by rw [IntKind.wrap_i64]; omega
      clear hRd hb2 hR2 hc
      go_wp2_with fail
      go_region_held3 (fun _ => True) (trivial) (first | (refine step_run_copyW (by rfl) (.tmp 41) (.tmp 44) 32 (by rfl) 3 (by rfl) (.slice (some ⟨g, j, none⟩) (n - j) (n - j)) (.slice (some ⟨g, 0, none⟩) j n) (.int .i64 c) W2 (by rfl) (by rfl) ?_ ?_; with_reducible exact e2))
      go_wp2
      go_roundw
      case rel => exact ⟨j + c, by omega, by omega, by go_num, HRW.out, HBW.out⟩
      case measure => simp [intOf]; omega
    · have hjn : j = n := by omega
      have k1 : ¬ (j : Int) < n := by omega
      rw [hjn, show fillL n n x = List.replicate n x by simp [fillL]] at HR
      clear hjn
      go_wp2
      go_ret
      exact ⟨g, rfl, HR.out.base (by rw [HG.out]; exact Nat.le_refl _), HBr.out⟩
end Go.Proofs.Ytobkejnlkjieoaa
