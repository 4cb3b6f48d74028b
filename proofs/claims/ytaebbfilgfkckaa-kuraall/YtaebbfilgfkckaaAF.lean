/- KuraAll's walk. -/
import Derived.Test.YtaebbfilgfkckaaQA
import Derived.Test.YtaebbfilgfkckaaAD
import Derived.Test.YtaebbfilgfkckaaKC7
import Derived.Test.YtaebbfilgfkckaaEP
/- What each call of KuraAll answers, in one form; a turn's keeping. -/
/- The law's Spoil (carried). -/
namespace Go.Proofs.Ytaebbfilgfkckaa
open Go.RowKit Go.Sort
open Go

/-- A net's box, as a row of one: it outlives appends elsewhere. -/
def SBox (w : World) (k : Nat) (n : Int) (v : Value) : Prop := w.ownsRow 0 24 2 (.slice (some ⟨k, 0, none⟩) 1 1) 1 [.int .i64 n, v]
theorem SBox.made (w : World) (n : Int) (v : Value) : SBox (w.alloc (.cells #[.int .i64 n, v] 24)) w.heap.size n v :=
  World.ownsRow_lit w #[.int .i64 n, v] 1 (Nat.zero_le _) (by unfold maxLen; omega) rfl
theorem SBox.cell {w : World} {k : Nat} {n : Int} {v : Value} (h : SBox w k n v) : w.cell? ⟨k, 0, none⟩ = some (.int .i64 n) ∧ w.cell? ⟨k, 1, none⟩ = some v ∧ w.frozen? ⟨k, 0, none⟩ = false ∧ w.frozen? ⟨k, 1, none⟩ = false :=
  ⟨World.ownsRow.cellAt h 0 (by omega), World.ownsRow.cellAt h 1 (by omega), World.ownsRow.frozenAt h 0, World.ownsRow.frozenAt h 1⟩
theorem SBox.set {w : World} {k : Nat} {n : Int} {v : Value} (h : SBox w k n v) (u : Value) : SBox (w.setCell ⟨k, 1, none⟩ u) k n u := (World.ownsRow.stored h 1 u).1
theorem SBox.ne {w : World} {k g B c : Nat} {n : Int} {v : Value} {ps : List Pt} (h : SBox w k n v) (o : Owns w B (.slice (some ⟨g, 0, none⟩) ps.length c) ps) : g ≠ k := by
  rintro rfl
  obtain ⟨_, ⟨h1, _⟩ | ⟨g1, c1, cur1, h1, _, h2, _⟩⟩ := h
  · cases h1
  obtain ⟨_, ⟨k1, _⟩ | ⟨g2, c2, cur2, k1, _, k2, _⟩⟩ := o
  · cases k1
  simp only [Value.slice.injEq, Option.some.injEq, Addr.mk.injEq] at h1 k1
  rw [← h1.1.1] at h2
  rw [← k1.1.1, h2] at k2
  simp at k2
theorem SBox.apart {w : World} {k B : Nat} {n : Int} {v u : Value} {ps : List Pt} (h : SBox w k n v) (o : Owns w B u ps) : u.ownBlock ≠ some k := by
  intro hc
  obtain ⟨_, ⟨k1, _⟩ | ⟨g2, c2, cur2, k1, _, k2, _⟩⟩ := id o
  · rw [k1] at hc; simp [Value.ownBlock] at hc
  · rw [k1] at hc o
    simp only [Value.ownBlock, Option.some.injEq] at hc
    exact h.ne o hc
theorem SBox.later {w w' : World} {k : Nat} {n : Int} {v : Value} (h : SBox w k n v) (hb : Below w.heap.size w w') : SBox w' k n v := World.ownsRow.kept h (grown_below hb) (Or.inr (by simp [Value.ownBlock]))

theorem app1at {w : World} {B : Nat} {v : Value} {l : List Pt} (o : Owns w B v l) (x y : Int) (hB : B ≤ w.heap.size) (hl : l.length ≤ 90000) : ∃ v' w', (Builtin.append_ #[22, 22] 22 #[v, .slice (some ⟨w.heap.size, 0, none⟩) 1 1]).run Try.prog (w.alloc (.cells #[.int .i64 x, .int .i64 y] 57)) = .ok v' w' ∧ Owns w' B v' (l ++ [⟨x, y⟩]) ∧ (w.alloc (.cells #[.int .i64 x, .int .i64 y] 57)).grownBy w' v.ownBlock ∧ (v'.ownBlock = v.ownBlock ∨ v'.ownBlock = some (w.heap.size + 1)) := by
  obtain ⟨U, hU⟩ : ∃ U, U = w.alloc (.cells #[.int .i64 x, .int .i64 y] 57) := ⟨_, rfl⟩
  have o' : U.ownsRow B 57 2 v l.length (cells l) := by rw [hU]; exact o.later (by go_grown)
  have c0 : U.cell? ⟨w.heap.size, 0, none⟩ = some (.int .i64 x) := by rw [hU]; go_cell
  have c1 : U.cell? ⟨w.heap.size, 1, none⟩ = some (.int .i64 y) := by rw [hU]; go_cell
  have hs : U.heap.size = w.heap.size + 1 := by rw [hU]; simp
  obtain ⟨i0, hi0, hz0, hz1, hz2⟩ := info_parts info60
  have hnews : ∀ j u, [Value.int .i64 x, .int .i64 y][j]? = some u → U.cell? ((⟨w.heap.size, 0, none⟩ : Addr).add j) = some u := by
    intro j u hj
    match j, hj with
    | 0, hj => simp at hj; subst hj; exact c0
    | 1, hj => simp at hj; subst hj; simpa [Addr.add] using c1
  obtain ⟨v', w', h1, h2, h3, _, h5⟩ := run_append_own_at (P := Try.prog) U B 22 22 57 i0 (.agg #[.int .i64 0, .int .i64 0]) 2 16 Try.underlying22 hi0 hz0 hz1 hz2 rfl (by decide) v l.length (cells l) o' ⟨w.heap.size, 0, none⟩ 1 1 [.int .i64 x, .int .i64 y] rfl hnews (by intro u hu; simp at hu; rcases hu with rfl | rfl <;> rfl) (by unfold maxLen; omega) (by omega) (by omega)
  rw [hs] at h5
  rw [hU] at h1 h3
  exact ⟨v', w', h1, owns_more (p := ⟨x, y⟩) h2, h3, h5⟩
theorem SBox.block {w : World} {k : Nat} {n : Int} {v : Value} (h : SBox w k n v) : ∃ cur, w.heap[k]? = some (.cells cur 24 (0, 0)) := row_kind h
/-- A net in its box under way: nothing that was there changes but its edges' block. -/
structure SP (w wr : World) (k B : Nat) (n : Int) (blk : Option Nat) (p : Option Addr) (c : Nat) (es : List Pt) : Prop where
  frame : Frame w wr (fun i => blk = some i)
  new : w.heap.size ≤ k
  box : SBox wr k n (.slice p es.length c)
  own : Owns wr B (.slice p es.length c) es
  loc : (Value.slice p es.length c).ownBlock = blk ∨ ∃ i, (Value.slice p es.length c).ownBlock = some i ∧ w.heap.size ≤ i
theorem Frame.step {a b c : World} {p q : Nat → Prop} (h : Frame a b p) (k : Frame b c q) (hq : ∀ i, i < a.heap.size → q i → p i) : Frame a c p :=
  ⟨k.os.trans h.os, k.tape.trans h.tape, k.output.trans h.output, Nat.le_trans h.size k.size, fun i hi hp => (k.block i (Nat.lt_of_lt_of_le hi h.size) (fun hqi => hp (hq i hi hqi))).trans (h.block i hi hp)⟩
variable {w wr : World} {k B c : Nat} {n : Int} {blk : Option Nat} {p : Option Addr} {es : List Pt}
theorem SP.later {wq : World} (h : SP w wr k B n blk p c es) (hb : Below wr.heap.size wr wq) : SP w wq k B n blk p c es :=
  ⟨h.frame.step (q := fun _ => False) (Frame.of_below hb _) (fun _ _ h => h.elim), h.new, World.ownsRow.kept h.box (grown_below hb) (Or.inr (by simp [Value.ownBlock])), h.own.later hb, h.loc⟩
set_option maxRecDepth 100000 in
theorem SP.push (h : SP w wr k B n blk p c es) (hB : B ≤ wr.heap.size) (hl : es.length ≤ 90000) : ∃ p1 c1 D, (Builtin.append_ #[22, 22] 22 #[.slice p es.length c, .slice (some ⟨wr.heap.size, 0, none⟩) 1 1]).run Try.prog (wr.alloc (.cells #[.int .i64 0, .int .i64 0] 57)) = .ok (.slice p1 (es.length + 1) c1) D ∧ SBox D k n (.slice p es.length c) ∧ SP w (D.setCell ⟨k, 1, none⟩ (.slice p1 (es.length + 1) c1)) k B n blk p1 c1 (es ++ [⟨0, 0⟩]) := by
  obtain ⟨v', D, e1, o1, gr, at1⟩ := app1at h.own 0 0 hB hl
  obtain ⟨p1, c1, rfl, _, _, _, _⟩ := o1.form
  have hU : Below wr.heap.size wr (wr.alloc (.cells #[.int .i64 0, .int .i64 0] 57)) := by go_grown
  have hs := h.later hU
  have box : SBox D k n (.slice p es.length c) := World.ownsRow.kept hs.box gr (Or.inr (fun e => SBox.apart hs.box hs.own e.symm))
  have ap : (Value.slice p1 (es ++ [(⟨0, 0⟩ : Pt)]).length c1).ownBlock ≠ some k := SBox.apart box o1
  have hln : (es ++ [(⟨0, 0⟩ : Pt)]).length = es.length + 1 := by simp
  have hsz := h.frame.size
  rw [hln] at e1
  refine ⟨p1, c1, D, e1, box, ⟨?_, h.new, ?_, ?_, ?_⟩⟩
  · refine (hs.frame.step (q := fun i => (Value.slice p es.length c).ownBlock = some i) (Frame.grown gr (fun i e => e)) ?_).step (q := fun i => i = k) (Frame.set _ _ _ rfl) (fun i hi e => by have := h.new; omega)
    intro i hi e
    rcases h.loc with hl | ⟨j, hj, hj2⟩
    · rw [← hl]; exact e
    · rw [hj] at e; injection e with e; omega
  · rw [hln]; exact box.set _
  · rw [hln] at o1 ap ⊢
    have := ownsRow_setCell_other (a := ⟨k, 1, none⟩) o1 ap (.slice p1 (es.length + 1) c1)
    rw [hln] at this
    unfold Owns
    rw [hln]
    exact this
  · rcases at1 with e | e
    · rcases h.loc with hl | ⟨j, hj, hj2⟩
      · left; rw [e]; exact hl
      · right; exact ⟨j, by rw [e]; exact hj, hj2⟩
    · right; exact ⟨_, e, by omega⟩
theorem SP.store {g : Nat} (h : SP w wr k B n blk (some ⟨g, 0, none⟩) c es) (i : Nat) (q : Pt) : SP w ((wr.setCell ⟨g, i * 2, none⟩ (.int .i64 q.x)).setCell ⟨g, i * 2 + 1, none⟩ (.int .i64 q.y)) k B n blk (some ⟨g, 0, none⟩) c (es.set i q) := by
  have hne : g ≠ k := fun e => SBox.apart h.box h.own (by rw [e]; rfl)
  have hP : ∀ j, j < w.heap.size → j = g → blk = some j := fun j hj e => by
    rcases h.loc with hl | ⟨i, hi, hi2⟩
    · rw [← hl, e]; rfl
    · simp only [Value.ownBlock, Option.some.injEq] at hi; omega
  refine ⟨(h.frame.step (q := fun j => j = g) (Frame.set _ _ _ rfl) hP).step (q := fun j => j = g) (Frame.set _ _ _ rfl) hP, h.new, ?_, ?_, ?_⟩
  · rw [List.length_set]
    exact ownsRow_setCell_other (a := ⟨g, i * 2 + 1, none⟩) (ownsRow_setCell_other (a := ⟨g, i * 2, none⟩) h.box (by simp [Value.ownBlock]; omega) _) (by simp [Value.ownBlock]; omega) _
  · exact h.own.set i q
  · rw [List.length_set]; exact h.loc
def lenAt (w : World) (k : Nat) : Nat :=
  match w.cell? ⟨k, 1, none⟩ with
  | some (.slice _ l _) => l
  | _ => 0
theorem lenAt_is {v : Option Addr} (h : SBox w k n (.slice v es.length c)) : lenAt w k = es.length := by
  unfold lenAt
  rw [h.cell.2.1]
set_option maxRecDepth 100000 in
set_option maxHeartbeats 8000000 in
theorem spoil43 (n : Int) (p : Option Addr) (es : List Pt) (cap B : Nat) (w : World) (ho : Owns w B (.slice p es.length cap) es) (hB : B ≤ w.heap.size) (hl : es.length ≤ 20000) : Calls Try.prog 21 #[nv n p es.length cap] w fun e w' => e = .returned (.tuple #[]) ∧ Frame w w' (fun i => (Value.slice p es.length cap).ownBlock = some i) := by
  obtain ⟨U, hU⟩ : ∃ U, U = w.alloc (.cells #[.int .i64 n, .slice p es.length cap] 24) := ⟨_, rfl⟩
  have hbU : Below w.heap.size w U := by rw [hU]; go_grown
  have HG : Hid (SP w U w.heap.size B n (Value.slice p es.length cap).ownBlock p cap es) := ⟨Frame.of_below hbU _, Nat.le_refl _, by rw [hU]; exact SBox.made _ _ _, ho.later hbU, Or.inl rfl⟩
  have R := hide (room47 es.length cap U (by omega) (by omega))
  have HBB := hide hB
  clear ho
  go_enter Try.func21, Try.ntmps21
  go_wp2_with fail
  rw [← hU]
  obtain ⟨blk, hblk⟩ : ∃ b, (Value.slice p es.length cap).ownBlock = b := ⟨_, rfl⟩
  have HBK := hide hblk
  rw [hblk] at HG
  obtain ⟨k, hk⟩ : ∃ k, w.heap.size = k := ⟨_, rfl⟩
  rw [hk] at HG ⊢
  clear hU hk hblk hbU
  refine R.out.mono ?_
  rintro e w' ⟨rfl, hbw⟩
  have hr : roomI es.length cap ≤ (es.length : Int) + 2000 := by unfold roomI; split <;> omega
  obtain ⟨r, hr'⟩ : ∃ r, roomI es.length cap = r := ⟨_, rfl⟩
  rw [hr'] at hr ⊢
  have HG2 := hide (HG.out.later hbw)
  clear HG hbw hr' R
  go_wp2_with fail
  go_loopw [11] (fun _ wr => Hid (∃ (L : List Pt) (p1 : Option Addr) (c1 : Nat), L.length ≤ 30000 ∧ SP w wr k B n blk p1 c1 L)) (fun _ wr => 30000 - lenAt wr k)
  case atStart => exact ⟨es, p, cap, by omega, HG2.out⟩
  case round =>
    obtain ⟨L, p1, c1, hL, hS⟩ := hrel.out
    have HLA := hide (lenAt_is hS.box)
    obtain ⟨q0, q1, q2, q3⟩ := hS.box.cell
    have hkl : k < wr.heap.size := block_lt_of_cell q0
    have hkn : k ≠ wr.heap.size := by omega
    have HS := hide hS
    by_cases hlt : (L.length : Int) < r
    · obtain ⟨p2, c2, D, e1, bD, sD⟩ := hS.push (Nat.le_trans HBB.out hS.frame.size) (by omega)
      obtain ⟨V, hV⟩ : ∃ V, V = D.setCell ⟨k, 1, none⟩ (.slice p2 (L.length + 1) c2) := ⟨_, rfl⟩
      rw [← hV] at sD
      have HSD := hide sD
      have HLB : Hid (lenAt V k = L.length + 1) := by
        show _ = _
        rw [lenAt_is sD.box]; simp
      obtain ⟨d0, d1, d2, d3⟩ := bD.cell
      clear hS hrel sD
      go_wp2_with (at_builtin; refine wpList_run_append rfl _ _ 22 rfl 22 rfl _ _ _ D rfl rfl e1 ?_)
      rw [← hV]
      clear hV
      go_roundw
      case rel => exact ⟨_, _, _, by simp; omega, HSD.out⟩
      case measure => rw [HLA.out, HLB.out]; omega
    · obtain ⟨m, hm⟩ : ∃ m, L.length = m := ⟨_, rfl⟩
      have HM := hide hm
      have hml : m ≤ 30000 := by omega
      clear hS hrel
      go_wp2_with fail
      clear q0 q1 q2 q3 hm HLA
      obtain ⟨w9, hw9⟩ : ∃ w9, w9 = wr := ⟨_, rfl⟩
      rw [← hw9] at HS ⊢
      clear hw9 hkl hkn
      go_loopw [3] (fun t wr => ∃ i : Nat, i ≤ m ∧ t = .int .i64 i ∧ Hid (∃ (L : List Pt) (p1 : Option Addr) (c1 : Nat), L.length = m ∧ SP w wr k B n blk p1 c1 L)) (fun t _ => m - (intOf t).toNat)
      case atStart => exact ⟨0, by omega, rfl, L, p1, c1, HM.out, HS.out⟩
      case round =>
        obtain ⟨i, hi, rfl, HLi⟩ := hrel
        obtain ⟨L2, p2, c2, hL2, hS2⟩ := HLi.out
        obtain ⟨q0, q1, q2, q3⟩ := hS2.box.cell
        by_cases hlt2 : i < m
        · obtain ⟨g, c3, hv, _, hgB, _⟩ := owns_block hS2.own (by omega)
          simp only [Value.slice.injEq, true_and] at hv
          obtain ⟨rfl, rfl⟩ := hv
          obtain ⟨c0, c1⟩ := hS2.own.lies i (by omega)
          have f0 := World.ownsRow.frozenAt hS2.own (i * 2)
          have f1 := World.ownsRow.frozenAt hS2.own (i * 2 + 1)
          have HGP := hide (hS2.store i ⟨-9, -9⟩)
          have HL2 := hide hL2
          have i1 : (i : Int) < L2.length := by omega
          have i2 : (0 : Int) ≤ i := by omega
          rw [Nat.zero_add] at c0 c1
          clear hL2 hS2 HLi
          go_wp2
          go_roundw
          case rel => exact ⟨i + 1, by omega, by go_num, L2.set i ⟨-9, -9⟩, _, _, by rw [List.length_set, HL2.out], HGP.out⟩
          case measure => simp [intOf]; omega
        · have i1 : ¬ (i : Int) < L2.length := by omega
          have HF : Hid (Frame w wr (fun i => (Value.slice p es.length cap).ownBlock = some i)) := by show Frame _ _ _; rw [HBK.out]; exact hS2.frame
          clear hL2 hS2 HLi
          go_wp2
          go_end0
          exact ⟨rfl, HF.out⟩
end Go.Proofs.Ytaebbfilgfkckaa

/- No two kept lists share memory: Apart (carried). -/
namespace Go.Proofs.Ytaebbfilgfkckaa
open Go.RowKit Go.Sort
open Go

theorem iowns_block {w : World} {base : Nat} {v : Value} {l : List Int} (h : IOwns w base v l) (h0 : 0 < l.length) : ∃ g c, v = .slice (some ⟨g, 0, none⟩) l.length c ∧ l.length ≤ c ∧ base ≤ g ∧ g < w.heap.size := by
  obtain ⟨g, c, rfl, h1, h2⟩ := World.ownsRow.form h h0
  obtain ⟨p, c', hv, _, h3, _, _⟩ := IOwns.form h
  simp at hv
  exact ⟨g, c, rfl, by rw [hv.2]; exact h3, h1, h2⟩
theorem iat_put {l : List Int} {j : Nat} {x : Int} (h : j < l.length) : iat (l.set j x) j = x := by
  unfold iat; rw [List.getD_eq_getElem?_getD, List.getElem?_set_self h]; rfl
theorem iat_put_ne {l : List Int} {j k : Nat} {x : Int} (h : k ≠ j) : iat (l.set j x) k = iat l k := by
  unfold iat; rw [List.getD_eq_getElem?_getD, List.getElem?_set_ne (fun e => h e.symm), List.getD_eq_getElem?_getD]


/-- A bag of lists, however long. -/
structure Bg (w : World) (B k : Nat) (lv : Value) (n : Nat) (rv : Nat → Value) (L : Nat → List Int) (sz : Nat) : Prop where
  box : w.ownsRow 0 38 2 (.slice (some ⟨k, 0, none⟩) 1 1) 1 [lv, .int .i64 sz]
  kB : B ≤ k
  lst : w.ownsRow B 25 1 lv n ((List.range n).map rv)
  uniq : ∀ u v j, u < n → v < n → (rv u).ownBlock = some j → (rv v).ownBlock = some j → u = v
  own : ∀ v, v < n → IOwns w B (rv v) (L v)
variable {w w' : World} {B k n sz gl cl a : Nat} {lv v' : Value} {rv : Nat → Value} {L : Nat → List Int} {L' : List Int}
theorem Bag.bg (h : Bag w B k lv n rv L sz) : Bg w B k lv n rv L sz := ⟨h.box, h.kB, h.lst, h.uniq, h.own⟩
theorem Bg.later (h : Bg w B k lv n rv L sz) (hb : Below w.heap.size w w') : Bg w' B k lv n rv L sz :=
  ⟨World.ownsRow.kept h.box (grown_below hb) (Or.inr (by simp [Value.ownBlock])), h.kB, World.ownsRow.kept h.lst (grown_below hb) (by cases lv.ownBlock <;> simp), h.uniq, fun v hv => (h.own v hv).later hb⟩
theorem Bg.cell (h : Bg w B k lv n rv L sz) : w.cell? ⟨k, 0, none⟩ = some lv := World.ownsRow.cellAt h.box 0 (by omega)
theorem Bg.row (h : Bg w B k (.slice (some ⟨gl, 0, none⟩) n cl) n rv L sz) (ha : a < n) : w.cell? ⟨gl, a, none⟩ = some (rv a) ∧ w.frozen? ⟨gl, a, none⟩ = false := by
  refine ⟨?_, World.ownsRow.frozenAt h.lst a⟩
  rw [World.ownsRow.cellAt h.lst a (by omega)]
  simp [ha]
theorem Bg.rk (h : Bg w B k lv n rv L sz) {v : Nat} (hv : v < n) : (rv v).ownBlock ≠ some k := by
  obtain ⟨cur, hk⟩ := row_kind h.box
  exact row_apart hk (h.own v hv) (by decide)
theorem Bg.put (h : Bg w B k (.slice (some ⟨gl, 0, none⟩) n cl) n rv L sz) (ha : a < n) (o : IOwns w' B v' L') (gr : w.grownBy w' (rv a).ownBlock) (hv : v'.ownBlock = (rv a).ownBlock ∨ v'.ownBlock = some w.heap.size) :
    Bg (w'.setCell ⟨gl, a, none⟩ v') B k (.slice (some ⟨gl, 0, none⟩) n cl) n (upd rv a v') (upd L a L') sz ∧ w'.cell? ⟨gl, a, none⟩ = some (rv a) ∧ w'.frozen? ⟨gl, a, none⟩ = false ∧ gl < w'.heap.size ∧ w'.cell? ⟨k, 0, none⟩ = some (.slice (some ⟨gl, 0, none⟩) n cl) ∧ k ≠ gl := by
  obtain ⟨h0, hkB, h1, h2, h3⟩ := id h
  obtain ⟨cur, hg⟩ := row_kind h1
  have hap : (rv a).ownBlock ≠ some gl := row_apart hg (h3 a ha) (by decide)
  have h1' := World.ownsRow.kept h1 gr (Or.inr (fun e => hap e.symm))
  have h0' := World.ownsRow.kept h0 gr (Or.inr (fun e => h.rk ha e.symm))
  obtain ⟨cur', hg'⟩ := row_kind h1'
  have hkg : (Value.slice (some ⟨k, 0, none⟩) 1 1).ownBlock ≠ some gl := row_apart hg' h0' (by decide)
  have cell : w'.cell? ⟨gl, a, none⟩ = some (rv a) := by rw [World.ownsRow.cellAt h1' a (by omega)]; simp [ha]
  refine ⟨⟨ownsRow_setCell_other (a := ⟨gl, a, none⟩) h0' hkg _, hkB, ?_, ?_, ?_⟩, cell, World.ownsRow.frozenAt h1' a, (World.ownsRow.lt h1' gl rfl).2, World.ownsRow.cellAt h0' 0 (by omega), fun e => hkg (by rw [← e]; rfl)⟩
  · have q := (World.ownsRow.stored h1' a v').1
    rw [show ((List.range n).map (upd rv a v')) = ((List.range n).map rv).set a v' from ?_]
    · exact q
    apply List.ext_getElem
    · simp
    intro i h4 h5
    simp only [List.getElem_map, List.getElem_range, List.getElem_set]
    by_cases hia : a = i
    · subst hia; simp [upd]
    · rw [if_neg hia, upd_other _ _ (fun e => hia e.symm)]
  · intro u v j hu hv' e1 e2
    by_cases hua : u = a <;> by_cases hva : v = a
    · omega
    · rw [hua, upd_same] at e1
      rw [upd_other _ _ hva] at e2
      rcases hv with h | h
      · rw [h] at e1
        rw [hua]
        exact h2 a v j ha hv' e1 e2
      · rw [h] at e1
        have := (World.ownsRow.lt (h3 v hv') j e2).2
        injection e1 with e1
        omega
    · rw [hva, upd_same] at e2
      rw [upd_other _ _ hua] at e1
      rcases hv with h | h
      · rw [h] at e2
        rw [hva]
        exact h2 u a j hu ha e1 e2
      · rw [h] at e2
        have := (World.ownsRow.lt (h3 u hu) j e1).2
        injection e2 with e2
        omega
    · rw [upd_other _ _ hua] at e1
      rw [upd_other _ _ hva] at e2
      exact h2 u v j hu hv' e1 e2
  · intro v hv'
    by_cases hva : v = a
    · rw [hva, upd_same, upd_same]
      exact ownsRow_setCell_other (a := ⟨gl, a, none⟩) o (row_apart hg' o (by decide)) _
    · rw [upd_other _ _ hva, upd_other _ _ hva]
      have k1 : IOwns w' B (rv v) (L v) := by
        refine World.ownsRow.kept (h3 v hv') gr ?_
        cases hb : (rv v).ownBlock with
        | none => exact Or.inl rfl
        | some j => exact Or.inr (fun e => hva (h2 v a j hv' ha hb e.symm))
      exact ownsRow_setCell_other (a := ⟨gl, a, none⟩) k1 (row_apart hg' k1 (by decide)) _
/-- A number written into one of the lists. -/
theorem Bg.store {ga ca j : Nat} {x : Int} (h : Bg w B k (.slice (some ⟨gl, 0, none⟩) n cl) n rv L sz) (ha : a < n) (hr : rv a = .slice (some ⟨ga, 0, none⟩) (L a).length ca) : Bg (w.setCell ⟨ga, j, none⟩ (.int .i64 x)) B k (.slice (some ⟨gl, 0, none⟩) n cl) n rv (upd L a ((L a).set j x)) sz := by
  obtain ⟨h0, hkB, h1, h2, h3⟩ := id h
  obtain ⟨cur, hg⟩ := row_kind h1
  have o := h3 a ha
  have hap : (rv a).ownBlock ≠ some gl := row_apart hg o (by decide)
  have hak := h.rk ha
  rw [hr] at o hap hak
  refine ⟨ownsRow_setCell_other (a := ⟨ga, j, none⟩) h0 (fun e => hak e.symm) _, hkB, ownsRow_setCell_other (a := ⟨ga, j, none⟩) h1 (fun e => hap e.symm) _, h2, fun v hv => ?_⟩
  by_cases hva : v = a
  · rw [hva, upd_same, hr]
    have := o.set j x
    rw [← List.length_set (i := j) (a := x)]
    exact this
  · rw [upd_other _ _ hva]
    refine ownsRow_setCell_other (a := ⟨ga, j, none⟩) (h3 v hv) (fun e => hva (h2 v a ga hv ha e ?_)) _
    rw [hr]; rfl
def rowLen (w : World) (g i : Nat) : Nat :=
  match w.cell? ⟨g, i, none⟩ with
  | some (.slice _ l _) => l
  | _ => 0
theorem rowLen_is (h : Bg w B k (.slice (some ⟨gl, 0, none⟩) n cl) n rv L sz) (ha : a < n) : rowLen w gl a = (L a).length := by
  obtain ⟨p, c, hv, _⟩ := IOwns.form (h.own a ha)
  unfold rowLen
  rw [(h.row ha).1, hv]
/-- What Apart has come to: the first i lists are full of their marks. -/
structure AI (w wr : World) (B k gl cl n i : Nat) (rv : Nat → Value) (L : Nat → List Int) (sz : Nat) : Prop where
  below : Below B w wr
  bg : Bg wr B k (.slice (some ⟨gl, 0, none⟩) n cl) n rv L sz
  full : ∀ j, j < i → L j = List.replicate (L j).length (-1000 - (j : Int))
  all : ∀ j, j < n → (L j).length ≤ 40000
  rest : ∀ j, i ≤ j → j < n → (L j).length ≤ 30000
theorem AI.later {wr wq : World} {i : Nat} (h : AI w wr B k gl cl n i rv L sz) (hb : Below wr.heap.size wr wq) (hB : B ≤ wr.heap.size) : AI w wq B k gl cl n i rv L sz :=
  ⟨Below.trans h.below (hb.mono hB), h.bg.later hb, h.full, h.all, h.rest⟩
/-- While list i is under way: it may be longer. -/
structure AJ (w wr : World) (B k gl cl n i : Nat) (rv : Nat → Value) (L : Nat → List Int) (sz : Nat) : Prop where
  below : Below B w wr
  bg : Bg wr B k (.slice (some ⟨gl, 0, none⟩) n cl) n rv L sz
  full : ∀ j, j < i → L j = List.replicate (L j).length (-1000 - (j : Int))
  all : ∀ j, j < n → (L j).length ≤ 40000
  rest : ∀ j, i < j → j < n → (L j).length ≤ 30000
set_option maxRecDepth 100000 in
set_option maxHeartbeats 8000000 in
theorem apart24 {lv0 : Value} {n sz : Nat} {rv0 : Nat → Value} {L0 : Nat → List Int} (B k : Nat) (w : World) (hbag : Bag w B k lv0 n rv0 L0 sz) (hB : B ≤ w.heap.size) :
    Calls Try.prog 22 #[.pointer (some ⟨k, 0, none⟩)] w fun e w' => e = .returned (.bool true) ∧ Below B w w' := by
  have hnn : n ≤ 1048576 := by have := hbag.cnt; have := hbag.big; omega
  rcases Nat.eq_zero_or_pos n with hn0 | hn0
  · -- no list
    subst hn0
    have x0 := hbag.cells.1
    obtain ⟨pl, ll, cl, rfl, hll⟩ : ∃ pl ll cl, lv0 = .slice pl ll cl ∧ ll = 0 := by
      rcases hbag.lst.2 with ⟨h1, _⟩ | ⟨g1, c1, _, h1, _⟩
      · exact ⟨_, _, _, h1, rfl⟩
      · exact ⟨_, _, _, h1, rfl⟩
    subst hll
    clear hbag
    go_enter Try.func22, Try.ntmps22
    go_wp2_with fail
    go_loopw [3] (fun t wr => t = .int .i64 0 ∧ wr = w) (fun _ _ => 0)
    case atStart => exact ⟨rfl, rfl⟩
    case round =>
      obtain ⟨rfl, hw⟩ := hrel
      have hw := hw.symm
      subst hw
      go_wp2_with fail
      go_loopw [6] (fun t wr => t = .int .i64 0 ∧ wr = w) (fun _ _ => 0)
      case atStart => exact ⟨rfl, rfl⟩
      case round =>
        obtain ⟨rfl, hw⟩ := hrel
        have hw := hw.symm
        subst hw
        go_wp2
        go_ret
        exact ⟨rfl, Below.refl _ _⟩
  obtain ⟨gl, cl, hlv, _, _⟩ := World.ownsRow.form hbag.lst hn0
  subst hlv
  have H0 : Hid (∃ rv L, AI w w B k gl cl n 0 rv L sz) := ⟨rv0, L0, Below.refl _ _, hbag.bg, fun j hj => by omega, fun j hj => by have := hbag.len j hj; omega, fun j _ hj => hbag.len j hj⟩
  have HBS := hide hB
  clear hbag hB
  go_enter Try.func22, Try.ntmps22
  go_wp2_with fail
  go_loopw [3] (fun t wr => ∃ i : Nat, i ≤ n ∧ t = .int .i64 i ∧ Hid (∃ rv L, AI w wr B k gl cl n i rv L sz)) (fun t _ => n - (intOf t).toNat)
  case atStart => exact ⟨0, by omega, rfl, H0.out⟩
  case round =>
    obtain ⟨i, hi, rfl, HR⟩ := hrel
    obtain ⟨rv, L, hA⟩ := HR.out
    have x0 := hA.bg.cell
    by_cases hlt : i < n
    · have i1 : (i : Int) < n := by omega
      have i2 : (0 : Int) ≤ i := by omega
      have c0 := (hA.bg.row hlt).1
      obtain ⟨pa, ca, hva, _, hca, _⟩ := IOwns.form (hA.bg.own i hlt)
      have hll := hA.rest i (Nat.le_refl _) hlt
      have HAI := hide hA
      rw [hva] at c0
      obtain ⟨ln, hln⟩ : ∃ ln, (L i).length = ln := ⟨_, rfl⟩
      rw [hln] at c0 hll hca
      clear hA HR hva hln H0
      have RM : ∀ dd os, Calls Try.prog 42 #[.int .i64 ln, .int .i64 ca] (grow (redrawn wr dd) os) fun e w'' => e = .returned (.int .i64 (roomI ln ca)) ∧ ∃ p : Regrown, w'' = grow (redrawn wr p.d) p.os := fun dd os => Calls.regrown_of (room47 ln ca _ (by omega) (by omega))
      have hr0 : roomI ln ca ≤ (ln : Int) + 2000 := by unfold roomI; split <;> omega
      obtain ⟨r, hr⟩ : ∃ r, roomI ln ca = r := ⟨_, rfl⟩
      rw [hr] at RM hr0
      have C0 := cell_regrown c0
      have X0 := cell_regrown x0
      clear hr
      go_upto_region 4 with fail
      refine wp_region_quiet_below (by kernel_rfl) (by kernel_rfl) ?_
      repeat (go_big_quiet_step (with_reducible exact RM _ _))
      refine wpQuiet_nil ?_
      intro X hw'
      have hb3 : Below wr.heap.size wr X := by
        obtain ⟨⟨dq, osq⟩, hw''⟩ := hw'
        rw [hw'']
        exact below_regrown wr dq osq
      have HAX : Hid (∃ rv L, AJ w X B k gl cl n i rv L sz) := by
        have q := HAI.out.later hb3 (Nat.le_trans HBS.out HAI.out.below.size)
        exact ⟨rv, L, q.below, q.bg, q.full, q.all, fun j h1 h2 => q.rest j (by omega) h2⟩
      clear hw' hb3 c0 C0 RM HAI X0 x0
      have hr1 : r ≤ 32000 := by omega
      clear hr0 hll hca
      go_wp2_with fail
      go_loopw [44] (fun _ wz => Hid (∃ rv L, AJ w wz B k gl cl n i rv L sz)) (fun _ wz => 50000 - rowLen wz gl i)
      case atStart => exact HAX.out
      case round =>
        obtain ⟨rv, L, hJ⟩ := hrel.out
        have HRL := hide (rowLen_is hJ.bg hlt)
        have x0 := hJ.bg.cell
        have c0 := (hJ.bg.row hlt).1
        obtain ⟨pa, ca, hva, _, hca, _⟩ := IOwns.form (hJ.bg.own i hlt)
        have hll := hJ.all i hlt
        have HJ := hide hJ
        have HVA := hide hva
        rw [hva] at c0
        obtain ⟨ln, hln⟩ : ∃ ln, (L i).length = ln := ⟨_, rfl⟩
        have HLN := hide hln
        rw [hln] at c0 hll hca
        clear hJ hrel hva hln HAX
        by_cases hlr : (ln : Int) < r
        · go_upto_region 6 with fail
          have bd : Below wr.heap.size wr wr.drew := below_drew _
          obtain ⟨V0, hV0⟩ : ∃ V, V = wr.drew := ⟨_, rfl⟩
          have HB0 : Hid (Below B w V0) := by show Below _ _ _; rw [hV0]; exact Below.trans HJ.out.below (bd.mono (Nat.le_trans HBS.out HJ.out.below.size))
          have HG0 : Hid (Bg V0 B k (.slice (some ⟨gl, 0, none⟩) n cl) n rv L sz) := by show Bg _ _ _ _ _ _ _ _; rw [hV0]; exact HJ.out.bg.later bd
          have q0 := HG0.out.cell
          clear x0 c0
          refine wp_region_held_drew (S := (fun W' => W'.cell? ⟨k, 0, none⟩ = some (.slice (some ⟨gl, 0, none⟩) n cl))) (by kernel_rfl) (by rw [← hV0]; exact q0) (fun hHeld => ?_)
          rw [← hV0] at hHeld ⊢
          clear hV0 bd
          refine wpAnyH_take (i := 0) (v := ?v1) rfl (by kernel_rfl) (by kernel_rfl) (by kernel_rfl) (fun _ _ _ h => h) (Or.inl ⟨by rfl, ?hy1⟩) (by assumption) ?rest1
          case hy1 => (intro w hSw; (try dsimp only at hSw); go_simp; try with_reducible rfl)
          try simp only [Act.put, List.setIfInBounds_toArray]
          refine wpAnyH_take (i := 1) (v := ?v2) rfl (by kernel_rfl) (by kernel_rfl) (by kernel_rfl) (fun _ _ _ h => h) (Or.inl ⟨by rfl, ?hy2⟩) (by assumption) ?rest2
          case hy2 => (intro w hSw; (try dsimp only at hSw); go_simp; try with_reducible rfl)
          try simp only [Act.put]
          refine wpAnyH_take (i := 2) (v := ?v3) rfl (by kernel_rfl) (by kernel_rfl) (by kernel_rfl) (fun _ _ _ h => h) (Or.inl ⟨by rfl, ?hy3⟩) (by assumption) ?rest3
          case hy3 => (intro w hSw; (try dsimp only at hSw); go_simp; try with_reducible rfl)
          try simp only [Act.put]
          refine wpAnyH_take (i := 3) (v := ?v4) rfl (by kernel_rfl) (by kernel_rfl) (by kernel_rfl) (fun _ _ _ h => h) (Or.inl ⟨by rfl, ?hy4⟩) (by assumption) ?rest4
          case hy4 => (intro w hSw; (try dsimp only at hSw); go_simp; try with_reducible rfl)
          try simp only [Act.put]
          refine wpAnyH_take (i := 4) (v := ?v5) rfl (by kernel_rfl) (by kernel_rfl) (by kernel_rfl) (fun _ _ _ h => h) (Or.inl ⟨by rfl, ?hy5⟩) (by assumption) ?rest5
          case hy5 => (intro w hSw; (try dsimp only at hSw); go_simp; try with_reducible rfl)
          try simp only [Act.put]
          refine wpAnyH_take (i := 5) (v := ?v6) rfl (by kernel_rfl) (by kernel_rfl) (by kernel_rfl) (fun _ _ _ h => h) (Or.inl ⟨by rfl, ?hy6⟩) (by assumption) ?rest6
          case hy6 => (intro w hSw; (try dsimp only at hSw); go_simp; try with_reducible rfl)
          try simp only [Act.put]
          refine wpAnyH_take (i := 6) (v := ?v7) rfl (by kernel_rfl) (by kernel_rfl) (by kernel_rfl) (fun _ _ _ h => h) (Or.inl ⟨by rfl, ?hy7⟩) (by assumption) ?rest7
          case hy7 => (intro w hSw; (try dsimp only at hSw); go_simp; try with_reducible rfl)
          try simp only [Act.put]
          refine wpAnyH_take (i := 7) (v := ?v8) rfl (by kernel_rfl) (by kernel_rfl) (by kernel_rfl) (fun _ _ _ h => h) (Or.inl ⟨by rfl, ?hy8⟩) (by assumption) ?rest8
          case hy8 => (intro w hSw; (try dsimp only at hSw); go_simp; try with_reducible rfl)
          try simp only [Act.put]
          refine wpAnyH_take (i := 8) (v := ?v9) rfl (by kernel_rfl) (by kernel_rfl) (by kernel_rfl) (fun _ _ _ h => h) (Or.inl ⟨by rfl, ?hy9⟩) (by assumption) ?rest9
          case hy9 => (intro w hSw; (try dsimp only at hSw); go_simp; try with_reducible rfl)
          try simp only [Act.put]
          refine wpAnyH_take (i := 9) (v := ?v10) rfl (by kernel_rfl) (by kernel_rfl) (by kernel_rfl) (fun _ _ _ h => h) (Or.inl ⟨by rfl, ?hy10⟩) (by assumption) ?rest10
          case hy10 => (intro w hSw; (try dsimp only at hSw); go_simp; try with_reducible rfl)
          try simp only [Act.put]
          refine wpAnyH_take (i := 10) (v := ?v11) rfl (by kernel_rfl) (by kernel_rfl) (by kernel_rfl) (fun _ _ _ h => h) (Or.inl ⟨by rfl, ?hy11⟩) (by assumption) ?rest11
          case hy11 => (intro w hSw; (try dsimp only at hSw); go_simp; try with_reducible rfl)
          try simp only [Act.put]
          refine wpAnyH_ready (rs := [11, 12]) (by kernel_rfl) (by simp) ?_
          refine ready_cons ({ dst := some 55, op := Op.load 25 (Operand.tmp 54), type := 25, pos := "law.go:64", after := #[{ on := 10, ground := Ground.data }], guard := none }) rfl rfl (fun K hK => ?_) ?_
          · clear hHeld
            have d0 := (HG0.out.row hlt).1
            rw [HVA.out, HLN.out] at d0
            refine wp_val (v := ?vl1) (w2 := V0) ?hl1 ?_
            case hl1 => (go_simp; try with_reducible rfl)
            clear d0
            refine hK.out _ _ (by first | exact q0 | (dsimp only; exact q0) | exact cell_other q0 hkg) (fun hHeld => ?_)
            clear hK K
            try simp only [Act.put]
            refine wpAnyH_ready (rs := [12]) (by kernel_rfl) (by simp) ?_
            refine ready_cons ({ dst := some 56, op := Op.buildSlice 25 1 #[(0, Operand.const (Value.int IntKind.i64 0))], type := 25, pos := "law.go:64", after := #[], guard := none }) rfl rfl (fun K hK => ?_) ?_
            · clear hHeld
              go_simp
              obtain ⟨V1, hV⟩ : ∃ V, V = V0.alloc (.cells #[.int .i64 0] 3) := ⟨_, rfl⟩
              have hb2 : Below V0.heap.size V0 V1 := by rw [hV]; go_grown
              have HL1 : Hid (V1.cell? ⟨V0.heap.size, 0, none⟩ = some (.int .i64 0)) := by show _ = _; rw [hV]; exact one_int _ _
              rw [← hV]
              have HB1 : Hid (Below B w V1) := Below.trans HB0.out (hb2.mono (Nat.le_trans HBS.out HB0.out.size))
              have HG1 := hide (HG0.out.later hb2)
              clear hV hb2 q0
              have q0 := HG1.out.cell
              refine hK.out _ _ (by first | exact q0 | (dsimp only; exact q0) | exact cell_other q0 hkg) (fun hHeld => ?_)
              clear hK K
              try simp only [Act.put, List.setIfInBounds_toArray, List.set_cons_zero, List.set_cons_succ]
              refine wpAnyH_ready (rs := [13]) (by kernel_rfl) (by simp) ?_
              refine ready_cons ({ dst := some 57, op := Op.call { callee := Callee.builtin Builtin.append, args := #[Operand.tmp 55, Operand.tmp 56], argTypes := #[25, 25] }, type := 25, pos := "law.go:64", after := #[{ on := 11, ground := Ground.data }, { on := 12, ground := Ground.data }], guard := none }) rfl rfl (fun K hK => ?_) ?_
              · clear hHeld
                have hrx := HG1.out.own i hlt
                obtain ⟨v1, V2, e4, o4, gr4, at4⟩ := append_int hrx HL1.out (Nat.le_trans HBS.out HB1.out.size) (by have := HLN.out; omega)
                obtain ⟨p1, l1, c1, rfl⟩ : ∃ p1 l1 c1, v1 = .slice p1 l1 c1 := by obtain ⟨p1, c1, h1, _⟩ := o4.form; exact ⟨_, _, _, h1⟩
                have HB2 : Hid (Below B w V2) := below_grown HB1.out hrx (Nat.le_refl _) (Nat.le_trans HBS.out HB1.out.size) gr4
                obtain ⟨g4, g5, g6, g7, g8, g9⟩ := HG1.out.put hlt o4 gr4 at4
                rw [HVA.out, HLN.out] at e4 g5
                have HG4 := hide g4
                have HGB : Hid (B ≤ gl) := (World.ownsRow.lt HG1.out.lst gl rfl).1
                have HE2 : Hid (gl < V2.heap.size ∧ V2.cell? ⟨gl, i, none⟩ = some (.slice pa ln ca) ∧ V2.frozen? ⟨gl, i, none⟩ = false) := ⟨g7, g5, g6⟩
                clear q0
                have q0 := g8
                have hkg := g9
                refine oper_append (.tmp 55) (.tmp 56) 25 (by rfl) 25 (by rfl) (.slice pa ln ca) (.slice (some ⟨V0.heap.size, 0, none⟩) 1 1) (.slice p1 l1 c1) V2 (by rfl) (by rfl) ?_ ?_
                with_reducible exact e4
                clear hrx o4 gr4 at4 e4 g4 g5 g6 g7 g8 g9
                refine hK.out _ _ (by first | exact q0 | (dsimp only; exact q0) | exact cell_other q0 hkg) (fun hHeld => ?_)
                clear hK K
                try simp only [Act.put, List.setIfInBounds_toArray, List.set_cons_zero, List.set_cons_succ]
                refine wpAnyH_take (i := 14) (v := ?v12) rfl (by kernel_rfl) (by kernel_rfl) (by kernel_rfl) (fun _ _ _ h => h) (Or.inl ⟨by rfl, ?hy12⟩) (by assumption) ?rest12
                case hy12 => (intro w hSw; (try dsimp only at hSw); go_simp; try with_reducible rfl)
                try simp only [Act.put, List.setIfInBounds_toArray]
                refine wpAnyH_ready (rs := [15]) (by kernel_rfl) (by simp) ?_
                refine ready_cons ({ dst := none, op := Op.store 25 (Operand.tmp 58) (Operand.tmp 57), type := 0, pos := "law.go:64", after := #[{ on := 14, ground := Ground.data }, { on := 13, ground := Ground.data }, { on := 13, ground := Ground.chain }, { on := 0, ground := Ground.phase }, { on := 1, ground := Ground.phase }, { on := 2, ground := Ground.phase }, { on := 3, ground := Ground.phase }, { on := 4, ground := Ground.phase }, { on := 5, ground := Ground.phase }, { on := 6, ground := Ground.phase }, { on := 7, ground := Ground.phase }, { on := 8, ground := Ground.phase }, { on := 9, ground := Ground.phase }, { on := 10, ground := Ground.phase }, { on := 11, ground := Ground.phase }, { on := 12, ground := Ground.phase }, { on := 13, ground := Ground.phase }], guard := none }) rfl rfl (fun K hK => ?_) ?_
                · clear hHeld
                  obtain ⟨hgl, d0, e0⟩ := HE2.out
                  go_simp
                  clear d0 e0
                  refine hK.out _ _ (by first | exact q0 | (dsimp only; exact q0) | exact cell_other q0 hkg) (fun hHeld => ?_)
                  clear hK K
                  try simp only [Act.put, List.setIfInBounds_toArray, List.set_cons_zero, List.set_cons_succ]
                  refine wpAnyH_done (by kernel_rfl) ?_ _
                  clear hHeld
                  obtain ⟨Z, hZ⟩ : ∃ Z, Z = V2.setCell ⟨gl, i, none⟩ (.slice p1 l1 c1) := ⟨_, rfl⟩
                  rw [← hZ] at HG4
                  have HBZ : Hid (Below B w Z) := by show Below _ _ _; rw [hZ]; exact HB2.out.setCell HGB.out _
                  rw [← hZ]
                  have HZ : Hid (AJ w Z B k gl cl n i (upd rv i (.slice p1 l1 c1)) (upd L i (L i ++ [0])) sz) := by
                    refine ⟨HBZ.out, HG4.out, ?_, ?_, ?_⟩
                    · intro j hj; rw [upd_other _ _ (by omega)]; exact HJ.out.full j hj
                    · intro j hj
                      by_cases e : j = i
                      · rw [e, upd_same, List.length_append, HLN.out, List.length_cons, List.length_nil]; omega
                      · rw [upd_other _ _ e]; exact HJ.out.all j hj
                    · intro j h1 h2; rw [upd_other _ _ (by omega)]; exact HJ.out.rest j h1 h2
                  have HML : Hid (rowLen Z gl i = ln + 1) := by
                    show _ = _
                    rw [rowLen_is HZ.out.bg hlt, upd_same, List.length_append, HLN.out, List.length_cons, List.length_nil]
                  clear hZ HE2 HG4 HBZ HB0 HB1 HB2 HG0 HG1 HL1 q0 HGB hkg
                  go_wp2
                  go_roundw
                  case rel => exact ⟨_, _, HZ.out⟩
                  case measure => rw [HML.out, HRL.out, HLN.out]; omega
                exact AllReadyH.nil
              exact AllReadyH.nil
            exact AllReadyH.nil
          refine ready_cons ({ dst := some 56, op := Op.buildSlice 25 1 #[(0, Operand.const (Value.int IntKind.i64 0))], type := 25, pos := "law.go:64", after := #[], guard := none }) rfl rfl (fun K hK => ?_) ?_
          · clear hHeld
            go_simp
            obtain ⟨V1, hV⟩ : ∃ V, V = V0.alloc (.cells #[.int .i64 0] 3) := ⟨_, rfl⟩
            have hb2 : Below V0.heap.size V0 V1 := by rw [hV]; go_grown
            have HL1 : Hid (V1.cell? ⟨V0.heap.size, 0, none⟩ = some (.int .i64 0)) := by show _ = _; rw [hV]; exact one_int _ _
            rw [← hV]
            have HB1 : Hid (Below B w V1) := Below.trans HB0.out (hb2.mono (Nat.le_trans HBS.out HB0.out.size))
            have HG1 := hide (HG0.out.later hb2)
            clear hV hb2 q0
            have q0 := HG1.out.cell
            refine hK.out _ _ (by first | exact q0 | (dsimp only; exact q0) | exact cell_other q0 hkg) (fun hHeld => ?_)
            clear hK K
            try simp only [Act.put, List.setIfInBounds_toArray, List.set_cons_zero, List.set_cons_succ]
            refine wpAnyH_ready (rs := [11]) (by kernel_rfl) (by simp) ?_
            refine ready_cons ({ dst := some 55, op := Op.load 25 (Operand.tmp 54), type := 25, pos := "law.go:64", after := #[{ on := 10, ground := Ground.data }], guard := none }) rfl rfl (fun K hK => ?_) ?_
            · clear hHeld
              have d0 := (HG1.out.row hlt).1
              rw [HVA.out, HLN.out] at d0
              refine wp_val (v := ?vl2) (w2 := V1) ?hl2 ?_
              case hl2 => (go_simp; try with_reducible rfl)
              clear d0
              refine hK.out _ _ (by first | exact q0 | (dsimp only; exact q0) | exact cell_other q0 hkg) (fun hHeld => ?_)
              clear hK K
              try simp only [Act.put, List.setIfInBounds_toArray, List.set_cons_zero, List.set_cons_succ]
              refine wpAnyH_ready (rs := [13]) (by kernel_rfl) (by simp) ?_
              refine ready_cons ({ dst := some 57, op := Op.call { callee := Callee.builtin Builtin.append, args := #[Operand.tmp 55, Operand.tmp 56], argTypes := #[25, 25] }, type := 25, pos := "law.go:64", after := #[{ on := 11, ground := Ground.data }, { on := 12, ground := Ground.data }], guard := none }) rfl rfl (fun K hK => ?_) ?_
              · clear hHeld
                have hrx := HG1.out.own i hlt
                obtain ⟨v1, V2, e4, o4, gr4, at4⟩ := append_int hrx HL1.out (Nat.le_trans HBS.out HB1.out.size) (by have := HLN.out; omega)
                obtain ⟨p1, l1, c1, rfl⟩ : ∃ p1 l1 c1, v1 = .slice p1 l1 c1 := by obtain ⟨p1, c1, h1, _⟩ := o4.form; exact ⟨_, _, _, h1⟩
                have HB2 : Hid (Below B w V2) := below_grown HB1.out hrx (Nat.le_refl _) (Nat.le_trans HBS.out HB1.out.size) gr4
                obtain ⟨g4, g5, g6, g7, g8, g9⟩ := HG1.out.put hlt o4 gr4 at4
                rw [HVA.out, HLN.out] at e4 g5
                have HG4 := hide g4
                have HGB : Hid (B ≤ gl) := (World.ownsRow.lt HG1.out.lst gl rfl).1
                have HE2 : Hid (gl < V2.heap.size ∧ V2.cell? ⟨gl, i, none⟩ = some (.slice pa ln ca) ∧ V2.frozen? ⟨gl, i, none⟩ = false) := ⟨g7, g5, g6⟩
                clear q0
                have q0 := g8
                have hkg := g9
                refine oper_append (.tmp 55) (.tmp 56) 25 (by rfl) 25 (by rfl) (.slice pa ln ca) (.slice (some ⟨V0.heap.size, 0, none⟩) 1 1) (.slice p1 l1 c1) V2 (by rfl) (by rfl) ?_ ?_
                with_reducible exact e4
                clear hrx o4 gr4 at4 e4 g4 g5 g6 g7 g8 g9
                refine hK.out _ _ (by first | exact q0 | (dsimp only; exact q0) | exact cell_other q0 hkg) (fun hHeld => ?_)
                clear hK K
                try simp only [Act.put, List.setIfInBounds_toArray, List.set_cons_zero, List.set_cons_succ]
                refine wpAnyH_take (i := 14) (v := ?v13) rfl (by kernel_rfl) (by kernel_rfl) (by kernel_rfl) (fun _ _ _ h => h) (Or.inl ⟨by rfl, ?hy13⟩) (by assumption) ?rest13
                case hy13 => (intro w hSw; (try dsimp only at hSw); go_simp; try with_reducible rfl)
                try simp only [Act.put, List.setIfInBounds_toArray]
                refine wpAnyH_ready (rs := [15]) (by kernel_rfl) (by simp) ?_
                refine ready_cons ({ dst := none, op := Op.store 25 (Operand.tmp 58) (Operand.tmp 57), type := 0, pos := "law.go:64", after := #[{ on := 14, ground := Ground.data }, { on := 13, ground := Ground.data }, { on := 13, ground := Ground.chain }, { on := 0, ground := Ground.phase }, { on := 1, ground := Ground.phase }, { on := 2, ground := Ground.phase }, { on := 3, ground := Ground.phase }, { on := 4, ground := Ground.phase }, { on := 5, ground := Ground.phase }, { on := 6, ground := Ground.phase }, { on := 7, ground := Ground.phase }, { on := 8, ground := Ground.phase }, { on := 9, ground := Ground.phase }, { on := 10, ground := Ground.phase }, { on := 11, ground := Ground.phase }, { on := 12, ground := Ground.phase }, { on := 13, ground := Ground.phase }], guard := none }) rfl rfl (fun K hK => ?_) ?_
                · clear hHeld
                  obtain ⟨hgl, d0, e0⟩ := HE2.out
                  go_simp
                  clear d0 e0
                  refine hK.out _ _ (by first | exact q0 | (dsimp only; exact q0) | exact cell_other q0 hkg) (fun hHeld => ?_)
                  clear hK K
                  try simp only [Act.put, List.setIfInBounds_toArray, List.set_cons_zero, List.set_cons_succ]
                  refine wpAnyH_done (by kernel_rfl) ?_ _
                  clear hHeld
                  obtain ⟨Z, hZ⟩ : ∃ Z, Z = V2.setCell ⟨gl, i, none⟩ (.slice p1 l1 c1) := ⟨_, rfl⟩
                  rw [← hZ] at HG4
                  have HBZ : Hid (Below B w Z) := by show Below _ _ _; rw [hZ]; exact HB2.out.setCell HGB.out _
                  rw [← hZ]
                  have HZ : Hid (AJ w Z B k gl cl n i (upd rv i (.slice p1 l1 c1)) (upd L i (L i ++ [0])) sz) := by
                    refine ⟨HBZ.out, HG4.out, ?_, ?_, ?_⟩
                    · intro j hj; rw [upd_other _ _ (by omega)]; exact HJ.out.full j hj
                    · intro j hj
                      by_cases e : j = i
                      · rw [e, upd_same, List.length_append, HLN.out, List.length_cons, List.length_nil]; omega
                      · rw [upd_other _ _ e]; exact HJ.out.all j hj
                    · intro j h1 h2; rw [upd_other _ _ (by omega)]; exact HJ.out.rest j h1 h2
                  have HML : Hid (rowLen Z gl i = ln + 1) := by
                    show _ = _
                    rw [rowLen_is HZ.out.bg hlt, upd_same, List.length_append, HLN.out, List.length_cons, List.length_nil]
                  clear hZ HE2 HG4 HBZ HB0 HB1 HB2 HG0 HG1 HL1 q0 HGB hkg
                  go_wp2
                  go_roundw
                  case rel => exact ⟨_, _, HZ.out⟩
                  case measure => rw [HML.out, HRL.out, HLN.out]; omega
                exact AllReadyH.nil
              exact AllReadyH.nil
            exact AllReadyH.nil
          exact AllReadyH.nil
        · go_wp2_with fail
          clear x0 c0 HRL HVA
          have HI0 : Hid (∃ rv L, AJ w wr B k gl cl n i rv L sz ∧ (L i).length = ln ∧ ∀ j, j < 0 → iat (L i) j = -1000 - (i : Int)) := ⟨rv, L, HJ.out, HLN.out, fun j hj => by omega⟩
          clear HJ HLN
          obtain ⟨w9, hw9⟩ : ∃ w9, w9 = wr := ⟨_, rfl⟩
          rw [← hw9] at HI0 ⊢
          clear hw9
          go_loopw [5] (fun t wy => ∃ q : Nat, q ≤ ln ∧ t = .int .i64 q ∧ Hid (∃ rv L, AJ w wy B k gl cl n i rv L sz ∧ (L i).length = ln ∧ ∀ j, j < q → iat (L i) j = -1000 - (i : Int))) (fun t _ => ln - (intOf t).toNat)
          case atStart => exact ⟨0, by omega, rfl, HI0.out⟩
          case round =>
            obtain ⟨q, hq, rfl, HQ⟩ := hrel
            obtain ⟨rv, L, hJ, hLl, hdone⟩ := HQ.out
            have x0 := hJ.bg.cell
            have c0 := (hJ.bg.row hlt).1
            by_cases hql : q < ln
            · obtain ⟨ga, ca2, hva, _, hgB, _⟩ := iowns_block (hJ.bg.own i hlt) (by omega)
              have o := hJ.bg.own i hlt
              rw [hva] at c0 o
              have d0 := IOwns.at_ o (j := q) (by omega)
              have f0 := IOwns.frozen o q
              have HST := hide (hJ.bg.store (j := q) (x := -1000 - (i : Int)) hlt hva)
              have HBW : Hid (Below B w (wr.setCell ⟨ga, q, none⟩ (.int .i64 (-1000 - (i : Int))))) := hJ.below.setCell hgB _
              have HJJ := hide hJ
              have HDN := hide hdone
              have HLL := hide hLl
              rw [hLl] at c0
              obtain ⟨y, hy⟩ : ∃ y, iat (L i) q = y := ⟨_, rfl⟩
              rw [hy] at d0
              have j1 : (q : Int) < ln := by omega
              have j2 : (0 : Int) ≤ q := by omega
              clear hJ hva hgB o hdone hLl HQ hy
              go_wp2
              go_roundw
              case rel =>
                refine ⟨q + 1, by omega, by go_num, rv, upd L i ((L i).set q (-1000 - (i : Int))), ⟨HBW.out, HST.out, ?_, ?_, ?_⟩, ?_, ?_⟩
                · intro j hj
                  rw [upd_other _ _ (by omega)]
                  exact HJJ.out.full j hj
                · intro j hj
                  by_cases e : j = i
                  · rw [e, upd_same, List.length_set]; exact HJJ.out.all i hlt
                  · rw [upd_other _ _ e]; exact HJJ.out.all j hj
                · intro j h1 h2
                  rw [upd_other _ _ (by omega)]
                  exact HJJ.out.rest j h1 h2
                · rw [upd_same, List.length_set]; exact HLL.out
                · intro j hj
                  rw [upd_same]
                  by_cases e : j = q
                  · rw [e, iat_put (by rw [HLL.out]; exact hql)]
                  · rw [iat_put_ne e]; exact HDN.out j (by omega)
              case measure => simp [intOf]; omega
            · have hqe : q = ln := by omega
              obtain ⟨pa2, ca2, hva, _, _, _⟩ := IOwns.form (hJ.bg.own i hlt)
              rw [hva, hLl] at c0
              have HJJ := hide hJ
              have HDN := hide hdone
              have HLL := hide hLl
              have j1 : ¬ (q : Int) < ln := by omega
              clear hJ hva hdone hLl HQ
              go_wp2
              go_roundw
              case rel =>
                refine ⟨i + 1, by omega, by go_num, rv, L, HJJ.out.below, HJJ.out.bg, ?_, HJJ.out.all, fun j h1 h2 => HJJ.out.rest j (by omega) h2⟩
                intro j hj
                by_cases e : j = i
                · subst e
                  apply List.ext_getElem
                  · simp
                  intro p h1 h2
                  have := HDN.out p (by have := HLL.out; omega)
                  unfold iat at this
                  rw [List.getD_eq_getElem?_getD, List.getElem?_eq_getElem h1] at this
                  rw [List.getElem_replicate]
                  exact this
                · exact HJJ.out.full j (by omega)
              case measure => simp [intOf]; omega
    · have i1 : ¬ (i : Int) < n := by omega
      have hin : i = n := by omega
      subst hin
      have HAI := hide hA
      clear hA HR H0
      go_wp2_with fail
      clear x0
      obtain ⟨V, hV⟩ : ∃ V, V = wr := ⟨_, rfl⟩
      rw [← hV] at HAI ⊢
      clear hV
      go_loopw [6] (fun t wy => ∃ p : Nat, p ≤ i ∧ t = .int .i64 p ∧ wy = V) (fun t _ => i - (intOf t).toNat)
      case atStart => exact ⟨0, by omega, rfl, rfl⟩
      case round =>
        obtain ⟨p, hp, rfl, hw⟩ := hrel
        have hw := hw.symm
        subst hw
        have x0 := HAI.out.bg.cell
        by_cases hpl : p < i
        · have j1 : (p : Int) < i := by omega
          have j2 : (0 : Int) ≤ p := by omega
          have hll := HAI.out.all p hpl
          go_wp2_with fail
          go_loopw [7] (fun t wz => ∃ q : Nat, q ≤ (L p).length ∧ t = .int .i64 q ∧ wz = V) (fun t _ => (L p).length - (intOf t).toNat)
          case atStart => exact ⟨0, by omega, rfl, rfl⟩
          case round =>
            obtain ⟨q, hq, rfl, hw⟩ := hrel
            have hw := hw.symm
            subst hw
            have c0 := (HAI.out.bg.row hpl).1
            obtain ⟨ln, hln⟩ : ∃ ln, (L p).length = ln := ⟨_, rfl⟩
            by_cases hql : q < (L p).length
            · obtain ⟨ga, ca2, hva, _, _, _⟩ := iowns_block (HAI.out.bg.own p hpl) (by omega)
              have o := HAI.out.bg.own p hpl
              rw [hva] at c0 o
              have d0 := IOwns.at_ o (j := q) (by omega)
              have hval : iat (L p) q = -1000 - (p : Int) := by
                have := HAI.out.full p hpl
                rw [this]
                unfold iat
                rw [List.getD_eq_getElem?_getD, List.getElem?_replicate, if_pos hql]
                rfl
              rw [hval] at d0
              have HLN := hide hln
              rw [hln] at c0 hll hq hql
              have j3 : (q : Int) < ln := by omega
              have j4 : (0 : Int) ≤ q := by omega
              have j5 : IntKind.i64.wrap (-1000 - (p : Int)) = -1000 - (p : Int) := IntWalk.i64_in _ (by omega)
              clear hva o hval hln
              go_wp2
              go_roundw
              case rel => exact ⟨q + 1, by have := HLN.out; omega, by go_num, by first | rfl | trivial⟩
              case measure => simp [intOf]; have := HLN.out; omega
            · obtain ⟨pa2, ca2, hva, _, _, _⟩ := IOwns.form (HAI.out.bg.own p hpl)
              rw [hva, hln] at c0
              rw [hln] at hq hql
              have j3 : ¬ (q : Int) < ln := by omega
              clear hva hln
              go_wp2
              go_roundw
              case rel => exact ⟨p + 1, by omega, by go_num, by first | rfl | trivial⟩
              case measure => simp [intOf]; omega
        · have j1 : ¬ (p : Int) < i := by omega
          go_wp2
          go_ret
          exact ⟨rfl, HAI.out.below⟩
end Go.Proofs.Ytaebbfilgfkckaa

/- The lists are kept one by one: KeepAll (carried). -/
namespace Go.Proofs.Ytaebbfilgfkckaa
open Go.RowKit Go.Sort
open Go

/-- Faces in memory, each a row of its own. -/
structure FB (w : World) (B : Nat) (fv : Value) (F : List (List Int)) (rv : Nat → Value) : Prop where
  lst : w.ownsRow B 25 1 fv F.length ((List.range F.length).map rv)
  uniq : ∀ u v j, u < F.length → v < F.length → (rv u).ownBlock = some j → (rv v).ownBlock = some j → u = v
  own : ∀ v, v < F.length → IOwns w B (rv v) (lat F v)
theorem FB.later {w w' : World} {B : Nat} {fv : Value} {F : List (List Int)} {rv : Nat → Value} (h : FB w B fv F rv) (hb : Below w.heap.size w w') : FB w' B fv F rv :=
  ⟨World.ownsRow.kept h.lst (grown_below hb) (by cases fv.ownBlock <;> simp), h.uniq, fun v hv => (h.own v hv).later hb⟩
theorem FB.nil (w : World) (B : Nat) : FB w B (.slice none 0 0) [] (fun _ => .slice none 0 0) := ⟨World.ownsRow_nil _ _ _ _, fun u v j hu => by simp at hu, fun v hv => by simp at hv⟩
theorem FB.base {w : World} {B B' : Nat} {fv : Value} {F : List (List Int)} {rv : Nat → Value} (h : FB w B fv F rv) (hb : B' ≤ B) : FB w B' fv F rv := ⟨owns_base h.lst hb, h.uniq, fun v hv => (h.own v hv).base hb⟩

/-- The blocks of the lists from the i-th on, and those of M. -/
def MFrom (M : Nat → Prop) (n : Nat) (rv : Nat → Value) (i : Nat) (b : Nat) : Prop := M b ∨ ∃ v, i ≤ v ∧ v < n ∧ (rv v).ownBlock = some b
theorem KBag.weak {N M M' : Nat → Prop} {w : World} {B k : Nat} (h : KBag N M w B k) (hm : ∀ b, M' b → M b) : KBag N M' w B k := by
  obtain ⟨lv, n, rv, L, sz, h1, h2, h3⟩ := h
  exact ⟨lv, n, rv, L, sz, h1, h2, fun u b hu hb hM => h3 u b hu hb (hm b hM)⟩
theorem KBag.weakN {N N' M : Nat → Prop} {w : World} {B k : Nat} (h : KBag N M w B k) (hm : ∀ b, N' b → N b) : KBag N' M w B k := by
  obtain ⟨lv, n, rv, L, sz, h1, h2, h3⟩ := h
  exact ⟨lv, n, rv, L, sz, h1, fun b hb hN => h2 b hb (hm b hN), h3⟩
theorem KBag.later {N M : Nat → Prop} {w w' : World} {B k : Nat} (h : KBag N M w B k) (hb : Below w.heap.size w w') : KBag N M w' B k := by
  obtain ⟨lv, n, rv, L, sz, h1, h2, h3⟩ := h
  exact ⟨lv, n, rv, L, sz, h1.later hb, h2, h3⟩
theorem heap_cell {w w' : World} {b o : Nat} (h : w'.heap[b]? = w.heap[b]?) : w'.cell? ⟨b, o, none⟩ = w.cell? ⟨b, o, none⟩ := by
  unfold World.cell?
  simp only [h]
structure KJ (N M : Nat → Prop) (w wr : World) (B k n : Nat) (rv : Nat → Value) (i : Nat) : Prop where
  bag : KBag N (MFrom M n rv i) wr B k
  below : Below B w wr
  kp : Kp w wr
  fr : ∀ b, N b → b ≠ k → wr.heap[b]? = w.heap[b]?
theorem KPost.refl {N M : Nat → Prop} {w : World} {B k : Nat} (h : KBag N M w B k) : KPost N M w B k w := ⟨h, Below.refl _ _, Kp.below (Below.refl _ _), fun _ _ _ => rfl⟩
set_option maxRecDepth 100000 in
set_option maxHeartbeats 8000000 in
theorem keepall20 {N M : Nat → Prop} (B k T : Nat) (p : Option Addr) (F : List (List Int)) (c : Nat) (rv : Nat → Value) (w : World) (hbag : KBag N (MFrom M F.length rv 0) w B k) (hB : B ≤ w.heap.size) (hBT : B ≤ T) (fb : FB w T (.slice p F.length c) F rv) (hlen : ∀ v, v < F.length → (lat F v).length ≤ 20000) (hFl : F.length ≤ 100000) (hNs : ∀ a, p = some a → N a.block) (hNl : ∀ b, N b → b < w.heap.size) (hNk : ¬ N k) (hMd : ∀ v b, v < F.length → (rv v).ownBlock = some b → ¬ M b) : Calls Try.prog 20 #[.pointer (some ⟨k, 0, none⟩), .slice p F.length c] w fun e w' => e = .returned (.tuple #[]) ∧ KPost N M w B k w' := by
  have HJ0 : Hid (KJ N M w w B k F.length rv 0) := ⟨hbag, Below.refl _ _, Kp.below (Below.refl _ _), fun _ _ _ => rfl⟩
  have HFB := hide fb
  have HBS := hide hB
  have HBT := hide hBT
  have HLEN := hide hlen
  have HNS := hide hNs
  have HNL := hide hNl
  have HNK := hide hNk
  have HMD := hide hMd
  clear hbag hB hBT fb hlen hNs hNl hMd hNk
  go_enter Try.func20, Try.ntmps20
  go_wp2_with fail
  go_loopw [4] (fun t wr => ∃ i : Nat, i ≤ F.length ∧ t = .int .i64 i ∧ Hid (KJ N M w wr B k F.length rv i)) (fun t _ => F.length - (intOf t).toNat)
  case atStart => exact ⟨0, by omega, rfl, HJ0.out⟩
  case round =>
    obtain ⟨i, hi, rfl, HJ⟩ := hrel
    clear HJ0
    by_cases hlt : i < F.length
    · have i1 : (i : Int) < F.length := by omega
      obtain ⟨g, hp⟩ : ∃ g, p = some ⟨g, 0, none⟩ := by
        obtain ⟨_, ⟨h1, h2⟩ | ⟨g1, c1, cur1, h1, _⟩⟩ := HFB.out.lst
        · omega
        · injection h1 with e1 _ _; exact ⟨g1, e1⟩
      subst hp
      have hgk : g ≠ k := fun e => HNK.out (by rw [← e]; exact HNS.out _ rfl)
      have c0 : wr.cell? ⟨g, i, none⟩ = some (rv i) := by
        rw [heap_cell (HJ.out.fr g (HNS.out _ rfl) hgk), World.ownsRow.cellAt HFB.out.lst i (by omega)]
        simp [hlt]
      have own : IOwns wr B (rv i) (lat F i) := by
        have o := (HFB.out.own i hlt).base HBT.out
        exact HJ.out.kp.row o (by decide) (by decide)
      obtain ⟨pa, ca, hva, _, _, _⟩ := own.form
      rw [hva] at c0
      have HVA := hide hva
      have HOW := hide own
      obtain ⟨la, hla⟩ : ∃ l, (lat F i).length = l := ⟨_, rfl⟩
      rw [hla] at c0 HVA
      have HLA := hide hla
      obtain ⟨V, hV⟩ : ∃ V, V = wr.alloc (.cells #[.slice pa la ca] 25) := ⟨_, rfl⟩
      have hbV : Below wr.heap.size wr V := by rw [hV]; go_grown
      have HARG : Hid (V.ownsRow wr.heap.size 25 1 (.slice (some ⟨wr.heap.size, 0, none⟩) 1 1) 1 ((List.range 1).map fun _ => rv i)) := by
        show World.ownsRow _ _ _ _ _ _ _
        rw [hV, HVA.out]
        exact ⟨rfl, Or.inr ⟨wr.heap.size, 1, _, rfl, Nat.le_refl _, heap_alloc_new wr _, Nat.le_refl _, by unfold maxLen; omega, rfl, rfl⟩⟩
      have KP : Calls Try.prog 19 #[.pointer (some ⟨k, 0, none⟩), .slice (some ⟨wr.heap.size, 0, none⟩) 1 1] V fun e w' => e = .returned (.tuple #[]) ∧ KPost N (MFrom M F.length rv (i + 1)) V B k w' := by
        obtain ⟨lv0, n0, rv0, L0, sz0, hb0, hn0, hm0⟩ := HJ.out.bag
        refine keep22 B k wr.heap.size 1 wr.heap.size (fun _ => rv i) (fun _ => lat F i) V (hb0.later hbV) (Nat.le_trans HBS.out (Nat.le_trans HJ.out.below.size hbV.size)) (Nat.le_trans HBS.out HJ.out.below.size) (by omega) HARG.out ?_ (fun j _ => HOW.out.later hbV) (fun j _ => HLEN.out i hlt) (fun a b _ ha hb _ _ => by omega) ?_ hn0 ?_ ?_ ?_
        · intro e
          have := (World.ownsRow.lt hb0.lst _ e).2
          omega
        · intro j u b _ hu hb hr
          exact hm0 u b hu hr (Or.inr ⟨i, Nat.le_refl _, hlt, hb⟩)
        · intro b hb
          have h1 := HNL.out b hb
          have h2 := HJ.out.below.size
          have h3 := hbV.size
          omega
        · intro u b hu hb hM
          refine hm0 u b hu hb ?_
          rcases hM with h | ⟨v, h1, h2, h3⟩
          · exact Or.inl h
          · exact Or.inr ⟨v, by omega, h2, h3⟩
        · intro j b _ hb hM
          rcases hM with h | ⟨v, h1, h2, h3⟩
          · exact HMD.out i b hlt hb h
          · have := HFB.out.uniq i v b hlt h2 hb h3
            omega
      have KP := hide KP
      have HBV := hide hbV
      clear own hva hla hbV
      go_upto_region 3 with fail
      go_wp2_with fail
      rw [← hV]
      refine KP.out.mono ?_
      rintro r w2 ⟨rfl, hbag2, hb2, hk2, hf2⟩
      have HJ2 : Hid (KJ N M w w2 B k F.length rv (i + 1)) := by
        refine ⟨hbag2, HJ.out.below.trans ((HBV.out.mono (Nat.le_trans HBS.out HJ.out.below.size)).trans hb2), (HJ.out.kp.trans (Kp.below HBV.out)).trans hk2, fun b hb hbk => ?_⟩
        rw [hf2 b hb hbk, HBV.out.block b (Nat.lt_of_lt_of_le (HNL.out b hb) HJ.out.below.size), HJ.out.fr b hb hbk]
      clear hV hbag2 hb2 hk2 hf2 KP HARG HJ c0
      go_wp2
      go_roundw
      case rel => exact ⟨i + 1, by omega, by go_num, HJ2.out⟩
      case measure => simp [intOf]; omega
    · have i1 : ¬ (i : Int) < F.length := by omega
      have HF : Hid (KPost N M w B k wr) := ⟨HJ.out.bag.weak fun b hb => Or.inl hb, HJ.out.below, HJ.out.kp, HJ.out.fr⟩
      clear HJ
      go_wp2
      go_end0
      exact ⟨rfl, HF.out⟩
end Go.Proofs.Ytaebbfilgfkckaa

namespace Go.Proofs.Ytaebbfilgfkckaa
open Go.RowKit Go.Sort
open Go
/-- Branch nodes, paths, what is shrunk to: where there is no subdivision, none. -/
def ndI (n : Int) (es : List Pt) (l : List Int) : List Int := if isK n es l then bsS n.toNat (pick es l) else []
def ptI (n : Int) (es : List Pt) (l : List Int) : List (List Int) := if isK n es l then ptR n.toNat es l else []
def snI (n : Int) (es : List Pt) (l : List Int) : Int := if isK n es l then ((bsS n.toNat (pick es l)).length : Int) else 0
def seI (n : Int) (es : List Pt) (l : List Int) : List Pt := if isK n es l then jsK (kdS n.toNat (pick es l)) else []
theorem ptI_length {n : Int} {es : List Pt} {l : List Int} : (ptI n es l).length = if isK n es l then (ptS n.toNat (pick es l)).length else 0 := by
  unfold ptI
  split
  · unfold ptR; rw [List.length_map]
  · rfl
theorem ptI_small (n : Int) (es : List Pt) (l : List Int) : (ptI n es l).length ≤ 10 ∧ ∀ v, v < (ptI n es l).length → (lat (ptI n es l) v).length ≤ 20000 := by
  by_cases h : isK n es l
  · have hl : (ptI n es l).length = (ptS n.toNat (pick es l)).length := by rw [ptI_length, if_pos h]
    have hj := js_pos h.2.1
    refine ⟨by rw [hl, pt_length]; omega, fun v hv => ?_⟩
    rw [hl] at hv
    have h1 := sub_len h.1
    obtain ⟨_, _, h2, _⟩ := netB_is (sub_ok h.1).1
    have h3 := pt_len (n := n.toNat) (pk := pick es l) (v := v) hv
    have h4 : lat (ptI n es l) v = (lat (ptS n.toNat (pick es l)) v).map (rnI l) := by
      unfold ptI ptR
      rw [if_pos h]
      unfold lat
      rw [List.getD_eq_getElem?_getD, List.getD_eq_getElem?_getD, List.getElem?_map, List.getElem?_eq_getElem hv]
      rfl
    rw [h4, List.length_map]
    rw [pick_length] at h3
    omega
  · unfold ptI
    rw [if_neg h]
    exact ⟨by simp, fun v hv => by simp at hv⟩
theorem ndI_small (n : Int) (es : List Pt) (l : List Int) : (ndI n es l).length ≤ 6 := by
  unfold ndI
  split
  · rename_i h
    rcases bs_len h.2.1 with h | h <;> omega
  · simp
theorem seI_small (n : Int) (es : List Pt) (l : List Int) : (seI n es l).length ≤ 10 := by
  unfold seI
  split
  · rename_i h
    rcases js_pos h.2.1 with h | h <;> omega
  · simp
theorem Rows.fb {w : World} {B g m : Nat} {rv : Nat → Value} {L : Nat → List Int} {F : List (List Int)} (h : Rows w B g m rv L) (hm : F.length = m) (hL : ∀ v, v < m → L v = lat F v) : FB w B (.slice (some ⟨g, 0, none⟩) F.length m) F rv := by
  refine ⟨by rw [hm]; exact h.1, fun u v j hu hv => h.2.1 u v j (by omega) (by omega), fun v hv => ?_⟩
  rw [← hL v (by omega)]
  exact h.2.2 v (by omega)
theorem branchU (n : Int) (p q : Option Addr) (es : List Pt) (l : List Int) (cp cq : Nat) (w : World) (hl : l.length ≤ maxLen) (h : Has w p es) (k : IHas w q l) : Calls Try.prog 13 #[nv n p es.length cp, .slice q l.length cq] w fun e w' => ∃ p c, e = .returned (.tuple #[.slice p (ndI n es l).length c, .int .i64 (obE n es l)]) ∧ IOwns w' w.heap.size (.slice p (ndI n es l).length c) (ndI n es l) ∧ Below w.heap.size w w' := by
  refine (branch13 n p q es l cp cq w hl h k).mono ?_
  rintro e w' ⟨b, c, rfl, hf, hb⟩
  rcases hf with ⟨h1, _, rfl, _⟩ | ⟨h1, _, p', cp', g, rv, rfl, _, h5, _⟩
  · have hn : ndI n es l = [] := by unfold ndI; rw [if_neg h1]
    rw [hn]
    exact ⟨none, 0, rfl, IOwns.nil _ _, hb⟩
  · have hn : ndI n es l = bsS n.toNat (pick es l) := by unfold ndI; rw [if_pos h1]
    rw [hn]
    exact ⟨p', cp', rfl, h5, hb⟩
theorem pathsU (n : Int) (p q : Option Addr) (es : List Pt) (l : List Int) (cp cq : Nat) (w : World) (hl : l.length ≤ maxLen) (h : Has w p es) (k : IHas w q l) : Calls Try.prog 14 #[nv n p es.length cp, .slice q l.length cq] w fun e w' => ∃ p c rv, e = .returned (.tuple #[.slice p (ptI n es l).length c, .int .i64 (obE n es l)]) ∧ FB w' w.heap.size (.slice p (ptI n es l).length c) (ptI n es l) rv ∧ Below w.heap.size w w' := by
  refine (paths14 n p q es l cp cq w hl h k).mono ?_
  rintro e w' ⟨b, c, rfl, hf, hb⟩
  rcases hf with ⟨h1, _, _, rfl⟩ | ⟨h1, _, p', cp', g, rv, _, rfl, _, h6⟩
  · have hn : ptI n es l = [] := by unfold ptI; rw [if_neg h1]
    rw [hn]
    exact ⟨none, 0, _, rfl, FB.nil _ _, hb⟩
  · have hn : ptI n es l = ptR n.toNat es l := by unfold ptI; rw [if_pos h1]
    have hl2 : (ptR n.toNat es l).length = (ptS n.toNat (pick es l)).length := by unfold ptR; rw [List.length_map]
    rw [hn]
    refine ⟨some ⟨g, 0, none⟩, _, rv, ?_, h6.fb hl2 (fun v hv => ?_), hb⟩
    · rw [hl2]
    · unfold ptR lat
      rw [List.getD_eq_getElem?_getD, List.getD_eq_getElem?_getD, List.getElem?_map, List.getElem?_eq_getElem hv]
      rfl
theorem shrinkU (n : Int) (p q : Option Addr) (es : List Pt) (l : List Int) (cp cq : Nat) (w : World) (hl : l.length ≤ maxLen) (h : Has w p es) (k : IHas w q l) : Calls Try.prog 15 #[nv n p es.length cp, .slice q l.length cq] w fun e w' => ∃ p c, e = .returned (.tuple #[nv (snI n es l) p (seI n es l).length c, .int .i64 (obE n es l)]) ∧ Owns w' w.heap.size (.slice p (seI n es l).length c) (seI n es l) ∧ Below w.heap.size w w' := by
  refine (shrink15 n p q es l cp cq w hl h k).mono ?_
  rintro e w' ⟨hf, hb⟩
  rcases hf with ⟨h1, rfl⟩ | ⟨h1, p', c', rfl, h2⟩
  · have hk : ¬ isK n es l := fun hk => h1 (ob_is.2 hk)
    have e1 : snI n es l = 0 := by unfold snI; rw [if_neg hk]
    have e2 : seI n es l = [] := by unfold seI; rw [if_neg hk]
    rw [e1, e2]
    exact ⟨none, 0, rfl, World.ownsRow_nil _ _ _ _, hb⟩
  · have hk : isK n es l := ob_is.1 h1
    have e1 : snI n es l = ((bsS n.toNat (pick es l)).length : Int) := by unfold snI; rw [if_pos hk]
    have e2 : seI n es l = jsK (kdS n.toNat (pick es l)) := by unfold seI; rw [if_pos hk]
    have e3 : knI n es l = kdS n.toNat (pick es l) := by unfold knI; rw [if_pos hk]
    rw [e3] at h2 ⊢
    rw [e1, e2, h1]
    exact ⟨p', c', rfl, h2, hb⟩
theorem toNat_net {n : Int} {es : List Pt} {l : List Int} (hs : subE n es l = 0) : ((n.toNat : Nat) : Int) = n := by
  obtain ⟨n0, _⟩ := netB_is (sub_ok hs).1
  omega
theorem allU (n : Int) (p q : Option Addr) (es : List Pt) (l : List Int) (cp cq : Nat) (w : World) (h : Has w p es) (k : IHas w q l) (hs : subE n es l = 0) : Calls Try.prog 9 #[nv n p es.length cp, .slice q l.length cq] w fun e w' => ∃ p c q cq, e = .returned (.tuple #[.int .i64 (knI n es l), .slice p (ndI n es l).length c, .slice q (ptI n es l).length cq]) ∧ IHasB w.heap.size w' p (ndI n es l) ∧ RHasB w.heap.size w' q (ptI n es l) ∧ Below w.heap.size w w' := by
  have hn := toNat_net hs
  have := all9 n.toNat p q es l cp cq w h k (by rw [hn]; exact hs)
  rw [hn] at this
  refine this.mono ?_
  rintro e w' ⟨hf, hb⟩
  rcases hf with ⟨h1, rfl⟩ | ⟨h1, p', c', q', cq', rfl, h2, h3⟩
  · have hk : ¬ isK n es l := fun hk => h1 hk.2
    have e1 : knI n es l = 0 := by unfold knI; rw [if_neg hk]
    have e2 : ndI n es l = [] := by unfold ndI; rw [if_neg hk]
    have e3 : ptI n es l = [] := by unfold ptI; rw [if_neg hk]
    rw [e1, e2, e3]
    exact ⟨none, 0, none, 0, rfl, ⟨Or.inl rfl, fun h => absurd rfl h⟩, Or.inl rfl, hb⟩
  · have hk : isK n es l := ⟨hs, h1⟩
    have e1 : knI n es l = kdS n.toNat (pick es l) := by unfold knI; rw [if_pos hk]
    have e2 : ndI n es l = bsS n.toNat (pick es l) := by unfold ndI; rw [if_pos hk]
    have e3 : ptI n es l = ptR n.toNat es l := by unfold ptI; rw [if_pos hk]
    rw [e1, e2, e3]
    exact ⟨p', c', q', cq', rfl, h2, h3, hb⟩
theorem rshrinkU (n : Int) (p q : Option Addr) (es : List Pt) (l : List Int) (cp cq : Nat) (w : World) (h : Has w p es) (k : IHas w q l) (hs : subE n es l = 0) : Calls Try.prog 10 #[nv n p es.length cp, .slice q l.length cq] w fun e w' => ∃ p c x, e = .returned (.tuple #[nv (snI n es l) p (seI n es l).length c, .int .i64 x]) ∧ Owns w' w.heap.size (.slice p (seI n es l).length c) (seI n es l) ∧ Below w.heap.size w w' := by
  have hn := toNat_net hs
  have := shrink10 n.toNat p q es l cp cq w h k (by rw [hn]; exact hs)
  rw [hn] at this
  refine this.mono ?_
  rintro e w' ⟨hf, hb⟩
  rcases hf with ⟨h1, rfl⟩ | ⟨h1, p', c', rfl, h2⟩
  · have hk : ¬ isK n es l := fun hk => h1 hk.2
    have e1 : snI n es l = 0 := by unfold snI; rw [if_neg hk]
    have e2 : seI n es l = [] := by unfold seI; rw [if_neg hk]
    rw [e1, e2]
    exact ⟨none, 0, 14, rfl, World.ownsRow_nil _ _ _ _, hb⟩
  · have hk : isK n es l := ⟨hs, h1⟩
    have e1 : snI n es l = ((bsS n.toNat (pick es l)).length : Int) := by unfold snI; rw [if_pos hk]
    have e2 : seI n es l = jsK (kdS n.toNat (pick es l)) := by unfold seI; rw [if_pos hk]
    rw [e1, e2]
    exact ⟨p', c', 0, rfl, h2, hb⟩
set_option maxRecDepth 100000 in
set_option maxHeartbeats 8000000 in
theorem may8 (n : Int) (p q : Option Addr) (es : List Pt) (l : List Int) (cp cq : Nat) (w : World) (hl : l.length ≤ maxLen) (h : Has w p es) (k : IHas w q l) : Calls Try.prog 8 #[nv n p es.length cp, .slice q l.length cq] w fun e w' => e = .returned (.int .i64 (subE n es l)) ∧ Below w.heap.size w w' := by
  obtain ⟨W, hW, hb0, a0⟩ := one_net w n p es.length cp
  have C1 := hide (may12 n p es cp W (h.later hb0))
  have C2 := hide (fun V (hV : Below W.heap.size W V) => chosen52 q l cq es.length V hl ((k.later hb0).later hV))
  have HB := hide hb0
  have HA := hide a0
  obtain ⟨q0, q1, _, _⟩ := a0
  clear h k hb0
  go_enter Try.func8, Try.ntmps8
  go_upto_region 1 with fail
  rw [← hW]
  clear hW
  go_wp2_with fail
  refine C1.out.mono ?_
  rintro r w1 ⟨rfl, hb1⟩
  have HB1 := hide hb1
  have HE1 := hide (below_step HB.out hb1)
  obtain ⟨q0, q1, _, _⟩ := HA.out.later hb1
  have HS : Hid (subE n es l = if netB n es then errL l es.length else 1) := rfl
  clear C1 hb1
  by_cases hm : netB n es = true
  · rw [hm] at HS ⊢
    have CC := hide (C2.out w1 HB1.out)
    clear hm C2
    go_wp2_with fail
    refine CC.out.mono ?_
    rintro r w2 ⟨rfl, hb2⟩
    have HE := hide (below_step HE1.out hb2)
    clear CC hb2 q0 q1
    go_wp2
    go_ret
    exact ⟨retI (by rw [HS.out]; rfl), HE.out⟩
  · have hm' : netB n es = false := by simpa using hm
    rw [hm'] at HS ⊢
    clear hm hm' C2
    go_wp2
    go_ret
    exact ⟨retI (by rw [HS.out]; rfl), HE1.out⟩
/-- The lists that are kept. -/
def BagE (w : World) (B k : Nat) : Prop := ∃ lv n rv L sz, Bag w B k lv n rv L sz
theorem BagE.later {w w' : World} {B k : Nat} (h : BagE w B k) (hb : Below w.heap.size w w') : BagE w' B k := by
  obtain ⟨lv, n, rv, L, sz, h⟩ := h
  exact ⟨lv, n, rv, L, sz, h.later hb⟩
theorem own_kind {w : World} {B e size n : Nat} {v : Value} {xs : List Value} (h : w.ownsRow B e size v n xs) {g : Nat} (hg : v.ownBlock = some g) : ∃ cur, w.heap[g]? = some (.cells cur e (0, 0)) := by
  obtain ⟨_, ⟨h1, _⟩ | ⟨g1, c1, cur1, h1, h2, h3, _⟩⟩ := h
  · rw [h1] at hg; simp [Value.ownBlock] at hg
  · rw [h1] at hg
    simp only [Value.ownBlock, Option.some.injEq] at hg
    rw [← hg]
    exact ⟨_, h3⟩
theorem own_apart {w : World} {B B' e e' size size' n n' : Nat} {v v' : Value} {xs xs' : List Value} (h : w.ownsRow B e size v n xs) (h' : w.ownsRow B' e' size' v' n' xs') (he : e ≠ e') {g : Nat} (hg : v.ownBlock = some g) : ¬ v'.ownBlock = some g := fun hg' => by
  obtain ⟨c1, h1⟩ := own_kind h hg
  obtain ⟨c2, h2⟩ := own_kind h' hg'
  rw [h1] at h2
  injection h2 with h2
  injection h2 with _ h3 _
  exact he h3
/-- A net that was answered is spoilt: what is kept stays. -/
theorem BagE.spoil {w w' : World} {B k B' : Nat} {v : Value} {es : List Pt} (h : BagE w B k) (o : Owns w B' v es) (f : Frame w w' (fun i => v.ownBlock = some i)) : BagE w' B k := by
  obtain ⟨lv, n, rv, L, sz, h⟩ := h
  exact ⟨lv, n, rv, L, sz, f.row h.box (fun i hi => own_apart h.box o (by decide) hi), h.kB, f.row h.lst (fun i hi => own_apart h.lst o (by decide) hi), h.uniq, fun u hu => f.row (h.own u hu) (fun i hi => own_apart (h.own u hu) o (by decide) hi), h.len, h.big, h.cnt⟩
theorem KBag.any {N M : Nat → Prop} {w : World} {B k : Nat} (h : KBag N M w B k) : BagE w B k := by
  obtain ⟨lv, n, rv, L, sz, h1, _⟩ := h
  exact ⟨lv, n, rv, L, sz, h1⟩
theorem owns_same {w w' : World} {B e size n : Nat} {v : Value} {xs : List Value} (h : w.ownsRow B e size v n xs) (hs : ∀ g, v.ownBlock = some g → w'.heap[g]? = w.heap[g]?) : w'.ownsRow B e size v n xs := by
  obtain ⟨k0, k1 | ⟨g, c, cur, e1, e2, e3, e4⟩⟩ := h
  · exact ⟨k0, Or.inl k1⟩
  · exact ⟨k0, Or.inr ⟨g, c, cur, e1, e2, (hs g (by rw [e1]; rfl)).trans e3, e4⟩⟩
/-- One list is kept, fresh paths standing by. -/
theorem keep_one (B k s : Nat) (p : Option Addr) (L : List Int) (c s2 : Nat) (fv : Value) (F : List (List Int)) (rv : Nat → Value) (w x y : World) (hbag : BagE w B k) (hb : Below w.heap.size w x) (hs : w.heap.size ≤ s) (o : IOwns x s (.slice p L.length c) L) (hL : L.length ≤ 20000) (hxs : x.heap.size ≤ s2) (hxy : Below x.heap.size x y) (fb : FB y s2 fv F rv) : Calls Try.prog 19 #[.pointer (some ⟨k, 0, none⟩), .slice (some ⟨y.heap.size, 0, none⟩) 1 1] (y.alloc (.cells #[.slice p L.length c] 25)) fun e w' => e = .returned (.tuple #[]) ∧ KPost (fun b => fv.ownBlock = some b) (MFrom (fun _ => False) F.length rv 0) (y.alloc (.cells #[.slice p L.length c] 25)) B k w' := by
  obtain ⟨lv, n, rv0, L0, sz, hg⟩ := hbag
  have hyl : Below y.heap.size y (y.alloc (.cells #[.slice p L.length c] 25)) := by go_grown
  have hwy : Below w.heap.size w (y.alloc (.cells #[.slice p L.length c] 25)) := below_step (below_step hb hxy) hyl
  have s1 := hb.size
  have s3 := hxy.size
  have hkB := hg.kB
  have hkw : k < w.heap.size := (World.ownsRow.lt hg.box k rfl).2
  have hsz : (y.alloc (.cells #[.slice p L.length c] 25)).heap.size = y.heap.size + 1 := by simp
  have olt : ∀ b, (Value.slice p L.length c).ownBlock = some b → s ≤ b ∧ b < x.heap.size := fun b hb => World.ownsRow.lt o b hb
  refine keep22 (N := fun b => fv.ownBlock = some b) (M := MFrom (fun _ => False) F.length rv 0) B k y.heap.size 1 y.heap.size (fun _ => .slice p L.length c) (fun _ => L) _ (hg.later hwy) (by omega) (by omega) (by omega) ?_ (fun e => ?_) (fun j hj => ?_) (fun j hj => hL) (fun i j b hi hj _ _ => by omega) (fun j u b hj hu hb' hb2 => ?_) (fun b hb1 hb2 => ?_) (fun b hb1 => ?_) (fun u b hu hb1 hM => ?_) (fun j b hj hb1 hM => ?_)
  · exact World.ownsRow_lit y #[.slice p L.length c] 1 (Nat.le_refl _) (by unfold maxLen; omega) rfl
  · have := (World.ownsRow.lt hg.lst _ e).2; omega
  · exact (((o.later hxy).later hyl).base (by omega))
  · have h1 := olt b hb'
    have h2 := (World.ownsRow.lt (hg.own u hu) b hb2).2
    omega
  · have h1 := (World.ownsRow.lt hg.lst _ hb1).2
    have h2 := (World.ownsRow.lt fb.lst b hb2).1
    omega
  · have h2 := (World.ownsRow.lt fb.lst b hb1).2
    omega
  · rcases hM with h | ⟨v, _, hv, hvb⟩
    · exact h
    · have h1 := (World.ownsRow.lt (hg.own u hu) b hb1).2
      have h2 := (World.ownsRow.lt (fb.own v hv) b hvb).1
      omega
  · rcases hM with h | ⟨v, _, hv, hvb⟩
    · exact h
    · have h1 := olt b hb1
      have h2 := (World.ownsRow.lt (fb.own v hv) b hvb).1
      omega
/-- The paths are kept. -/
theorem keep_all {M : Nat → Prop} (B k s2 : Nat) (p : Option Addr) (c : Nat) (F : List (List Int)) (rv : Nat → Value) (x y : World) (hp : KPost (fun b => (Value.slice p F.length c).ownBlock = some b) M x B k y) (hM : M = MFrom (fun _ => False) F.length rv 0) (fb : FB x s2 (.slice p F.length c) F rv) (hBx : B ≤ x.heap.size) (hk : k < s2) (hB : B ≤ s2) (h1 : F.length ≤ 10) (h2 : ∀ v, v < F.length → (lat F v).length ≤ 20000) : Calls Try.prog 20 #[.pointer (some ⟨k, 0, none⟩), .slice p F.length c] y fun e w' => e = .returned (.tuple #[]) ∧ BagE w' B k ∧ Below B y w' ∧ Kp y w' := by
  subst hM
  obtain ⟨hbag, hbl, hkp, hsame⟩ := hp
  have hlt : ∀ b, (Value.slice p F.length c).ownBlock = some b → s2 ≤ b ∧ b < x.heap.size := fun b hb => World.ownsRow.lt fb.lst b hb
  have fb' : FB y s2 (.slice p F.length c) F rv := ⟨owns_same fb.lst fun g hg => hsame g hg (by have := hlt g hg; omega), fb.uniq, fun v hv => hkp.row (fb.own v hv) (by decide) (by decide)⟩
  refine (keepall20 (N := fun b => (Value.slice p F.length c).ownBlock = some b) (M := fun _ => False) B k s2 p F c rv y hbag (Nat.le_trans hBx hbl.size) hB fb' h2 (by omega) (fun a ha => ?_) (fun b hb => (World.ownsRow.lt fb'.lst b hb).2) (fun hb => ?_) (fun _ _ _ _ h => h)).mono ?_
  · rw [ha]; rfl
  · have := hlt k hb; omega
  · rintro e w' ⟨rfl, q1, q2, q3, _⟩
    exact ⟨rfl, q1.any, q2, q3⟩
end Go.Proofs.Ytaebbfilgfkckaa

namespace Go.Proofs.Ytaebbfilgfkckaa
open Go.RowKit Go.Sort
open Go
theorem fb_has {w : World} {B : Nat} {p : Option Addr} {c : Nat} {F : List (List Int)} {rv : Nat → Value} (h : FB w B (.slice p F.length c) F rv) (hl : ∀ v, v < F.length → (lat F v).length ≤ maxLen) : RHas w p F := by
  by_cases h0 : F = []
  · exact Or.inl h0
  have hpos : 0 < F.length := List.length_pos_iff.2 h0
  obtain ⟨g, rfl⟩ : ∃ g, p = some ⟨g, 0, none⟩ := by
    obtain ⟨_, ⟨h1, _⟩ | ⟨g1, c1, cur1, h1, _⟩⟩ := h.lst
    · injection h1 with _ e2 _; omega
    · injection h1 with e1 _ _; exact ⟨g1, e1⟩
  refine Or.inr ⟨g, 0, rfl, fun v hv => ?_⟩
  obtain ⟨p1, c1, e, m, hcap, hnil, _⟩ := (h.own v hv).form
  refine ⟨p1, c1, ?_, m, hl v hv, hcap, hnil⟩
  rw [Nat.zero_add, World.ownsRow.cellAt h.lst v (by omega), ← e]
  simp [hv]
theorem lies_prefix {w : World} {b off : Nat} {a c : List Pt} (h : Lies w b off (a ++ c)) : Lies w b off a := fun i hi => by
  have := h i (by rw [List.length_append]; omega)
  have e : at' (a ++ c) i = at' a i := by
    unfold at'
    rw [List.getD_eq_getElem?_getD, List.getD_eq_getElem?_getD, List.getElem?_append_left hi]
  rw [e] at this
  exact this
theorem ihas_prefix {w : World} {p : Option Addr} {a c : List Int} (h : IHas w p (a ++ c)) : IHas w p a := by
  rcases h with h | ⟨b, off, e, hL⟩
  · exact Or.inl (List.append_eq_nil_iff.1 h).1
  · exact Or.inr ⟨b, off, e, fun j hj => by
      have := hL j (by rw [List.length_append]; omega)
      rw [iat_apl hj] at this
      exact this⟩
theorem nown_other2 {W : World} {g k : Nat} {n : Int} {p : Option Addr} {l c : Nat} (h : NOwn W g n p l c) (hne : k ≠ g) (a b : Value) : NOwn ((W.setCell ⟨k, 0, none⟩ a).setCell ⟨k, 1, none⟩ b) g n p l c := (h.other hne a).other hne b
set_option maxRecDepth 100000 in
set_option maxHeartbeats 64000000 in
theorem all_walk (n : Int) (p q : Option Addr) (es : List Pt) (l : List Int) (cp cq : Nat) (w : World) (h : Has w p es) (k : IHas w q l) (hnp : p = none → cp = 0) (hnq : q = none → cq = 0) (hml : l.length ≤ maxLen) : Calls Try.prog 3 #[nv n p es.length cp, .slice q l.length cq] w fun e w' => e = .returned (.bool true) ∧ Below w.heap.size w w' := by
  obtain ⟨W, hW, hb0, a0⟩ := one_net w n p es.length cp
  have HB := hide hb0
  have HA := hide a0
  have HH := hide (h.later hb0)
  have HK := hide (k.later hb0)
  have HML := hide hml
  have HNP := hide hnp
  have HNQ := hide hnq
  have BG := hide (begun6 W)
  clear h k hb0 a0 hml hnp hnq
  go_enter Try.func3, Try.ntmps3
  go_upto_region 1 with fail
  rw [← hW]
  clear hW
  go_wp2_with fail
  refine BG.out.mono ?_
  rintro r w1 ⟨rfl, hb1⟩
  have HB1 := hide hb1
  have LG := hide (light9 n p es cp w1 (HH.out.later hb1))
  obtain ⟨q0, q1, _, _⟩ := HA.out.later hb1
  clear BG hb1
  go_upto_region 3 with fail
  go_wp2_with fail
  refine LG.out.mono ?_
  rintro r w2 ⟨rfl, hb2⟩
  have HB2 := hide (below_step HB1.out hb2)
  clear LG hb2 q0 q1
  have HE2 := hide (below_step HB.out HB2.out)
  have HLT : Hid (lightB n es = true → es.length ≤ 300) := fun h => by
    unfold lightB at h
    simp at h
    omega
  obtain ⟨lg, hlg⟩ : ∃ b, lightB n es = b := ⟨_, rfl⟩
  rw [hlg] at HLT ⊢
  clear hlg
  cases lg
  · go_wp2
    go_ret
    exact ⟨retB (by rfl), HE2.out⟩
  by_cases h4 : l.length ≤ 400
  rotate_left
  · go_wp2
    go_ret
    exact ⟨retB (by rfl), HE2.out⟩
  have hes : es.length ≤ 300 := HLT.out rfl
  have C8 := hide (may8 n p q es l cp cq w2 HML.out (HH.out.later HB2.out) (HK.out.later HB2.out))
  obtain ⟨q0, q1, _, _⟩ := HA.out.later HB2.out
  clear HLT HE2
  go_upto_region 5 with fail
  go_wp2_with fail
  refine C8.out.mono ?_
  rintro r w3 ⟨rfl, hb3⟩
  have HB3 := hide (below_step HB2.out hb3)
  obtain ⟨sE, hsE⟩ : ∃ x, subE n es l = x := ⟨_, rfl⟩
  have HSE := hide hsE
  rw [hsE]
  clear C8 hb3 hsE q0 q1
  obtain ⟨W4, hW4, hbX, aX⟩ := one_net w3 0 none 0 0
  have HB4 := hide (below_step HB3.out hbX)
  have HN4 := hide aX
  have HW4B := hide hbX
  have HWK : Hid (w.heap.size < w3.heap.size) := by
    have h1 : w.heap.size < W.heap.size := block_lt_of_cell HA.out.1
    have h2 := HB3.out.size
    show _ < _
    omega
  obtain ⟨kS, hkS⟩ : ∃ x, w3.heap.size = x := ⟨_, rfl⟩
  have HKS := hide hkS
  rw [hkS] at HN4 HWK
  obtain ⟨kb, hkb⟩ : ∃ x, w.heap.size = x := ⟨_, rfl⟩
  have HKB := hide hkb
  rw [hkb] at HA HWK ⊢
  clear hbX aX hkb
  by_cases h0 : sE = 0
  · subst h0
    go_upto_region 10 with fail
    rw [← hW4]
    try rw [hkS]
    clear hW4 hkS
    have C9 := hide (allU n p q es l cp cq W4 (HH.out.later HB4.out) (HK.out.later HB4.out) HSE.out)
    obtain ⟨q0, q1, _, _⟩ := HA.out.later HB4.out
    go_wp2_with fail
    refine C9.out.mono ?_
    rintro r w5 ⟨pN, cN, pP, cP, rfl, hn, hp, hb5⟩
    have HB5 := hide (below_step HB4.out hb5)
    have HB45 := hide hb5
    have HN5 := hide (HN4.out.later hb5)
    have HDN := hide hn
    have HDP := hide hp
    have C10 := hide (rshrinkU n p q es l cp cq w5 (HH.out.later HB5.out) (HK.out.later HB5.out) HSE.out)
    clear C9 hn hp hb5 q0 q1
    obtain ⟨q0, q1, _, _⟩ := HA.out.later HB5.out
    go_wp2_with fail
    refine C10.out.mono ?_
    rintro r w6 ⟨pS, cS, xe, rfl, ho, hb6⟩
    have HB6 := hide (below_step HB5.out hb6)
    have HB46 := hide (below_step HB45.out hb6)
    have HOS := hide ho
    obtain ⟨f0, f1, f2, f3⟩ := HN5.out.later hb6
    have hkl : kS < w5.heap.size := block_lt_of_cell HN5.out.1
    have hk6 : kS < w6.heap.size := block_lt_of_cell f0
    obtain ⟨Z, hZ⟩ : ∃ V, V = (w6.setCell ⟨kS, 0, none⟩ (.int .i64 (snI n es l))).setCell ⟨kS, 1, none⟩ (.slice pS (seI n es l).length cS) := ⟨_, rfl⟩
    have HNZ : Hid (NOwn Z kS (snI n es l) pS (seI n es l).length cS) := by show NOwn _ _ _ _ _ _; rw [hZ]; exact (HN5.out.later hb6).set _ _ _ _
    have HBZ : Hid (Below w3.heap.size w3 Z) := by
      show Below _ _ _
      rw [hZ]
      have h1 : Below w3.heap.size w3 w6 := by
        have a := HW4B.out
        exact below_step a HB46.out
      exact (h1.setCell (by have := HKS.out; show _ ≤ kS; omega) _).setCell (by have := HKS.out; show _ ≤ kS; omega) _
    have HWZ : Hid (Below W.heap.size W Z) := (HB3.out.trans (HBZ.out.mono HB3.out.size))
    have HSZ : Hid (Has Z pS (seI n es l)) := by
      have hx : (Value.slice pS (seI n es l).length cS).ownBlock ≠ some kS := fun e => by have := (World.ownsRow.lt HOS.out kS e).1; omega
      have o : Owns Z w5.heap.size (.slice pS (seI n es l).length cS) (seI n es l) := by
        rw [hZ]
        exact ownsRow_setCell_other (a := ⟨kS, 1, none⟩) (ownsRow_setCell_other (a := ⟨kS, 0, none⟩) HOS.out hx _) hx _
      exact has_of o rfl
    have hk4 : kS < W4.heap.size := block_lt_of_cell HN4.out.1
    have HDN : Hid (IHas Z pN (ndI n es l)) := by
      have := (((HDN.out.later hb6).set (i := 0) hk4 (.int .i64 (snI n es l))).set (i := 1) hk4 (.slice pS (seI n es l).length cS)).1
      rw [← hZ] at this
      exact this
    have HDP : Hid (RHas Z pP (ptI n es l)) := by
      have := (((HDP.out.later hb6).set (i := 0) hk4 (.int .i64 (snI n es l))).set (i := 1) hk4 (.slice pS (seI n es l).length cS)).has
      rw [← hZ] at this
      exact this
    go_upto_region 13 with fail
    rw [← hZ]
    clear hZ C10 ho hb6 f0 f1 f2 f3 q0 q1 HOS
    obtain ⟨KN, hKN⟩ : ∃ x, knI n es l = x := ⟨_, rfl⟩
    have HKN := hide hKN
    try rw [hKN]
    clear hKN
    by_cases hk0 : KN = 0
    · have HOB : Hid (obE n es l = 14) := by
        show _ = _
        have h1 := HKN.out
        rw [hk0] at h1
        unfold obE
        rw [if_neg (by rw [HSE.out]; simp), if_neg fun h => ?_]
        have hi : isK n es l := ⟨HSE.out, h⟩
        unfold knI at h1
        rw [if_pos hi] at h1
        exact h.1 h1
      subst hk0
      obtain ⟨dN, hdN⟩ : ∃ x, (ndI n es l).length = x := ⟨_, rfl⟩
      obtain ⟨dP, hdP⟩ : ∃ x, (ptI n es l).length = x := ⟨_, rfl⟩
      obtain ⟨dS, hdS⟩ : ∃ x, (seI n es l).length = x := ⟨_, rfl⟩
      obtain ⟨SN, hSN⟩ : ∃ x, snI n es l = x := ⟨_, rfl⟩
      have HdN := hide hdN
      have HdP := hide hdP
      have HdS := hide hdS
      have HSN := hide hSN
      rw [hdS, hSN] at HNZ
      try rw [hdN, hdP]
      clear hdN hdP hdS hSN
      have TW := hide (twin11 n p es cp Z HNP.out (by omega) (HH.out.later HWZ.out))
      obtain ⟨q0, q1, _, _⟩ := HA.out.later HWZ.out
      go_upto_region 13 with fail
      go_wp2_with fail
      refine TW.out.mono ?_
      rintro r t1 ⟨gt, ct, rfl, hot, hct, hbt⟩
      have HT1 := hide (below_step HWZ.out hbt)
      have HZT := hide hbt
      have HLI : Hid (Lies t1 gt 0 (es ++ [mk])) := by
        rcases has_of hot (by simp) with e | ⟨b, off, e, hL⟩
        · simp at e
        · cases e; exact hL
      have HCT := hide hct
      obtain ⟨T2, hT2, hbT2, aT2⟩ := one_net t1 n (some ⟨gt, 0, none⟩) es.length ct
      have HT2 := hide (below_step HT1.out hbT2)
      have HZ2 := hide (below_step HZT.out hbT2)
      have HN2 := hide aT2
      obtain ⟨v1, E, ea, o1, gr1⟩ := append_ints (w := T2) (base := T2.heap.size) (v := .slice none 0 0) (l := []) (IOwns.nil _ _) q cq l HNQ.out (HK.out.later HT2.out) (Nat.le_refl _) (by simp; omega)
      have hbE : Below T2.heap.size T2 E := below_grown (Below.refl _ _) (IOwns.nil T2 T2.heap.size) (Nat.le_refl _) (Nat.le_refl _) gr1
      rw [List.nil_append] at o1
      obtain ⟨p1, c1, rfl, _⟩ := o1.form
      obtain ⟨v2, D, eb, o2, hbD⟩ := push_int o1 (-5) hbE.size (by omega)
      obtain ⟨p2, c2, rfl, k2, k3, k4, _⟩ := o2.form
      have hl5 : (l ++ [(-5 : Int)]).length = l.length + 1 := by simp
      rw [hl5] at eb o2 k3
      have HKD : Hid (IHas D p2 l) := ihas_prefix k2
      have HTD := hide (hbE.trans hbD)
      have HD0 := hide (HT2.out.trans (HTD.out.mono HT2.out.size))
      have HZD := hide (HZ2.out.trans (HTD.out.mono HZ2.out.size))
      have HLD : Hid (Lies D gt 0 (es ++ [mk])) := (HLI.out.later hbT2).later HTD.out
      have HND2 := hide (HN2.out.later HTD.out)
      have hc2 : l.length ≤ c2 := by omega
      have HDZ : Hid (Below w3.heap.size w3 D) := HBZ.out.trans (HZD.out.mono HBZ.out.size)
      obtain ⟨X, hX⟩ : ∃ X, X = D.alloc (.cells #[.slice none 0 0, .int .i64 0] 38) := ⟨_, rfl⟩
      have hbXX : Below D.heap.size D X := by rw [hX]; go_grown
      have HBAG : Hid (BagE X D.heap.size D.heap.size) := ⟨.slice none 0 0, 0, fun _ => .slice none 0 0, fun _ => [], 0, by rw [hX]; exact World.ownsRow_lit D #[.slice none 0 0, .int .i64 0] 1 (Nat.zero_le _) (by unfold maxLen; omega) rfl, Nat.le_refl _, World.ownsRow_nil _ _ _ _, fun u v j hu => by omega, fun v hv => by omega, fun v hv => by omega, by omega, by omega⟩
      have HXX := hide hbXX
      obtain ⟨kT, hkT⟩ : ∃ x, t1.heap.size = x := ⟨_, rfl⟩
      have HKT := hide hkT
      rw [hkT] at HN2 HND2
      clear TW hot hct hbt hbT2 aT2 o1 gr1 hbE o2 hbD k2 k3 k4 hl5 hbXX q0 q1
      go_upto_region 17 with fail
      try rw [hkT]
      rw [← hT2]
      clear hT2 hkT
      go_wp2_with (at_builtin; first | refine wpList_run_append rfl (.const (.slice none 0 0)) (.tmp 60) 25 rfl 25 rfl _ _ _ E rfl rfl ea ?_ | refine wpList_run_append rfl (.tmp 61) (.tmp 62) 25 rfl 25 rfl _ _ _ D rfl rfl eb ?_)
      rw [← hX]
      obtain ⟨B, hB⟩ : ∃ B, D.heap.size = B := ⟨_, rfl⟩
      have HB' := hide hB
      rw [hB] at HBAG ⊢
      clear hX ea eb hB hc2
      have HG0 : Hid (Below D.heap.size D X ∧ BagE X B B) := ⟨HXX.out, HBAG.out⟩
      have HHT : Hid (∀ V, Below D.heap.size D V → Has V (some ⟨gt, 0, none⟩) es) := fun V hV => Or.inr ⟨gt, 0, rfl, lies_prefix (HLD.out.later hV)⟩
      have K12 : Hid (∀ V, Below D.heap.size D V → Calls Try.prog 12 #[nv n (some ⟨gt, 0, none⟩) es.length ct, .slice p2 l.length c2] V fun e w' => e = .returned (.tuple #[.int .i64 0, .int .i64 0]) ∧ Below V.heap.size V w') := fun V hV => by
        have := kind12 n (some ⟨gt, 0, none⟩) p2 es l ct c2 V HML.out (HHT.out V hV) (HKD.out.later hV)
        rw [HSE.out, HKN.out] at this
        exact this
      have K13 : Hid (∀ V, Below D.heap.size D V → Calls Try.prog 13 #[nv n (some ⟨gt, 0, none⟩) es.length ct, .slice p2 l.length c2] V fun e w' => ∃ p c, e = .returned (.tuple #[.slice p dN c, .int .i64 14]) ∧ IOwns w' V.heap.size (.slice p dN c) (ndI n es l) ∧ Below V.heap.size V w') := fun V hV => by
        have := branchU n (some ⟨gt, 0, none⟩) p2 es l ct c2 V HML.out (HHT.out V hV) (HKD.out.later hV)
        rw [HOB.out, HdN.out] at this
        exact this
      have K14 : Hid (∀ V, Below D.heap.size D V → Calls Try.prog 14 #[nv n (some ⟨gt, 0, none⟩) es.length ct, .slice p2 l.length c2] V fun e w' => ∃ p c rv, e = .returned (.tuple #[.slice p dP c, .int .i64 14]) ∧ FB w' V.heap.size (.slice p dP c) (ptI n es l) rv ∧ Below V.heap.size V w') := fun V hV => by
        have := pathsU n (some ⟨gt, 0, none⟩) p2 es l ct c2 V HML.out (HHT.out V hV) (HKD.out.later hV)
        rw [HOB.out, HdP.out] at this
        exact this
      have K15 : Hid (∀ V, Below D.heap.size D V → Calls Try.prog 15 #[nv n (some ⟨gt, 0, none⟩) es.length ct, .slice p2 l.length c2] V fun e w' => ∃ p c, e = .returned (.tuple #[nv SN p dS c, .int .i64 14]) ∧ Owns w' V.heap.size (.slice p dS c) (seI n es l) ∧ Below V.heap.size V w') := fun V hV => by
        have := shrinkU n (some ⟨gt, 0, none⟩) p2 es l ct c2 V HML.out (HHT.out V hV) (HKD.out.later hV)
        rw [HOB.out, HdS.out, HSN.out] at this
        exact this
      have KI : Hid (∀ V p c, Below D.heap.size D V → IHas V p (ndI n es l) → Calls Try.prog 16 #[.slice p dN c, .slice pN dN cN] V fun e w' => e = .returned (.bool true) ∧ Below V.heap.size V w') := fun V p c hV hp => by
        have := ints30 p pN (ndI n es l) (ndI n es l) c cN V (by have := ndI_small n es l; unfold maxLen; omega) hp (HDN.out.later (HZD.out.trans (hV.mono HZD.out.size) |> fun h => h))
        rw [HdN.out, decide_eq_true rfl] at this
        exact this
      have KL : Hid (∀ V p c, Below D.heap.size D V → RHas V p (ptI n es l) → Calls Try.prog 17 #[.slice p dP c, .slice pP dP cP] V fun e w' => e = .returned (.bool true) ∧ Below V.heap.size V w') := fun V p c hV hp => by
        have := lists29 p pP (ptI n es l) (ptI n es l) c cP V (by have := (ptI_small n es l).1; unfold maxLen; omega) hp (HDP.out.later (HZD.out.trans (hV.mono HZD.out.size) |> fun h => h))
        rw [HdP.out, decide_eq_true rfl] at this
        exact this
      have KS : Hid (∀ V p c, Below D.heap.size D V → Has V p (seI n es l) → Calls Try.prog 18 #[nv SN p dS c, nv SN pS dS cS] V fun e w' => e = .returned (.bool true) ∧ Below V.heap.size V w') := fun V p c hV hp => by
        have := same22 SN SN p pS (seI n es l) (seI n es l) c cS V (by have := seI_small n es l; omega) hp (HSZ.out.later (HZD.out.trans (hV.mono HZD.out.size) |> fun h => h))
        have e : sameB SN SN (seI n es l) (seI n es l) = true := by unfold sameB; simp
        rw [HdS.out, e] at this
        exact this
      have HNS : Hid (∀ V, Below D.heap.size D V → (V.cell? ⟨kS, 0, none⟩ = some (.int .i64 SN) ∧ V.cell? ⟨kS, 1, none⟩ = some (.slice pS dS cS)) ∧ (V.cell? ⟨kT, 0, none⟩ = some (.int .i64 n) ∧ V.cell? ⟨kT, 1, none⟩ = some (.slice (some ⟨gt, 0, none⟩) es.length ct))) := fun V hV => by
        obtain ⟨a0, a1, _, _⟩ := HNZ.out.later (HZD.out.trans (hV.mono HZD.out.size) |> fun h => h)
        obtain ⟨b0, b1, _, _⟩ := HND2.out.later hV
        exact ⟨⟨a0, a1⟩, b0, b1⟩
      have HGTK : Hid (Below W.heap.size W D) := HD0.out
      go_wp2_with fail
      go_loopw [14] (fun t14 wr => ∃ i : Nat, i ≤ 2 ∧ t14 = .int .i64 i ∧ Hid (Below D.heap.size D wr ∧ BagE wr B B)) (fun t14 _ => 2 - (intOf t14).toNat)
      case atStart => exact ⟨0, by omega, rfl, HG0.out⟩
      case round =>
        obtain ⟨i, hi, rfl, HGr⟩ := hrel
        clear HG0
        by_cases hi2 : i < 2
        · have j1 : (i : Int) < 2 := by omega
          obtain ⟨⟨s0, s1⟩, u0, u1⟩ := HNS.out wr HGr.out.1
          have C1 := hide (K12.out wr HGr.out.1)
          go_wp2_with fail
          refine C1.out.mono ?_
          rintro r y1 ⟨rfl, hb⟩
          have HY1 := hide (below_step HGr.out.1 hb)
          have HR1 := hide hb
          clear C1 hb s0 s1 u0 u1
          obtain ⟨⟨s0, s1⟩, u0, u1⟩ := HNS.out y1 HY1.out
          have C2 := hide (K13.out y1 HY1.out)
          go_wp2_with fail
          refine C2.out.mono ?_
          rintro r y2 ⟨pa, ca, rfl, hoa, hb⟩
          have HOA := hide hoa
          have HY2 := hide (below_step HY1.out hb)
          have HR2 := hide (below_step HR1.out hb)
          clear C2 hoa hb s0 s1 u0 u1
          obtain ⟨⟨s0, s1⟩, u0, u1⟩ := HNS.out y2 HY2.out
          have C3 := hide (K14.out y2 HY2.out)
          go_wp2_with fail
          refine C3.out.mono ?_
          rintro r y3 ⟨pc, cc, rvc, rfl, hfb, hb⟩
          have HFB := hide hfb
          have HY3 := hide (below_step HY2.out hb)
          have HS3 := hide hb
          clear C3 hfb hb s0 s1 u0 u1
          obtain ⟨⟨s0, s1⟩, u0, u1⟩ := HNS.out y3 HY3.out
          have C4 := hide (K15.out y3 HY3.out)
          go_wp2_with fail
          refine C4.out.mono ?_
          rintro r y4 ⟨px, cx, rfl, hox, hb⟩
          have HOX := hide hox
          have HY4 := hide (below_step HY3.out hb)
          have HS4 := hide (below_step HS3.out hb)
          have HS34 := hide hb
          have HF4 := hide (HFB.out.later hb)
          obtain ⟨y5, hy5⟩ : ∃ V, V = y4.alloc (.cells #[.int .i64 SN, .slice px dS cx] 24) := ⟨_, rfl⟩
          have hb45 : Below y4.heap.size y4 y5 := by rw [hy5]; go_grown
          have SX : Hid (SBox y5 y4.heap.size SN (.slice px dS cx)) := by show SBox _ _ _ _; rw [hy5]; exact SBox.made _ _ _
          have HY5 := hide (below_step HY4.out hb45)
          have HS5 := hide (below_step HS4.out hb45)
          have HS35 := hide (below_step HS34.out hb45)
          have HF5 := hide (HF4.out.later hb45)
          have HX5 := hide (HOX.out.later hb45)
          clear C4 hox hb hb45 s0 s1 u0 u1 HFB HF4 HOX
          go_upto_region 26 with fail
          rw [← hy5]
          clear hy5
          obtain ⟨kx, hkx⟩ : ∃ x, y4.heap.size = x := ⟨_, rfl⟩
          rw [hkx] at SX ⊢
          clear hkx
          obtain ⟨⟨s0, s1⟩, u0, u1⟩ := HNS.out y5 HY5.out
          obtain ⟨x0, x1, _, _⟩ := SX.out.cell
          have C5 := hide (KI.out y5 pa ca HY5.out (iowns_has (HOA.out.later HS5.out)))
          go_wp2_with fail
          refine C5.out.mono ?_
          rintro r y6 ⟨rfl, hb⟩
          have HY6 := hide (below_step HY5.out hb)
          have HS6 := hide (below_step HS5.out hb)
          have HS36 := hide (below_step HS35.out hb)
          have HF6 := hide (HF5.out.later hb)
          have HX6 := hide (HX5.out.later hb)
          have SX6 := hide (SX.out.later hb)
          clear C5 hb s0 s1 u0 u1 x0 x1 HF5 HX5 SX
          obtain ⟨⟨s0, s1⟩, u0, u1⟩ := HNS.out y6 HY6.out
          obtain ⟨x0, x1, _, _⟩ := SX6.out.cell
          have C6 := hide (KL.out y6 pc cc HY6.out (fb_has (by rw [HdP.out]; exact HF6.out) fun v hv => by have := (ptI_small n es l).2 v hv; unfold maxLen; omega))
          go_wp2_with fail
          refine C6.out.mono ?_
          rintro r y7 ⟨rfl, hb⟩
          have HY7 := hide (below_step HY6.out hb)
          have HS7 := hide (below_step HS6.out hb)
          have HS37 := hide (below_step HS36.out hb)
          have HF7 := hide (HF6.out.later hb)
          have HX7 := hide (HX6.out.later hb)
          have SX7 := hide (SX6.out.later hb)
          clear C6 hb s0 s1 u0 u1 x0 x1 HF6 HX6 SX6
          obtain ⟨⟨s0, s1⟩, u0, u1⟩ := HNS.out y7 HY7.out
          obtain ⟨x0, x1, _, _⟩ := SX7.out.cell
          have C7 := hide (KS.out y7 px cx HY7.out (has_of HX7.out HdS.out))
          go_wp2_with fail
          refine C7.out.mono ?_
          rintro r y8 ⟨rfl, hb⟩
          have HY8 := hide (below_step HY7.out hb)
          have HS8 := hide (below_step HS7.out hb)
          have HS38 := hide (below_step HS37.out hb)
          have HF8 := hide (HF7.out.later hb)
          have HX8 := hide (HX7.out.later hb)
          have SX8 := hide (SX7.out.later hb)
          have HBW : Hid (B < wr.heap.size) := by
            obtain ⟨lv, m, rv0, L0, sz, hg⟩ := HGr.out.2
            exact (World.ownsRow.lt hg.box B rfl).2
          have C8 := keep_one B B y1.heap.size pa (ndI n es l) ca y2.heap.size (.slice pc dP cc) (ptI n es l) rvc wr y2 y8 HGr.out.2 HR2.out HR1.out.size (by rw [HdN.out]; exact HOA.out) (by have := ndI_small n es l; omega) (Nat.le_refl _) HS8.out HF8.out
          rw [HdN.out] at C8
          have C8 := hide C8
          clear C7 hb s0 s1 u0 u1 x0 x1 HF7 HX7 SX7
          go_wp2_with fail
          refine C8.out.mono ?_
          rintro r z1 ⟨rfl, hkp⟩
          have hyl : Below y8.heap.size y8 (y8.alloc (.cells #[.slice pa dN ca] 25)) := by go_grown
          obtain ⟨z0, hz0⟩ : ∃ V, y8.alloc (.cells #[.slice pa dN ca] 25) = V := ⟨_, rfl⟩
          rw [hz0] at hkp hyl
          have HZ0 := hide (below_step HY8.out hyl)
          have HFZ := hide (HF8.out.later hyl)
          have HXZ := hide (HX8.out.later hyl)
          have SXZ := hide (SX8.out.later hyl)
          have hsz2 : y2.heap.size ≤ z0.heap.size := by have h1 := HS8.out.size; have h2 := hyl.size; omega
          have hsz3 : y3.heap.size ≤ z0.heap.size := by
            have h1 := HS38.out.size
            have h2 := hyl.size
            omega
          have HKP := hide hkp
          have C9 := keep_all (M := MFrom (fun _ => False) (ptI n es l).length rvc 0) B B y2.heap.size pc cc (ptI n es l) rvc z0 z1 (by rw [HdP.out] at hkp ⊢; exact hkp) rfl (by rw [HdP.out]; exact HFZ.out) (by have h1 := HBW.out; have h2 := HR2.out.size; omega) (by have h1 := HBW.out; have h2 := HR2.out.size; omega) (by have h1 := HBW.out; have h2 := HR2.out.size; omega) (ptI_small n es l).1 (ptI_small n es l).2
          rw [HdP.out] at C9
          have C9 := hide C9
          clear C8 hyl hz0 hkp HF8 HX8 SX8
          go_wp2_with fail
          refine C9.out.mono ?_
          rintro r z2 ⟨rfl, hbg, hbl, hkp2⟩
          have HKB2 := hide (HKP.out.2.2.1.trans hkp2)
          have HZ2' : Hid (Below D.heap.size D z2) := by
            have h1 := HKP.out.2.1
            have h2 := hbl
            rw [← HB'.out] at h1 h2
            exact (HZ0.out.trans h1).trans h2
          have HX2 : Hid (Owns z2 y3.heap.size (.slice px dS cx) (seI n es l)) := HKB2.out.row HXZ.out (by decide) (by decide)
          have SX2 : Hid (SBox z2 kx SN (.slice px dS cx)) := HKB2.out.row SXZ.out (by decide) (by decide)
          have HBG2 := hide hbg
          have hs4 : y3.heap.size ≤ z2.heap.size := by have h1 := HKP.out.2.1.size; have h2 := hbl.size; omega
          have C10 := spoil43 SN px (seI n es l) cx y3.heap.size z2 (by rw [HdS.out]; exact HX2.out) hs4 (by have := seI_small n es l; omega)
          rw [HdS.out] at C10
          have C10 := hide C10
          obtain ⟨x0, x1, _, _⟩ := SX2.out.cell
          clear C9 hbg hbl hkp2
          go_wp2_with fail
          refine C10.out.mono ?_
          rintro r z3 ⟨rfl, fr⟩
          have HFIN : Hid (Below D.heap.size D z3 ∧ BagE z3 B B) := by
            refine ⟨HZ2'.out.trans (fr.below HZ2'.out.size fun j hj => ?_), HBG2.out.spoil HX2.out fr⟩
            have h1 := (World.ownsRow.lt HX2.out j hj).1
            have h2 := HY3.out.size
            omega
          clear C10 fr x0 x1
          go_wp2
          go_roundw
          case rel => exact ⟨i + 1, by omega, by go_num, HFIN.out⟩
          case measure => simp [intOf]; omega
        · have j1 : ¬ (i : Int) < 2 := by omega
          obtain ⟨lv, m, rv0, L0, sz, hg⟩ := HGr.out.2
          have hBw : B ≤ wr.heap.size := by have := (World.ownsRow.lt hg.box B rfl).2; omega
          have AP := hide (apart24 B B wr hg hBw)
          clear hg
          go_wp2_with fail
          refine AP.out.mono ?_
          rintro r v1 ⟨rfl, hb⟩
          have HV1 : Hid (Below D.heap.size D v1) := by
            rw [← HB'.out] at hb
            exact HGr.out.1.trans hb
          clear AP hb
          have HVW := hide (HGTK.out.trans (HV1.out.mono HGTK.out.size))
          obtain ⟨⟨s0, s1⟩, u0, u1⟩ := HNS.out v1 HV1.out
          obtain ⟨q0, q1, _, _⟩ := HA.out.later HVW.out
          have KP := hide (kept17 n gt ct p es cp v1 (by omega) HCT.out (HLD.out.later HV1.out) (HH.out.later HVW.out))
          go_wp2_with fail
          refine KP.out.mono ?_
          rintro r v2 ⟨rfl, hb⟩
          have HV2 := hide (below_step HVW.out hb)
          have hi2' := ints30 p2 q l l c2 cq v2 HML.out ((HKD.out.later HV1.out).later hb) (HK.out.later (below_step HVW.out hb))
          rw [decide_eq_true rfl] at hi2'
          have IT := hide hi2'
          clear KP hb s0 s1 u0 u1 q0 q1 hi2'
          go_wp2_with fail
          refine IT.out.mono ?_
          rintro r v3 ⟨rfl, hb⟩
          have HE := hide (HB.out.trans ((below_step HV2.out hb).mono HB.out.size))
          clear IT hb
          go_wp2
          go_ret
          exact ⟨retB (by rfl), HE.out⟩

    · have HOB : Hid (obE n es l = 0) := by
        show _ = _
        have h1 := HKN.out
        unfold obE
        rw [if_neg (by rw [HSE.out]; simp), if_pos]
        by_cases h : okS n.toNat (pick es l)
        · exact h
        · unfold knI at h1
          rw [if_neg fun hi => h hi.2] at h1
          exact absurd h1.symm hk0
      have k0 : (KN == 0) = false := by rw [beq_eq_false_iff_ne]; exact hk0
      obtain ⟨dN, hdN⟩ : ∃ x, (ndI n es l).length = x := ⟨_, rfl⟩
      obtain ⟨dP, hdP⟩ : ∃ x, (ptI n es l).length = x := ⟨_, rfl⟩
      obtain ⟨dS, hdS⟩ : ∃ x, (seI n es l).length = x := ⟨_, rfl⟩
      obtain ⟨SN, hSN⟩ : ∃ x, snI n es l = x := ⟨_, rfl⟩
      have HdN := hide hdN
      have HdP := hide hdP
      have HdS := hide hdS
      have HSN := hide hSN
      rw [hdS, hSN] at HNZ
      try rw [hdN, hdP]
      clear hdN hdP hdS hSN
      have TW := hide (twin11 n p es cp Z HNP.out (by omega) (HH.out.later HWZ.out))
      obtain ⟨q0, q1, _, _⟩ := HA.out.later HWZ.out
      go_upto_region 13 with fail
      go_wp2_with fail
      refine TW.out.mono ?_
      rintro r t1 ⟨gt, ct, rfl, hot, hct, hbt⟩
      have HT1 := hide (below_step HWZ.out hbt)
      have HZT := hide hbt
      have HLI : Hid (Lies t1 gt 0 (es ++ [mk])) := by
        rcases has_of hot (by simp) with e | ⟨b, off, e, hL⟩
        · simp at e
        · cases e; exact hL
      have HCT := hide hct
      obtain ⟨T2, hT2, hbT2, aT2⟩ := one_net t1 n (some ⟨gt, 0, none⟩) es.length ct
      have HT2 := hide (below_step HT1.out hbT2)
      have HZ2 := hide (below_step HZT.out hbT2)
      have HN2 := hide aT2
      obtain ⟨v1, E, ea, o1, gr1⟩ := append_ints (w := T2) (base := T2.heap.size) (v := .slice none 0 0) (l := []) (IOwns.nil _ _) q cq l HNQ.out (HK.out.later HT2.out) (Nat.le_refl _) (by simp; omega)
      have hbE : Below T2.heap.size T2 E := below_grown (Below.refl _ _) (IOwns.nil T2 T2.heap.size) (Nat.le_refl _) (Nat.le_refl _) gr1
      rw [List.nil_append] at o1
      obtain ⟨p1, c1, rfl, _⟩ := o1.form
      obtain ⟨v2, D, eb, o2, hbD⟩ := push_int o1 (-5) hbE.size (by omega)
      obtain ⟨p2, c2, rfl, k2, k3, k4, _⟩ := o2.form
      have hl5 : (l ++ [(-5 : Int)]).length = l.length + 1 := by simp
      rw [hl5] at eb o2 k3
      have HKD : Hid (IHas D p2 l) := ihas_prefix k2
      have HTD := hide (hbE.trans hbD)
      have HD0 := hide (HT2.out.trans (HTD.out.mono HT2.out.size))
      have HZD := hide (HZ2.out.trans (HTD.out.mono HZ2.out.size))
      have HLD : Hid (Lies D gt 0 (es ++ [mk])) := (HLI.out.later hbT2).later HTD.out
      have HND2 := hide (HN2.out.later HTD.out)
      have hc2 : l.length ≤ c2 := by omega
      have HDZ : Hid (Below w3.heap.size w3 D) := HBZ.out.trans (HZD.out.mono HBZ.out.size)
      obtain ⟨X, hX⟩ : ∃ X, X = D.alloc (.cells #[.slice none 0 0, .int .i64 0] 38) := ⟨_, rfl⟩
      have hbXX : Below D.heap.size D X := by rw [hX]; go_grown
      have HBAG : Hid (BagE X D.heap.size D.heap.size) := ⟨.slice none 0 0, 0, fun _ => .slice none 0 0, fun _ => [], 0, by rw [hX]; exact World.ownsRow_lit D #[.slice none 0 0, .int .i64 0] 1 (Nat.zero_le _) (by unfold maxLen; omega) rfl, Nat.le_refl _, World.ownsRow_nil _ _ _ _, fun u v j hu => by omega, fun v hv => by omega, fun v hv => by omega, by omega, by omega⟩
      have HXX := hide hbXX
      obtain ⟨kT, hkT⟩ : ∃ x, t1.heap.size = x := ⟨_, rfl⟩
      have HKT := hide hkT
      rw [hkT] at HN2 HND2
      clear TW hot hct hbt hbT2 aT2 o1 gr1 hbE o2 hbD k2 k3 k4 hl5 hbXX q0 q1
      go_upto_region 17 with fail
      try rw [hkT]
      rw [← hT2]
      clear hT2 hkT
      go_wp2_with (at_builtin; first | refine wpList_run_append rfl (.const (.slice none 0 0)) (.tmp 60) 25 rfl 25 rfl _ _ _ E rfl rfl ea ?_ | refine wpList_run_append rfl (.tmp 61) (.tmp 62) 25 rfl 25 rfl _ _ _ D rfl rfl eb ?_)
      rw [← hX]
      obtain ⟨B, hB⟩ : ∃ B, D.heap.size = B := ⟨_, rfl⟩
      have HB' := hide hB
      rw [hB] at HBAG ⊢
      clear hX ea eb hB hc2
      have HG0 : Hid (Below D.heap.size D X ∧ BagE X B B) := ⟨HXX.out, HBAG.out⟩
      have HHT : Hid (∀ V, Below D.heap.size D V → Has V (some ⟨gt, 0, none⟩) es) := fun V hV => Or.inr ⟨gt, 0, rfl, lies_prefix (HLD.out.later hV)⟩
      have K12 : Hid (∀ V, Below D.heap.size D V → Calls Try.prog 12 #[nv n (some ⟨gt, 0, none⟩) es.length ct, .slice p2 l.length c2] V fun e w' => e = .returned (.tuple #[.int .i64 KN, .int .i64 0]) ∧ Below V.heap.size V w') := fun V hV => by
        have := kind12 n (some ⟨gt, 0, none⟩) p2 es l ct c2 V HML.out (HHT.out V hV) (HKD.out.later hV)
        rw [HSE.out, HKN.out] at this
        exact this
      have K13 : Hid (∀ V, Below D.heap.size D V → Calls Try.prog 13 #[nv n (some ⟨gt, 0, none⟩) es.length ct, .slice p2 l.length c2] V fun e w' => ∃ p c, e = .returned (.tuple #[.slice p dN c, .int .i64 0]) ∧ IOwns w' V.heap.size (.slice p dN c) (ndI n es l) ∧ Below V.heap.size V w') := fun V hV => by
        have := branchU n (some ⟨gt, 0, none⟩) p2 es l ct c2 V HML.out (HHT.out V hV) (HKD.out.later hV)
        rw [HOB.out, HdN.out] at this
        exact this
      have K14 : Hid (∀ V, Below D.heap.size D V → Calls Try.prog 14 #[nv n (some ⟨gt, 0, none⟩) es.length ct, .slice p2 l.length c2] V fun e w' => ∃ p c rv, e = .returned (.tuple #[.slice p dP c, .int .i64 0]) ∧ FB w' V.heap.size (.slice p dP c) (ptI n es l) rv ∧ Below V.heap.size V w') := fun V hV => by
        have := pathsU n (some ⟨gt, 0, none⟩) p2 es l ct c2 V HML.out (HHT.out V hV) (HKD.out.later hV)
        rw [HOB.out, HdP.out] at this
        exact this
      have K15 : Hid (∀ V, Below D.heap.size D V → Calls Try.prog 15 #[nv n (some ⟨gt, 0, none⟩) es.length ct, .slice p2 l.length c2] V fun e w' => ∃ p c, e = .returned (.tuple #[nv SN p dS c, .int .i64 0]) ∧ Owns w' V.heap.size (.slice p dS c) (seI n es l) ∧ Below V.heap.size V w') := fun V hV => by
        have := shrinkU n (some ⟨gt, 0, none⟩) p2 es l ct c2 V HML.out (HHT.out V hV) (HKD.out.later hV)
        rw [HOB.out, HdS.out, HSN.out] at this
        exact this
      have KI : Hid (∀ V p c, Below D.heap.size D V → IHas V p (ndI n es l) → Calls Try.prog 16 #[.slice p dN c, .slice pN dN cN] V fun e w' => e = .returned (.bool true) ∧ Below V.heap.size V w') := fun V p c hV hp => by
        have := ints30 p pN (ndI n es l) (ndI n es l) c cN V (by have := ndI_small n es l; unfold maxLen; omega) hp (HDN.out.later (HZD.out.trans (hV.mono HZD.out.size) |> fun h => h))
        rw [HdN.out, decide_eq_true rfl] at this
        exact this
      have KL : Hid (∀ V p c, Below D.heap.size D V → RHas V p (ptI n es l) → Calls Try.prog 17 #[.slice p dP c, .slice pP dP cP] V fun e w' => e = .returned (.bool true) ∧ Below V.heap.size V w') := fun V p c hV hp => by
        have := lists29 p pP (ptI n es l) (ptI n es l) c cP V (by have := (ptI_small n es l).1; unfold maxLen; omega) hp (HDP.out.later (HZD.out.trans (hV.mono HZD.out.size) |> fun h => h))
        rw [HdP.out, decide_eq_true rfl] at this
        exact this
      have KS : Hid (∀ V p c, Below D.heap.size D V → Has V p (seI n es l) → Calls Try.prog 18 #[nv SN p dS c, nv SN pS dS cS] V fun e w' => e = .returned (.bool true) ∧ Below V.heap.size V w') := fun V p c hV hp => by
        have := same22 SN SN p pS (seI n es l) (seI n es l) c cS V (by have := seI_small n es l; omega) hp (HSZ.out.later (HZD.out.trans (hV.mono HZD.out.size) |> fun h => h))
        have e : sameB SN SN (seI n es l) (seI n es l) = true := by unfold sameB; simp
        rw [HdS.out, e] at this
        exact this
      have HNS : Hid (∀ V, Below D.heap.size D V → (V.cell? ⟨kS, 0, none⟩ = some (.int .i64 SN) ∧ V.cell? ⟨kS, 1, none⟩ = some (.slice pS dS cS)) ∧ (V.cell? ⟨kT, 0, none⟩ = some (.int .i64 n) ∧ V.cell? ⟨kT, 1, none⟩ = some (.slice (some ⟨gt, 0, none⟩) es.length ct))) := fun V hV => by
        obtain ⟨a0, a1, _, _⟩ := HNZ.out.later (HZD.out.trans (hV.mono HZD.out.size) |> fun h => h)
        obtain ⟨b0, b1, _, _⟩ := HND2.out.later hV
        exact ⟨⟨a0, a1⟩, b0, b1⟩
      have HGTK : Hid (Below W.heap.size W D) := HD0.out
      go_wp2_with fail
      go_loopw [14] (fun t14 wr => ∃ i : Nat, i ≤ 2 ∧ t14 = .int .i64 i ∧ Hid (Below D.heap.size D wr ∧ BagE wr B B)) (fun t14 _ => 2 - (intOf t14).toNat)
      case atStart => exact ⟨0, by omega, rfl, HG0.out⟩
      case round =>
        obtain ⟨i, hi, rfl, HGr⟩ := hrel
        clear HG0
        by_cases hi2 : i < 2
        · have j1 : (i : Int) < 2 := by omega
          obtain ⟨⟨s0, s1⟩, u0, u1⟩ := HNS.out wr HGr.out.1
          have C1 := hide (K12.out wr HGr.out.1)
          go_wp2_with fail
          refine C1.out.mono ?_
          rintro r y1 ⟨rfl, hb⟩
          have HY1 := hide (below_step HGr.out.1 hb)
          have HR1 := hide hb
          clear C1 hb s0 s1 u0 u1
          obtain ⟨⟨s0, s1⟩, u0, u1⟩ := HNS.out y1 HY1.out
          have C2 := hide (K13.out y1 HY1.out)
          go_wp2_with fail
          refine C2.out.mono ?_
          rintro r y2 ⟨pa, ca, rfl, hoa, hb⟩
          have HOA := hide hoa
          have HY2 := hide (below_step HY1.out hb)
          have HR2 := hide (below_step HR1.out hb)
          clear C2 hoa hb s0 s1 u0 u1
          obtain ⟨⟨s0, s1⟩, u0, u1⟩ := HNS.out y2 HY2.out
          have C3 := hide (K14.out y2 HY2.out)
          go_wp2_with fail
          refine C3.out.mono ?_
          rintro r y3 ⟨pc, cc, rvc, rfl, hfb, hb⟩
          have HFB := hide hfb
          have HY3 := hide (below_step HY2.out hb)
          have HS3 := hide hb
          clear C3 hfb hb s0 s1 u0 u1
          obtain ⟨⟨s0, s1⟩, u0, u1⟩ := HNS.out y3 HY3.out
          have C4 := hide (K15.out y3 HY3.out)
          go_wp2_with fail
          refine C4.out.mono ?_
          rintro r y4 ⟨px, cx, rfl, hox, hb⟩
          have HOX := hide hox
          have HY4 := hide (below_step HY3.out hb)
          have HS4 := hide (below_step HS3.out hb)
          have HS34 := hide hb
          have HF4 := hide (HFB.out.later hb)
          obtain ⟨y5, hy5⟩ : ∃ V, V = y4.alloc (.cells #[.int .i64 SN, .slice px dS cx] 24) := ⟨_, rfl⟩
          have hb45 : Below y4.heap.size y4 y5 := by rw [hy5]; go_grown
          have SX : Hid (SBox y5 y4.heap.size SN (.slice px dS cx)) := by show SBox _ _ _ _; rw [hy5]; exact SBox.made _ _ _
          have HY5 := hide (below_step HY4.out hb45)
          have HS5 := hide (below_step HS4.out hb45)
          have HS35 := hide (below_step HS34.out hb45)
          have HF5 := hide (HF4.out.later hb45)
          have HX5 := hide (HOX.out.later hb45)
          clear C4 hox hb hb45 s0 s1 u0 u1 HFB HF4 HOX
          go_upto_region 26 with fail
          rw [← hy5]
          clear hy5
          obtain ⟨kx, hkx⟩ : ∃ x, y4.heap.size = x := ⟨_, rfl⟩
          rw [hkx] at SX ⊢
          clear hkx
          obtain ⟨⟨s0, s1⟩, u0, u1⟩ := HNS.out y5 HY5.out
          obtain ⟨x0, x1, _, _⟩ := SX.out.cell
          have C5 := hide (KI.out y5 pa ca HY5.out (iowns_has (HOA.out.later HS5.out)))
          go_wp2_with fail
          refine C5.out.mono ?_
          rintro r y6 ⟨rfl, hb⟩
          have HY6 := hide (below_step HY5.out hb)
          have HS6 := hide (below_step HS5.out hb)
          have HS36 := hide (below_step HS35.out hb)
          have HF6 := hide (HF5.out.later hb)
          have HX6 := hide (HX5.out.later hb)
          have SX6 := hide (SX.out.later hb)
          clear C5 hb s0 s1 u0 u1 x0 x1 HF5 HX5 SX
          obtain ⟨⟨s0, s1⟩, u0, u1⟩ := HNS.out y6 HY6.out
          obtain ⟨x0, x1, _, _⟩ := SX6.out.cell
          have C6 := hide (KL.out y6 pc cc HY6.out (fb_has (by rw [HdP.out]; exact HF6.out) fun v hv => by have := (ptI_small n es l).2 v hv; unfold maxLen; omega))
          go_wp2_with fail
          refine C6.out.mono ?_
          rintro r y7 ⟨rfl, hb⟩
          have HY7 := hide (below_step HY6.out hb)
          have HS7 := hide (below_step HS6.out hb)
          have HS37 := hide (below_step HS36.out hb)
          have HF7 := hide (HF6.out.later hb)
          have HX7 := hide (HX6.out.later hb)
          have SX7 := hide (SX6.out.later hb)
          clear C6 hb s0 s1 u0 u1 x0 x1 HF6 HX6 SX6
          obtain ⟨⟨s0, s1⟩, u0, u1⟩ := HNS.out y7 HY7.out
          obtain ⟨x0, x1, _, _⟩ := SX7.out.cell
          have C7 := hide (KS.out y7 px cx HY7.out (has_of HX7.out HdS.out))
          go_wp2_with fail
          refine C7.out.mono ?_
          rintro r y8 ⟨rfl, hb⟩
          have HY8 := hide (below_step HY7.out hb)
          have HS8 := hide (below_step HS7.out hb)
          have HS38 := hide (below_step HS37.out hb)
          have HF8 := hide (HF7.out.later hb)
          have HX8 := hide (HX7.out.later hb)
          have SX8 := hide (SX7.out.later hb)
          have HBW : Hid (B < wr.heap.size) := by
            obtain ⟨lv, m, rv0, L0, sz, hg⟩ := HGr.out.2
            exact (World.ownsRow.lt hg.box B rfl).2
          have C8 := keep_one B B y1.heap.size pa (ndI n es l) ca y2.heap.size (.slice pc dP cc) (ptI n es l) rvc wr y2 y8 HGr.out.2 HR2.out HR1.out.size (by rw [HdN.out]; exact HOA.out) (by have := ndI_small n es l; omega) (Nat.le_refl _) HS8.out HF8.out
          rw [HdN.out] at C8
          have C8 := hide C8
          clear C7 hb s0 s1 u0 u1 x0 x1 HF7 HX7 SX7
          go_wp2_with fail
          refine C8.out.mono ?_
          rintro r z1 ⟨rfl, hkp⟩
          have hyl : Below y8.heap.size y8 (y8.alloc (.cells #[.slice pa dN ca] 25)) := by go_grown
          obtain ⟨z0, hz0⟩ : ∃ V, y8.alloc (.cells #[.slice pa dN ca] 25) = V := ⟨_, rfl⟩
          rw [hz0] at hkp hyl
          have HZ0 := hide (below_step HY8.out hyl)
          have HFZ := hide (HF8.out.later hyl)
          have HXZ := hide (HX8.out.later hyl)
          have SXZ := hide (SX8.out.later hyl)
          have hsz2 : y2.heap.size ≤ z0.heap.size := by have h1 := HS8.out.size; have h2 := hyl.size; omega
          have hsz3 : y3.heap.size ≤ z0.heap.size := by
            have h1 := HS38.out.size
            have h2 := hyl.size
            omega
          have HKP := hide hkp
          have C9 := keep_all (M := MFrom (fun _ => False) (ptI n es l).length rvc 0) B B y2.heap.size pc cc (ptI n es l) rvc z0 z1 (by rw [HdP.out] at hkp ⊢; exact hkp) rfl (by rw [HdP.out]; exact HFZ.out) (by have h1 := HBW.out; have h2 := HR2.out.size; omega) (by have h1 := HBW.out; have h2 := HR2.out.size; omega) (by have h1 := HBW.out; have h2 := HR2.out.size; omega) (ptI_small n es l).1 (ptI_small n es l).2
          rw [HdP.out] at C9
          have C9 := hide C9
          clear C8 hyl hz0 hkp HF8 HX8 SX8
          go_wp2_with fail
          refine C9.out.mono ?_
          rintro r z2 ⟨rfl, hbg, hbl, hkp2⟩
          have HKB2 := hide (HKP.out.2.2.1.trans hkp2)
          have HZ2' : Hid (Below D.heap.size D z2) := by
            have h1 := HKP.out.2.1
            have h2 := hbl
            rw [← HB'.out] at h1 h2
            exact (HZ0.out.trans h1).trans h2
          have HX2 : Hid (Owns z2 y3.heap.size (.slice px dS cx) (seI n es l)) := HKB2.out.row HXZ.out (by decide) (by decide)
          have SX2 : Hid (SBox z2 kx SN (.slice px dS cx)) := HKB2.out.row SXZ.out (by decide) (by decide)
          have HBG2 := hide hbg
          have hs4 : y3.heap.size ≤ z2.heap.size := by have h1 := HKP.out.2.1.size; have h2 := hbl.size; omega
          have C10 := spoil43 SN px (seI n es l) cx y3.heap.size z2 (by rw [HdS.out]; exact HX2.out) hs4 (by have := seI_small n es l; omega)
          rw [HdS.out] at C10
          have C10 := hide C10
          obtain ⟨x0, x1, _, _⟩ := SX2.out.cell
          clear C9 hbg hbl hkp2
          go_wp2_with fail
          refine C10.out.mono ?_
          rintro r z3 ⟨rfl, fr⟩
          have HFIN : Hid (Below D.heap.size D z3 ∧ BagE z3 B B) := by
            refine ⟨HZ2'.out.trans (fr.below HZ2'.out.size fun j hj => ?_), HBG2.out.spoil HX2.out fr⟩
            have h1 := (World.ownsRow.lt HX2.out j hj).1
            have h2 := HY3.out.size
            omega
          clear C10 fr x0 x1
          go_wp2
          go_roundw
          case rel => exact ⟨i + 1, by omega, by go_num, HFIN.out⟩
          case measure => simp [intOf]; omega
        · have j1 : ¬ (i : Int) < 2 := by omega
          obtain ⟨lv, m, rv0, L0, sz, hg⟩ := HGr.out.2
          have hBw : B ≤ wr.heap.size := by have := (World.ownsRow.lt hg.box B rfl).2; omega
          have AP := hide (apart24 B B wr hg hBw)
          clear hg
          go_wp2_with fail
          refine AP.out.mono ?_
          rintro r v1 ⟨rfl, hb⟩
          have HV1 : Hid (Below D.heap.size D v1) := by
            rw [← HB'.out] at hb
            exact HGr.out.1.trans hb
          clear AP hb
          have HVW := hide (HGTK.out.trans (HV1.out.mono HGTK.out.size))
          obtain ⟨⟨s0, s1⟩, u0, u1⟩ := HNS.out v1 HV1.out
          obtain ⟨q0, q1, _, _⟩ := HA.out.later HVW.out
          have KP := hide (kept17 n gt ct p es cp v1 (by omega) HCT.out (HLD.out.later HV1.out) (HH.out.later HVW.out))
          go_wp2_with fail
          refine KP.out.mono ?_
          rintro r v2 ⟨rfl, hb⟩
          have HV2 := hide (below_step HVW.out hb)
          have hi2' := ints30 p2 q l l c2 cq v2 HML.out ((HKD.out.later HV1.out).later hb) (HK.out.later (below_step HVW.out hb))
          rw [decide_eq_true rfl] at hi2'
          have IT := hide hi2'
          clear KP hb s0 s1 u0 u1 q0 q1 hi2'
          go_wp2_with fail
          refine IT.out.mono ?_
          rintro r v3 ⟨rfl, hb⟩
          have HE := hide (HB.out.trans ((below_step HV2.out hb).mono HB.out.size))
          clear IT hb
          go_wp2
          go_ret
          exact ⟨retB (by rfl), HE.out⟩


  · have hs0 : (sE == 0) = false := by rw [beq_eq_false_iff_ne]; exact h0
    have hnk : ¬ isK n es l := fun h => h0 (by rw [← HSE.out]; exact h.1)
    have HKN : Hid (knI n es l = 0) := by show _ = _; unfold knI; rw [if_neg hnk]
    have HOB : Hid (obE n es l = sE) := by show _ = _; unfold obE; rw [if_pos (by rw [HSE.out]; exact h0), HSE.out]
    have hN0 : ndI n es l = [] := by unfold ndI; rw [if_neg hnk]
    have hP0 : ptI n es l = [] := by unfold ptI; rw [if_neg hnk]
    have hS0 : seI n es l = [] := by unfold seI; rw [if_neg hnk]
    have hs1 : snI n es l = 0 := by unfold snI; rw [if_neg hnk]
    have HDN : Hid (IHas W4 none (ndI n es l)) := by rw [hN0]; exact Or.inl rfl
    have HDP : Hid (RHas W4 none (ptI n es l)) := by rw [hP0]; exact Or.inl rfl
    have HSZ : Hid (Has W4 none (seI n es l)) := by rw [hS0]; exact Or.inl rfl
    have HNZ : Hid (NOwn W4 kS (snI n es l) none (seI n es l).length 0) := by rw [hs1, hS0]; exact HN4.out
    have HBZ := HW4B
    have HWZ : Hid (Below W.heap.size W W4) := HB4.out
    obtain ⟨Z, hZ⟩ : ∃ V, W4 = V := ⟨_, rfl⟩
    rw [hZ] at hW4 HDN HDP HSZ HNZ HBZ HWZ HN4 HW4B HB4
    have hz1 : (ndI n es l).length = 0 := by rw [hN0]; rfl
    have hz2 : (ptI n es l).length = 0 := by rw [hP0]; rfl
    have hz3 : (seI n es l).length = 0 := by rw [hS0]; rfl
    go_upto_region 10 with fail
    rw [← hW4]
    try rw [hkS]
    clear hZ hW4 hnk hkS
    obtain ⟨DN_, hdN⟩ : ∃ x, (ndI n es l).length = x := ⟨_, rfl⟩
    obtain ⟨DP_, hdP⟩ : ∃ x, (ptI n es l).length = x := ⟨_, rfl⟩
    obtain ⟨DS_, hdS⟩ : ∃ x, (seI n es l).length = x := ⟨_, rfl⟩
    obtain ⟨SN_, hSN⟩ : ∃ x, snI n es l = x := ⟨_, rfl⟩
    rw [hz1] at hdN
    rw [hz2] at hdP
    rw [hz3] at hdS
    rw [hs1] at hSN
    subst hdN hdP hdS hSN
    have HdN := hide hz1
    have HdP := hide hz2
    have HdS := hide hz3
    have HSN := hide hs1
    rw [hz3, hs1] at HNZ
    clear hz1 hz2 hz3 hs1 hN0 hP0 hS0
    have TW := hide (twin11 n p es cp Z HNP.out (by omega) (HH.out.later HWZ.out))
    obtain ⟨q0, q1, _, _⟩ := HA.out.later HWZ.out
    go_upto_region 13 with fail
    go_wp2_with fail
    refine TW.out.mono ?_
    rintro r t1 ⟨gt, ct, rfl, hot, hct, hbt⟩
    have HT1 := hide (below_step HWZ.out hbt)
    have HZT := hide hbt
    have HLI : Hid (Lies t1 gt 0 (es ++ [mk])) := by
      rcases has_of hot (by simp) with e | ⟨b, off, e, hL⟩
      · simp at e
      · cases e; exact hL
    have HCT := hide hct
    obtain ⟨T2, hT2, hbT2, aT2⟩ := one_net t1 n (some ⟨gt, 0, none⟩) es.length ct
    have HT2 := hide (below_step HT1.out hbT2)
    have HZ2 := hide (below_step HZT.out hbT2)
    have HN2 := hide aT2
    obtain ⟨v1, E, ea, o1, gr1⟩ := append_ints (w := T2) (base := T2.heap.size) (v := .slice none 0 0) (l := []) (IOwns.nil _ _) q cq l HNQ.out (HK.out.later HT2.out) (Nat.le_refl _) (by simp; omega)
    have hbE : Below T2.heap.size T2 E := below_grown (Below.refl _ _) (IOwns.nil T2 T2.heap.size) (Nat.le_refl _) (Nat.le_refl _) gr1
    rw [List.nil_append] at o1
    obtain ⟨p1, c1, rfl, _⟩ := o1.form
    obtain ⟨v2, D, eb, o2, hbD⟩ := push_int o1 (-5) hbE.size (by omega)
    obtain ⟨p2, c2, rfl, k2, k3, k4, _⟩ := o2.form
    have hl5 : (l ++ [(-5 : Int)]).length = l.length + 1 := by simp
    rw [hl5] at eb o2 k3
    have HKD : Hid (IHas D p2 l) := ihas_prefix k2
    have HTD := hide (hbE.trans hbD)
    have HD0 := hide (HT2.out.trans (HTD.out.mono HT2.out.size))
    have HZD := hide (HZ2.out.trans (HTD.out.mono HZ2.out.size))
    have HLD : Hid (Lies D gt 0 (es ++ [mk])) := (HLI.out.later hbT2).later HTD.out
    have HND2 := hide (HN2.out.later HTD.out)
    have hc2 : l.length ≤ c2 := by omega
    have HDZ : Hid (Below w3.heap.size w3 D) := HBZ.out.trans (HZD.out.mono HBZ.out.size)
    obtain ⟨X, hX⟩ : ∃ X, X = D.alloc (.cells #[.slice none 0 0, .int .i64 0] 38) := ⟨_, rfl⟩
    have hbXX : Below D.heap.size D X := by rw [hX]; go_grown
    have HBAG : Hid (BagE X D.heap.size D.heap.size) := ⟨.slice none 0 0, 0, fun _ => .slice none 0 0, fun _ => [], 0, by rw [hX]; exact World.ownsRow_lit D #[.slice none 0 0, .int .i64 0] 1 (Nat.zero_le _) (by unfold maxLen; omega) rfl, Nat.le_refl _, World.ownsRow_nil _ _ _ _, fun u v j hu => by omega, fun v hv => by omega, fun v hv => by omega, by omega, by omega⟩
    have HXX := hide hbXX
    obtain ⟨kT, hkT⟩ : ∃ x, t1.heap.size = x := ⟨_, rfl⟩
    have HKT := hide hkT
    rw [hkT] at HN2 HND2
    clear TW hot hct hbt hbT2 aT2 o1 gr1 hbE o2 hbD k2 k3 k4 hl5 hbXX q0 q1
    go_upto_region 17 with fail
    try rw [hkT]
    rw [← hT2]
    clear hT2 hkT
    go_wp2_with (at_builtin; first | refine wpList_run_append rfl (.const (.slice none 0 0)) (.tmp 60) 25 rfl 25 rfl _ _ _ E rfl rfl ea ?_ | refine wpList_run_append rfl (.tmp 61) (.tmp 62) 25 rfl 25 rfl _ _ _ D rfl rfl eb ?_)
    rw [← hX]
    obtain ⟨B, hB⟩ : ∃ B, D.heap.size = B := ⟨_, rfl⟩
    have HB' := hide hB
    rw [hB] at HBAG ⊢
    clear hX ea eb hB hc2
    have HG0 : Hid (Below D.heap.size D X ∧ BagE X B B) := ⟨HXX.out, HBAG.out⟩
    have HHT : Hid (∀ V, Below D.heap.size D V → Has V (some ⟨gt, 0, none⟩) es) := fun V hV => Or.inr ⟨gt, 0, rfl, lies_prefix (HLD.out.later hV)⟩
    have K12 : Hid (∀ V, Below D.heap.size D V → Calls Try.prog 12 #[nv n (some ⟨gt, 0, none⟩) es.length ct, .slice p2 l.length c2] V fun e w' => e = .returned (.tuple #[.int .i64 0, .int .i64 sE]) ∧ Below V.heap.size V w') := fun V hV => by
      have := kind12 n (some ⟨gt, 0, none⟩) p2 es l ct c2 V HML.out (HHT.out V hV) (HKD.out.later hV)
      rw [HSE.out, HKN.out] at this
      exact this
    have K13 : Hid (∀ V, Below D.heap.size D V → Calls Try.prog 13 #[nv n (some ⟨gt, 0, none⟩) es.length ct, .slice p2 l.length c2] V fun e w' => ∃ p c, e = .returned (.tuple #[.slice p 0 c, .int .i64 sE]) ∧ IOwns w' V.heap.size (.slice p 0 c) (ndI n es l) ∧ Below V.heap.size V w') := fun V hV => by
      have := branchU n (some ⟨gt, 0, none⟩) p2 es l ct c2 V HML.out (HHT.out V hV) (HKD.out.later hV)
      rw [HOB.out, HdN.out] at this
      exact this
    have K14 : Hid (∀ V, Below D.heap.size D V → Calls Try.prog 14 #[nv n (some ⟨gt, 0, none⟩) es.length ct, .slice p2 l.length c2] V fun e w' => ∃ p c rv, e = .returned (.tuple #[.slice p 0 c, .int .i64 sE]) ∧ FB w' V.heap.size (.slice p 0 c) (ptI n es l) rv ∧ Below V.heap.size V w') := fun V hV => by
      have := pathsU n (some ⟨gt, 0, none⟩) p2 es l ct c2 V HML.out (HHT.out V hV) (HKD.out.later hV)
      rw [HOB.out, HdP.out] at this
      exact this
    have K15 : Hid (∀ V, Below D.heap.size D V → Calls Try.prog 15 #[nv n (some ⟨gt, 0, none⟩) es.length ct, .slice p2 l.length c2] V fun e w' => ∃ p c, e = .returned (.tuple #[nv 0 p 0 c, .int .i64 sE]) ∧ Owns w' V.heap.size (.slice p 0 c) (seI n es l) ∧ Below V.heap.size V w') := fun V hV => by
      have := shrinkU n (some ⟨gt, 0, none⟩) p2 es l ct c2 V HML.out (HHT.out V hV) (HKD.out.later hV)
      rw [HOB.out, HdS.out, HSN.out] at this
      exact this
    have KI : Hid (∀ V p c, Below D.heap.size D V → IHas V p (ndI n es l) → Calls Try.prog 16 #[.slice p 0 c, .slice none 0 0] V fun e w' => e = .returned (.bool true) ∧ Below V.heap.size V w') := fun V p c hV hp => by
      have := ints30 p none (ndI n es l) (ndI n es l) c 0 V (by have := ndI_small n es l; unfold maxLen; omega) hp (HDN.out.later (HZD.out.trans (hV.mono HZD.out.size) |> fun h => h))
      rw [HdN.out, decide_eq_true rfl] at this
      exact this
    have KL : Hid (∀ V p c, Below D.heap.size D V → RHas V p (ptI n es l) → Calls Try.prog 17 #[.slice p 0 c, .slice none 0 0] V fun e w' => e = .returned (.bool true) ∧ Below V.heap.size V w') := fun V p c hV hp => by
      have := lists29 p none (ptI n es l) (ptI n es l) c 0 V (by have := (ptI_small n es l).1; unfold maxLen; omega) hp (HDP.out.later (HZD.out.trans (hV.mono HZD.out.size) |> fun h => h))
      rw [HdP.out, decide_eq_true rfl] at this
      exact this
    have KS : Hid (∀ V p c, Below D.heap.size D V → Has V p (seI n es l) → Calls Try.prog 18 #[nv 0 p 0 c, nv 0 none 0 0] V fun e w' => e = .returned (.bool true) ∧ Below V.heap.size V w') := fun V p c hV hp => by
      have := same22 0 0 p none (seI n es l) (seI n es l) c 0 V (by have := seI_small n es l; omega) hp (HSZ.out.later (HZD.out.trans (hV.mono HZD.out.size) |> fun h => h))
      have e : sameB 0 0 (seI n es l) (seI n es l) = true := by unfold sameB; simp
      rw [HdS.out, e] at this
      exact this
    have HNS : Hid (∀ V, Below D.heap.size D V → (V.cell? ⟨kS, 0, none⟩ = some (.int .i64 0) ∧ V.cell? ⟨kS, 1, none⟩ = some (.slice none 0 0)) ∧ (V.cell? ⟨kT, 0, none⟩ = some (.int .i64 n) ∧ V.cell? ⟨kT, 1, none⟩ = some (.slice (some ⟨gt, 0, none⟩) es.length ct))) := fun V hV => by
      obtain ⟨a0, a1, _, _⟩ := HNZ.out.later (HZD.out.trans (hV.mono HZD.out.size) |> fun h => h)
      obtain ⟨b0, b1, _, _⟩ := HND2.out.later hV
      exact ⟨⟨a0, a1⟩, b0, b1⟩
    have HGTK : Hid (Below W.heap.size W D) := HD0.out
    go_wp2_with fail
    go_loopw [14] (fun t14 wr => ∃ i : Nat, i ≤ 2 ∧ t14 = .int .i64 i ∧ Hid (Below D.heap.size D wr ∧ BagE wr B B)) (fun t14 _ => 2 - (intOf t14).toNat)
    case atStart => exact ⟨0, by omega, rfl, HG0.out⟩
    case round =>
      obtain ⟨i, hi, rfl, HGr⟩ := hrel
      clear HG0
      by_cases hi2 : i < 2
      · have j1 : (i : Int) < 2 := by omega
        obtain ⟨⟨s0, s1⟩, u0, u1⟩ := HNS.out wr HGr.out.1
        have C1 := hide (K12.out wr HGr.out.1)
        go_wp2_with fail
        refine C1.out.mono ?_
        rintro r y1 ⟨rfl, hb⟩
        have HY1 := hide (below_step HGr.out.1 hb)
        have HR1 := hide hb
        clear C1 hb s0 s1 u0 u1
        obtain ⟨⟨s0, s1⟩, u0, u1⟩ := HNS.out y1 HY1.out
        have C2 := hide (K13.out y1 HY1.out)
        go_wp2_with fail
        refine C2.out.mono ?_
        rintro r y2 ⟨pa, ca, rfl, hoa, hb⟩
        have HOA := hide hoa
        have HY2 := hide (below_step HY1.out hb)
        have HR2 := hide (below_step HR1.out hb)
        clear C2 hoa hb s0 s1 u0 u1
        obtain ⟨⟨s0, s1⟩, u0, u1⟩ := HNS.out y2 HY2.out
        have C3 := hide (K14.out y2 HY2.out)
        go_wp2_with fail
        refine C3.out.mono ?_
        rintro r y3 ⟨pc, cc, rvc, rfl, hfb, hb⟩
        have HFB := hide hfb
        have HY3 := hide (below_step HY2.out hb)
        have HS3 := hide hb
        clear C3 hfb hb s0 s1 u0 u1
        obtain ⟨⟨s0, s1⟩, u0, u1⟩ := HNS.out y3 HY3.out
        have C4 := hide (K15.out y3 HY3.out)
        go_wp2_with fail
        refine C4.out.mono ?_
        rintro r y4 ⟨px, cx, rfl, hox, hb⟩
        have HOX := hide hox
        have HY4 := hide (below_step HY3.out hb)
        have HS4 := hide (below_step HS3.out hb)
        have HS34 := hide hb
        have HF4 := hide (HFB.out.later hb)
        obtain ⟨y5, hy5⟩ : ∃ V, V = y4.alloc (.cells #[.int .i64 0, .slice px 0 cx] 24) := ⟨_, rfl⟩
        have hb45 : Below y4.heap.size y4 y5 := by rw [hy5]; go_grown
        have SX : Hid (SBox y5 y4.heap.size 0 (.slice px 0 cx)) := by show SBox _ _ _ _; rw [hy5]; exact SBox.made _ _ _
        have HY5 := hide (below_step HY4.out hb45)
        have HS5 := hide (below_step HS4.out hb45)
        have HS35 := hide (below_step HS34.out hb45)
        have HF5 := hide (HF4.out.later hb45)
        have HX5 := hide (HOX.out.later hb45)
        clear C4 hox hb hb45 s0 s1 u0 u1 HFB HF4 HOX
        go_upto_region 26 with fail
        rw [← hy5]
        clear hy5
        obtain ⟨kx, hkx⟩ : ∃ x, y4.heap.size = x := ⟨_, rfl⟩
        rw [hkx] at SX ⊢
        clear hkx
        obtain ⟨⟨s0, s1⟩, u0, u1⟩ := HNS.out y5 HY5.out
        obtain ⟨x0, x1, _, _⟩ := SX.out.cell
        have C5 := hide (KI.out y5 pa ca HY5.out (iowns_has (HOA.out.later HS5.out)))
        go_wp2_with fail
        refine C5.out.mono ?_
        rintro r y6 ⟨rfl, hb⟩
        have HY6 := hide (below_step HY5.out hb)
        have HS6 := hide (below_step HS5.out hb)
        have HS36 := hide (below_step HS35.out hb)
        have HF6 := hide (HF5.out.later hb)
        have HX6 := hide (HX5.out.later hb)
        have SX6 := hide (SX.out.later hb)
        clear C5 hb s0 s1 u0 u1 x0 x1 HF5 HX5 SX
        obtain ⟨⟨s0, s1⟩, u0, u1⟩ := HNS.out y6 HY6.out
        obtain ⟨x0, x1, _, _⟩ := SX6.out.cell
        have C6 := hide (KL.out y6 pc cc HY6.out (fb_has (by rw [HdP.out]; exact HF6.out) fun v hv => by have := (ptI_small n es l).2 v hv; unfold maxLen; omega))
        go_wp2_with fail
        refine C6.out.mono ?_
        rintro r y7 ⟨rfl, hb⟩
        have HY7 := hide (below_step HY6.out hb)
        have HS7 := hide (below_step HS6.out hb)
        have HS37 := hide (below_step HS36.out hb)
        have HF7 := hide (HF6.out.later hb)
        have HX7 := hide (HX6.out.later hb)
        have SX7 := hide (SX6.out.later hb)
        clear C6 hb s0 s1 u0 u1 x0 x1 HF6 HX6 SX6
        obtain ⟨⟨s0, s1⟩, u0, u1⟩ := HNS.out y7 HY7.out
        obtain ⟨x0, x1, _, _⟩ := SX7.out.cell
        have C7 := hide (KS.out y7 px cx HY7.out (has_of HX7.out HdS.out))
        go_wp2_with fail
        refine C7.out.mono ?_
        rintro r y8 ⟨rfl, hb⟩
        have HY8 := hide (below_step HY7.out hb)
        have HS8 := hide (below_step HS7.out hb)
        have HS38 := hide (below_step HS37.out hb)
        have HF8 := hide (HF7.out.later hb)
        have HX8 := hide (HX7.out.later hb)
        have SX8 := hide (SX7.out.later hb)
        have HBW : Hid (B < wr.heap.size) := by
          obtain ⟨lv, m, rv0, L0, sz, hg⟩ := HGr.out.2
          exact (World.ownsRow.lt hg.box B rfl).2
        have C8 := keep_one B B y1.heap.size pa (ndI n es l) ca y2.heap.size (.slice pc 0 cc) (ptI n es l) rvc wr y2 y8 HGr.out.2 HR2.out HR1.out.size (by rw [HdN.out]; exact HOA.out) (by have := ndI_small n es l; omega) (Nat.le_refl _) HS8.out HF8.out
        rw [HdN.out] at C8
        have C8 := hide C8
        clear C7 hb s0 s1 u0 u1 x0 x1 HF7 HX7 SX7
        go_wp2_with fail
        refine C8.out.mono ?_
        rintro r z1 ⟨rfl, hkp⟩
        have hyl : Below y8.heap.size y8 (y8.alloc (.cells #[.slice pa 0 ca] 25)) := by go_grown
        obtain ⟨z0, hz0⟩ : ∃ V, y8.alloc (.cells #[.slice pa 0 ca] 25) = V := ⟨_, rfl⟩
        rw [hz0] at hkp hyl
        have HZ0 := hide (below_step HY8.out hyl)
        have HFZ := hide (HF8.out.later hyl)
        have HXZ := hide (HX8.out.later hyl)
        have SXZ := hide (SX8.out.later hyl)
        have hsz2 : y2.heap.size ≤ z0.heap.size := by have h1 := HS8.out.size; have h2 := hyl.size; omega
        have hsz3 : y3.heap.size ≤ z0.heap.size := by
          have h1 := HS38.out.size
          have h2 := hyl.size
          omega
        have HKP := hide hkp
        have C9 := keep_all (M := MFrom (fun _ => False) (ptI n es l).length rvc 0) B B y2.heap.size pc cc (ptI n es l) rvc z0 z1 (by rw [HdP.out] at hkp ⊢; exact hkp) rfl (by rw [HdP.out]; exact HFZ.out) (by have h1 := HBW.out; have h2 := HR2.out.size; omega) (by have h1 := HBW.out; have h2 := HR2.out.size; omega) (by have h1 := HBW.out; have h2 := HR2.out.size; omega) (ptI_small n es l).1 (ptI_small n es l).2
        rw [HdP.out] at C9
        have C9 := hide C9
        clear C8 hyl hz0 hkp HF8 HX8 SX8
        go_wp2_with fail
        refine C9.out.mono ?_
        rintro r z2 ⟨rfl, hbg, hbl, hkp2⟩
        have HKB2 := hide (HKP.out.2.2.1.trans hkp2)
        have HZ2' : Hid (Below D.heap.size D z2) := by
          have h1 := HKP.out.2.1
          have h2 := hbl
          rw [← HB'.out] at h1 h2
          exact (HZ0.out.trans h1).trans h2
        have HX2 : Hid (Owns z2 y3.heap.size (.slice px 0 cx) (seI n es l)) := HKB2.out.row HXZ.out (by decide) (by decide)
        have SX2 : Hid (SBox z2 kx 0 (.slice px 0 cx)) := HKB2.out.row SXZ.out (by decide) (by decide)
        have HBG2 := hide hbg
        have hs4 : y3.heap.size ≤ z2.heap.size := by have h1 := HKP.out.2.1.size; have h2 := hbl.size; omega
        have C10 := spoil43 0 px (seI n es l) cx y3.heap.size z2 (by rw [HdS.out]; exact HX2.out) hs4 (by have := seI_small n es l; omega)
        rw [HdS.out] at C10
        have C10 := hide C10
        obtain ⟨x0, x1, _, _⟩ := SX2.out.cell
        clear C9 hbg hbl hkp2
        go_wp2_with fail
        refine C10.out.mono ?_
        rintro r z3 ⟨rfl, fr⟩
        have HFIN : Hid (Below D.heap.size D z3 ∧ BagE z3 B B) := by
          refine ⟨HZ2'.out.trans (fr.below HZ2'.out.size fun j hj => ?_), HBG2.out.spoil HX2.out fr⟩
          have h1 := (World.ownsRow.lt HX2.out j hj).1
          have h2 := HY3.out.size
          omega
        clear C10 fr x0 x1
        go_wp2
        go_roundw
        case rel => exact ⟨i + 1, by omega, by go_num, HFIN.out⟩
        case measure => simp [intOf]; omega
      · have j1 : ¬ (i : Int) < 2 := by omega
        obtain ⟨lv, m, rv0, L0, sz, hg⟩ := HGr.out.2
        have hBw : B ≤ wr.heap.size := by have := (World.ownsRow.lt hg.box B rfl).2; omega
        have AP := hide (apart24 B B wr hg hBw)
        clear hg
        go_wp2_with fail
        refine AP.out.mono ?_
        rintro r v1 ⟨rfl, hb⟩
        have HV1 : Hid (Below D.heap.size D v1) := by
          rw [← HB'.out] at hb
          exact HGr.out.1.trans hb
        clear AP hb
        have HVW := hide (HGTK.out.trans (HV1.out.mono HGTK.out.size))
        obtain ⟨⟨s0, s1⟩, u0, u1⟩ := HNS.out v1 HV1.out
        obtain ⟨q0, q1, _, _⟩ := HA.out.later HVW.out
        have KP := hide (kept17 n gt ct p es cp v1 (by omega) HCT.out (HLD.out.later HV1.out) (HH.out.later HVW.out))
        go_wp2_with fail
        refine KP.out.mono ?_
        rintro r v2 ⟨rfl, hb⟩
        have HV2 := hide (below_step HVW.out hb)
        have hi2' := ints30 p2 q l l c2 cq v2 HML.out ((HKD.out.later HV1.out).later hb) (HK.out.later (below_step HVW.out hb))
        rw [decide_eq_true rfl] at hi2'
        have IT := hide hi2'
        clear KP hb s0 s1 u0 u1 q0 q1 hi2'
        go_wp2_with fail
        refine IT.out.mono ?_
        rintro r v3 ⟨rfl, hb⟩
        have HE := hide (HB.out.trans ((below_step HV2.out hb).mono HB.out.size))
        clear IT hb
        go_wp2
        go_ret
        exact ⟨retB (by rfl), HE.out⟩

end Go.Proofs.Ytaebbfilgfkckaa
