/- Spoil: a net that was answered is written over; nothing else that was there changes. -/
import Derived.Test.YtmmbbfmkhbengaaK1
import Derived.Test.YtmmbbfmkhbengaaW0
import Derived.Test.YtmmbbfmkhbengaaT6
namespace Go.Proofs.Ytmmbbfmkhbengaa
open Go.RowKit Go.Sort
open Go

theorem app1at {w : World} {B : Nat} {v : Value} {l : List Pt} (o : Owns w B v l) (x y : Int) (hB : B ≤ w.heap.size) (hl : l.length ≤ 90000) : ∃ v' w', (Builtin.append_ #[22, 22] 22 #[v, .slice (some ⟨w.heap.size, 0, none⟩) 1 1]).run Try.prog (w.alloc (.cells #[.int .i64 x, .int .i64 y] 60)) = .ok v' w' ∧ Owns w' B v' (l ++ [⟨x, y⟩]) ∧ (w.alloc (.cells #[.int .i64 x, .int .i64 y] 60)).grownBy w' v.ownBlock ∧ (v'.ownBlock = v.ownBlock ∨ v'.ownBlock = some (w.heap.size + 1)) := by
  obtain ⟨U, hU⟩ : ∃ U, U = w.alloc (.cells #[.int .i64 x, .int .i64 y] 60) := ⟨_, rfl⟩
  have o' : U.ownsRow B 60 2 v l.length (cells l) := by rw [hU]; exact o.later (by go_grown)
  have c0 : U.cell? ⟨w.heap.size, 0, none⟩ = some (.int .i64 x) := by rw [hU]; go_cell
  have c1 : U.cell? ⟨w.heap.size, 1, none⟩ = some (.int .i64 y) := by rw [hU]; go_cell
  have hs : U.heap.size = w.heap.size + 1 := by rw [hU]; simp
  obtain ⟨i0, hi0, hz0, hz1, hz2⟩ := info_parts info60
  have hnews : ∀ j u, [Value.int .i64 x, .int .i64 y][j]? = some u → U.cell? ((⟨w.heap.size, 0, none⟩ : Addr).add j) = some u := by
    intro j u hj
    match j, hj with
    | 0, hj => simp at hj; subst hj; exact c0
    | 1, hj => simp at hj; subst hj; simpa [Addr.add] using c1
  obtain ⟨v', w', h1, h2, h3, _, h5⟩ := run_append_own_at (P := Try.prog) U B 22 22 60 i0 (.agg #[.int .i64 0, .int .i64 0]) 2 16 Try.underlying22 hi0 hz0 hz1 hz2 rfl (by decide) v l.length (cells l) o' ⟨w.heap.size, 0, none⟩ 1 1 [.int .i64 x, .int .i64 y] rfl hnews (by intro u hu; simp at hu; rcases hu with rfl | rfl <;> rfl) (by unfold maxLen; omega) (by omega) (by omega)
  rw [hs] at h5
  rw [hU] at h1 h3
  exact ⟨v', w', h1, owns_more (p := ⟨x, y⟩) h2, h3, h5⟩
theorem SBox.block {w : World} {k : Nat} {n : Int} {v : Value} (h : SBox w k n v) : ∃ cur, w.heap[k]? = some (.cells cur 24 (0, 0)) := row_kind h
/-- A net in its box under way: nothing that was there changes but its edges' block. -/
structure SP (w wr : World) (k B : Nat) (n : Int) (blk : Option Nat) (p : Option Addr) (c : Nat) (es : List Pt) : Prop where
  frame : Frame w wr (fun i => blk = some i)
  new : w.heap.size ≤ k
  box : SBox wr k n (.slice p es.length c)
  own : Owns wr B (.slice p es.length c) es
  loc : (Value.slice p es.length c).ownBlock = blk ∨ ∃ i, (Value.slice p es.length c).ownBlock = some i ∧ w.heap.size ≤ i
theorem Frame.step {a b c : World} {p q : Nat → Prop} (h : Frame a b p) (k : Frame b c q) (hq : ∀ i, i < a.heap.size → q i → p i) : Frame a c p :=
  ⟨k.os.trans h.os, k.tape.trans h.tape, k.output.trans h.output, Nat.le_trans h.size k.size, fun i hi hp => (k.block i (Nat.lt_of_lt_of_le hi h.size) (fun hqi => hp (hq i hi hqi))).trans (h.block i hi hp)⟩
variable {w wr : World} {k B c : Nat} {n : Int} {blk : Option Nat} {p : Option Addr} {es : List Pt}
theorem SP.later {wq : World} (h : SP w wr k B n blk p c es) (hb : Below wr.heap.size wr wq) : SP w wq k B n blk p c es :=
  ⟨h.frame.step (q := fun _ => False) (Frame.of_below hb _) (fun _ _ h => h.elim), h.new, World.ownsRow.kept h.box (grown_below hb) (Or.inr (by simp [Value.ownBlock])), h.own.later hb, h.loc⟩
theorem SP.push (h : SP w wr k B n blk p c es) (hB : B ≤ wr.heap.size) (hl : es.length ≤ 90000) : ∃ p1 c1 D, (Builtin.append_ #[22, 22] 22 #[.slice p es.length c, .slice (some ⟨wr.heap.size, 0, none⟩) 1 1]).run Try.prog (wr.alloc (.cells #[.int .i64 0, .int .i64 0] 60)) = .ok (.slice p1 (es.length + 1) c1) D ∧ SBox D k n (.slice p es.length c) ∧ SP w (D.setCell ⟨k, 1, none⟩ (.slice p1 (es.length + 1) c1)) k B n blk p1 c1 (es ++ [⟨0, 0⟩]) := by
  obtain ⟨v', D, e1, o1, gr, at1⟩ := app1at h.own 0 0 hB hl
  obtain ⟨p1, c1, rfl, _, _, _, _⟩ := o1.form
  have hU : Below wr.heap.size wr (wr.alloc (.cells #[.int .i64 0, .int .i64 0] 60)) := by go_grown
  have hs := h.later hU
  have box : SBox D k n (.slice p es.length c) := World.ownsRow.kept hs.box gr (Or.inr (fun e => SBox.apart hs.box hs.own e.symm))
  have ap : (Value.slice p1 (es ++ [(⟨0, 0⟩ : Pt)]).length c1).ownBlock ≠ some k := SBox.apart box o1
  have hln : (es ++ [(⟨0, 0⟩ : Pt)]).length = es.length + 1 := by simp
  have hsz := h.frame.size
  rw [hln] at e1
  refine ⟨p1, c1, D, e1, box, ⟨?_, h.new, ?_, ?_, ?_⟩⟩
  · refine (hs.frame.step (q := fun i => (Value.slice p es.length c).ownBlock = some i) (Frame.grown gr (fun i e => e)) ?_).step (q := fun i => i = k) (Frame.set _ _ _ rfl) (fun i hi e => by have := h.new; omega)
    intro i hi e
    rcases h.loc with hl | ⟨j, hj, hj2⟩
    · rw [← hl]; exact e
    · rw [hj] at e; injection e with e; omega
  · rw [hln]; exact box.set _
  · rw [hln] at o1 ap ⊢
    have := ownsRow_setCell_other (a := ⟨k, 1, none⟩) o1 ap (.slice p1 (es.length + 1) c1)
    rw [hln] at this
    unfold Owns
    rw [hln]
    exact this
  · rcases at1 with e | e
    · rcases h.loc with hl | ⟨j, hj, hj2⟩
      · left; rw [e]; exact hl
      · right; exact ⟨j, by rw [e]; exact hj, hj2⟩
    · right; exact ⟨_, e, by omega⟩
theorem SP.store {g : Nat} (h : SP w wr k B n blk (some ⟨g, 0, none⟩) c es) (i : Nat) (q : Pt) : SP w ((wr.setCell ⟨g, i * 2, none⟩ (.int .i64 q.x)).setCell ⟨g, i * 2 + 1, none⟩ (.int .i64 q.y)) k B n blk (some ⟨g, 0, none⟩) c (es.set i q) := by
  have hne : g ≠ k := fun e => SBox.apart h.box h.own (by rw [e]; rfl)
  have hP : ∀ j, j < w.heap.size → j = g → blk = some j := fun j hj e => by
    rcases h.loc with hl | ⟨i, hi, hi2⟩
    · rw [← hl, e]; rfl
    · simp only [Value.ownBlock, Option.some.injEq] at hi; omega
  refine ⟨(h.frame.step (q := fun j => j = g) (Frame.set _ _ _ rfl) hP).step (q := fun j => j = g) (Frame.set _ _ _ rfl) hP, h.new, ?_, ?_, ?_⟩
  · rw [List.length_set]
    exact ownsRow_setCell_other (a := ⟨g, i * 2 + 1, none⟩) (ownsRow_setCell_other (a := ⟨g, i * 2, none⟩) h.box (by simp [Value.ownBlock]; omega) _) (by simp [Value.ownBlock]; omega) _
  · exact h.own.set i q
  · rw [List.length_set]; exact h.loc
def lenAt (w : World) (k : Nat) : Nat :=
  match w.cell? ⟨k, 1, none⟩ with
  | some (.slice _ l _) => l
  | _ => 0
theorem lenAt_is {v : Option Addr} (h : SBox w k n (.slice v es.length c)) : lenAt w k = es.length := by
  unfold lenAt
  rw [h.cell.2.1]
set_option maxRecDepth 100000 in
set_option maxHeartbeats 8000000 in
theorem spoil43 (n : Int) (p : Option Addr) (es : List Pt) (cap B : Nat) (w : World) (ho : Owns w B (.slice p es.length cap) es) (hB : B ≤ w.heap.size) (hl : es.length ≤ 20000) : Calls Try.prog 43 #[nv n p es.length cap] w fun e w' => e = .returned (.tuple #[]) ∧ Frame w w' (fun i => (Value.slice p es.length cap).ownBlock = some i) := by
  obtain ⟨U, hU⟩ : ∃ U, U = w.alloc (.cells #[.int .i64 n, .slice p es.length cap] 24) := ⟨_, rfl⟩
  have hbU : Below w.heap.size w U := by rw [hU]; go_grown
  have HG : Hid (SP w U w.heap.size B n (Value.slice p es.length cap).ownBlock p cap es) := ⟨Frame.of_below hbU _, Nat.le_refl _, by rw [hU]; exact SBox.made _ _ _, ho.later hbU, Or.inl rfl⟩
  have R := hide (room47 es.length cap U (by omega) (by omega))
  have HBB := hide hB
  clear ho
  go_enter Try.func43, Try.ntmps43
  go_wp2_with fail
  rw [← hU]
  obtain ⟨blk, hblk⟩ : ∃ b, (Value.slice p es.length cap).ownBlock = b := ⟨_, rfl⟩
  have HBK := hide hblk
  rw [hblk] at HG
  obtain ⟨k, hk⟩ : ∃ k, w.heap.size = k := ⟨_, rfl⟩
  rw [hk] at HG ⊢
  clear hU hk hblk hbU
  refine R.out.mono ?_
  rintro e w' ⟨rfl, hbw⟩
  have hr : roomI es.length cap ≤ (es.length : Int) + 2000 := by unfold roomI; split <;> omega
  obtain ⟨r, hr'⟩ : ∃ r, roomI es.length cap = r := ⟨_, rfl⟩
  rw [hr'] at hr ⊢
  have HG2 := hide (HG.out.later hbw)
  clear HG hbw hr' R
  go_wp2_with fail
  go_loopw [11] (fun _ wr => Hid (∃ (L : List Pt) (p1 : Option Addr) (c1 : Nat), L.length ≤ 30000 ∧ SP w wr k B n blk p1 c1 L)) (fun _ wr => 30000 - lenAt wr k)
  case atStart => exact ⟨es, p, cap, by omega, HG2.out⟩
  case round =>
    obtain ⟨L, p1, c1, hL, hS⟩ := hrel.out
    have HLA := hide (lenAt_is hS.box)
    obtain ⟨q0, q1, q2, q3⟩ := hS.box.cell
    have hkl : k < wr.heap.size := block_lt_of_cell q0
    have hkn : k ≠ wr.heap.size := by omega
    have HS := hide hS
    by_cases hlt : (L.length : Int) < r
    · obtain ⟨p2, c2, D, e1, bD, sD⟩ := hS.push (Nat.le_trans HBB.out hS.frame.size) (by omega)
      obtain ⟨V, hV⟩ : ∃ V, V = D.setCell ⟨k, 1, none⟩ (.slice p2 (L.length + 1) c2) := ⟨_, rfl⟩
      rw [← hV] at sD
      have HSD := hide sD
      have HLB : Hid (lenAt V k = L.length + 1) := by
        show _ = _
        rw [lenAt_is sD.box]; simp
      obtain ⟨d0, d1, d2, d3⟩ := bD.cell
      clear hS hrel sD
      go_wp2_with (at_builtin; refine wpList_run_append rfl _ _ 22 rfl 22 rfl _ _ _ D rfl rfl e1 ?_)
      rw [← hV]
      clear hV
      go_roundw
      case rel => exact ⟨_, _, _, by simp; omega, HSD.out⟩
      case measure => rw [HLA.out, HLB.out]; omega
    · obtain ⟨m, hm⟩ : ∃ m, L.length = m := ⟨_, rfl⟩
      have HM := hide hm
      have hml : m ≤ 30000 := by omega
      clear hS hrel
      go_wp2_with fail
      clear q0 q1 q2 q3 hm HLA
      obtain ⟨w9, hw9⟩ : ∃ w9, w9 = wr := ⟨_, rfl⟩
      rw [← hw9] at HS ⊢
      clear hw9 hkl hkn
      go_loopw [3] (fun t wr => ∃ i : Nat, i ≤ m ∧ t = .int .i64 i ∧ Hid (∃ (L : List Pt) (p1 : Option Addr) (c1 : Nat), L.length = m ∧ SP w wr k B n blk p1 c1 L)) (fun t _ => m - (intOf t).toNat)
      case atStart => exact ⟨0, by omega, rfl, L, p1, c1, HM.out, HS.out⟩
      case round =>
        obtain ⟨i, hi, rfl, HLi⟩ := hrel
        obtain ⟨L2, p2, c2, hL2, hS2⟩ := HLi.out
        obtain ⟨q0, q1, q2, q3⟩ := hS2.box.cell
        by_cases hlt2 : i < m
        · obtain ⟨g, c3, hv, _, hgB, _⟩ := owns_block hS2.own (by omega)
          simp only [Value.slice.injEq, true_and] at hv
          obtain ⟨rfl, rfl⟩ := hv
          obtain ⟨c0, c1⟩ := hS2.own.lies i (by omega)
          have f0 := World.ownsRow.frozenAt hS2.own (i * 2)
          have f1 := World.ownsRow.frozenAt hS2.own (i * 2 + 1)
          have HGP := hide (hS2.store i ⟨-9, -9⟩)
          have HL2 := hide hL2
          have i1 : (i : Int) < L2.length := by omega
          have i2 : (0 : Int) ≤ i := by omega
          rw [Nat.zero_add] at c0 c1
          clear hL2 hS2 HLi
          go_wp2
          go_roundw
          case rel => exact ⟨i + 1, by omega, by go_num, L2.set i ⟨-9, -9⟩, _, _, by rw [List.length_set, HL2.out], HGP.out⟩
          case measure => simp [intOf]; omega
        · have i1 : ¬ (i : Int) < L2.length := by omega
          have HF : Hid (Frame w wr (fun i => (Value.slice p es.length cap).ownBlock = some i)) := by show Frame _ _ _; rw [HBK.out]; exact hS2.frame
          clear hL2 hS2 HLi
          go_wp2
          go_end0
          exact ⟨rfl, HF.out⟩
end Go.Proofs.Ytmmbbfmkhbengaa
