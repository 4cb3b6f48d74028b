/- dive goes on depth first: what it does to a tour. -/
import Derived.Test.YtghffodjffkijaaA4
import Derived.Test.YtghffodjffkijaaB3
import Derived.Deep.LoopGhost
import Derived.Deep.QuietTactic
namespace Go.Proofs.Ytghffodjffkijaa
open Go.RowKit Go.Sort
open Go

theorem Frame.set_new {W wr : World} {q : Nat → Prop} (f : Frame W wr q) (a : Addr) (v : Value) (h : W.heap.size ≤ a.block) : Frame W (wr.setCell a v) q :=
  ⟨f.os, f.tape, f.output, by simpa using f.size, fun i hi hq => (Below.heap_setCell _ _ _ _ (fun e => by first | (rw [e] at hi; omega) | (rw [← e] at hi; omega))).trans (f.block i hi hq)⟩
theorem Frame.grown_new {W wr w' : World} {q : Nat → Prop} {r : Option Nat} (f : Frame W wr q) (g : wr.grownBy w' r) (h : ∀ i, r = some i → W.heap.size ≤ i) : Frame W w' q :=
  ⟨g.os.trans f.os, g.tape.trans f.tape, g.output.trans f.output, Nat.le_trans f.size g.size, fun i hi hq => (g.block i (Nat.lt_of_lt_of_le hi f.size) (fun e => by have := h i e.symm; omega)).trans (f.block i hi hq)⟩
theorem TB.set_other {w : World} {B k n : Nat} {vo : Value} {gb gf : Nat} {vl : Value} {O By Fa : List Int} (t : TB w B k n vo gb gf vl O By Fa) (a : Addr) (v : Value) (h1 : a.block ≠ k) (h2 : a.block ≠ gb) (h3 : a.block ≠ gf) (h4 : vo.ownBlock ≠ some a.block) : TB (w.setCell a v) B k n vo gb gf vl O By Fa :=
  ⟨ownsRow_setCell_other t.box (by simp [Value.ownBlock]; exact fun e => h1 e.symm) v, ownsRow_setCell_other t.ord h4 v, ⟨t.by_.1, ownsRow_setCell_other t.by_.2 (by simp [Value.ownBlock]; exact fun e => h2 e.symm) v⟩, ⟨t.far.1, ownsRow_setCell_other t.far.2 (by simp [Value.ownBlock]; exact fun e => h3 e.symm) v⟩, t.ne1, t.ne2, t.ne3⟩
theorem TB.grown {w w' : World} {B k n : Nat} {vo : Value} {gb gf : Nat} {vl : Value} {O By Fa : List Int} {r : Option Nat} (t : TB w B k n vo gb gf vl O By Fa) (g : w.grownBy w' r) (h1 : r ≠ some k) (h2 : r ≠ some gb) (h3 : r ≠ some gf) (h4 : ∀ i, r = some i → vo.ownBlock ≠ some i) : TB w' B k n vo gb gf vl O By Fa :=
  ⟨World.ownsRow.kept t.box g (Or.inr (fun e => h1 e.symm)), World.ownsRow.kept t.ord g (by
    cases hv : vo.ownBlock with
    | none => exact Or.inl rfl
    | some i => exact Or.inr (fun e => h4 i e.symm hv)), ⟨t.by_.1, World.ownsRow.kept t.by_.2 g (Or.inr (fun e => h2 e.symm))⟩, ⟨t.far.1, World.ownsRow.kept t.far.2 g (Or.inr (fun e => h3 e.symm))⟩, t.ne1, t.ne2, t.ne3⟩
/-- The tour, how far each node has gone, and the stack. -/
def DM (W wr : World) (B k n gb gf gg : Nat) (vo vl : Value) (pT : Option Addr) (cT : Nat) (d : Ds) : Prop :=
  ∃ vo', TB wr B k n vo' gb gf vl d.st.O d.st.By d.st.Fa ∧ Frame W wr (TBk k gb gf vo) ∧ (vo'.ownBlock = vo.ownBlock ∨ ∃ i, vo'.ownBlock = some i ∧ W.heap.size ≤ i) ∧ IRow wr W.heap.size gg n d.G ∧ IOwns wr W.heap.size (.slice pT d.S.length cT) (nums d.S.reverse) ∧ vo'.ownBlock ≠ some gg ∧ (Value.slice pT d.S.length cT).ownBlock ≠ some gg ∧ ∀ i, (Value.slice pT d.S.length cT).ownBlock = some i → vo'.ownBlock ≠ some i
section
variable {W wr wr' : World} {B k n gb gf gg : Nat} {vo vl : Value} {pT : Option Addr} {cT : Nat} {d : Ds}
theorem DM.later (h : DM W wr B k n gb gf gg vo vl pT cT d) (hb : Below wr.heap.size wr wr') : DM W wr' B k n gb gf gg vo vl pT cT d := by
  obtain ⟨vo', t, f, a, hg, hs, n⟩ := h
  exact ⟨vo', t.later hb, f.trans (Frame.of_below hb _), a, hg.later hb, hs.later hb, n⟩
/-- What lies below the walk's own memory. -/
structure Low (W : World) (k gb gf gg : Nat) (vo : Value) : Prop where
  k : k < W.heap.size
  gb : gb < W.heap.size
  gf : gf < W.heap.size
  vo : ∀ i, vo.ownBlock = some i → i < W.heap.size
  gg : W.heap.size ≤ gg
theorem DM.pop {u : Nat} {r : List Nat} {st : St} {G : List Int} (h : DM W wr B k n gb gf gg vo vl pT cT ⟨st, G, u :: r⟩) : DM W wr B k n gb gf gg vo vl pT cT ⟨st, G, r⟩ := by
  obtain ⟨vo', t, f, a, hg, hs, n1, n2, n3⟩ := h
  obtain ⟨b, c', hbv, _, _, _⟩ := iowns_block hs (by rw [nums_length]; simp)
  simp only [Value.slice.injEq] at hbv
  obtain ⟨rfl, _, rfl⟩ := hbv
  refine ⟨vo', t, f, a, hg, ?_, n1, n2, n3⟩
  have e : (u :: r).reverse = r.reverse ++ [u] := by simp
  simp only [e] at hs
  have hs2 : IOwns wr W.heap.size (.slice (some ⟨b, 0, none⟩) (r.reverse ++ [u]).length cT) (nums (r.reverse ++ [u])) := by
    rw [show (r.reverse ++ [u]).length = (u :: r).length by simp]
    exact hs
  have := pop_int hs2
  rw [List.length_reverse] at this
  exact this
theorem DM.put {st : St} {G : List Int} {S : List Nat} (h : DM W wr B k n gb gf gg vo vl pT cT ⟨st, G, S⟩) (l : Low W k gb gf gg vo) (u : Nat) (x : Int) : DM W (wr.setCell ⟨gg, u, none⟩ (.int .i64 x)) B k n gb gf gg vo vl pT cT ⟨st, G.set u x, S⟩ := by
  obtain ⟨vo', t, f, a, hg, hs, n1, n2, n3⟩ := h
  have h1 := l.k; have h2 := l.gb; have h3 := l.gf; have h4 := l.gg
  exact ⟨vo', t.set_other ⟨gg, u, none⟩ _ (by simp; omega) (by simp; omega) (by simp; omega) n1, f.set_new ⟨gg, u, none⟩ _ h4, a, hg.set u x, ownsRow_setCell_other hs n2 _, n1, n2, n3⟩
theorem DM.found {st' : St} {G : List Int} {S : List Nat} {vo' vo2 : Value} (l : Low W k gb gf gg vo) (f : Frame W wr (TBk k gb gf vo)) (a : vo'.ownBlock = vo.ownBlock ∨ ∃ i, vo'.ownBlock = some i ∧ W.heap.size ≤ i) (hg : IRow wr W.heap.size gg n G) (hs : IOwns wr W.heap.size (.slice pT S.length cT) (nums S.reverse)) (n1 : vo'.ownBlock ≠ some gg) (n2 : (Value.slice pT S.length cT).ownBlock ≠ some gg) (n3 : ∀ i, (Value.slice pT S.length cT).ownBlock = some i → vo'.ownBlock ≠ some i)
    (t2 : TB wr' B k n vo2 gb gf vl st'.O st'.By st'.Fa) (f2 : Frame wr wr' (TBk k gb gf vo')) (a2 : vo2.ownBlock = vo'.ownBlock ∨ ∃ i, vo2.ownBlock = some i ∧ wr.heap.size ≤ i) : DM W wr' B k n gb gf gg vo vl pT cT ⟨st', G, S⟩ := by
  have h1 := l.k; have h2 := l.gb; have h3 := l.gf; have h4 := l.gg
  obtain ⟨vo3, t3, f3, a3⟩ := SM.found (st' := st') f a t2 f2 a2
  have hsl := fun i hi => World.ownsRow.lt hs i hi
  refine ⟨vo2, t2, f3, ?_, ?_, ?_, ?_, n2, ?_⟩
  · rcases a2 with a2 | ⟨x, hx, hx2⟩
    · rcases a with a | ⟨x, hx, hx2⟩
      · exact Or.inl (a2.trans a)
      · exact Or.inr ⟨x, by rw [a2]; exact hx, hx2⟩
    · exact Or.inr ⟨x, hx, by have := f.size; omega⟩
  · refine f2.irow hg ?_
    rintro (h | h | h | h)
    · omega
    · omega
    · omega
    · exact n1 h
  · refine f2.iowns hs ?_
    intro i hi
    have := (hsl i hi).1
    rintro (h | h | h | h)
    · omega
    · omega
    · omega
    · exact n3 i hi h
  · rcases a2 with a2 | ⟨x, hx, hx2⟩
    · rw [a2]; exact n1
    · rw [hx]; have := hg.lt.2; intro e; injection e with e; omega
  · intro i hi
    rcases a2 with a2 | ⟨x, hx, hx2⟩
    · rw [a2]; exact n3 i hi
    · rw [hx]; have := (hsl i hi).2; intro e; injection e with e; omega
theorem DM.push {st : St} {G : List Int} {S : List Nat} {x c1 l1 : Nat} {p1 : Option Addr} (h : DM W wr B k n gb gf gg vo vl pT cT ⟨st, G, S⟩) (l : Low W k gb gf gg vo)
    (o1 : IOwns wr' W.heap.size (.slice p1 l1 c1) (nums S.reverse ++ [(x : Int)])) (gr : wr.grownBy wr' (Value.slice pT S.length cT).ownBlock) (at1 : (Value.slice p1 l1 c1).ownBlock = (Value.slice pT S.length cT).ownBlock ∨ (Value.slice p1 l1 c1).ownBlock = some wr.heap.size) (hl1 : l1 = S.length + 1) : DM W wr' B k n gb gf gg vo vl p1 c1 ⟨st, G, x :: S⟩ := by
  have h1 := l.k; have h2 := l.gb; have h3 := l.gf; have h4 := l.gg
  obtain ⟨vo', t, f, a, hg, hs, n1, n2, n3⟩ := h
  have hsl := fun i hi => World.ownsRow.lt hs i hi
  subst hl1
  refine ⟨vo', t.grown gr ?_ ?_ ?_ n3, f.grown_new gr (fun i hi => (hsl i hi).1), a, ⟨hg.1, World.ownsRow.kept hg.2 gr (Or.inr (fun e => n2 e.symm))⟩, ?_, n1, ?_, ?_⟩
  · intro e; have := (hsl _ e).1; omega
  · intro e; have := (hsl _ e).1; omega
  · intro e; have := (hsl _ e).1; omega
  · simp only [List.length_cons, List.reverse_cons]
    rw [nums_more]
    exact o1
  · simp only [List.length_cons]
    rcases at1 with e | e
    · rw [e]; exact n2
    · rw [e]; have := hg.lt.2; intro e'; injection e' with e'; omega
  · intro i hi
    simp only [List.length_cons] at hi
    rcases at1 with e | e
    · rw [e] at hi; exact n3 i hi
    · rw [e] at hi
      injection hi with hi
      intro hv
      have := (World.ownsRow.lt t.ord i hv).2
      omega
end
end Go.Proofs.Ytghffodjffkijaa
