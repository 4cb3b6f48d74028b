/- A call, and a list of calls, that are handed in: how they read. -/
import Derived.Test.YtgfiofogcnnkhaaN2
import Derived.Test.YtgfiofogcnnkhaaP0
import Derived.Lib.SmallJoins
/- Lists of calls in memory. -/
namespace Go.Proofs.Ytgfiofogcnnkhaa
open Go.RowKit Go.Sort
open Go

/-- A call. -/
structure Opr where
  k : Int
  a : Int
  b : Int
  c : Int
  deriving Inhabited
def oat (l : List Opr) (j : Nat) : Opr := l.getD j ⟨0, 0, 0, 0⟩
def OHas (w : World) (p : Option Addr) (l : List Opr) : Prop := l = [] ∨ ∃ b off, p = some ⟨b, off, none⟩ ∧ ∀ j, j < l.length → w.cell? ⟨b, off + j * 4, none⟩ = some (.int .i64 (oat l j).k) ∧ w.cell? ⟨b, off + j * 4 + 1, none⟩ = some (.int .i64 (oat l j).a) ∧ w.cell? ⟨b, off + j * 4 + 2, none⟩ = some (.int .i64 (oat l j).b) ∧ w.cell? ⟨b, off + j * 4 + 3, none⟩ = some (.int .i64 (oat l j).c)
theorem OHas.later {w w' : World} {p : Option Addr} {l : List Opr} (h : OHas w p l) (hb : Below w.heap.size w w') : OHas w' p l := by
  rcases h with h | ⟨b, off, h1, h2⟩
  · exact Or.inl h
  · exact Or.inr ⟨b, off, h1, fun j hj => ⟨Ytgfiofogcnnkhaa.later hb (h2 j hj).1, Ytgfiofogcnnkhaa.later hb (h2 j hj).2.1, Ytgfiofogcnnkhaa.later hb (h2 j hj).2.2.1, Ytgfiofogcnnkhaa.later hb (h2 j hj).2.2.2⟩⟩
end Go.Proofs.Ytgfiofogcnnkhaa

namespace Go.Proofs.Ytgfiofogcnnkhaa
open Go.RowKit
open Go
open Go.ChangeShapes Go.WideShapes Go.ChangeAt

theorem cells43 : Try.prog.cellsOf 43 = 4 := by kernel_rfl
set_option maxRecDepth 100000 in
theorem open_cells43 {H : Type} {enc : TypeId × Value → H} {W : World} {fuel : Nat} {cs : List Value} {x : DataW H × List MemPlace} (hl : cs.length = 4) (hf : DataW.trod enc Try.prog W 0 (fun _ => true) true fuel 43 cs = some x) :
    ∃ o : Opr, cs = [.int .i64 o.k, .int .i64 o.a, .int .i64 o.b, .int .i64 o.c] := by
  match cs, hl with
  | [c0, c1, c2, c3], _ =>
  obtain ⟨y0, y1, y2, y3, m, hx, _, hy0, hy1, hy2, hy3⟩ := Go.Joins.trod_struct4 Try.underlying43 hf
  obtain ⟨n0, e0, _, _⟩ := DataW.trod_int Try.underlying3 hy0
  obtain ⟨n1, e1, _, _⟩ := DataW.trod_int Try.underlying3 hy1
  obtain ⟨n2, e2, _, _⟩ := DataW.trod_int Try.underlying3 hy2
  obtain ⟨n3, e3, _, _⟩ := DataW.trod_int Try.underlying3 hy3
  simp [cells3] at e0 e1 e2 e3
  subst e0 e1 e2 e3
  exact ⟨⟨n0, n1, n2, n3⟩, rfl⟩
set_option maxRecDepth 100000 in
theorem open_op43 {H : Type} {enc : TypeId × Value → H} {W : World} {base : Nat} {v : Value} {d : DataW H} {p : List MemPlace} (hv : Value.okWide Try.prog W .any base 43 v) (h0 : DataW.Trod enc Try.prog W 0 (fun _ => true) true 43 v d p) :
    ∃ o : Opr, v = .agg #[.int .i64 o.k, .int .i64 o.a, .int .i64 o.b, .int .i64 o.c] := by
  obtain ⟨cs, rfl, hsz⟩ := okWide_struct Try.underlying43 hv
  rw [cells43] at hsz
  obtain ⟨l⟩ := cs
  obtain ⟨fuel, hf⟩ := h0
  obtain ⟨o, ho⟩ := open_cells43 (by simpa using hsz) (by simpa [Value.cells] using hf)
  exact ⟨o, by rw [ho]⟩
theorem stay43 {H : Type} {enc : TypeId × Value → H} {W W' : World} {v : Value} {d : DataW H} {ps : List MemPlace} (h : DataW.Trod enc Try.prog W 0 (fun _ => true) true 43 v d ps) (hb : Below W.heap.size W W') (hlt : ∀ x ∈ ps, x.block < W.heap.size) : DataW.Trod enc Try.prog W' 0 (fun b => decide (b < W.heap.size)) true 43 v d ps :=
  Below.trod laidOut (by kernel_rfl) (of_decide_eq_true (by kernel_rfl)) h hb hlt
set_option maxRecDepth 100000 in
theorem open_ops25 {H : Type} {enc : TypeId × Value → H} {W : World} {base : Nat} {v : Value} {d : DataW H} {p : List MemPlace} (hv : Value.okWide Try.prog W .any base 25 v) (h0 : DataW.Trod enc Try.prog W 0 (fun _ => true) true 25 v d p) :
    ∃ (a : Option Addr) (ops : List Opr) (cap : Nat), v = .slice a ops.length cap ∧ ops.length ≤ cap ∧ ops.length ≤ maxLen ∧ OHas W a ops := by
  obtain ⟨a0, len, cap, rfl⟩ := okWide_slice Try.underlying25 hv
  obtain ⟨fuel, hf⟩ := h0
  rcases Go.Deep.open_slice Try.underlying25 hf with ⟨hcs, _⟩ | ⟨a, len', cap', m, n, D, Pl, hcs, _, hl, hmx, hm, _, hx⟩
  · simp [Value.cells] at hcs
    obtain ⟨rfl, rfl, rfl⟩ := hcs
    exact ⟨none, [], 0, rfl, Nat.le_refl _, Nat.zero_le _, Or.inl rfl⟩
  · simp [Value.cells] at hcs
    obtain ⟨rfl, rfl, rfl⟩ := hcs
    simp only [if_true] at hm
    rw [cells43] at hx
    have each : ∀ i, i < len → ∃ o : Opr, W.cell? (a.add (i * 4)) = some (.int .i64 o.k) ∧ W.cell? (a.add (i * 4 + 1)) = some (.int .i64 o.a) ∧ W.cell? (a.add (i * 4 + 2)) = some (.int .i64 o.b) ∧ W.cell? (a.add (i * 4 + 3)) = some (.int .i64 o.c) := by
      intro i hi
      obtain ⟨cs', h1, h2⟩ := hx i (by omega)
      obtain ⟨_, hlen, hcell⟩ := World.cells?_some h1
      obtain ⟨o, ho⟩ := open_cells43 hlen h2
      subst ho
      have e0 := hcell 0 (by omega)
      have e1 := hcell 1 (by omega)
      have e2 := hcell 2 (by omega)
      have e3 := hcell 3 (by omega)
      rw [Go.Deep.add_add] at e0 e1 e2 e3
      exact ⟨o, by simpa using e0, by simpa using e1, by simpa using e2, by simpa using e3⟩
    obtain ⟨ops, hll, hl2⟩ := choose_at (d := (⟨0, 0, 0, 0⟩ : Opr)) each
    subst hll
    rcases Nat.eq_zero_or_pos ops.length with h | hpos
    · exact ⟨some a, ops, cap, rfl, hl, by omega, Or.inl (List.length_eq_zero_iff.1 h)⟩
    · obtain ⟨b, off, spot⟩ := a
      have hspot : spot = none := by
        have := (hl2 0 hpos).1
        simpa [Addr.add] using World.cell?_spot this
      subst hspot
      exact ⟨some ⟨b, off, none⟩, ops, cap, rfl, hl, by omega, Or.inr ⟨b, off, rfl, fun j hj => by
        have := hl2 j hj
        rw [add_at, add_at, add_at, add_at] at this
        exact ⟨this.1, by rw [show off + j * 4 + 1 = off + (j * 4 + 1) by omega]; exact this.2.1, by rw [show off + j * 4 + 2 = off + (j * 4 + 2) by omega]; exact this.2.2.1, by rw [show off + j * 4 + 3 = off + (j * 4 + 3) by omega]; exact this.2.2.2⟩⟩⟩
theorem stay25 {H : Type} {enc : TypeId × Value → H} {W W' : World} {v : Value} {d : DataW H} {ps : List MemPlace} (h : DataW.Trod enc Try.prog W 0 (fun _ => true) true 25 v d ps) (hb : Below W.heap.size W W') (hlt : ∀ x ∈ ps, x.block < W.heap.size) : DataW.Trod enc Try.prog W' 0 (fun b => decide (b < W.heap.size)) true 25 v d ps :=
  Below.trod laidOut (by kernel_rfl) (of_decide_eq_true (by kernel_rfl)) h hb hlt
end Go.Proofs.Ytgfiofogcnnkhaa
