/- A point that is handed in: how it reads. -/
import Derived.Test.YtgnojjbdioldbaaRows
import Derived.Test.YtgnojjbdioldbaaG1
import Derived.ProofKit
namespace Go.Proofs.Ytgnojjbdioldbaa
open Go.RowKit
open Go
open Go.ChangeShapes Go.WideShapes Go.ChangeAt

theorem own : ownKnob Try.prog.godebug = none := by kernel_rfl
theorem laidOut : laidOutB Try.prog = true := by kernel_rfl
theorem cells3 : Try.prog.cellsOf 3 = 1 := by kernel_rfl
theorem cells23 : Try.prog.cellsOf 23 = 2 := by kernel_rfl
set_option maxRecDepth 100000 in
theorem pt_reads {H : Type} (enc : TypeId × Value → H) (a : Pt) (wa : (Lit.int .i64 a.x).wf = true) (wb : (Lit.int .i64 a.y).wf = true) (W' : World) (sp : Nat → Bool) :
    DataW.Trod enc Try.prog W' 0 sp true 23 (pv a.x a.y) (.agg [.lit (.int .i64 a.x), .lit (.int .i64 a.y)]) [] := ⟨2, by
  have f0 : DataW.trod enc Try.prog W' 0 sp true 1 3 [.int .i64 a.x] = some (.lit (.int .i64 a.x), []) := by simp [DataW.trod, Try.underlying3, wa]
  have f1 : DataW.trod enc Try.prog W' 0 sp true 1 3 [.int .i64 a.y] = some (.lit (.int .i64 a.y), []) := by simp [DataW.trod, Try.underlying3, wb]
  have := trod_struct2_mk (enc := enc) (w := W') (base := 0) (spare := sp) (held := true) (n := 1) (cs := [.int .i64 a.x, .int .i64 a.y]) Try.underlying23 (by simp [cells23]) (by simpa [cells3] using f0) (by simpa [cells3] using f1)
  simpa [Value.cells] using this⟩
set_option maxRecDepth 100000 in
theorem open_pt {H : Type} {enc : TypeId × Value → H} {W : World} {base : Nat} {sp : Nat → Bool} {v : Value} {d : DataW H} {p : List MemPlace} (hv : Value.okWide Try.prog W .any base 23 v) (h0 : DataW.Trod enc Try.prog W 0 sp true 23 v d p) :
    ∃ a : Pt, v = pv a.x a.y ∧ p = [] ∧ ∀ (W' : World) (sp' : Nat → Bool), DataW.Trod enc Try.prog W' 0 sp' true 23 (pv a.x a.y) d [] := by
  obtain ⟨cs, rfl, hsz⟩ := okWide_struct Try.underlying23 hv
  rw [cells23] at hsz
  obtain ⟨l⟩ := cs
  match l, hsz with
  | [c0, c1], _ =>
  obtain ⟨fuel, hf⟩ := h0
  obtain ⟨y0, y1, m, hx, _, hy0, hy1⟩ := trod_struct2 Try.underlying23 hf
  obtain ⟨a, e0, rfl, wa⟩ := DataW.trod_int Try.underlying3 hy0
  obtain ⟨b, e1, rfl, wb⟩ := DataW.trod_int Try.underlying3 hy1
  simp [Value.cells, cells3] at e0 e1
  subst e0 e1
  simp only [Prod.mk.injEq] at hx
  obtain ⟨rfl, rfl⟩ := hx
  exact ⟨⟨a, b⟩, rfl, rfl, fun W' sp' => pt_reads enc ⟨a, b⟩ wa wb W' sp'⟩
end Go.Proofs.Ytgnojjbdioldbaa
