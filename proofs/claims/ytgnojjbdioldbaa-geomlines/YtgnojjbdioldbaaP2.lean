/- A list of points that is handed in: how it reads, with its capacity. -/
import Derived.Test.YtgnojjbdioldbaaP0
import Derived.Test.YtgnojjbdioldbaaG6
import Derived.Deep.SlicePairs
namespace Go.Proofs.Ytgnojjbdioldbaa
open Go.RowKit
open Go
open Go.ChangeShapes Go.WideShapes Go.ChangeAt

set_option maxRecDepth 100000 in
theorem open_ptsC {H : Type} {enc : TypeId × Value → H} {W : World} {base : Nat} {v : Value} {d : DataW H} {p : List MemPlace} (hv : Value.okWide Try.prog W .any base 27 v) (h0 : DataW.Trod enc Try.prog W 0 (fun _ => true) true 27 v d p) :
    ∃ (a : Option Addr) (ps : List Pt) (cap : Nat), v = .slice a ps.length cap ∧ ps.length ≤ cap ∧ Has W a ps := by
  obtain ⟨a0, len, cap, rfl⟩ := okWide_slice Try.underlying27 hv
  obtain ⟨fuel, hf⟩ := h0
  rcases Go.Deep.open_slice_pairs Try.underlying27 Try.underlying23 cells23 rfl rfl cells3 cells3 hf with ⟨hcs, _⟩ | ⟨a, len', cap', m, n, V0, V1, D0, D1, P0, P1, hcs, _, hl, _, hm, _, hx⟩
  · simp [Value.cells] at hcs
    obtain ⟨rfl, rfl, rfl⟩ := hcs
    exact ⟨none, [], 0, rfl, Nat.le_refl _, Or.inl rfl⟩
  · simp [Value.cells] at hcs
    obtain ⟨rfl, rfl, rfl⟩ := hcs
    simp only [if_true] at hm
    have each : ∀ i, i < len → ∃ q : Pt, W.cell? (a.add (i * 2)) = some (.int .i64 q.x) ∧ W.cell? (a.add (i * 2 + 1)) = some (.int .i64 q.y) := by
      intro i hi
      obtain ⟨h1, h2, h3, h4⟩ := hx i (by omega)
      obtain ⟨x, e0, _, _⟩ := DataW.trod_int Try.underlying3 h3
      obtain ⟨y, e1, _, _⟩ := DataW.trod_int Try.underlying3 h4
      simp at e0 e1
      exact ⟨⟨x, y⟩, by rw [h1, e0], by rw [h2, e1]⟩
    rcases Nat.eq_zero_or_pos len with rfl | hpos
    · exact ⟨some a, [], cap, rfl, Nat.zero_le _, Or.inl rfl⟩
    · obtain ⟨b, off, spot⟩ := a
      have hspot : spot = none := by
        obtain ⟨q, hq, _⟩ := each 0 hpos
        simpa [Addr.add] using World.cell?_spot hq
      subst hspot
      have each' : ∀ i, i < len → ∃ q : Pt, W.cell? ⟨b, off + i * 2, none⟩ = some (.int .i64 q.x) ∧ W.cell? ⟨b, off + i * 2 + 1, none⟩ = some (.int .i64 q.y) := by
        intro i hi
        obtain ⟨q, h1, h2⟩ := each i hi
        rw [add_plain] at h1 h2
        exact ⟨q, h1, by rw [show off + i * 2 + 1 = off + (i * 2 + 1) by omega]; exact h2⟩
      have hall : ∃ f : Nat → Pt, ∀ i, i < len → W.cell? ⟨b, off + i * 2, none⟩ = some (.int .i64 (f i).x) ∧ W.cell? ⟨b, off + i * 2 + 1, none⟩ = some (.int .i64 (f i).y) :=
        ⟨fun i => if h : i < len then Classical.choose (each' i h) else ⟨0, 0⟩, fun i hi => by simp only [dif_pos hi]; exact Classical.choose_spec (each' i hi)⟩
      obtain ⟨f, hf⟩ := hall
      refine ⟨some ⟨b, off, none⟩, (List.range len).map f, cap, by simp, by simpa using hl, Or.inr ⟨b, off, rfl, fun j hj => ?_⟩⟩
      have hj' : j < len := by simpa using hj
      have e : at' ((List.range len).map f) j = f j := by
        unfold at'
        rw [List.getD_eq_getElem?_getD, List.getElem?_map, List.getElem?_range hj']
        rfl
      rw [e]
      exact hf j hj'
end Go.Proofs.Ytgnojjbdioldbaa
