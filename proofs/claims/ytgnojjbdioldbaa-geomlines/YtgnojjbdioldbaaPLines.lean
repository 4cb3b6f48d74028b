/- For every two lists of points, GeomLines returns true and leaves its arguments as they were: polylines are told simple, and apart, as the document has it, with areas and boxes. No condition. -/
import Derived.Test.YtgnojjbdioldbaaP2
import Derived.Test.YtgnojjbdioldbaaL12
import Derived.Test.YtgnojjbdioldbaaChecked
namespace Go.Proofs.Ytgnojjbdioldbaa
open Go.RowKit
open Go
open Go.ChangeShapes Go.WideShapes Go.ChangeAt

set_option maxRecDepth 100000 in
theorem open_ptsN {H : Type} {enc : TypeId × Value → H} {W : World} {base : Nat} {v : Value} {d : DataW H} {p : List MemPlace} (hv : Value.okWide Try.prog W .any base 27 v) (h0 : DataW.Trod enc Try.prog W 0 (fun _ => true) true 27 v d p) :
    ∃ (a : Option Addr) (ps : List Pt) (cap : Nat), v = .slice a ps.length cap ∧ ps.length ≤ cap ∧ Has W a ps ∧ (a = none → cap = 0) := by
  obtain ⟨a0, len, cap, rfl⟩ := okWide_slice Try.underlying27 hv
  obtain ⟨fuel, hf⟩ := h0
  rcases Go.Deep.open_slice_pairs Try.underlying27 Try.underlying23 cells23 rfl rfl cells3 cells3 hf with ⟨hcs, _⟩ | ⟨a, len', cap', m, n, V0, V1, D0, D1, P0, P1, hcs, _, hl, _, hm, _, hx⟩
  · simp [Value.cells] at hcs
    obtain ⟨rfl, rfl, rfl⟩ := hcs
    exact ⟨none, [], 0, rfl, Nat.le_refl _, Or.inl rfl, fun _ => rfl⟩
  · simp [Value.cells] at hcs
    obtain ⟨rfl, rfl, rfl⟩ := hcs
    simp only [if_true] at hm
    have each : ∀ i, i < len → ∃ q : Pt, W.cell? (a.add (i * 2)) = some (.int .i64 q.x) ∧ W.cell? (a.add (i * 2 + 1)) = some (.int .i64 q.y) := by
      intro i hi
      obtain ⟨h1, h2, h3, h4⟩ := hx i (by omega)
      obtain ⟨x, e0, _, _⟩ := DataW.trod_int Try.underlying3 h3
      obtain ⟨y, e1, _, _⟩ := DataW.trod_int Try.underlying3 h4
      simp at e0 e1
      exact ⟨⟨x, y⟩, by rw [h1, e0], by rw [h2, e1]⟩
    rcases Nat.eq_zero_or_pos len with rfl | hpos
    · exact ⟨some a, [], cap, rfl, Nat.zero_le _, Or.inl rfl, fun h => by cases h⟩
    · obtain ⟨b, off, spot⟩ := a
      have hspot : spot = none := by
        obtain ⟨q, hq, _⟩ := each 0 hpos
        simpa [Addr.add] using World.cell?_spot hq
      subst hspot
      have each' : ∀ i, i < len → ∃ q : Pt, W.cell? ⟨b, off + i * 2, none⟩ = some (.int .i64 q.x) ∧ W.cell? ⟨b, off + i * 2 + 1, none⟩ = some (.int .i64 q.y) := by
        intro i hi
        obtain ⟨q, h1, h2⟩ := each i hi
        rw [add_plain] at h1 h2
        exact ⟨q, h1, by rw [show off + i * 2 + 1 = off + (i * 2 + 1) by omega]; exact h2⟩
      have hall : ∃ f : Nat → Pt, ∀ i, i < len → W.cell? ⟨b, off + i * 2, none⟩ = some (.int .i64 (f i).x) ∧ W.cell? ⟨b, off + i * 2 + 1, none⟩ = some (.int .i64 (f i).y) :=
        ⟨fun i => if h : i < len then Classical.choose (each' i h) else ⟨0, 0⟩, fun i hi => by simp only [dif_pos hi]; exact Classical.choose_spec (each' i hi)⟩
      obtain ⟨f, hf⟩ := hall
      refine ⟨some ⟨b, off, none⟩, (List.range len).map f, cap, by simp, by simpa using hl, Or.inr ⟨b, off, rfl, fun j hj => ?_⟩, fun h => by cases h⟩
      have hj' : j < len := by simpa using hj
      have e : at' ((List.range len).map f) j = f j := by
        unfold at'
        rw [List.getD_eq_getElem?_getD, List.getElem?_map, List.getElem?_range hj']
        rfl
      rw [e]
      exact hf j hj'

set_option maxRecDepth 100000 in
theorem lines_lifted (os : Os) (started : os.Started) (H : Type) (enc : TypeId × Value → H) :
    ReturnsInHanded {} Try.checked os 7 .any (Rows.geomLinesSpec.pre6 enc Try.prog Try.f7 Rows.geomLinesRow.domain false) (Rows.geomLinesSpec.post enc Try.prog Try.f7 false true false false) := by
  refine returnsInHanded_of_change (C := Try.checked) own started (by kernel_rfl) Try.func7
    (ChangeSpec.witness6 (enc := enc) (C := Try.checked) false ⟨#[], #[.slice none 0 0, .slice none 0 0], []⟩ 8 (by kernel_rfl) (by kernel_rfl) (by kernel_rfl) (by kernel_rfl)) ?_
  intro W base args ds gs before hval0 hW _ _
  have hval : ∀ (j : Nat) t v, Try.f7.params[j]? = some t → args[j]? = some v → Value.okWide Try.prog W .any base t v := hval0
  have hW' := hW
  obtain ⟨p, q, hA0, hV, rfl, _, _⟩ := hW
  have hA : DataW.TrodAll enc Try.prog W 0 (fun _ => true) true Try.f7.params.toList args.toList ds p := hA0
  rw [Try.params7] at hA hval
  obtain ⟨v0, v1, d0, d1, p0, p1, rfl, rfl, rfl, h0, h1⟩ := trodAll_two hA
  obtain ⟨rfl, rfl⟩ := trodVars_none hV
  obtain ⟨a, ps, cap, rfl, _, hHas, hnil⟩ := open_ptsN (hval 0 27 v0 rfl rfl) h0
  obtain ⟨a', qs, cap', rfl, _, hHas', hnil'⟩ := open_ptsN (hval 1 27 v1 rfl rfl) h1
  clear hA0 hval0
  simp only [List.append_nil] at hW'
  have hlt : ∀ x ∈ p0 ++ p1, x.block < W.heap.size := fun x hx => by simpa using hW'.lt x hx
  refine (lines_walk a a' ps qs cap cap' W hnil hnil' hHas hHas').mono fun e W' ⟨he, hb⟩ => ?_
  subst he
  have hargs := trodAll_mk2 (Below.trod (enc := enc) laidOut (by kernel_rfl) (of_decide_eq_true (by kernel_rfl)) h0 hb fun x hx => hlt x (List.mem_append_left _ hx)) (Below.trod (enc := enc) laidOut (by kernel_rfl) (of_decide_eq_true (by kernel_rfl)) h1 hb fun x hx => hlt x (List.mem_append_right _ hx))
  exact ⟨_, rfl, _, _, _, [], _, [], hW', trodAll_mk1 (shut_bool Try.underlying4 _), hargs, rfl, hb.frame _, fun h => by cases h⟩

theorem lines_holds : Rows.GeomLinesSaid :=
  OpenClaim.holds_of_wide 7 Try.f7 rfl rfl rfl rfl rfl rfl rfl ⟨rfl, rfl, rfl, rfl, rfl⟩ rfl rfl rfl rfl rfl (by kernel_rfl) Try.func7 (by kernel_rfl)
    (of_decide_eq_true (by kernel_rfl)) (by unfold Func.isWrapper; first | (rw [if_pos (by decide +kernel)]; kernel_rfl) | (rw [if_neg (by decide +kernel)]; exact ⟨rfl, rfl⟩))
    (fun os started H enc _ => lines_lifted os started H enc)
#print axioms lines_holds
end Go.Proofs.Ytgnojjbdioldbaa
