/- For every net and every list of numbers, KuraAll returns true and leaves its arguments as they were: sets of edges are told to be subdivisions or not, with branch nodes, paths and what they shrink to, as the document has it, twice, in memory of their own. No condition. -/
import Derived.Test.YtaebbfilgfkckaaP0
import Derived.Test.YtaebbfilgfkckaaAF
import Derived.Test.YtaebbfilgfkckaaChecked
namespace Go.Proofs.Ytaebbfilgfkckaa
open Go.RowKit
open Go
open Go.ChangeShapes Go.WideShapes Go.ChangeAt


set_option maxRecDepth 100000 in
/-- A list of pairs, out of its cells. -/
theorem open_pairs22n {H : Type} {enc : TypeId × Value → H} {W : World} {fuel : Nat} {c : Value} {x : DataW H × List MemPlace} (hf : DataW.trod enc Try.prog W 0 (fun _ => true) true fuel 22 [c] = some x) :
    ∃ (a : Option Addr) (es : List Pt) (cap : Nat), c = .slice a es.length cap ∧ es.length ≤ cap ∧ es.length ≤ maxLen ∧ Has W a es ∧ (a = none → cap = 0) := by
  rcases Go.Deep.open_slice Try.underlying22 hf with ⟨hcs, _⟩ | ⟨a, len, cap, m, n, D, Pl, hcs, _, hl, hmx, hm, _, hx⟩
  · simp at hcs
    subst hcs
    exact ⟨none, [], 0, rfl, Nat.le_refl _, Nat.zero_le _, Or.inl rfl, fun _ => rfl⟩
  · simp at hcs
    subst hcs
    simp only [if_true] at hm
    rw [cells60] at hx
    have each : ∀ i, i < len → ∃ q : Pt, W.cell? (a.add (i * 2)) = some (.int .i64 q.x) ∧ W.cell? (a.add (i * 2 + 1)) = some (.int .i64 q.y) := by
      intro i hi
      obtain ⟨cs', h1, h2⟩ := hx i (by omega)
      obtain ⟨_, hlen, hcell⟩ := World.cells?_some h1
      obtain ⟨xs, k, _, _, _, hxl, hfx⟩ := DataW.trod_array Try.underlying57 h2
      match cs', hlen with
      | [v0, v1], _ =>
        have g0 := hfx 0 (by omega)
        have g1 := hfx 1 (by omega)
        match xs, hxl with
        | [y0, y1], _ =>
          simp [cells3] at g0 g1
          have e0 := hcell 0 (by omega)
          have e1 := hcell 1 (by omega)
          rw [Go.Deep.add_add] at e0 e1
          obtain ⟨x0, f0, _, _⟩ := DataW.trod_int Try.underlying3 g0
          obtain ⟨x1, f1, _, _⟩ := DataW.trod_int Try.underlying3 g1
          simp at f0 f1
          subst f0 f1
          exact ⟨⟨x0, x1⟩, by simpa using e0, by simpa using e1⟩
    obtain ⟨es, hll, hl2⟩ := choose_at (d := (⟨0, 0⟩ : Pt)) each
    subst hll
    rcases Nat.eq_zero_or_pos es.length with h | hpos
    · exact ⟨some a, es, cap, rfl, hl, by omega, Or.inl (List.length_eq_zero_iff.1 h), fun h => by cases h⟩
    · obtain ⟨b, off, spot⟩ := a
      have hspot : spot = none := by
        have := (hl2 0 hpos).1
        simpa [Addr.add] using World.cell?_spot this
      subst hspot
      exact ⟨some ⟨b, off, none⟩, es, cap, rfl, hl, by omega, Or.inr ⟨b, off, rfl, fun j hj => by
        have := hl2 j hj
        rw [add_at, add_at] at this
        exact ⟨this.1, by rw [show off + j * 2 + 1 = off + (j * 2 + 1) by omega]; exact this.2⟩⟩, fun h => by cases h⟩

set_option maxRecDepth 100000 in
/-- A net. -/
theorem open_net24n {H : Type} {enc : TypeId × Value → H} {W : World} {base : Nat} {v : Value} {d : DataW H} {p : List MemPlace} (hv : Value.okWide Try.prog W .any base 24 v) (h0 : DataW.Trod enc Try.prog W 0 (fun _ => true) true 24 v d p) :
    ∃ (n : Int) (a : Option Addr) (es : List Pt) (cap : Nat), v = nv n a es.length cap ∧ es.length ≤ cap ∧ es.length ≤ maxLen ∧ Has W a es ∧ (a = none → cap = 0) := by
  obtain ⟨cs, rfl, hsz⟩ := okWide_struct Try.underlying24 hv
  rw [cells24] at hsz
  obtain ⟨l⟩ := cs
  match l, hsz with
  | [c0, c1], _ =>
  obtain ⟨fuel, hf⟩ := h0
  obtain ⟨y0, y1, m, hx, _, hy0, hy1⟩ := trod_struct2 Try.underlying24 hf
  obtain ⟨n, e0, _, _⟩ := DataW.trod_int Try.underlying3 hy0
  simp [Value.cells, cells3] at e0
  simp [Value.cells, cells22] at hy1
  subst e0
  obtain ⟨a, es, cap, rfl, h1, h2, h3⟩ := open_pairs22n hy1
  exact ⟨n, a, es, cap, rfl, h1, h2, h3⟩
set_option maxRecDepth 100000 in
theorem open_ints25n {H : Type} {enc : TypeId × Value → H} {W : World} {base : Nat} {v : Value} {d : DataW H} {p : List MemPlace} (hv : Value.okWide Try.prog W .any base 25 v) (h0 : DataW.Trod enc Try.prog W 0 (fun _ => true) true 25 v d p) :
    ∃ (a : Option Addr) (l : List Int) (cap : Nat), v = .slice a l.length cap ∧ l.length ≤ cap ∧ l.length ≤ maxLen ∧ IHas W a l ∧ (a = none → cap = 0) := by
  obtain ⟨a0, len, cap, rfl⟩ := okWide_slice Try.underlying25 hv
  obtain ⟨fuel, hf⟩ := h0
  rcases Go.Deep.open_slice1 Try.underlying25 cells3 hf with ⟨hcs, _⟩ | ⟨a, len', cap', m, n, V, D, Pl, hcs, _, hl, hmx, hm, _, hx⟩
  · simp [Value.cells] at hcs
    obtain ⟨rfl, rfl, rfl⟩ := hcs
    exact ⟨none, [], 0, rfl, Nat.le_refl _, Nat.zero_le _, Or.inl rfl, fun _ => rfl⟩
  · simp [Value.cells] at hcs
    obtain ⟨rfl, rfl, rfl⟩ := hcs
    simp only [if_true] at hm
    have each : ∀ i, i < len → ∃ x : Int, W.cell? (a.add i) = some (.int .i64 x) := by
      intro i hi
      obtain ⟨h1, h2⟩ := hx i (by omega)
      obtain ⟨x, e0, _, _⟩ := DataW.trod_int Try.underlying3 h2
      simp at e0
      exact ⟨x, by rw [h1, e0]⟩
    obtain ⟨l, hll, hl2⟩ := choose_at (d := (0 : Int)) each
    subst hll
    rcases Nat.eq_zero_or_pos l.length with h | hpos
    · exact ⟨some a, l, cap, rfl, hl, by omega, Or.inl (List.length_eq_zero_iff.1 h), fun h => by cases h⟩
    · obtain ⟨b, off, spot⟩ := a
      have hspot : spot = none := by
        have := hl2 0 hpos
        simpa [Addr.add] using World.cell?_spot this
      subst hspot
      exact ⟨some ⟨b, off, none⟩, l, cap, rfl, hl, by omega, Or.inr ⟨b, off, rfl, fun j hj => by have := hl2 j hj; rw [add_at] at this; exact this⟩, fun h => by cases h⟩

end Go.Proofs.Ytaebbfilgfkckaa

namespace Go.Proofs.Ytaebbfilgfkckaa
open Go.RowKit
open Go
open Go.ChangeShapes Go.WideShapes Go.ChangeAt

set_option maxRecDepth 100000 in
theorem all_lifted (os : Os) (started : os.Started) (H : Type) (enc : TypeId × Value → H) :
    ReturnsInHanded {} Try.checked os 3 .any (Rows.kuraAllSpec.pre6 enc Try.prog Try.f3 Rows.kuraAllRow.domain false) (Rows.kuraAllSpec.post enc Try.prog Try.f3 false true false false) := by
  refine returnsInHanded_of_change (C := Try.checked) own started (by kernel_rfl) Try.func3
    (ChangeSpec.witness6 (enc := enc) (C := Try.checked) false ⟨#[], #[.agg #[.int .i64 0, .slice none 0 0], .slice none 0 0], []⟩ 8 (by kernel_rfl) (by kernel_rfl) (by kernel_rfl) (by kernel_rfl)) ?_
  intro W base args ds gs before hval0 hW _ _
  have hval : ∀ (j : Nat) t v, Try.f3.params[j]? = some t → args[j]? = some v → Value.okWide Try.prog W .any base t v := hval0
  have hW' := hW
  obtain ⟨p, q, hA0, hV, rfl, _, _⟩ := hW
  have hA : DataW.TrodAll enc Try.prog W 0 (fun _ => true) true Try.f3.params.toList args.toList ds p := hA0
  rw [Try.params3] at hA hval
  obtain ⟨v0, v1, d0, d1, p0, p1, rfl, rfl, rfl, h0, h1⟩ := trodAll_two hA
  obtain ⟨rfl, rfl⟩ := trodVars_none hV
  obtain ⟨n, a0, es, cap0, rfl, _, _, hH, hN⟩ := open_net24n (hval 0 24 v0 rfl rfl) h0
  obtain ⟨a1, l1, cap1, rfl, _, m1, k1, hL⟩ := open_ints25n (hval 1 25 v1 rfl rfl) h1
  clear hA0 hval0
  simp only [List.append_nil] at hW'
  have hlt : ∀ x ∈ p0 ++ p1, x.block < W.heap.size := fun x hx => by simpa using hW'.lt x hx
  refine (all_walk n a0 a1 es l1 cap0 cap1 W hH k1 hN hL m1).mono fun e W' ⟨he, hb⟩ => ?_
  subst he
  exact ⟨_, rfl, _, _, _, [], _, [], hW', trodAll_mk1 (shut_bool Try.underlying4 _), trodAll_mk2 (stay24 h0 hb fun x hx => hlt x (List.mem_append_left _ hx)) (stay25 h1 hb fun x hx => hlt x (List.mem_append_right _ hx)), rfl, hb.frame _, fun h => by cases h⟩

theorem all_holds : Rows.KuraAllSaid :=
  OpenClaim.holds_of_wide 3 Try.f3 rfl rfl rfl rfl rfl rfl rfl ⟨rfl, rfl, rfl, rfl, rfl⟩ rfl rfl rfl rfl rfl (by kernel_rfl) Try.func3 (by kernel_rfl)
    (of_decide_eq_true (by kernel_rfl)) (by unfold Func.isWrapper; first | (rw [if_pos (by decide +kernel)]; kernel_rfl) | (rw [if_neg (by decide +kernel)]; exact ⟨rfl, rfl⟩))
    (fun os started H enc _ => all_lifted os started H enc)
#print axioms all_holds
end Go.Proofs.Ytaebbfilgfkckaa
