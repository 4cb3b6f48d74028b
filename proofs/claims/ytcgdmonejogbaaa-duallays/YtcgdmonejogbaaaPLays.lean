/- For every net, rotation and two corners, DualLays returns true and leaves its arguments as they were: an edge laid keeps the genus, makes one face of one more, or of two components one, and taken again all is as it was. No condition. -/
import Derived.Test.YtcgdmonejogbaaaP0
import Derived.Test.YtcgdmonejogbaaaDL
import Derived.Test.YtcgdmonejogbaaaChecked
namespace Go.Proofs.Ytcgdmonejogbaaa
open Go.RowKit
open Go
open Go.ChangeShapes Go.WideShapes Go.ChangeAt

set_option maxRecDepth 100000 in
/-- A list of pairs, out of its cells. -/
theorem open_pairs22n {H : Type} {enc : TypeId × Value → H} {W : World} {fuel : Nat} {c : Value} {x : DataW H × List MemPlace} (hf : DataW.trod enc Try.prog W 0 (fun _ => true) true fuel 22 [c] = some x) :
    ∃ (a : Option Addr) (es : List Pt) (cap : Nat), c = .slice a es.length cap ∧ es.length ≤ cap ∧ es.length ≤ maxLen ∧ Has W a es ∧ (a = none → cap = 0) := by
  rcases Go.Deep.open_slice Try.underlying22 hf with ⟨hcs, _⟩ | ⟨a, len, cap, m, n, D, Pl, hcs, _, hl, hmx, hm, _, hx⟩
  · simp at hcs
    subst hcs
    exact ⟨none, [], 0, rfl, Nat.le_refl _, Nat.zero_le _, Or.inl rfl, fun _ => rfl⟩
  · simp at hcs
    subst hcs
    simp only [if_true] at hm
    rw [cells49] at hx
    have each : ∀ i, i < len → ∃ q : Pt, W.cell? (a.add (i * 2)) = some (.int .i64 q.x) ∧ W.cell? (a.add (i * 2 + 1)) = some (.int .i64 q.y) := by
      intro i hi
      obtain ⟨cs', h1, h2⟩ := hx i (by omega)
      obtain ⟨_, hlen, hcell⟩ := World.cells?_some h1
      obtain ⟨xs, k, _, _, _, hxl, hfx⟩ := DataW.trod_array Try.underlying64 h2
      match cs', hlen with
      | [v0, v1], _ =>
        have g0 := hfx 0 (by omega)
        have g1 := hfx 1 (by omega)
        match xs, hxl with
        | [y0, y1], _ =>
          simp [cells3] at g0 g1
          have e0 := hcell 0 (by omega)
          have e1 := hcell 1 (by omega)
          rw [Go.Deep.add_add] at e0 e1
          obtain ⟨x0, f0, _, _⟩ := DataW.trod_int Try.underlying3 g0
          obtain ⟨x1, f1, _, _⟩ := DataW.trod_int Try.underlying3 g1
          simp at f0 f1
          subst f0 f1
          exact ⟨⟨x0, x1⟩, by simpa using e0, by simpa using e1⟩
    obtain ⟨es, hll, hl2⟩ := choose_at (d := (⟨0, 0⟩ : Pt)) each
    subst hll
    rcases Nat.eq_zero_or_pos es.length with h | hpos
    · exact ⟨some a, es, cap, rfl, hl, by omega, Or.inl (List.length_eq_zero_iff.1 h), fun h => by cases h⟩
    · obtain ⟨b, off, spot⟩ := a
      have hspot : spot = none := by
        have := (hl2 0 hpos).1
        simpa [Addr.add] using World.cell?_spot this
      subst hspot
      exact ⟨some ⟨b, off, none⟩, es, cap, rfl, hl, by omega, Or.inr ⟨b, off, rfl, fun j hj => by
        have := hl2 j hj
        rw [add_at, add_at] at this
        exact ⟨this.1, by rw [show off + j * 2 + 1 = off + (j * 2 + 1) by omega]; exact this.2⟩⟩, fun h => by cases h⟩

set_option maxRecDepth 100000 in
/-- A net. -/
theorem open_net24n {H : Type} {enc : TypeId × Value → H} {W : World} {base : Nat} {v : Value} {d : DataW H} {p : List MemPlace} (hv : Value.okWide Try.prog W .any base 24 v) (h0 : DataW.Trod enc Try.prog W 0 (fun _ => true) true 24 v d p) :
    ∃ (n : Int) (a : Option Addr) (es : List Pt) (cap : Nat), v = nv n a es.length cap ∧ es.length ≤ cap ∧ es.length ≤ maxLen ∧ Has W a es ∧ (a = none → cap = 0) := by
  obtain ⟨cs, rfl, hsz⟩ := okWide_struct Try.underlying24 hv
  rw [cells24] at hsz
  obtain ⟨l⟩ := cs
  match l, hsz with
  | [c0, c1], _ =>
  obtain ⟨fuel, hf⟩ := h0
  obtain ⟨y0, y1, m, hx, _, hy0, hy1⟩ := trod_struct2 Try.underlying24 hf
  obtain ⟨n, e0, _, _⟩ := DataW.trod_int Try.underlying3 hy0
  simp [Value.cells, cells3] at e0
  simp [Value.cells, cells22] at hy1
  subst e0
  obtain ⟨a, es, cap, rfl, h1, h2, h3⟩ := open_pairs22n hy1
  exact ⟨n, a, es, cap, rfl, h1, h2, h3⟩
set_option maxRecDepth 100000 in
theorem open_rot26c {H : Type} {enc : TypeId × Value → H} {W : World} {base : Nat} {v : Value} {d : DataW H} {p : List MemPlace} (hv : Value.okWide Try.prog W .any base 26 v) (h0 : DataW.Trod enc Try.prog W 0 (fun _ => true) true 26 v d p) :
    ∃ (a : Option Addr) (rs : List (List Int)) (cap : Nat), v = .slice a rs.length cap ∧ rs.length ≤ maxLen ∧ RHas W a rs ∧ rs.length ≤ cap := by
  obtain ⟨a0, len, cap, rfl⟩ := okWide_slice Try.underlying26 hv
  obtain ⟨fuel, hf⟩ := h0
  rcases Go.Deep.open_slice1 Try.underlying26 cells27 hf with ⟨hcs, _⟩ | ⟨a, len', cap', m, n, V, D, Pl, hcs, _, hl, hmx, hm, _, hx⟩
  · simp [Value.cells] at hcs
    obtain ⟨rfl, rfl, rfl⟩ := hcs
    exact ⟨none, [], 0, rfl, Nat.zero_le _, Or.inl rfl, Nat.le_refl _⟩
  · simp [Value.cells] at hcs
    obtain ⟨rfl, rfl, rfl⟩ := hcs
    simp only [if_true] at hm
    have each : ∀ i, i < len → ∃ l : List Int, ∃ b c, W.cell? (a.add i) = some (.slice b l.length c) ∧ IHas W b l ∧ l.length ≤ maxLen ∧ l.length ≤ c ∧ (b = none → c = 0) := by
      intro i hi
      obtain ⟨h1, h2⟩ := hx i (by omega)
      obtain ⟨b, l, c, e, k1, k2, k3, k4⟩ := open_ints27c h2
      exact ⟨l, b, c, by rw [h1, e], k3, k2, k1, k4⟩
    obtain ⟨rs, hll, hl2⟩ := choose_at (d := ([] : List Int)) each
    subst hll
    rcases Nat.eq_zero_or_pos rs.length with h | hpos
    · exact ⟨some a, rs, cap, rfl, by omega, Or.inl (List.length_eq_zero_iff.1 h), hl⟩
    · obtain ⟨b, off, spot⟩ := a
      have hspot : spot = none := by
        obtain ⟨_, _, this, _⟩ := hl2 0 hpos
        simpa [Addr.add] using World.cell?_spot this
      subst hspot
      exact ⟨some ⟨b, off, none⟩, rs, cap, rfl, by omega, Or.inr ⟨b, off, rfl, fun j hj => by
        obtain ⟨x, c, k1, k2⟩ := hl2 j hj
        rw [add_at] at k1
        exact ⟨x, c, k1, k2⟩⟩, hl⟩
theorem cells28 : Try.prog.cellsOf 28 = 2 := by kernel_rfl
set_option maxRecDepth 100000 in
/-- A corner. -/
theorem open_corner28 {H : Type} {enc : TypeId × Value → H} {W : World} {base : Nat} {v : Value} {d : DataW H} {p : List MemPlace} (hv : Value.okWide Try.prog W .any base 28 v) (h0 : DataW.Trod enc Try.prog W 0 (fun _ => true) true 28 v d p) :
    ∃ (x y : Int), v = cv x y := by
  obtain ⟨cs, rfl, hsz⟩ := okWide_struct Try.underlying28 hv
  rw [cells28] at hsz
  obtain ⟨l⟩ := cs
  match l, hsz with
  | [c0, c1], _ =>
  obtain ⟨fuel, hf⟩ := h0
  obtain ⟨y0, y1, m, hx, _, hy0, hy1⟩ := trod_struct2 Try.underlying28 hf
  obtain ⟨n, e0, _, _⟩ := DataW.trod_int Try.underlying3 hy0
  obtain ⟨k, e1, _, _⟩ := DataW.trod_int Try.underlying3 hy1
  simp [Value.cells, cells3] at e0 e1
  subst e0 e1
  exact ⟨n, k, rfl⟩
theorem stay28 {H : Type} {enc : TypeId × Value → H} {W W' : World} {v : Value} {d : DataW H} {ps : List MemPlace} (h : DataW.Trod enc Try.prog W 0 (fun _ => true) true 28 v d ps) (hb : Below W.heap.size W W') (hlt : ∀ x ∈ ps, x.block < W.heap.size) : DataW.Trod enc Try.prog W' 0 (fun b => decide (b < W.heap.size)) true 28 v d ps :=
  Below.trod laidOut (by kernel_rfl) (of_decide_eq_true (by kernel_rfl)) h hb hlt
set_option maxRecDepth 100000 in
theorem lays_lifted (os : Os) (started : os.Started) (H : Type) (enc : TypeId × Value → H) :
    ReturnsInHanded {} Try.checked os 5 .any (Rows.dualLaysSpec.pre6 enc Try.prog Try.f5 Rows.dualLaysRow.domain false) (Rows.dualLaysSpec.post enc Try.prog Try.f5 false true false false) := by
  refine returnsInHanded_of_change (C := Try.checked) own started (by kernel_rfl) Try.func5
    (ChangeSpec.witness6 (enc := enc) (C := Try.checked) false ⟨#[], #[.agg #[.int .i64 0, .slice none 0 0], .slice none 0 0, .agg #[.int .i64 0, .int .i64 0], .agg #[.int .i64 0, .int .i64 0]], []⟩ 8 (by kernel_rfl) (by kernel_rfl) (by kernel_rfl) (by kernel_rfl)) ?_
  intro W base args ds gs before hval0 hW _ _
  have hval : ∀ (j : Nat) t v, Try.f5.params[j]? = some t → args[j]? = some v → Value.okWide Try.prog W .any base t v := hval0
  have hW' := hW
  obtain ⟨p, q, hA0, hV, rfl, _, _⟩ := hW
  have hA : DataW.TrodAll enc Try.prog W 0 (fun _ => true) true Try.f5.params.toList args.toList ds p := hA0
  rw [Try.params5] at hA hval
  obtain ⟨v0, v1, v2, v3, d0, d1, d2, d3, p0, p1, p2, p3, rfl, rfl, rfl, h0, h1, h2, h3⟩ := trodAll_four hA
  obtain ⟨rfl, rfl⟩ := trodVars_none hV
  obtain ⟨n, a0, es, cap0, rfl, _, _, hH, hn0⟩ := open_net24n (hval 0 24 v0 rfl rfl) h0
  obtain ⟨a1, r1, cap1, rfl, m1, k1, l1⟩ := open_rot26c (hval 1 26 v1 rfl rfl) h1
  obtain ⟨x2, y2, rfl⟩ := open_corner28 (hval 2 28 v2 rfl rfl) h2
  obtain ⟨x3, y3, rfl⟩ := open_corner28 (hval 3 28 v3 rfl rfl) h3
  clear hA0 hval0
  simp only [List.append_nil] at hW'
  have hlt : ∀ x ∈ p0 ++ (p1 ++ (p2 ++ p3)), x.block < W.heap.size := fun x hx => by simpa using hW'.lt x (by simpa using hx)
  refine (lays_walk n a0 es cap0 a1 r1 cap1 x2 y2 x3 y3 W hH hn0 k1 l1 m1).mono fun e W' ⟨he, hb⟩ => ?_
  subst he
  have hargs := trodAll_mk4 (stay24 h0 hb fun x hx => hlt x (by simp [hx])) (stay26 h1 hb fun x hx => hlt x (by simp [hx])) (stay28 h2 hb fun x hx => hlt x (by simp [hx])) (stay28 h3 hb fun x hx => hlt x (by simp [hx]))
  exact ⟨_, rfl, _, _, _, [], _, [], hW', trodAll_mk1 (shut_bool Try.underlying4 _), hargs, rfl, hb.frame _, fun h => by cases h⟩

theorem lays_holds : Rows.DualLaysSaid :=
  OpenClaim.holds_of_wide 5 Try.f5 rfl rfl rfl rfl rfl rfl rfl ⟨rfl, rfl, rfl, rfl, rfl⟩ rfl rfl rfl rfl rfl (by kernel_rfl) Try.func5 (by kernel_rfl)
    (of_decide_eq_true (by kernel_rfl)) (by unfold Func.isWrapper; first | (rw [if_pos (by decide +kernel)]; kernel_rfl) | (rw [if_neg (by decide +kernel)]; exact ⟨rfl, rfl⟩))
    (fun os started H enc _ => lays_lifted os started H enc)
#print axioms lays_holds
end Go.Proofs.Ytcgdmonejogbaaa
