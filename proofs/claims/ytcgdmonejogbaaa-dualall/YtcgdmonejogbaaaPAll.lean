/- For every net, rotation, two corners and three numbers, DualAll returns true and leaves its arguments as they were: the dual, corners' faces, edges laid, taken and split, and ways over faces are the document's, twice, all lists new, and what is handed in stays. No condition. -/
import Derived.Test.YtcgdmonejogbaaaP0
import Derived.Test.YtcgdmonejogbaaaGC
import Derived.Test.YtcgdmonejogbaaaChecked
import Derived.SizedLaws
namespace Go.Proofs.Ytcgdmonejogbaaa
open Go.RowKit
open Go
open Go.ChangeShapes Go.WideShapes Go.ChangeAt
set_option maxRecDepth 100000 in
/-- A list of pairs, out of its cells. -/
theorem open_pairs22n {H : Type} {enc : TypeId × Value → H} {W : World} {fuel : Nat} {c : Value} {x : DataW H × List MemPlace} (hf : DataW.trod enc Try.prog W 0 (fun _ => true) true fuel 22 [c] = some x) :
    ∃ (a : Option Addr) (es : List Pt) (cap : Nat), c = .slice a es.length cap ∧ es.length ≤ cap ∧ es.length ≤ maxLen ∧ Has W a es ∧ (a = none → cap = 0) := by
  rcases Go.Deep.open_slice Try.underlying22 hf with ⟨hcs, _⟩ | ⟨a, len, cap, m, n, D, Pl, hcs, _, hl, hmx, hm, _, hx⟩
  · simp at hcs
    subst hcs
    exact ⟨none, [], 0, rfl, Nat.le_refl _, Nat.zero_le _, Or.inl rfl, fun _ => rfl⟩
  · simp at hcs
    subst hcs
    simp only [if_true] at hm
    rw [cells49] at hx
    have each : ∀ i, i < len → ∃ q : Pt, W.cell? (a.add (i * 2)) = some (.int .i64 q.x) ∧ W.cell? (a.add (i * 2 + 1)) = some (.int .i64 q.y) := by
      intro i hi
      obtain ⟨cs', h1, h2⟩ := hx i (by omega)
      obtain ⟨_, hlen, hcell⟩ := World.cells?_some h1
      obtain ⟨xs, k, _, _, _, hxl, hfx⟩ := DataW.trod_array Try.underlying64 h2
      match cs', hlen with
      | [v0, v1], _ =>
        have g0 := hfx 0 (by omega)
        have g1 := hfx 1 (by omega)
        match xs, hxl with
        | [y0, y1], _ =>
          simp [cells3] at g0 g1
          have e0 := hcell 0 (by omega)
          have e1 := hcell 1 (by omega)
          rw [Go.Deep.add_add] at e0 e1
          obtain ⟨x0, f0, _, _⟩ := DataW.trod_int Try.underlying3 g0
          obtain ⟨x1, f1, _, _⟩ := DataW.trod_int Try.underlying3 g1
          simp at f0 f1
          subst f0 f1
          exact ⟨⟨x0, x1⟩, by simpa using e0, by simpa using e1⟩
    obtain ⟨es, hll, hl2⟩ := choose_at (d := (⟨0, 0⟩ : Pt)) each
    subst hll
    rcases Nat.eq_zero_or_pos es.length with h | hpos
    · exact ⟨some a, es, cap, rfl, hl, by omega, Or.inl (List.length_eq_zero_iff.1 h), fun h => by cases h⟩
    · obtain ⟨b, off, spot⟩ := a
      have hspot : spot = none := by
        have := (hl2 0 hpos).1
        simpa [Addr.add] using World.cell?_spot this
      subst hspot
      exact ⟨some ⟨b, off, none⟩, es, cap, rfl, hl, by omega, Or.inr ⟨b, off, rfl, fun j hj => by
        have := hl2 j hj
        rw [add_at, add_at] at this
        exact ⟨this.1, by rw [show off + j * 2 + 1 = off + (j * 2 + 1) by omega]; exact this.2⟩⟩, fun h => by cases h⟩
set_option maxRecDepth 100000 in
/-- A net. -/
theorem open_net24n {H : Type} {enc : TypeId × Value → H} {W : World} {base : Nat} {v : Value} {d : DataW H} {p : List MemPlace} (hv : Value.okWide Try.prog W .any base 24 v) (h0 : DataW.Trod enc Try.prog W 0 (fun _ => true) true 24 v d p) :
    ∃ (n : Int) (a : Option Addr) (es : List Pt) (cap : Nat), v = nv n a es.length cap ∧ es.length ≤ cap ∧ es.length ≤ maxLen ∧ Has W a es ∧ (a = none → cap = 0) := by
  obtain ⟨cs, rfl, hsz⟩ := okWide_struct Try.underlying24 hv
  rw [cells24] at hsz
  obtain ⟨l⟩ := cs
  match l, hsz with
  | [c0, c1], _ =>
  obtain ⟨fuel, hf⟩ := h0
  obtain ⟨y0, y1, m, hx, _, hy0, hy1⟩ := trod_struct2 Try.underlying24 hf
  obtain ⟨n, e0, _, _⟩ := DataW.trod_int Try.underlying3 hy0
  simp [Value.cells, cells3] at e0
  simp [Value.cells, cells22] at hy1
  subst e0
  obtain ⟨a, es, cap, rfl, h1, h2, h3⟩ := open_pairs22n hy1
  exact ⟨n, a, es, cap, rfl, h1, h2, h3⟩
set_option maxRecDepth 100000 in
theorem open_rot26c {H : Type} {enc : TypeId × Value → H} {W : World} {base : Nat} {v : Value} {d : DataW H} {p : List MemPlace} (hv : Value.okWide Try.prog W .any base 26 v) (h0 : DataW.Trod enc Try.prog W 0 (fun _ => true) true 26 v d p) :
    ∃ (a : Option Addr) (rs : List (List Int)) (cap : Nat), v = .slice a rs.length cap ∧ rs.length ≤ maxLen ∧ RHas W a rs ∧ rs.length ≤ cap := by
  obtain ⟨a0, len, cap, rfl⟩ := okWide_slice Try.underlying26 hv
  obtain ⟨fuel, hf⟩ := h0
  rcases Go.Deep.open_slice1 Try.underlying26 cells27 hf with ⟨hcs, _⟩ | ⟨a, len', cap', m, n, V, D, Pl, hcs, _, hl, hmx, hm, _, hx⟩
  · simp [Value.cells] at hcs
    obtain ⟨rfl, rfl, rfl⟩ := hcs
    exact ⟨none, [], 0, rfl, Nat.zero_le _, Or.inl rfl, Nat.le_refl _⟩
  · simp [Value.cells] at hcs
    obtain ⟨rfl, rfl, rfl⟩ := hcs
    simp only [if_true] at hm
    have each : ∀ i, i < len → ∃ l : List Int, ∃ b c, W.cell? (a.add i) = some (.slice b l.length c) ∧ IHas W b l ∧ l.length ≤ maxLen ∧ l.length ≤ c ∧ (b = none → c = 0) := by
      intro i hi
      obtain ⟨h1, h2⟩ := hx i (by omega)
      obtain ⟨b, l, c, e, k1, k2, k3, k4⟩ := open_ints27c h2
      exact ⟨l, b, c, by rw [h1, e], k3, k2, k1, k4⟩
    obtain ⟨rs, hll, hl2⟩ := choose_at (d := ([] : List Int)) each
    subst hll
    rcases Nat.eq_zero_or_pos rs.length with h | hpos
    · exact ⟨some a, rs, cap, rfl, by omega, Or.inl (List.length_eq_zero_iff.1 h), hl⟩
    · obtain ⟨b, off, spot⟩ := a
      have hspot : spot = none := by
        obtain ⟨_, _, this, _⟩ := hl2 0 hpos
        simpa [Addr.add] using World.cell?_spot this
      subst hspot
      exact ⟨some ⟨b, off, none⟩, rs, cap, rfl, by omega, Or.inr ⟨b, off, rfl, fun j hj => by
        obtain ⟨x, c, k1, k2⟩ := hl2 j hj
        rw [add_at] at k1
        exact ⟨x, c, k1, k2⟩⟩, hl⟩
theorem cells28 : Try.prog.cellsOf 28 = 2 := by kernel_rfl
set_option maxRecDepth 100000 in
/-- A corner. -/
theorem open_corner28 {H : Type} {enc : TypeId × Value → H} {W : World} {base : Nat} {v : Value} {d : DataW H} {p : List MemPlace} (hv : Value.okWide Try.prog W .any base 28 v) (h0 : DataW.Trod enc Try.prog W 0 (fun _ => true) true 28 v d p) :
    ∃ (x y : Int), v = cv x y := by
  obtain ⟨cs, rfl, hsz⟩ := okWide_struct Try.underlying28 hv
  rw [cells28] at hsz
  obtain ⟨l⟩ := cs
  match l, hsz with
  | [c0, c1], _ =>
  obtain ⟨fuel, hf⟩ := h0
  obtain ⟨y0, y1, m, hx, _, hy0, hy1⟩ := trod_struct2 Try.underlying28 hf
  obtain ⟨n, e0, _, _⟩ := DataW.trod_int Try.underlying3 hy0
  obtain ⟨k, e1, _, _⟩ := DataW.trod_int Try.underlying3 hy1
  simp [Value.cells, cells3] at e0 e1
  subst e0 e1
  exact ⟨n, k, rfl⟩
theorem stay28 {H : Type} {enc : TypeId × Value → H} {W W' : World} {v : Value} {d : DataW H} {ps : List MemPlace} (h : DataW.Trod enc Try.prog W 0 (fun _ => true) true 28 v d ps) (hb : Below W.heap.size W W') (hlt : ∀ x ∈ ps, x.block < W.heap.size) : DataW.Trod enc Try.prog W' 0 (fun b => decide (b < W.heap.size)) true 28 v d ps :=
  Below.trod laidOut (by kernel_rfl) (of_decide_eq_true (by kernel_rfl)) h hb hlt
theorem bytes3 : Try.prog.bytesOf 3 = 8 := by kernel_rfl
theorem bytes44 : Try.prog.bytesOf 44 = 24 := by kernel_rfl
theorem weights_all {H : Type} {P : Program} {e : TypeId} : ∀ {ds : List (DataW H)} {d : DataW H}, d ∈ ds → ∀ n ∈ d.weights P e, n ∈ DataW.weightsAll P e ds
  | d0 :: ds, d, hd, n, hn => by
    simp only [DataW.weightsAll, List.mem_append]
    rcases List.mem_cons.1 hd with h | h
    · subst h; exact Or.inl hn
    · exact Or.inr (weights_all h n hn)
  | [], d, hd, n, hn => by simp at hd
theorem ints_w {H : Type} {enc : TypeId × Value → H} {W : World} {fuel : Nat} {a : Option Addr} {len cap : Nat} {x : DataW H × List MemPlace} (hf : DataW.trod enc Try.prog W 0 (fun _ => true) true fuel 44 [.slice a len cap] = some x) (hw : ∀ n ∈ x.1.weights Try.prog 44, n ≤ reachBytes) : len * 8 ≤ reachBytes := by
  rcases Go.Deep.open_slice1 Try.underlying44 cells3 hf with ⟨hcs, _⟩ | ⟨a', len', cap', m, n, V, D, Pl, hcs, _, hl, hmx, hm, hxx, hx⟩
  · simp at hcs
    obtain ⟨_, rfl, _⟩ := hcs
    simp
  · simp at hcs
    obtain ⟨rfl, rfl, rfl⟩ := hcs
    subst hxx
    have := hw ((((List.range len).map D).length + ((List.range (m - len)).map fun j => D (len + j)).length) * Try.prog.bytesOf 3) (by simp [DataW.weights, Try.underlying44])
    rw [bytes3] at this
    simp at this
    omega
theorem rot_w {H : Type} {enc : TypeId × Value → H} {W : World} {fuel : Nat} {a : Option Addr} {len cap : Nat} {x : DataW H × List MemPlace} (hf : DataW.trod enc Try.prog W 0 (fun _ => true) true fuel 26 [.slice a len cap] = some x) (hw : ∀ n ∈ x.1.weights Try.prog 26, n ≤ reachBytes) : len * 24 ≤ reachBytes ∧ ∀ a', a = some a' → ∀ i, i < len → ∀ b l c, W.cell? (a'.add i) = some (.slice b l c) → l * 8 ≤ reachBytes := by
  rcases Go.Deep.open_slice1 Try.underlying26 cells27 hf with ⟨hcs, _⟩ | ⟨a', len', cap', m, n, V, D, Pl, hcs, _, hl, hmx, hm, hxx, hx⟩
  · simp at hcs
    obtain ⟨rfl, rfl, _⟩ := hcs
    exact ⟨by simp, fun a' h => by cases h⟩
  · simp at hcs
    obtain ⟨rfl, rfl, rfl⟩ := hcs
    subst hxx
    simp only [if_true] at hm
    refine ⟨?_, fun a2 h2 i hi b l c hc => ?_⟩
    · have := hw ((((List.range len).map D).length + ((List.range (m - len)).map fun j => D (len + j)).length) * Try.prog.bytesOf 44) (by simp [DataW.weights, Try.underlying26])
      rw [bytes44] at this
      simp at this
      omega
    · injection h2 with h2
      subst h2
      obtain ⟨h3, h4⟩ := hx i (by omega)
      rw [h3] at hc
      injection hc with hc
      rw [hc] at h4
      refine ints_w h4 fun n hn => hw n ?_
      have h5 : D i ∈ (List.range len).map D := List.mem_map.2 ⟨i, List.mem_range.2 hi, rfl⟩
      simp only [DataW.weights, Try.underlying26, List.mem_cons, List.mem_append]
      exact Or.inr (Or.inl (weights_all h5 n hn))
theorem trod_cell {H : Type} {enc : TypeId × Value → H} {W : World} {t : TypeId} {a : Option Addr} {len cap : Nat} {d : DataW H} {p : List MemPlace} (h : DataW.Trod enc Try.prog W 0 (fun _ => true) true t (.slice a len cap) d p) : ∃ fuel, DataW.trod enc Try.prog W 0 (fun _ => true) true fuel t [.slice a len cap] = some (d, p) := by
  obtain ⟨fuel, hf⟩ := h
  exact ⟨fuel, by simpa [Value.cells] using hf⟩
section
variable {H : Type} {enc : TypeId × Value → H} {P : Program} {w : World} {base : Nat} {spare : Nat → Bool} {held : Bool}
theorem trodAll_seven {t0 t1 t2 t3 t4 t5 t6 : TypeId} {args : Array Value} {ds : List (DataW H)} {ps : List MemPlace} (h : DataW.TrodAll enc P w base spare held [t0, t1, t2, t3, t4, t5, t6] args.toList ds ps) :
    ∃ v0 v1 v2 v3 v4 v5 v6 d0 d1 d2 d3 d4 d5 d6 p0 p1 p2 p3 p4 p5 p6, args = #[v0, v1, v2, v3, v4, v5, v6] ∧ ds = [d0, d1, d2, d3, d4, d5, d6] ∧ ps = p0 ++ (p1 ++ (p2 ++ (p3 ++ (p4 ++ (p5 ++ p6))))) ∧ DataW.Trod enc P w base spare held t0 v0 d0 p0 ∧ DataW.Trod enc P w base spare held t1 v1 d1 p1 ∧ DataW.Trod enc P w base spare held t2 v2 d2 p2 ∧ DataW.Trod enc P w base spare held t3 v3 d3 p3 ∧ DataW.Trod enc P w base spare held t4 v4 d4 p4 ∧ DataW.Trod enc P w base spare held t5 v5 d5 p5 ∧ DataW.Trod enc P w base spare held t6 v6 d6 p6 := by
  obtain ⟨v, vs, d, ds', p, q, hargs, rfl, rfl, hd, hrest⟩ := trodAll_cons h
  obtain ⟨v', vs', d', dsb, p', q', rfl, rfl, rfl, hd', hrest'⟩ := trodAll_cons hrest
  obtain ⟨v2, vs2, d2, ds2, p2, q2, rfl, rfl, rfl, hd2, hrest2⟩ := trodAll_cons hrest'
  obtain ⟨v3, vs3, d3, ds3, p3, q3, rfl, rfl, rfl, hd3, hrest3⟩ := trodAll_cons hrest2
  obtain ⟨v4, vs4, d4, ds4, p4, q4, rfl, rfl, rfl, hd4, hrest4⟩ := trodAll_cons hrest3
  obtain ⟨v5, vs5, d5, ds5, p5, q5, rfl, rfl, rfl, hd5, hrest5⟩ := trodAll_cons hrest4
  obtain ⟨v6, vs6, d6, ds6, p6, q6, rfl, rfl, rfl, hd6, hrest6⟩ := trodAll_cons hrest5
  obtain ⟨rfl, rfl, rfl⟩ := trodAll_nil hrest6
  exact ⟨v, v', v2, v3, v4, v5, v6, d, d', d2, d3, d4, d5, d6, p, p', p2, p3, p4, p5, p6, by cases args; simp_all, rfl, by simp, hd, hd', hd2, hd3, hd4, hd5, hd6⟩
theorem trodAll_mk7 {t0 t1 t2 t3 t4 t5 t6 : TypeId} {v0 v1 v2 v3 v4 v5 v6 : Value} {d0 d1 d2 d3 d4 d5 d6 : DataW H} {p0 p1 p2 p3 p4 p5 p6 : List MemPlace} (h0 : DataW.Trod enc P w base spare held t0 v0 d0 p0) (h1 : DataW.Trod enc P w base spare held t1 v1 d1 p1)
    (h2 : DataW.Trod enc P w base spare held t2 v2 d2 p2) (h3 : DataW.Trod enc P w base spare held t3 v3 d3 p3) (h4 : DataW.Trod enc P w base spare held t4 v4 d4 p4) (h5 : DataW.Trod enc P w base spare held t5 v5 d5 p5) (h6 : DataW.Trod enc P w base spare held t6 v6 d6 p6) : DataW.TrodAll enc P w base spare held [t0, t1, t2, t3, t4, t5, t6] [v0, v1, v2, v3, v4, v5, v6] [d0, d1, d2, d3, d4, d5, d6] (p0 ++ (p1 ++ (p2 ++ (p3 ++ (p4 ++ (p5 ++ p6)))))) :=
  ⟨p0, p1 ++ (p2 ++ (p3 ++ (p4 ++ (p5 ++ p6)))), h0, ⟨p1, p2 ++ (p3 ++ (p4 ++ (p5 ++ p6))), h1, trodAll_mk5 h2 h3 h4 h5 h6, rfl⟩, rfl⟩
end
set_option maxRecDepth 100000 in
theorem all_lifted (os : Os) (started : os.Started) (H : Type) (enc : TypeId × Value → H) :
    ReturnsInHanded {} Try.checked os 3 .any (Rows.dualAllSpec.pre6 enc Try.prog Try.f3 Rows.dualAllRow.domain false) (Rows.dualAllSpec.post enc Try.prog Try.f3 false true false false) := by
  refine returnsInHanded_of_change_sized (C := Try.checked) own started (by kernel_rfl) Try.func3
    (ChangeSpec.witness6 (enc := enc) (C := Try.checked) false ⟨#[], #[.agg #[.int .i64 0, .slice none 0 0], .slice none 0 0, .agg #[.int .i64 0, .int .i64 0], .agg #[.int .i64 0, .int .i64 0], .int .i64 0, .int .i64 0, .int .i64 0], []⟩ 8 (by kernel_rfl) (by kernel_rfl) (by kernel_rfl) (by kernel_rfl)) ?_
  intro W base args ds gs before hval0 hW _ hz _
  have hval : ∀ (j : Nat) t v, Try.f3.params[j]? = some t → args[j]? = some v → Value.okWide Try.prog W .any base t v := hval0
  have hW' := hW
  obtain ⟨p, q, hA0, hV, rfl, _, _⟩ := hW
  have hA : DataW.TrodAll enc Try.prog W 0 (fun _ => true) true Try.f3.params.toList args.toList ds p := hA0
  rw [Try.params3] at hA hval
  obtain ⟨v0, v1, v2, v3, v4, v5, v6, d0, d1, d2, d3, d4, d5, d6, p0, p1, p2, p3, p4, p5, p6, rfl, rfl, rfl, h0, h1, h2, h3, h4, h5, h6⟩ := trodAll_seven hA
  obtain ⟨rfl, rfl⟩ := trodVars_none hV
  obtain ⟨n, a0, es, cap0, rfl, _, _, hH, hN⟩ := open_net24n (hval 0 24 v0 rfl rfl) h0
  obtain ⟨a1, r1, cap1, rfl, m1, k1, l1⟩ := open_rot26c (hval 1 26 v1 rfl rfl) h1
  obtain ⟨x2, y2, rfl⟩ := open_corner28 (hval 2 28 v2 rfl rfl) h2
  obtain ⟨x3, y3, rfl⟩ := open_corner28 (hval 3 28 v3 rfl rfl) h3
  obtain ⟨x4, rfl, rfl, rfl, w4⟩ := open_int Try.underlying3 (hval 4 3 v4 rfl rfl) h4
  obtain ⟨x5, rfl, rfl, rfl, w5⟩ := open_int Try.underlying3 (hval 5 3 v5 rfl rfl) h5
  obtain ⟨x6, rfl, rfl, rfl, w6⟩ := open_int Try.underlying3 (hval 6 3 v6 rfl rfl) h6
  clear hA0 hval0
  simp only [List.append_nil] at hW'
  have hlt : ∀ x ∈ p0 ++ (p1 ++ (p2 ++ p3)), x.block < W.heap.size := fun x hx => by simpa using hW'.lt x (by simpa using hx)
  have hty : Try.f3.params.toList ++ Rows.dualAllSpec.plain.varTypes Try.checked.prog = [24, 26, 28, 28, 3, 3, 3] := by kernel_rfl
  have hrb : reachBytes = 140737488351232 := by decide
  have hz1 : ∀ n ∈ d1.weights Try.prog 26, n ≤ reachBytes := fun n hn => by
    have h := hz
    rw [List.append_nil, hty] at h
    have := List.all_eq_true.1 h n (DataW.weights_mem_each (j := 1) (t := 26) (d := d1) rfl rfl n hn)
    simpa using this
  obtain ⟨f1, e1⟩ := trod_cell h1
  obtain ⟨w1, w2⟩ := rot_w e1 hz1
  rw [hrb] at w1 w2
  have hls : ∀ v, v < r1.length → ((lat r1 v).length + 1) * 8 ≤ 140737488355328 := fun v hv => by
    obtain ⟨b, off, a, c, hp, hc, _⟩ := k1.at_ hv
    have := w2 _ hp v hv a (lat r1 v).length c (by rw [add_at]; exact hc)
    omega
  refine (all_walk n a0 es cap0 a1 r1 cap1 x2 y2 x3 y3 x4 x5 x6 W hH hN k1 l1 (by omega) hls).mono fun e W' ⟨he, hb⟩ => ?_
  subst he
  have hargs := trodAll_mk7 (stay24 h0 hb fun x hx => hlt x (by simp [hx])) (stay26 h1 hb fun x hx => hlt x (by simp [hx])) (stay28 h2 hb fun x hx => hlt x (by simp [hx])) (stay28 h3 hb fun x hx => hlt x (by simp [hx])) (shut_int (enc := enc) (P := Try.prog) (w := W') (base := 0) (spare := fun b => decide (b < W.heap.size)) (held := true) Try.underlying3 w4) (shut_int (enc := enc) (P := Try.prog) (w := W') (base := 0) (spare := fun b => decide (b < W.heap.size)) (held := true) Try.underlying3 w5) (shut_int (enc := enc) (P := Try.prog) (w := W') (base := 0) (spare := fun b => decide (b < W.heap.size)) (held := true) Try.underlying3 w6)
  simp only [List.append_nil] at hargs
  exact ⟨_, rfl, _, _, _, [], _, [], hW', trodAll_mk1 (shut_bool Try.underlying4 _), hargs, rfl, hb.frame _, fun h => by cases h⟩
theorem all_holds : Rows.DualAllSaid :=
  OpenClaim.holds_of_wide 3 Try.f3 rfl rfl rfl rfl rfl rfl rfl ⟨rfl, rfl, rfl, rfl, rfl⟩ rfl rfl rfl rfl rfl (by kernel_rfl) Try.func3 (by kernel_rfl)
    (of_decide_eq_true (by kernel_rfl)) (by unfold Func.isWrapper; first | (rw [if_pos (by decide +kernel)]; kernel_rfl) | (rw [if_neg (by decide +kernel)]; exact ⟨rfl, rfl⟩))
    (fun os started H enc _ => all_lifted os started H enc)
#print axioms all_holds
end Go.Proofs.Ytcgdmonejogbaaa
