/- For every net, rotation and two lists of numbers, RotAll returns true and leaves its arguments as they were: rotations are taken or refused, and all that is told and made of them, as the document has it, twice, and what is handed in stays. No condition. -/
import Derived.Test.YtllkadgpkbaghaaP0
import Derived.Test.YtllkadgpkbaghaaTE
import Derived.Test.YtllkadgpkbaghaaChecked
import Derived.SizedLaws
namespace Go.Proofs.Ytllkadgpkbaghaa
open Go.RowKit
open Go
open Go.ChangeShapes Go.WideShapes Go.ChangeAt

set_option maxRecDepth 100000 in
theorem open_pairs22n {H : Type} {enc : TypeId × Value → H} {W : World} {fuel : Nat} {c : Value} {x : DataW H × List MemPlace} (hf : DataW.trod enc Try.prog W 0 (fun _ => true) true fuel 22 [c] = some x) :
    ∃ (a : Option Addr) (es : List Pt) (cap : Nat), c = .slice a es.length cap ∧ es.length ≤ cap ∧ es.length ≤ maxLen ∧ Has W a es ∧ (a = none → cap = 0) := by
  rcases Go.Deep.open_slice Try.underlying22 hf with ⟨hcs, _⟩ | ⟨a, len, cap, m, n, D, Pl, hcs, _, hl, hmx, hm, _, hx⟩
  · simp at hcs
    subst hcs
    exact ⟨none, [], 0, rfl, Nat.le_refl _, Nat.zero_le _, Or.inl rfl, fun _ => rfl⟩
  · simp at hcs
    subst hcs
    simp only [if_true] at hm
    rw [cells49] at hx
    have each : ∀ i, i < len → ∃ q : Pt, W.cell? (a.add (i * 2)) = some (.int .i64 q.x) ∧ W.cell? (a.add (i * 2 + 1)) = some (.int .i64 q.y) := by
      intro i hi
      obtain ⟨cs', h1, h2⟩ := hx i (by omega)
      obtain ⟨_, hlen, hcell⟩ := World.cells?_some h1
      obtain ⟨xs, k, _, _, _, hxl, hfx⟩ := DataW.trod_array Try.underlying64 h2
      match cs', hlen with
      | [v0, v1], _ =>
        have g0 := hfx 0 (by omega)
        have g1 := hfx 1 (by omega)
        match xs, hxl with
        | [y0, y1], _ =>
          simp [cells3] at g0 g1
          have e0 := hcell 0 (by omega)
          have e1 := hcell 1 (by omega)
          rw [Go.Deep.add_add] at e0 e1
          obtain ⟨x0, f0, _, _⟩ := DataW.trod_int Try.underlying3 g0
          obtain ⟨x1, f1, _, _⟩ := DataW.trod_int Try.underlying3 g1
          simp at f0 f1
          subst f0 f1
          exact ⟨⟨x0, x1⟩, by simpa using e0, by simpa using e1⟩
    obtain ⟨es, hll, hl2⟩ := choose_at (d := (⟨0, 0⟩ : Pt)) each
    subst hll
    rcases Nat.eq_zero_or_pos es.length with h | hpos
    · exact ⟨some a, es, cap, rfl, hl, by omega, Or.inl (List.length_eq_zero_iff.1 h), fun h => by cases h⟩
    · obtain ⟨b, off, spot⟩ := a
      have hspot : spot = none := by
        have := (hl2 0 hpos).1
        simpa [Addr.add] using World.cell?_spot this
      subst hspot
      exact ⟨some ⟨b, off, none⟩, es, cap, rfl, hl, by omega, Or.inr ⟨b, off, rfl, fun j hj => by
        have := hl2 j hj
        rw [add_at, add_at] at this
        exact ⟨this.1, by rw [show off + j * 2 + 1 = off + (j * 2 + 1) by omega]; exact this.2⟩⟩, fun h => by cases h⟩

set_option maxRecDepth 100000 in
/-- A net. -/
theorem open_net24n {H : Type} {enc : TypeId × Value → H} {W : World} {base : Nat} {v : Value} {d : DataW H} {p : List MemPlace} (hv : Value.okWide Try.prog W .any base 24 v) (h0 : DataW.Trod enc Try.prog W 0 (fun _ => true) true 24 v d p) :
    ∃ (n : Int) (a : Option Addr) (es : List Pt) (cap : Nat), v = nv n a es.length cap ∧ es.length ≤ cap ∧ es.length ≤ maxLen ∧ Has W a es ∧ (a = none → cap = 0) := by
  obtain ⟨cs, rfl, hsz⟩ := okWide_struct Try.underlying24 hv
  rw [cells24] at hsz
  obtain ⟨l⟩ := cs
  match l, hsz with
  | [c0, c1], _ =>
  obtain ⟨fuel, hf⟩ := h0
  obtain ⟨y0, y1, m, hx, _, hy0, hy1⟩ := trod_struct2 Try.underlying24 hf
  obtain ⟨n, e0, _, _⟩ := DataW.trod_int Try.underlying3 hy0
  simp [Value.cells, cells3] at e0
  simp [Value.cells, cells22] at hy1
  subst e0
  obtain ⟨a, es, cap, rfl, h1, h2, h3⟩ := open_pairs22n hy1
  exact ⟨n, a, es, cap, rfl, h1, h2, h3⟩

theorem bytes3 : Try.prog.bytesOf 3 = 8 := by kernel_rfl
theorem bytes27 : Try.prog.bytesOf 27 = 24 := by kernel_rfl
theorem weights_all {H : Type} {P : Program} {e : TypeId} : ∀ {ds : List (DataW H)} {d : DataW H}, d ∈ ds → ∀ n ∈ d.weights P e, n ∈ DataW.weightsAll P e ds
  | d0 :: ds, d, hd, n, hn => by
    simp only [DataW.weightsAll, List.mem_append]
    rcases List.mem_cons.1 hd with h | h
    · subst h; exact Or.inl hn
    · exact Or.inr (weights_all h n hn)
  | [], d, hd, n, hn => by simp at hd
theorem ints_w {H : Type} {enc : TypeId × Value → H} {W : World} {fuel : Nat} {a : Option Addr} {len cap : Nat} {x : DataW H × List MemPlace} (hf : DataW.trod enc Try.prog W 0 (fun _ => true) true fuel 27 [.slice a len cap] = some x) (hw : ∀ n ∈ x.1.weights Try.prog 27, n ≤ reachBytes) : len * 8 ≤ reachBytes := by
  rcases Go.Deep.open_slice1 Try.underlying27 cells3 hf with ⟨hcs, _⟩ | ⟨a', len', cap', m, n, V, D, Pl, hcs, _, hl, hmx, hm, hxx, hx⟩
  · simp at hcs
    obtain ⟨_, rfl, _⟩ := hcs
    simp
  · simp at hcs
    obtain ⟨rfl, rfl, rfl⟩ := hcs
    subst hxx
    have := hw ((((List.range len).map D).length + ((List.range (m - len)).map fun j => D (len + j)).length) * Try.prog.bytesOf 3) (by simp [DataW.weights, Try.underlying27])
    rw [bytes3] at this
    simp at this
    omega
theorem rot_w {H : Type} {enc : TypeId × Value → H} {W : World} {fuel : Nat} {a : Option Addr} {len cap : Nat} {x : DataW H × List MemPlace} (hf : DataW.trod enc Try.prog W 0 (fun _ => true) true fuel 26 [.slice a len cap] = some x) (hw : ∀ n ∈ x.1.weights Try.prog 26, n ≤ reachBytes) : len * 24 ≤ reachBytes ∧ ∀ a', a = some a' → ∀ i, i < len → ∀ b l c, W.cell? (a'.add i) = some (.slice b l c) → l * 8 ≤ reachBytes := by
  rcases Go.Deep.open_slice1 Try.underlying26 cells27 hf with ⟨hcs, _⟩ | ⟨a', len', cap', m, n, V, D, Pl, hcs, _, hl, hmx, hm, hxx, hx⟩
  · simp at hcs
    obtain ⟨rfl, rfl, _⟩ := hcs
    exact ⟨by simp, fun a' h => by cases h⟩
  · simp at hcs
    obtain ⟨rfl, rfl, rfl⟩ := hcs
    subst hxx
    simp only [if_true] at hm
    refine ⟨?_, fun a2 h2 i hi b l c hc => ?_⟩
    · have := hw ((((List.range len).map D).length + ((List.range (m - len)).map fun j => D (len + j)).length) * Try.prog.bytesOf 27) (by simp [DataW.weights, Try.underlying26])
      rw [bytes27] at this
      simp at this
      omega
    · injection h2 with h2
      subst h2
      obtain ⟨h3, h4⟩ := hx i (by omega)
      rw [h3] at hc
      injection hc with hc
      rw [hc] at h4
      refine ints_w h4 fun n hn => hw n ?_
      have h5 : D i ∈ (List.range len).map D := List.mem_map.2 ⟨i, List.mem_range.2 hi, rfl⟩
      simp only [DataW.weights, Try.underlying26, List.mem_cons, List.mem_append]
      exact Or.inr (Or.inl (weights_all h5 n hn))
theorem trod_cell {H : Type} {enc : TypeId × Value → H} {W : World} {t : TypeId} {a : Option Addr} {len cap : Nat} {d : DataW H} {p : List MemPlace} (h : DataW.Trod enc Try.prog W 0 (fun _ => true) true t (.slice a len cap) d p) : ∃ fuel, DataW.trod enc Try.prog W 0 (fun _ => true) true fuel t [.slice a len cap] = some (d, p) := by
  obtain ⟨fuel, hf⟩ := h
  exact ⟨fuel, by simpa [Value.cells] using hf⟩
set_option maxRecDepth 100000 in
theorem all_lifted (os : Os) (started : os.Started) (H : Type) (enc : TypeId × Value → H) :
    ReturnsInHanded {} Try.checked os 3 .any (Rows.rotAllSpec.pre6 enc Try.prog Try.f3 Rows.rotAllRow.domain false) (Rows.rotAllSpec.post enc Try.prog Try.f3 false true false false) := by
  refine returnsInHanded_of_change_sized (C := Try.checked) own started (by kernel_rfl) Try.func3
    (ChangeSpec.witness6 (enc := enc) (C := Try.checked) false ⟨#[], #[.agg #[.int .i64 0, .slice none 0 0], .slice none 0 0, .slice none 0 0, .slice none 0 0], []⟩ 8 (by kernel_rfl) (by kernel_rfl) (by kernel_rfl) (by kernel_rfl)) ?_
  intro W base args ds gs before hval0 hW _ hz _
  have hval : ∀ (j : Nat) t v, Try.f3.params[j]? = some t → args[j]? = some v → Value.okWide Try.prog W .any base t v := hval0
  have hW' := hW
  obtain ⟨p, q, hA0, hV, rfl, _, _⟩ := hW
  have hA : DataW.TrodAll enc Try.prog W 0 (fun _ => true) true Try.f3.params.toList args.toList ds p := hA0
  rw [Try.params3] at hA hval
  obtain ⟨v0, v1, v2, v3, d0, d1, d2, d3, p0, p1, p2, p3, rfl, rfl, rfl, h0, h1, h2, h3⟩ := trodAll_four hA
  obtain ⟨rfl, rfl⟩ := trodVars_none hV
  obtain ⟨n, a0, es, cap0, rfl, _, _, hH, hN⟩ := open_net24n (hval 0 24 v0 rfl rfl) h0
  obtain ⟨a1, r1, cap1, rfl, m1, k1⟩ := open_rot26 (hval 1 26 v1 rfl rfl) h1
  obtain ⟨a2, l2, cap2, rfl, _, m2, k2, _⟩ := open_ints27 (hval 2 27 v2 rfl rfl) h2
  obtain ⟨a3, l3, cap3, rfl, _, m3, k3, _⟩ := open_ints27 (hval 3 27 v3 rfl rfl) h3
  clear hA0 hval0
  simp only [List.append_nil] at hW'
  have hlt : ∀ x ∈ p0 ++ (p1 ++ (p2 ++ p3)), x.block < W.heap.size := fun x hx => by simpa using hW'.lt x (by simpa using hx)
  have hty : Try.f3.params.toList ++ Rows.rotAllSpec.plain.varTypes Try.checked.prog = [24, 26, 27, 27] := by kernel_rfl
  have hz' : ∀ (j : Nat) t d, ([24, 26, 27, 27] : List TypeId)[j]? = some t → ([d0, d1, d2, d3] : List (DataW H))[j]? = some d → ∀ n ∈ d.weights Try.prog t, n ≤ reachBytes := fun j t d ht hd n hn => by
    have hz2 : (DataW.weightsEach Try.prog ([24, 26, 27, 27] : List TypeId) [d0, d1, d2, d3]).all (· ≤ reachBytes) = true := by
      have h := hz
      rw [List.append_nil, hty] at h
      exact h
    have := List.all_eq_true.1 hz2 n (DataW.weights_mem_each ht hd n hn)
    simpa using this
  have hrb : reachBytes = 140737488351232 := by decide
  obtain ⟨f1, e1⟩ := trod_cell h1
  obtain ⟨f2, e2⟩ := trod_cell h2
  obtain ⟨f3, e3⟩ := trod_cell h3
  obtain ⟨w1, w2⟩ := rot_w e1 (hz' 1 26 d1 rfl rfl)
  have w3 := ints_w e2 (hz' 2 27 d2 rfl rfl)
  have w4 := ints_w e3 (hz' 3 27 d3 rfl rfl)
  rw [hrb] at w1 w2 w3 w4
  have hls : ∀ v, v < r1.length → ((lat r1 v).length + 1) * 8 ≤ 140737488355328 := fun v hv => by
    obtain ⟨b, off, a, c, hp, hc, _⟩ := k1.at_ hv
    have := w2 _ hp v hv a (lat r1 v).length c (by rw [add_at]; exact hc)
    omega
  refine (all_walk n a0 es cap0 a1 r1 cap1 a2 l2 cap2 a3 l3 cap3 W hH hN k1 (by omega) hls k2 k3 (by omega) (by omega)).mono fun e W' ⟨he, hb⟩ => ?_
  subst he
  have l0 : ∀ x ∈ p0, x.block < W.heap.size := fun x hx => hlt x (List.mem_append_left _ hx)
  have l1 : ∀ x ∈ p1, x.block < W.heap.size := fun x hx => hlt x (List.mem_append_right _ (List.mem_append_left _ hx))
  have l2p : ∀ x ∈ p2, x.block < W.heap.size := fun x hx => hlt x (List.mem_append_right _ (List.mem_append_right _ (List.mem_append_left _ hx)))
  have l3' : ∀ x ∈ p3, x.block < W.heap.size := fun x hx => hlt x (List.mem_append_right _ (List.mem_append_right _ (List.mem_append_right _ hx)))
  have hargs := trodAll_mk4 (stay24 h0 hb l0) (stay26 h1 hb l1) (stay27 h2 hb l2p) (stay27 h3 hb l3')
  exact ⟨_, rfl, _, _, _, [], _, [], hW', trodAll_mk1 (shut_bool Try.underlying4 _), hargs, rfl, hb.frame _, fun h => by cases h⟩

theorem all_holds : Rows.RotAllSaid :=
  OpenClaim.holds_of_wide 3 Try.f3 rfl rfl rfl rfl rfl rfl rfl ⟨rfl, rfl, rfl, rfl, rfl⟩ rfl rfl rfl rfl rfl (by kernel_rfl) Try.func3 (by kernel_rfl)
    (of_decide_eq_true (by kernel_rfl)) (by unfold Func.isWrapper; first | (rw [if_pos (by decide +kernel)]; kernel_rfl) | (rw [if_neg (by decide +kernel)]; exact ⟨rfl, rfl⟩))
    (fun os started H enc _ => all_lifted os started H enc)
#print axioms all_holds
end Go.Proofs.Ytllkadgpkbaghaa
