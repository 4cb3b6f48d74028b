/- Searching: slices.BinarySearch of numbers, BinarySearchFunc of edges; nodePlace, hasNode, edgePlace. -/
import Derived.Test.YtgfiofogcnnkhaaGD
import Derived.Deep.LoopGhost
namespace Go.Proofs.Ytgfiofogcnnkhaa
open Go.RowKit Go.Sort
open Go

def pl (l : List Int) (x : Int) : Nat := l.countP (fun y => decide (y < x))
def Up (l : List Int) : Prop := l.Pairwise (fun a b => a < b)
theorem Up.lt {l : List Int} (h : Up l) {i j : Nat} (hij : i < j) (hj : j < l.length) : iat l i < iat l j := by
  have := (List.pairwise_iff_getElem.1 h) i j (by omega) hj hij
  unfold iat
  rw [List.getD_eq_getElem?_getD, List.getD_eq_getElem?_getD, List.getElem?_eq_getElem hj, List.getElem?_eq_getElem (by omega)]
  exact this
theorem srch_end : ∀ {l : List Int} {x : Int} {p : Nat}, p ≤ l.length → (∀ t, t < p → iat l t < x) → (∀ t, p ≤ t → t < l.length → x ≤ iat l t) → pl l x = p
  | [], _, p, h, _, _ => by simp at h; subst h; rfl
  | a :: r, x, 0, _, _, h3 => by
    unfold pl
    rw [List.countP_eq_zero]
    intro y hy
    obtain ⟨j, hj, rfl⟩ := mem_iat hy
    have := h3 j (by omega) hj
    simpa using this
  | a :: r, x, p + 1, h, h2, h3 => by
    have h0 : a < x := h2 0 (by omega)
    have ih := srch_end (l := r) (x := x) (p := p) (by simpa using h) (fun t ht => h2 (t + 1) (by omega)) (fun t h4 h5 => h3 (t + 1) (by omega) (by simpa using h5))
    unfold pl at ih ⊢
    rw [List.countP_cons, ih]
    simp [h0]
theorem srch_mem {l : List Int} {x : Int} {p : Nat} (hs : Up l) (hp : p ≤ l.length) (h2 : ∀ t, t < p → iat l t < x) (h3 : ∀ t, p ≤ t → t < l.length → x ≤ iat l t) : x ∈ l ↔ p < l.length ∧ iat l p = x := by
  constructor
  · intro h
    obtain ⟨j, hj, e⟩ := mem_iat h
    have h4 : ¬ j < p := fun h5 => by have := h2 j h5; omega
    have h6 : ¬ p < j := fun h5 => by have := hs.lt h5 hj; have := h3 p (by omega) (by omega); omega
    have : j = p := by omega
    subst this
    exact ⟨hj, e⟩
  · rintro ⟨h4, h5⟩
    rw [← h5]
    exact iat_mem h4
theorem isNaN97 (x : Int) (w : World) : Calls Try.prog 97 #[.int .i64 x] w fun e w' => e = .returned (.bool false) ∧ w' = w := by
  go_enter Try.func97, Try.ntmps97
  go_wp2
  go_ret
  exact ⟨by simp, rfl⟩
theorem isNaN95 (x : Int) (w : World) : Calls Try.prog 95 #[.int .i64 x] w fun e w' => e = .returned (.bool false) ∧ w' = w := by
  go_enter Try.func95, Try.ntmps95
  go_wp2
  go_ret
  exact ⟨by simp, rfl⟩
theorem less96 (x y : Int) (w : World) : Calls Try.prog 96 #[.int .i64 x, .int .i64 y] w fun e w' => e = .returned (.bool (decide (x < y))) ∧ w' = w := by
  go_enter Try.func96, Try.ntmps96
  go_wp2_with (go_at_call 95; refine (isNaN95 _ _).mono ?_; rintro e w' ⟨rfl, rfl⟩)
  go_ret
  exact ⟨rfl, rfl⟩
def cmpI (x y : Int) : Int := if x < y then -1 else if y < x then 1 else 0
theorem compare83 (x y : Int) (w : World) : Calls Try.prog 83 #[.int .i64 x, .int .i64 y] w fun e w' => e = .returned (.int .i64 (cmpI x y)) ∧ w' = w := by
  unfold cmpI
  by_cases h1 : x < y
  · rw [if_pos h1]
    go_enter Try.func83, Try.ntmps83
    go_wp2_with (go_at_call 95; refine (isNaN95 _ _).mono ?_; rintro e w' ⟨rfl, rfl⟩)
    go_ret
    exact ⟨rfl, rfl⟩
  · rw [if_neg h1]
    by_cases h2 : y < x
    · rw [if_pos h2]
      go_enter Try.func83, Try.ntmps83
      go_wp2_with (go_at_call 95; refine (isNaN95 _ _).mono ?_; rintro e w' ⟨rfl, rfl⟩)
      go_ret
      exact ⟨rfl, rfl⟩
    · rw [if_neg h2]
      go_enter Try.func83, Try.ntmps83
      go_wp2_with (go_at_call 95; refine (isNaN95 _ _).mono ?_; rintro e w' ⟨rfl, rfl⟩)
      go_ret
      exact ⟨rfl, rfl⟩
set_option maxHeartbeats 4000000 in
set_option maxRecDepth 1000000 in
theorem search85 (p : Option Addr) (l : List Int) (c : Nat) (x : Int) (w : World) (hl : l.length ≤ 1000000) (h : IHas w p l) (hs : Up l) : Calls Try.prog 85 #[.slice p l.length c, .int .i64 x] w fun e w' => e = .returned (.tuple #[.int .i64 (pl l x), .bool (decide (x ∈ l))]) ∧ w' = w := by
  have S := hide hs
  have H := hide h
  clear hs h
  go_enter Try.func85, Try.ntmps85
  go_wp2
  go_loopg [7, 8] l.length (fun g s7 s8 wr => ∃ lo hi : Nat, s7 = .int .i64 lo ∧ s8 = .int .i64 hi ∧ lo ≤ hi ∧ hi ≤ l.length ∧ hi - lo ≤ g ∧ wr = w ∧ Hid (∀ t, t < lo → iat l t < x) ∧ Hid (∀ t, hi ≤ t → t < l.length → x ≤ iat l t))
  case atStart => exact ⟨0, l.length, rfl, rfl, Nat.zero_le _, Nat.le_refl _, by omega, rfl, fun t ht => absurd ht (Nat.not_lt_zero _), fun t h1 h2 => by omega⟩
  case round =>
    obtain ⟨lo, hi, rfl, rfl, hlh, hin, hg, rfl, h1, h2⟩ := hrel
    by_cases hlt : lo < hi
    · rcases H.out with h | ⟨b, off, rfl, hc⟩
      · subst h; simp at hin; omega
      have cm := hc ((lo + hi) / 2) (by omega)
      clear hc
      generalize hy : iat l ((lo + hi) / 2) = y at cm
      have Y := hide hy
      clear hy
      have e1 : ((lo + hi) / 2 : Nat) < l.length := by omega
      have L := less96 y x
      by_cases hyx : y < x
      · rw [decide_eq_true hyx] at L
        go_wp2_with (go_at_call 96; refine (L _).mono ?_; rintro e w' ⟨rfl, rfl⟩)
        go_roundg (hi - ((lo + hi) / 2 + 1))
        case measure => omega
        case rel =>
          refine ⟨(lo + hi) / 2 + 1, hi, by rw [show ((lo : Int) + (hi : Int)) / 2 + 1 = (((lo + hi) / 2 + 1 : Nat) : Int) by omega], rfl, by omega, hin, Nat.le_refl _, rfl, fun t ht => ?_, h2.out⟩
          by_cases ht' : t = (lo + hi) / 2
          · rw [ht', Y.out]; exact hyx
          · have := S.out.lt (i := t) (j := (lo + hi) / 2) (by omega) (by omega)
            rw [Y.out] at this
            omega
      · rw [decide_eq_false hyx] at L
        go_wp2_with (go_at_call 96; refine (L _).mono ?_; rintro e w' ⟨rfl, rfl⟩)
        go_roundg ((lo + hi) / 2 - lo)
        case measure => omega
        case rel =>
          refine ⟨lo, (lo + hi) / 2, rfl, by rw [show ((lo : Int) + (hi : Int)) / 2 = (((lo + hi) / 2 : Nat) : Int) by omega], by omega, by omega, Nat.le_refl _, rfl, h1.out, fun t ht htn => ?_⟩
          by_cases ht' : t = (lo + hi) / 2
          · rw [ht', Y.out]; omega
          · have := S.out.lt (i := (lo + hi) / 2) (j := t) (by omega) (by omega)
            rw [Y.out] at this
            omega
    · have : hi = lo := by omega
      subst this
      have E1 := hide (srch_end hin h1.out h2.out)
      have E2 := hide (srch_mem S.out hin h1.out h2.out)
      by_cases hn : hi < l.length
      · rcases H.out with h | ⟨b, off, rfl, hc⟩
        · subst h; simp at hn
        have cl := hc hi hn
        clear hc
        generalize hy : iat l hi = y at cl
        have Y := hide hy
        clear hy
        by_cases hyx : y = x
        · go_wp2_with (go_at_call 97; refine (isNaN97 _ _).mono ?_; rintro e w' ⟨rfl, rfl⟩)
          go_ret2
          refine ⟨?_, rfl⟩
          rw [E1.out, decide_eq_true (E2.out.2 ⟨hn, Y.out.trans hyx⟩)]
          first | rfl | simp [*]
        · go_wp2_with (go_at_call 97; refine (isNaN97 _ _).mono ?_; rintro e w' ⟨rfl, rfl⟩)
          go_ret2
          refine ⟨?_, rfl⟩
          rw [E1.out, decide_eq_false (fun k => hyx (Y.out.symm.trans (E2.out.1 k).2))]
          first | rfl | simp [*]
      · go_wp2_with (go_at_call 97; refine (isNaN97 _ _).mono ?_; rintro e w' ⟨rfl, rfl⟩)
        go_ret2
        refine ⟨?_, rfl⟩
        rw [E1.out, decide_eq_false (fun k => hn (E2.out.1 k).1)]
        first | rfl | simp [*]
def ev (x : Ed) : Value := .agg #[.int .i64 x.id, .int .i64 x.a, .int .i64 x.b]
def ELies (w : World) (b : Nat) (l : List Ed) : Prop := ∀ j, j < l.length → w.cell? ⟨b, j * 3, none⟩ = some (.int .i64 (eat l j).id) ∧ w.cell? ⟨b, j * 3 + 1, none⟩ = some (.int .i64 (eat l j).a) ∧ w.cell? ⟨b, j * 3 + 2, none⟩ = some (.int .i64 (eat l j).b)
def EHas (w : World) (p : Option Addr) (l : List Ed) : Prop := l = [] ∨ ∃ b, p = some ⟨b, 0, none⟩ ∧ ELies w b l
theorem EHas.later {w w' : World} {p : Option Addr} {l : List Ed} (h : EHas w p l) (hb : Below w.heap.size w w') : EHas w' p l := by
  rcases h with h | ⟨b, h1, h2⟩
  · exact Or.inl h
  · exact Or.inr ⟨b, h1, fun j hj => ⟨Ytgfiofogcnnkhaa.later hb (h2 j hj).1, Ytgfiofogcnnkhaa.later hb (h2 j hj).2.1, Ytgfiofogcnnkhaa.later hb (h2 j hj).2.2⟩⟩
theorem own_ehas {w : World} {B : Nat} {p : Option Addr} {n c : Nat} {l : List Ed} (o : w.ownsRow B 76 3 (.slice p n c) l.length (ecells l)) : EHas w p l := by
  have o' := o
  obtain ⟨h1, ⟨h, h2⟩ | ⟨g, cap, cur, h, h3⟩⟩ := o'
  · exact Or.inl (List.length_eq_zero_iff.1 h2)
  · simp only [Value.slice.injEq] at h
    obtain ⟨rfl, rfl, rfl⟩ := h
    refine Or.inr ⟨g, rfl, fun j hj => ?_⟩
    obtain ⟨k0, k1, k2⟩ := ecells_at l j hj
    exact ⟨by rw [World.ownsRow.cellAt o (j * 3) (by omega)]; exact k0, by rw [World.ownsRow.cellAt o (j * 3 + 1) (by omega)]; exact k1, by rw [World.ownsRow.cellAt o (j * 3 + 2) (by omega)]; exact k2⟩
def eids (l : List Ed) : List Int := l.map Ed.id
theorem eids_length (l : List Ed) : (eids l).length = l.length := List.length_map _
theorem eids_at {l : List Ed} {j : Nat} (hj : j < l.length) : iat (eids l) j = (eat l j).id := by
  unfold iat eat eids
  rw [List.getD_eq_getElem?_getD, List.getD_eq_getElem?_getD, List.getElem?_map, List.getElem?_eq_getElem hj]
  rfl
theorem edge82 (x : Ed) (y : Int) (w : World) : Calls Try.prog 82 #[ev x, .int .i64 y] w fun e w' => e = .returned (.int .i64 (cmpI x.id y)) ∧ Below w.heap.size w w' := by
  unfold ev
  go_enter Try.func82, Try.ntmps82
  go_wp2_with (go_at_call 83; refine (compare83 _ _ _).mono ?_; rintro e w' ⟨rfl, rfl⟩)
  go_ret
  exact ⟨rfl, by go_grown⟩
set_option maxHeartbeats 4000000 in
set_option maxRecDepth 1000000 in
theorem search81 (p : Option Addr) (l : List Ed) (c : Nat) (x : Int) (w : World) (hl : l.length ≤ 1000000) (h : EHas w p l) (hs : Up (eids l)) : Calls Try.prog 81 #[.slice p l.length c, .int .i64 x, .func (.func 82) #[] #[]] w fun e w' => e = .returned (.tuple #[.int .i64 (pl (eids l) x), .bool (decide (x ∈ eids l))]) ∧ Below w.heap.size w w' := by
  have S := hide hs
  have H := hide h
  have HL := hide (eids_length l)
  clear hs h
  go_enter Try.func81, Try.ntmps81
  go_wp2
  go_loopg [9, 10] l.length (fun g s7 s8 wr => ∃ lo hi : Nat, s7 = .int .i64 lo ∧ s8 = .int .i64 hi ∧ lo ≤ hi ∧ hi ≤ l.length ∧ hi - lo ≤ g ∧ Hid (Below w.heap.size w wr) ∧ Hid (∀ t, t < lo → iat (eids l) t < x) ∧ Hid (∀ t, hi ≤ t → t < l.length → x ≤ iat (eids l) t))
  case atStart => exact ⟨0, l.length, rfl, rfl, Nat.zero_le _, Nat.le_refl _, by omega, Below.refl _ _, fun t ht => absurd ht (Nat.not_lt_zero _), fun t h1 h2 => by omega⟩
  case round =>
    obtain ⟨lo, hi, rfl, rfl, hlh, hin, hg, HB, h1, h2⟩ := hrel
    by_cases hlt : lo < hi
    · rcases H.out.later HB.out with h | ⟨b, rfl, hc⟩
      · subst h; simp at hin; omega
      obtain ⟨c0, c1, c2⟩ := hc ((lo + hi) / 2) (by omega)
      clear hc
      have Y := hide (eids_at (l := l) (j := (lo + hi) / 2) (by omega))
      generalize hy : eat l ((lo + hi) / 2) = y at c0 c1 c2 Y
      clear hy
      have e1 : ((lo + hi) / 2 : Nat) < l.length := by omega
      have L := edge82 y x
      unfold cmpI ev at L
      by_cases hyx : y.id < x
      · rw [if_pos hyx] at L
        go_wp2_with (go_at_call 82; refine (L _).mono ?_; rintro e w' ⟨rfl, hb⟩; have HB2 := hide (below_step HB.out hb); clear hb)
        go_roundg (hi - ((lo + hi) / 2 + 1))
        case measure => omega
        case rel =>
          refine ⟨(lo + hi) / 2 + 1, hi, by rw [show ((lo : Int) + (hi : Int)) / 2 + 1 = (((lo + hi) / 2 + 1 : Nat) : Int) by omega], rfl, by omega, hin, Nat.le_refl _, HB2.out, fun t ht => ?_, h2.out⟩
          by_cases ht' : t = (lo + hi) / 2
          · rw [ht', Y.out]; exact hyx
          · have := S.out.lt (i := t) (j := (lo + hi) / 2) (by omega) (by rw [HL.out]; omega)
            rw [Y.out] at this
            omega
      · rw [if_neg hyx] at L
        obtain ⟨z, hz⟩ : ∃ z : Int, (if x < y.id then (1 : Int) else 0) = z := ⟨_, rfl⟩
        have hz0 : 0 ≤ z := by split at hz <;> omega
        rw [hz] at L
        clear hz
        go_wp2_with (go_at_call 82; refine (L _).mono ?_; rintro e w' ⟨rfl, hb⟩; have HB2 := hide (below_step HB.out hb); clear hb)
        go_roundg ((lo + hi) / 2 - lo)
        case measure => omega
        case rel =>
          refine ⟨lo, (lo + hi) / 2, rfl, by rw [show ((lo : Int) + (hi : Int)) / 2 = (((lo + hi) / 2 : Nat) : Int) by omega], by omega, by omega, Nat.le_refl _, HB2.out, h1.out, fun t ht htn => ?_⟩
          by_cases ht' : t = (lo + hi) / 2
          · rw [ht', Y.out]; omega
          · have := S.out.lt (i := (lo + hi) / 2) (j := t) (by omega) (by rw [HL.out]; omega)
            rw [Y.out] at this
            omega
    · have : hi = lo := by omega
      subst this
      have E1 := hide (srch_end (l := eids l) (by rw [HL.out]; exact hin) h1.out (fun t k1 k2 => h2.out t k1 (by rw [← HL.out]; exact k2)))
      have E2 := hide (srch_mem (l := eids l) S.out (by rw [HL.out]; exact hin) h1.out (fun t k1 k2 => h2.out t k1 (by rw [← HL.out]; exact k2)))
      rw [HL.out] at E2
      by_cases hn : hi < l.length
      · rcases H.out.later HB.out with h | ⟨b, rfl, hc⟩
        · subst h; simp at hn
        obtain ⟨c0, c1, c2⟩ := hc hi hn
        clear hc
        have Y := hide (eids_at hn)
        generalize hy : eat l hi = y at c0 c1 c2 Y
        clear hy
        have L := edge82 y x
        unfold ev at L
        by_cases hyx : y.id = x
        · have ez : cmpI y.id x = 0 := by unfold cmpI; rw [if_neg (by omega), if_neg (by omega)]
          rw [ez] at L
          have HX := hide hyx
          clear ez hyx
          go_wp2_with (go_at_call 82; refine (L _).mono ?_; rintro e w' ⟨rfl, hb⟩; have HB2 := hide (below_step HB.out hb); clear hb)
          go_ret2
          refine ⟨?_, HB2.out⟩
          rw [E1.out, decide_eq_true (E2.out.2 ⟨hn, Y.out.trans HX.out⟩)]
          first | rfl | simp [*]
        · obtain ⟨z, hz⟩ : ∃ z : Int, cmpI y.id x = z := ⟨_, rfl⟩
          have hz0 : (z == 0) = false := by
            rw [← hz]; unfold cmpI
            split
            · rfl
            · split
              · rfl
              · omega
          rw [hz] at L
          clear hz
          go_wp2_with (go_at_call 82; refine (L _).mono ?_; rintro e w' ⟨rfl, hb⟩; have HB2 := hide (below_step HB.out hb); clear hb)
          go_ret2
          refine ⟨?_, HB2.out⟩
          rw [E1.out, decide_eq_false (fun k => hyx (Y.out.symm.trans (E2.out.1 k).2))]
          first | rfl | simp [*]
      · go_wp2_with fail
        go_ret2
        refine ⟨?_, HB.out⟩
        rw [E1.out, decide_eq_false (fun k => hn (E2.out.1 k).1)]
        first | rfl | simp [*]
theorem own_ihas {w : World} {B : Nat} {p : Option Addr} {n c : Nat} {l : List Int} (o : IOwns w B (.slice p n c) l) : IHas w p l := by
  obtain ⟨p', c', h, k, _⟩ := o.form
  simp only [Value.slice.injEq] at h
  rw [h.1]
  exact k
theorem nodePlace55 (b : Nat) (s : GV) (G : Gr) (x : Int) (w : World) (h : GAt w b s G) (hl : G.ns.length ≤ 5000) (hs : Up G.ns) : Calls Try.prog 55 #[ptr b, .int .i64 x] w fun e w' => e = .returned (.tuple #[.int .i64 (pl G.ns x), .bool (decide (x ∈ G.ns))]) ∧ w' = w := by
  obtain ⟨_, q1, _⟩ := h.cells
  obtain ⟨pn, cn, pe, ce, pm, cm, pd, cd, _, rfl, _⟩ := h.form
  have SR := hide (search85 pn G.ns cn x w (by omega) (own_ihas h.nod) hs)
  clear h
  go_enter Try.func55, Try.ntmps55
  go_wp2_with (go_at_call 85; refine SR.out.mono ?_; rintro e w' ⟨rfl, rfl⟩)
  go_ret2
  exact ⟨rfl, rfl⟩
theorem hasNode66 (b : Nat) (s : GV) (G : Gr) (x : Int) (w : World) (h : GAt w b s G) (hl : G.ns.length ≤ 5000) (hs : Up G.ns) : Calls Try.prog 66 #[ptr b, .int .i64 x] w fun e w' => e = .returned (.bool (decide (x ∈ G.ns))) ∧ w' = w := by
  have N := nodePlace55 b s G x w h hl hs
  clear h
  go_enter Try.func66, Try.ntmps66
  go_wp2_with (go_at_call 55; refine N.mono ?_; rintro e w' ⟨rfl, rfl⟩)
  go_ret
  exact ⟨rfl, rfl⟩
theorem edgePlace51 (b : Nat) (s : GV) (G : Gr) (x : Int) (w : World) (h : GAt w b s G) (hl : G.es.length ≤ 5000) (hs : Up (eids G.es)) : Calls Try.prog 51 #[ptr b, .int .i64 x] w fun e w' => e = .returned (.tuple #[.int .i64 (pl (eids G.es) x), .bool (decide (x ∈ eids G.es))]) ∧ Below w.heap.size w w' := by
  obtain ⟨_, _, q1, _⟩ := h.cells
  obtain ⟨pn, cn, pe, ce, pm, cm, pd, cd, _, rfl, _⟩ := h.form
  have SR := hide (search81 pe G.es ce x w (by omega) (own_ehas h.edg) hs)
  clear h
  go_enter Try.func51, Try.ntmps51
  go_wp2_with (go_at_call 81; refine SR.out.mono ?_; rintro e w' ⟨rfl, hb⟩; have HB := hide hb; clear hb)
  go_ret2
  exact ⟨rfl, HB.out⟩
end Go.Proofs.Ytgfiofogcnnkhaa
