/- Whether a net may be; whether two are the same; whether two lists are. -/
import Derived.Test.YtmmbbfmkhbengaaN1
namespace Go.Proofs.Ytmmbbfmkhbengaa
open Go.RowKit Go.Sort
open Go

def edB (n : Int) (p : Pt) : Bool := belowB p.x n && belowB p.y n
def netB (n : Int) (es : List Pt) : Bool := decide (0 ≤ n) && fitsB n es.length && es.all (edB n)
abbrev nv (n : Int) (p : Option Addr) (len cap : Nat) : Value := .agg #[.int .i64 n, .slice p len cap]
theorem net_yes {n : Int} {es : List Pt} (h0 : 0 ≤ n) (h1 : fitsB n es.length = true) (h : ∀ j, j < es.length → edB n (at' es j) = true) : netB n es = true := by
  simp only [netB, Bool.and_eq_true, decide_eq_true_eq, List.all_eq_true]
  refine ⟨⟨h0, h1⟩, fun p hp => ?_⟩
  obtain ⟨j, hj, e⟩ := mem_at hp
  rw [← e]; exact h j hj
theorem net_no {n : Int} {es : List Pt} {j : Nat} (hj : j < es.length) (h : edB n (at' es j) = false) : netB n es = false := by
  have : es.all (edB n) = false := by
    rw [List.all_eq_false]
    exact ⟨_, at_mem hj, by simp [h]⟩
  simp [netB, this]
theorem netB_is {n : Int} {es : List Pt} (h : netB n es = true) : 0 ≤ n ∧ n ≤ 1024 ∧ es.length ≤ 3072 ∧ ∀ j, j < es.length → 0 ≤ (at' es j).x ∧ (at' es j).x < n ∧ 0 ≤ (at' es j).y ∧ (at' es j).y < n := by
  simp only [netB, fitsB, edB, belowB, Bool.and_eq_true, decide_eq_true_eq, List.all_eq_true] at h
  obtain ⟨⟨h0, h1, h2⟩, h3⟩ := h
  refine ⟨h0, h1, by omega, fun j hj => ?_⟩
  have := h3 _ (at_mem hj)
  omega
theorem more {P : Nat → Prop} {i : Nat} (h : ∀ j, j < i → P j) (k : P i) : ∀ j, j < i + 1 → P j := by
  intro j hj
  rcases Nat.lt_succ_iff_lt_or_eq.1 hj with h1 | h1
  · exact h j h1
  · rw [h1]; exact k

set_option maxHeartbeats 1000000 in
theorem may13 (n : Int) (p : Option Addr) (es : List Pt) (cap : Nat) (w : World) (h : Has w p es) : Calls Try.prog 13 #[nv n p es.length cap] w fun e w' => e = .returned (.bool (netB n es)) ∧ Below w.heap.size w w' := by
  have H := hide h
  clear h
  by_cases h0 : 0 ≤ n
  · have hF := fits35 n es.length
    cases hf : fitsB n es.length
    · rw [hf] at hF
      go_enter Try.func13, Try.ntmps13
      go_wp2_with (go_at_call 35; refine (hF _).mono ?_; rintro e w' ⟨rfl, rfl⟩)
      go_ret
      exact ⟨retB (by simp [netB, hf]), by go_grown⟩
    · rw [hf] at hF
      go_enter Try.func13, Try.ntmps13
      go_wp2_with (go_at_call 35; refine (hF _).mono ?_; rintro e w' ⟨rfl, rfl⟩)
      have hfl : es.length ≤ 3072 := by simp [fitsB] at hf; omega
      go_loopw [20] (fun t wr => ∃ i : Nat, i ≤ es.length ∧ t = .int .i64 i ∧ Hid (∀ j, j < i → edB n (at' es j) = true) ∧ Hid (Below w.heap.size w wr) ∧ wr.cell? ⟨w.heap.size, 0, none⟩ = some (.int .i64 n)) (fun t _ => es.length - (intOf t).toNat)
      case atStart => exact ⟨0, by omega, rfl, fun j hj => by omega, by show Below _ _ _; go_grown, by go_cell⟩
      case round =>
        obtain ⟨i, hi, rfl, HP, HB, q0⟩ := hrel
        by_cases hlt : i < es.length
        · rcases H.out with h | ⟨b, off, rfl, hl⟩
          · subst h; simp at hlt
          obtain ⟨c0, c1⟩ := hl.later HB.out i hlt
          clear hl
          have X := below36 (at' es i).x n
          have Y := below36 (at' es i).y n
          have z0 : w.heap.size < wr.heap.size := block_lt_of_cell q0
          have zb : b < wr.heap.size := block_lt_of_cell c0
          cases hx : belowB (at' es i).x n
          · rw [hx] at X
            go_wp2_with (go_at_call 36; refine (X _).mono ?_; rintro e w' ⟨rfl, rfl⟩)
            go_ret
            exact ⟨retB (by rw [net_no hlt (by simp [edB, hx])]), Below.trans HB.out (by have := HB.out.size; go_grown)⟩
          · rw [hx] at X
            cases hy : belowB (at' es i).y n
            · rw [hy] at Y
              go_wp2_with (go_at_call 36; first | (with_reducible refine (X _).mono ?_; rintro e w' ⟨rfl, rfl⟩) | (with_reducible refine (Y _).mono ?_; rintro e w' ⟨rfl, rfl⟩))
              go_ret
              exact ⟨retB (by rw [net_no hlt (by simp [edB, hx, hy])]), Below.trans HB.out (by have := HB.out.size; go_grown)⟩
            · rw [hy] at Y
              go_wp2_with (go_at_call 36; first | (with_reducible refine (X _).mono ?_; rintro e w' ⟨rfl, rfl⟩) | (with_reducible refine (Y _).mono ?_; rintro e w' ⟨rfl, rfl⟩))
              go_roundw
              case rel => exact ⟨i + 1, by omega, by go_num, more HP.out (by simp [edB, hx, hy]), Below.trans HB.out (by have := HB.out.size; show Below _ _ _; go_grown), by go_cell⟩
              case measure => simp [intOf]; omega
        · go_wp2
          go_ret
          have : i = es.length := by omega
          subst this
          exact ⟨retB (by rw [net_yes h0 hf HP.out]), HB.out⟩
  · go_enter Try.func13, Try.ntmps13
    go_wp2
    go_ret
    exact ⟨retB (by simp [netB]; omega), by go_grown⟩

theorem at_ext {a b : List Pt} (hl : a.length = b.length) (h : ∀ j, j < a.length → at' a j = at' b j) : a = b := by
  apply List.ext_getElem hl
  intro j h1 h2
  have := h j h1
  unfold at' at this
  rw [List.getD_eq_getElem?_getD, List.getD_eq_getElem?_getD, List.getElem?_eq_getElem h1, List.getElem?_eq_getElem h2] at this
  exact this
theorem iat_ext {a b : List Int} (hl : a.length = b.length) (h : ∀ j, j < a.length → iat a j = iat b j) : a = b := by
  apply List.ext_getElem hl
  intro j h1 h2
  have := h j h1
  unfold iat at this
  rw [List.getD_eq_getElem?_getD, List.getD_eq_getElem?_getD, List.getElem?_eq_getElem h1, List.getElem?_eq_getElem h2] at this
  exact this

set_option maxHeartbeats 1000000 in
theorem equal51 (p q : Option Addr) (a b : List Pt) (cp cq : Nat) (w : World) (hla : a.length ≤ 1000000000) (hp : Has w p a) (hq : Has w q b) : Calls Try.prog 51 #[.slice p a.length cp, .slice q b.length cq] w fun e w' => e = .returned (.bool (decide (a = b))) ∧ Below w.heap.size w w' := by
  have H := hide hp
  have K := hide hq
  clear hp hq
  by_cases hl : a.length = b.length
  · go_enter Try.func51, Try.ntmps51
    have hli : ((a.length : Int) == b.length) = true := by simp [hl]
    go_wp2_with fail
    go_loopw [13] (fun t wr => ∃ i : Nat, i ≤ a.length ∧ t = .int .i64 i ∧ Hid (∀ j, j < i → at' a j = at' b j) ∧ Hid (Below w.heap.size w wr)) (fun t _ => a.length - (intOf t).toNat)
    case atStart => exact ⟨0, by omega, rfl, fun j hj => by omega, Below.refl _ _⟩
    case round =>
      obtain ⟨i, hi, rfl, HP, HB⟩ := hrel
      by_cases hlt : i < a.length
      · rcases H.out.later HB.out with h | ⟨b1, o1, rfl, l1⟩
        · subst h; simp at hlt
        rcases K.out.later HB.out with h | ⟨b2, o2, rfl, l2⟩
        · rw [h] at hl; simp at hl; rw [hl] at hlt; simp at hlt
        obtain ⟨c0, c1⟩ := l1 i hlt
        obtain ⟨d0, d1⟩ := l2 i (by omega)
        clear l1 l2
        obtain ⟨x, hx⟩ : ∃ x, at' a i = x := ⟨_, rfl⟩
        obtain ⟨y, hy⟩ : ∃ y, at' b i = y := ⟨_, rfl⟩
        rw [hx] at c0 c1
        rw [hy] at d0 d1
        have heq := eq60 x y
        have e1 : (i : Int) < a.length := by omega
        have e2 : (i : Int) < b.length := by omega
        cases hxy : decide (x = y)
        · rw [hxy] at heq
          go_wp2_with fail
          go_quiet (fail)
          go_wp2
          go_ret
          refine ⟨retB ?_, below_drewN HB.out⟩
          have hne : a ≠ b := by
            intro e
            subst e
            rw [hx] at hy
            exact absurd hy (of_decide_eq_false hxy)
          simp [hne]
        · rw [hxy] at heq
          go_wp2_with fail
          go_quiet (fail)
          go_wp2
          go_roundw
          case rel => exact ⟨i + 1, by omega, by go_num, more HP.out (by rw [hx, hy]; exact of_decide_eq_true hxy), below_drewN HB.out⟩
          case measure => simp [intOf]; omega
      · go_wp2
        go_ret
        have : i = a.length := by omega
        subst this
        exact ⟨retB (by simp [at_ext hl HP.out]), HB.out⟩
  · go_enter Try.func51, Try.ntmps51
    have hli : ((a.length : Int) == b.length) = false := by simp; omega
    go_wp2
    go_ret
    refine ⟨retB ?_, Below.refl _ _⟩
    have hne : a ≠ b := fun e => hl (by rw [e])
    simp [hne]

def sameB (n m : Int) (a b : List Pt) : Bool := decide (n = m) && decide (a = b)
set_option maxHeartbeats 1000000 in
theorem same21 (n m : Int) (p q : Option Addr) (a b : List Pt) (cp cq : Nat) (w : World) (hla : a.length ≤ 1000000000) (hp : Has w p a) (hq : Has w q b) : Calls Try.prog 21 #[nv n p a.length cp, nv m q b.length cq] w fun e w' => e = .returned (.bool (sameB n m a b)) ∧ Below w.heap.size w w' := by
  have H := hide hp
  have K := hide hq
  clear hp hq
  by_cases hnm : n = m
  · subst hnm
    obtain ⟨W, hW⟩ : ∃ W, W = (w.alloc (.cells #[.int .i64 n, .slice p a.length cp] 24)).alloc (.cells #[.int .i64 n, .slice q b.length cq] 24) := ⟨_, rfl⟩
    have hb : Below w.heap.size w W := by rw [hW]; go_grown
    have E := hide (equal51 p q a b cp cq W hla (H.out.later hb) (K.out.later hb))
    have HB := hide hb
    clear hb
    go_enter Try.func21, Try.ntmps21
    go_wp2_with fail
    rw [← hW]
    clear hW
    refine E.out.mono ?_
    rintro e w' ⟨rfl, hb⟩
    go_wp2
    go_ret
    exact ⟨retB (by simp [sameB]), below_step HB.out hb⟩
  · have hne : (n == m) = false := by simpa using hnm
    go_enter Try.func21, Try.ntmps21
    go_wp2
    go_ret
    exact ⟨retB (by simp [sameB, hnm]), by go_grown⟩
end Go.Proofs.Ytmmbbfmkhbengaa
