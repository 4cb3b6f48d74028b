/- Whether a net may be. -/
import Derived.Test.YtgfiofogcnnkhaaN1
namespace Go.Proofs.Ytgfiofogcnnkhaa
open Go.RowKit Go.Sort
open Go

def edB (n : Int) (p : Pt) : Bool := belowB p.x n && belowB p.y n
def netB (n : Int) (es : List Pt) : Bool := decide (0 ≤ n) && fitsB n es.length && es.all (edB n)
abbrev nv (n : Int) (p : Option Addr) (len cap : Nat) : Value := .agg #[.int .i64 n, .slice p len cap]
theorem net_yes {n : Int} {es : List Pt} (h0 : 0 ≤ n) (h1 : fitsB n es.length = true) (h : ∀ j, j < es.length → edB n (at' es j) = true) : netB n es = true := by
  simp only [netB, Bool.and_eq_true, decide_eq_true_eq, List.all_eq_true]
  refine ⟨⟨h0, h1⟩, fun p hp => ?_⟩
  obtain ⟨j, hj, e⟩ := mem_at hp
  rw [← e]; exact h j hj
theorem net_no {n : Int} {es : List Pt} {j : Nat} (hj : j < es.length) (h : edB n (at' es j) = false) : netB n es = false := by
  have : es.all (edB n) = false := by
    rw [List.all_eq_false]
    exact ⟨_, at_mem hj, by simp [h]⟩
  simp [netB, this]
theorem netB_is {n : Int} {es : List Pt} (h : netB n es = true) : 0 ≤ n ∧ n ≤ 1024 ∧ es.length ≤ 3072 ∧ ∀ j, j < es.length → 0 ≤ (at' es j).x ∧ (at' es j).x < n ∧ 0 ≤ (at' es j).y ∧ (at' es j).y < n := by
  simp only [netB, fitsB, edB, belowB, Bool.and_eq_true, decide_eq_true_eq, List.all_eq_true] at h
  obtain ⟨⟨h0, h1, h2⟩, h3⟩ := h
  refine ⟨h0, h1, by omega, fun j hj => ?_⟩
  have := h3 _ (at_mem hj)
  omega
theorem more {P : Nat → Prop} {i : Nat} (h : ∀ j, j < i → P j) (k : P i) : ∀ j, j < i + 1 → P j := by
  intro j hj
  rcases Nat.lt_succ_iff_lt_or_eq.1 hj with h1 | h1
  · exact h j h1
  · rw [h1]; exact k

set_option maxHeartbeats 1000000 in
theorem may13 (n : Int) (p : Option Addr) (es : List Pt) (cap : Nat) (w : World) (h : Has w p es) : Calls Try.prog 33 #[nv n p es.length cap] w fun e w' => e = .returned (.bool (netB n es)) ∧ Below w.heap.size w w' := by
  have H := hide h
  clear h
  by_cases h0 : 0 ≤ n
  · have hF := fits35 n es.length
    cases hf : fitsB n es.length
    · rw [hf] at hF
      go_enter Try.func33, Try.ntmps33
      go_wp2_with (go_at_call 71; refine (hF _).mono ?_; rintro e w' ⟨rfl, rfl⟩)
      go_ret
      exact ⟨retB (by simp [netB, hf]), by go_grown⟩
    · rw [hf] at hF
      go_enter Try.func33, Try.ntmps33
      go_wp2_with (go_at_call 71; refine (hF _).mono ?_; rintro e w' ⟨rfl, rfl⟩)
      have hfl : es.length ≤ 3072 := by simp [fitsB] at hf; omega
      go_loopw [20] (fun t wr => ∃ i : Nat, i ≤ es.length ∧ t = .int .i64 i ∧ Hid (∀ j, j < i → edB n (at' es j) = true) ∧ Hid (Below w.heap.size w wr) ∧ wr.cell? ⟨w.heap.size, 0, none⟩ = some (.int .i64 n)) (fun t _ => es.length - (intOf t).toNat)
      case atStart => exact ⟨0, by omega, rfl, fun j hj => by omega, by show Below _ _ _; go_grown, by go_cell⟩
      case round =>
        obtain ⟨i, hi, rfl, HP, HB, q0⟩ := hrel
        by_cases hlt : i < es.length
        · rcases H.out with h | ⟨b, off, rfl, hl⟩
          · subst h; simp at hlt
          obtain ⟨c0, c1⟩ := hl.later HB.out i hlt
          clear hl
          have X := below36 (at' es i).x n
          have Y := below36 (at' es i).y n
          have z0 : w.heap.size < wr.heap.size := block_lt_of_cell q0
          have zb : b < wr.heap.size := block_lt_of_cell c0
          cases hx : belowB (at' es i).x n
          · rw [hx] at X
            go_wp2_with (go_at_call 72; refine (X _).mono ?_; rintro e w' ⟨rfl, rfl⟩)
            go_ret
            exact ⟨retB (by rw [net_no hlt (by simp [edB, hx])]), Below.trans HB.out (by have := HB.out.size; go_grown)⟩
          · rw [hx] at X
            cases hy : belowB (at' es i).y n
            · rw [hy] at Y
              go_wp2_with (go_at_call 72; first | (with_reducible refine (X _).mono ?_; rintro e w' ⟨rfl, rfl⟩) | (with_reducible refine (Y _).mono ?_; rintro e w' ⟨rfl, rfl⟩))
              go_ret
              exact ⟨retB (by rw [net_no hlt (by simp [edB, hx, hy])]), Below.trans HB.out (by have := HB.out.size; go_grown)⟩
            · rw [hy] at Y
              go_wp2_with (go_at_call 72; first | (with_reducible refine (X _).mono ?_; rintro e w' ⟨rfl, rfl⟩) | (with_reducible refine (Y _).mono ?_; rintro e w' ⟨rfl, rfl⟩))
              go_roundw
              case rel => exact ⟨i + 1, by omega, by go_num, more HP.out (by simp [edB, hx, hy]), Below.trans HB.out (by have := HB.out.size; show Below _ _ _; go_grown), by go_cell⟩
              case measure => simp [intOf]; omega
        · go_wp2
          go_ret
          have : i = es.length := by omega
          subst this
          exact ⟨retB (by rw [net_yes h0 hf HP.out]), HB.out⟩
  · go_enter Try.func33, Try.ntmps33
    go_wp2
    go_ret
    exact ⟨retB (by simp [netB]; omega), by go_grown⟩

end Go.Proofs.Ytgfiofogcnnkhaa
