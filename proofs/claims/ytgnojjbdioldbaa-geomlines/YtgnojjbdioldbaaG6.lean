/- Lists of points in memory; whether they may be. -/
import Derived.Test.YtgnojjbdioldbaaG5
namespace Go.Proofs.Ytgnojjbdioldbaa
open Go.RowKit Go.Sort
open Go

def at' (ps : List Pt) (j : Nat) : Pt := ps.getD j ⟨0, 0⟩
/-- The points ps lie in the block b from off on. -/
def Lies (w : World) (b off : Nat) (ps : List Pt) : Prop :=
  ∀ j, j < ps.length → w.cell? ⟨b, off + j * 2, none⟩ = some (.int .i64 (at' ps j).x) ∧ w.cell? ⟨b, off + j * 2 + 1, none⟩ = some (.int .i64 (at' ps j).y)
def Has (w : World) (p : Option Addr) (ps : List Pt) : Prop := ps = [] ∨ ∃ b off, p = some ⟨b, off, none⟩ ∧ Lies w b off ps
theorem Lies.later {w w' : World} {b off : Nat} {ps : List Pt} (h : Lies w b off ps) (hb : Below w.heap.size w w') : Lies w' b off ps :=
  fun j hj => ⟨Ytgnojjbdioldbaa.later hb (h j hj).1, Ytgnojjbdioldbaa.later hb (h j hj).2⟩
theorem Has.later {w w' : World} {p : Option Addr} {ps : List Pt} (h : Has w p ps) (hb : Below w.heap.size w w') : Has w' p ps := by
  rcases h with h | ⟨b, off, h1, h2⟩
  · exact Or.inl h
  · exact Or.inr ⟨b, off, h1, h2.later hb⟩
def mayB (ps : List Pt) : Bool := decide (ps.length ≤ 4096) && ps.all ptB

theorem may_more {ps : List Pt} {i : Nat} (h : ∀ j, j < i → ptB (at' ps j) = true) (k : ptB (at' ps i) = true) : ∀ j, j < i + 1 → ptB (at' ps j) = true := by
  intro j hj
  rcases Nat.lt_succ_iff_lt_or_eq.1 hj with h1 | h1
  · exact h j h1
  · rw [h1]; exact k
theorem at_mem {ps : List Pt} {j : Nat} (h : j < ps.length) : at' ps j ∈ ps := by
  unfold at'
  rw [List.getD_eq_getElem?_getD, List.getElem?_eq_getElem h]
  exact List.getElem_mem h
theorem mem_at {ps : List Pt} {p : Pt} (h : p ∈ ps) : ∃ j, j < ps.length ∧ at' ps j = p := by
  obtain ⟨j, hj, e⟩ := List.getElem_of_mem h
  exact ⟨j, hj, by unfold at'; rw [List.getD_eq_getElem?_getD, List.getElem?_eq_getElem hj]; exact e⟩
theorem may_yes {ps : List Pt} (hl : ps.length ≤ 4096) (h : ∀ j, j < ps.length → ptB (at' ps j) = true) : mayB ps = true := by
  simp only [mayB, Bool.and_eq_true, decide_eq_true_eq, List.all_eq_true]
  refine ⟨hl, fun p hp => ?_⟩
  obtain ⟨j, hj, e⟩ := mem_at hp
  rw [← e]; exact h j hj
theorem may_no {ps : List Pt} {j : Nat} (hj : j < ps.length) (h : ptB (at' ps j) = false) : mayB ps = false := by
  have : ps.all ptB = false := by
    rw [List.all_eq_false]
    exact ⟨_, at_mem hj, by simp [h]⟩
  simp [mayB, this]
theorem mayB_at {ps : List Pt} (h : mayB ps = true) {j : Nat} (hj : j < ps.length) : ptB (at' ps j) = true := by
  simp only [mayB, Bool.and_eq_true, decide_eq_true_eq, List.all_eq_true] at h
  exact h.2 _ (at_mem hj)

set_option maxHeartbeats 1000000 in
theorem may31 (p : Option Addr) (ps : List Pt) (cap : Nat) (w : World) (h : Has w p ps) : Calls Try.prog 31 #[.slice p ps.length cap] w fun e w' => e = .returned (.bool (mayB ps)) ∧ Below w.heap.size w w' := by
  have H := hide h
  clear h
  by_cases hlen : ps.length ≤ 4096
  · go_enter Try.func31, Try.ntmps31
    go_wp2
    go_loopw [3] (fun t wr => ∃ i : Nat, i ≤ ps.length ∧ t = .int .i64 i ∧ Hid (∀ j, j < i → ptB (at' ps j) = true) ∧ Hid (Below w.heap.size w wr)) (fun t _ => ps.length - (intOf t).toNat)
    case atStart => exact ⟨0, by omega, rfl, fun j hj => by omega, Below.refl _ _⟩
    case round =>
      obtain ⟨i, hi, rfl, HP, HB⟩ := hrel
      by_cases hlt : i < ps.length
      · rcases H.out with h | ⟨b, off, rfl, hl⟩
        · subst h; simp at hlt
        obtain ⟨c0, c1⟩ := hl.later HB.out i hlt
        clear hl
        have O := one52 (at' ps i)
        cases hp : ptB (at' ps i)
        · rw [hp] at O
          have O' := hide O
          clear O
          go_wp2_with fail
          refine (O'.out _).mono ?_
          rintro e w' ⟨rfl, hb⟩
          have HB2 := hide (Below.trans HB.out (hb.mono HB.out.size))
          clear hb
          go_wp2
          go_ret
          exact ⟨retB (by rw [may_no hlt hp]), HB2.out⟩
        · rw [hp] at O
          have O' := hide O
          clear O
          go_wp2_with fail
          refine (O'.out _).mono ?_
          rintro e w' ⟨rfl, hb⟩
          have HB2 := hide (Below.trans HB.out (hb.mono HB.out.size))
          clear hb
          go_wp2
          go_roundw
          case rel => exact ⟨i + 1, by omega, by go_num, may_more HP.out hp, HB2.out⟩
          case measure => simp [intOf]; omega
      · go_wp2
        go_ret
        have : i = ps.length := by omega
        subst this
        exact ⟨retB (by rw [may_yes hlen HP.out]), HB.out⟩
  · go_enter Try.func31, Try.ntmps31
    go_wp2
    go_ret
    exact ⟨retB (by simp [mayB, hlen]), by go_grown⟩

set_option maxHeartbeats 1000000 in
theorem may15 (p : Option Addr) (ps : List Pt) (cap : Nat) (w : World) (h : Has w p ps) : Calls Try.prog 15 #[.slice p ps.length cap] w fun e w' => e = .returned (.bool (mayB ps)) ∧ Below w.heap.size w w' := by
  have H := hide h
  clear h
  by_cases hlen : ps.length ≤ 4096
  · go_enter Try.func15, Try.ntmps15
    go_wp2
    go_loopw [10] (fun t wr => ∃ i : Nat, i ≤ ps.length ∧ t = .int .i64 i ∧ Hid (∀ j, j < i → ptB (at' ps j) = true) ∧ Hid (Below w.heap.size w wr)) (fun t _ => ps.length - (intOf t).toNat)
    case atStart => exact ⟨0, by omega, rfl, fun j hj => by omega, Below.refl _ _⟩
    case round =>
      obtain ⟨i, hi, rfl, HP, HB⟩ := hrel
      by_cases hlt : i < ps.length
      · rcases H.out with h | ⟨b, off, rfl, hl⟩
        · subst h; simp at hlt
        obtain ⟨c0, c1⟩ := hl.later HB.out i hlt
        clear hl
        have X := within35 (at' ps i).x
        have Y := within35 (at' ps i).y
        cases hx : insideB (at' ps i).x
        · rw [hx] at X
          go_wp2_with (go_at_call 35; refine (X _).mono ?_; rintro e w' ⟨rfl, rfl⟩)
          go_ret
          exact ⟨retB (by rw [may_no hlt (by simp [ptB, hx])]), Below.trans HB.out (by have := HB.out.size; go_grown)⟩
        · rw [hx] at X
          cases hy : insideB (at' ps i).y
          · rw [hy] at Y
            go_wp2_with (go_at_call 35; first | (with_reducible refine (X _).mono ?_; rintro e w' ⟨rfl, rfl⟩) | (with_reducible refine (Y _).mono ?_; rintro e w' ⟨rfl, rfl⟩))
            go_ret
            exact ⟨retB (by rw [may_no hlt (by simp [ptB, hx, hy])]), Below.trans HB.out (by have := HB.out.size; go_grown)⟩
          · rw [hy] at Y
            go_wp2_with (go_at_call 35; first | (with_reducible refine (X _).mono ?_; rintro e w' ⟨rfl, rfl⟩) | (with_reducible refine (Y _).mono ?_; rintro e w' ⟨rfl, rfl⟩))
            go_roundw
            case rel => exact ⟨i + 1, by omega, by go_num, may_more HP.out (by simp [ptB, hx, hy]), Below.trans HB.out (by have := HB.out.size; show Below _ _ _; go_grown)⟩
            case measure => simp [intOf]; omega
      · go_wp2
        go_ret
        have : i = ps.length := by omega
        subst this
        exact ⟨retB (by rw [may_yes hlen HP.out]), HB.out⟩
  · go_enter Try.func15, Try.ntmps15
    go_wp2
    go_ret
    exact ⟨retB (by simp [mayB, hlen]), by go_grown⟩

def errI (ps : List Pt) : Int := if mayB ps then 0 else 1
theorem err10 (p : Option Addr) (ps : List Pt) (cap : Nat) (w : World) (h : Has w p ps) : Calls Try.prog 10 #[.slice p ps.length cap] w fun e w' => e = .returned (.int .i64 (errI ps)) ∧ Below w.heap.size w w' := by
  have M := may31 p ps cap w h
  clear h
  unfold errI
  cases hm : mayB ps
  all_goals
    rw [hm] at M
    have M' := hide M
    clear M
    go_enter Try.func10, Try.ntmps10
    go_wp2_with fail
    refine M'.out.mono ?_
    rintro e w' ⟨rfl, hb⟩
    go_wp2
    go_ret
    exact ⟨rfl, hb⟩
end Go.Proofs.Ytgnojjbdioldbaa
