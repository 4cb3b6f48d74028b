/- Area, in every world. -/
import Derived.Test.YtgnojjbdioldbaaG11
namespace Go.Proofs.Ytgnojjbdioldbaa
open Go.RowKit Go.Sort
open Go

def prodI (p q : Pt) : Int := p.x * q.y - q.x * p.y
def prev (ps : List Pt) (i : Nat) : Pt := if i = 0 then at' ps (ps.length - 1) else at' ps (i - 1)
def part (ps : List Pt) : Nat → Int
  | 0 => 0
  | i + 1 => part ps i + prodI (prev ps i) (at' ps i)
def areaI (ps : List Pt) : Int := if ps.length < 3 then 0 else part ps ps.length
theorem prod_in {p q : Pt} (hp : ptB p = true) (hq : ptB q = true) : -1099511627776 ≤ p.x * q.y ∧ p.x * q.y ≤ 1099511627776 ∧ -1099511627776 ≤ q.x * p.y ∧ q.x * p.y ≤ 1099511627776 := by
  have hp := ptB_is hp
  have hq := ptB_is hq
  have p1 := mul_in (m := 1048576) (n := 1048576) p.x q.y (by omega) (by omega)
  have p2 := mul_in (m := 1048576) (n := 1048576) q.x p.y (by omega) (by omega)
  omega
theorem prev_ok {ps : List Pt} (h : mayB ps = true) {i : Nat} (hi : i < ps.length) : ptB (prev ps i) = true := by
  unfold prev
  split
  · exact mayB_at h (by omega)
  · exact mayB_at h (by omega)
theorem part_in {ps : List Pt} (h : mayB ps = true) : ∀ i : Nat, i ≤ ps.length → -(i * 2199023255552 : Int) ≤ part ps i ∧ part ps i ≤ i * 2199023255552
  | 0, _ => by simp [part]
  | i + 1, hi => by
    have ih := part_in h i (by omega)
    have p := prod_in (prev_ok h (show i < ps.length by omega)) (mayB_at h (show i < ps.length by omega))
    simp only [part, prodI]
    generalize (prev ps i).x * (at' ps i).y = a at p ⊢
    generalize (at' ps i).x * (prev ps i).y = b at p ⊢
    omega
theorem Own.set {W : World} {g : Nat} {f : Pt} (h : Own W g f) (p : Pt) : Own ((W.setCell ⟨g, 0, none⟩ (.int .i64 p.x)).setCell ⟨g, 1, none⟩ (.int .i64 p.y)) g p := by
  obtain ⟨q0, q1, q2, q3⟩ := h
  refine ⟨?_, ?_, ?_, ?_⟩
  all_goals go_cell

set_option maxRecDepth 100000 in
set_option maxHeartbeats 4000000 in
theorem area24 (p : Option Addr) (ps : List Pt) (cap : Nat) (w : World) (h : Has w p ps) : Calls Try.prog 24 #[.slice p ps.length cap] w fun e w' => e = .returned (.tuple #[.int .i64 (if mayB ps then areaI ps else 0), .int .i64 (errI ps)]) ∧ Below w.heap.size w w' := by
  have M := may15 p ps cap w h
  have H := hide h
  clear h
  cases hm : mayB ps
  · rw [hm] at M
    have M' := hide M
    clear M
    go_enter Try.func24, Try.ntmps24
    go_wp2_with fail
    refine M'.out.mono ?_
    rintro e w1 ⟨rfl, hb1⟩
    have HB1 := hide hb1
    clear hb1
    go_wp2
    go_ret2
    exact ⟨by simp [errI, hm], HB1.out⟩
  · rw [hm] at M
    have M' := hide M
    clear M
    have hl : ps.length ≤ 4096 := by simp [mayB] at hm; exact hm.1
    by_cases h3 : ps.length < 3
    · go_enter Try.func24, Try.ntmps24
      go_wp2_with fail
      refine M'.out.mono ?_
      rintro e w1 ⟨rfl, hb1⟩
      have HB1 := hide hb1
      clear hb1
      go_wp2
      go_ret2
      exact ⟨by simp [errI, hm, areaI, h3], HB1.out⟩
    · rcases H.out with h | ⟨b, off, rfl, hL⟩
      · subst h; simp at h3
      go_enter Try.func24, Try.ntmps24
      go_wp2_with fail
      refine M'.out.mono ?_
      rintro e w1 ⟨rfl, hb1⟩
      have HB1 := hide hb1
      have HL := hide (Lies.later hL hb1)
      obtain ⟨c0, c1⟩ := HL.out (ps.length - 1) (by omega)
      clear hb1 hL
      go_wp2_with fail
      go_loopw [4, 22] (fun v t wr => ∃ i : Nat, i ≤ ps.length ∧ v = .int .i64 (part ps i) ∧ t = .int .i64 i ∧ Hid (Below w1.heap.size w1 wr) ∧ Hid (Own wr w1.heap.size (prev ps i))) (fun _ t _ => ps.length - (intOf t).toNat)
      case atStart =>
        refine ⟨0, by omega, rfl, rfl, by show Below _ _ _; go_grown, ?_⟩
        show Own _ _ (at' ps (ps.length - 1))
        exact ⟨by go_cell, by go_cell, by simp [go_sem], by simp [go_sem]⟩
      case round =>
        obtain ⟨i, hi, rfl, rfl, HBr, HO⟩ := hrel
        by_cases hlt : i < ps.length
        · obtain ⟨c0, c1⟩ := HL.out.later HBr.out i hlt
          obtain ⟨q0, q1, q2, q3⟩ := HO.out
          have z : w1.heap.size < wr.heap.size := block_lt_of_cell q0
          have pin := part_in hm i (by omega)
          have din := prod_in (prev_ok hm hlt) (mayB_at hm hlt)
          have hpart : Hid (part ps (i + 1) = part ps i + ((prev ps i).x * (at' ps i).y - (at' ps i).x * (prev ps i).y)) := rfl
          have hprev : Hid (prev ps (i + 1) = at' ps i) := by show _ = _; unfold prev; rw [if_neg (by omega)]; rfl
          have zb : b ≠ wr.heap.size := by have := block_lt_of_cell c0; show b ≠ _; have h' : b < wr.heap.size := this; omega
          obtain ⟨f, hf⟩ : ∃ f, prev ps i = f := ⟨_, rfl⟩
          obtain ⟨q, hq⟩ : ∃ q, at' ps i = q := ⟨_, rfl⟩
          rw [hf] at q0 q1 din hpart HO
          rw [hq] at c0 c1 din hpart hprev
          obtain ⟨s0, hs0⟩ : ∃ s0, part ps i = s0 := ⟨_, rfl⟩
          rw [hs0] at pin hpart ⊢
          clear hf hq
          go_wp2
          go_roundw
          case rel =>
            refine ⟨i + 1, by omega, by rw [hpart.out], by go_num, ?_, ?_⟩
            · have hb := HBr.out
              show Below _ _ _
              go_grown
            · rw [hprev.out]
              exact (HO.out.set q).later (by go_grown)
          case measure => simp [intOf]; omega
        · have hin : i = ps.length := by omega
          subst hin
          go_wp2
          go_ret2
          exact ⟨by simp [errI, hm, areaI, h3], Below.trans HB1.out (HBr.out.mono HB1.out.size)⟩
end Go.Proofs.Ytgnojjbdioldbaa
