/- The statements' own small functions; the document's Same and Chosen, in every world. -/
import Derived.Test.YtaebbfilgfkckaaN5
import Derived.Test.YtaebbfilgfkckaaR1
import Derived.Test.YtaebbfilgfkckaaN7
namespace Go.Proofs.Ytaebbfilgfkckaa
open Go.RowKit Go.Sort
open Go


def lightB (n : Int) (es : List Pt) : Bool := decide (es.length ≤ 300) && (decide (n ≤ 300) || !netB n es)
theorem two_args (w : World) (n m : Int) (p q : Option Addr) (k l cp cq : Nat) : ∃ W, W = (w.alloc (nbx n p k cp)).alloc (nbx m q l cq) ∧ Below w.heap.size w W ∧ NOwn W w.heap.size n p k cp ∧ NOwn W (w.heap.size + 1) m q l cq :=
  ⟨_, rfl, by go_grown, ⟨by go_cell, by go_cell, by simp [go_sem], by simp [go_sem]⟩, by go_cell, by go_cell, by simp [go_sem], by simp [go_sem]⟩
set_option maxRecDepth 100000 in
set_option maxHeartbeats 4000000 in
theorem same22 (n m : Int) (p q : Option Addr) (a b : List Pt) (cp cq : Nat) (w : World) (hla : a.length ≤ 1000000000) (hp : Has w p a) (hq : Has w q b) : Calls Try.prog 18 #[nv n p a.length cp, nv m q b.length cq] w fun e w' => e = .returned (.bool (sameB n m a b)) ∧ Below w.heap.size w w' := by
  obtain ⟨W, hW, hb, a0, b0⟩ := two_args w n m p q a.length b.length cp cq
  have H := hide (hp.later hb)
  have K := hide (hq.later hb)
  have HB := hide hb
  have HA := hide a0
  have HN := hide b0
  clear hp hq hb a0 b0
  by_cases hnm : n = m
  · subst hnm
    by_cases hl : a.length = b.length
    · have hli : ((a.length : Int) == b.length) = true := by simp [hl]
      have HLE := hide hl
      clear hl
      obtain ⟨q0, q1, _, _⟩ := HA.out
      obtain ⟨r0, r1, _, _⟩ := HN.out
      go_enter Try.func18, Try.ntmps18
      go_wp2_with fail
      rw [← hW]
      clear hW q0 q1 r0 r1
      go_loopw [5] (fun t wr => ∃ i : Nat, i ≤ a.length ∧ t = .int .i64 i ∧ Hid (∀ j, j < i → at' a j = at' b j) ∧ Hid (Below W.heap.size W wr)) (fun t _ => a.length - (intOf t).toNat)
      case atStart => exact ⟨0, by omega, rfl, fun j hj => by omega, Below.refl _ _⟩
      case round =>
        obtain ⟨i, hi, rfl, HP, HBr⟩ := hrel
        obtain ⟨q0, q1, _, _⟩ := HA.out.later HBr.out
        obtain ⟨r0, r1, _, _⟩ := HN.out.later HBr.out
        by_cases hlt : i < a.length
        · rcases H.out.later HBr.out with h | ⟨b1, o1, rfl, l1⟩
          · subst h; simp at hlt
          rcases K.out.later HBr.out with h | ⟨b2, o2, rfl, l2⟩
          · have hl := HLE.out; rw [h] at hl; simp at hl; rw [hl] at hlt; simp at hlt
          obtain ⟨c0, c1⟩ := l1 i hlt
          obtain ⟨d0, d1⟩ := l2 i (by have := HLE.out; omega)
          clear l1 l2
          obtain ⟨x, hx⟩ : ∃ x, at' a i = x := ⟨_, rfl⟩
          obtain ⟨y, hy⟩ : ∃ y, at' b i = y := ⟨_, rfl⟩
          rw [hx] at c0 c1
          rw [hy] at d0 d1
          have heq := eq60 x y
          have e1 : (i : Int) < a.length := by omega
          have e2 : (i : Int) < b.length := by have := HLE.out; omega
          have e3 : (0 : Int) ≤ i := by omega
          cases hxy : decide (x = y)
          · rw [hxy] at heq
            go_wp2_with fail
            go_quiet (fail)
            go_wp2
            go_ret
            refine ⟨retB ?_, below_step HB.out (below_drewN HBr.out)⟩
            have hne : a ≠ b := by
              intro e
              subst e
              rw [hx] at hy
              exact absurd hy (of_decide_eq_false hxy)
            simp [sameB, hne]
          · rw [hxy] at heq
            go_wp2_with fail
            go_quiet (fail)
            go_wp2
            go_roundw
            case rel => exact ⟨i + 1, by omega, by go_num, more HP.out (by rw [hx, hy]; exact of_decide_eq_true hxy), below_drewN HBr.out⟩
            case measure => simp [intOf]; omega
        · go_wp2
          go_ret
          have : i = a.length := by omega
          subst this
          exact ⟨retB (by simp [sameB, at_ext HLE.out HP.out]), below_step HB.out HBr.out⟩
    · have hli : ((a.length : Int) == b.length) = false := by simp; omega
      go_enter Try.func18, Try.ntmps18
      go_wp2
      go_ret
      refine ⟨retB ?_, by go_grown⟩
      have hne : a ≠ b := fun e => hl (by rw [e])
      simp [sameB, hne]
  · have hne : (n == m) = false := by simpa using hnm
    go_enter Try.func18, Try.ntmps18
    go_wp2
    go_ret
    exact ⟨retB (by simp [sameB, hnm]), by go_grown⟩

end Go.Proofs.Ytaebbfilgfkckaa
