/- The document's Ints. -/
import Derived.Test.YtaebbfilgfkckaaR1
namespace Go.Proofs.Ytaebbfilgfkckaa
open Go.RowKit Go.Sort
open Go


set_option maxHeartbeats 1000000 in
theorem ints30 (p q : Option Addr) (a b : List Int) (cp cq : Nat) (w : World) (hla : a.length ≤ maxLen) (hp : IHas w p a) (hq : IHas w q b) : Calls Try.prog 16 #[.slice p a.length cp, .slice q b.length cq] w fun e w' => e = .returned (.bool (decide (a = b))) ∧ Below w.heap.size w w' := by
  have H := hide hp
  have K := hide hq
  unfold maxLen at hla
  clear hp hq
  by_cases hl : a.length = b.length
  · go_enter Try.func16, Try.ntmps16
    have hli : ((a.length : Int) == b.length) = true := by simp [hl]
    go_wp2_with fail
    go_loopw [5] (fun t wr => ∃ i : Nat, i ≤ a.length ∧ t = .int .i64 i ∧ Hid (∀ j, j < i → iat a j = iat b j) ∧ Hid (Below w.heap.size w wr)) (fun t _ => a.length - (intOf t).toNat)
    case atStart => exact ⟨0, by omega, rfl, fun j hj => by omega, Below.refl _ _⟩
    case round =>
      obtain ⟨i, hi, rfl, HP, HB⟩ := hrel
      by_cases hlt : i < a.length
      · rcases H.out.later HB.out with h | ⟨b1, o1, rfl, l1⟩
        · subst h; simp at hlt
        rcases K.out.later HB.out with h | ⟨b2, o2, rfl, l2⟩
        · rw [h] at hl; simp at hl; rw [hl] at hlt; simp at hlt
        have c0 := l1 i hlt
        have d0 := l2 i (by omega)
        clear l1 l2
        obtain ⟨x, hx⟩ : ∃ x, iat a i = x := ⟨_, rfl⟩
        obtain ⟨y, hy⟩ : ∃ y, iat b i = y := ⟨_, rfl⟩
        rw [hx] at c0
        rw [hy] at d0
        have e1 : (i : Int) < a.length := by omega
        have e2 : (i : Int) < b.length := by omega
        by_cases hxy : x = y
        · subst hxy
          go_wp2_with fail
          go_quiet (fail)
          go_wp2
          go_roundw
          case rel => exact ⟨i + 1, by omega, by go_num, more HP.out (by rw [hx, hy]), below_drewN HB.out⟩
          case measure => simp [intOf]; omega
        · have hxb : (x == y) = false := by simpa using hxy
          go_wp2_with fail
          go_quiet (fail)
          go_wp2
          go_ret
          refine ⟨retB ?_, below_drewN HB.out⟩
          have hne : a ≠ b := by
            intro e
            subst e
            rw [hx] at hy
            exact absurd hy hxy
          simp [hne]
      · go_wp2
        go_ret
        have : i = a.length := by omega
        subst this
        exact ⟨retB (by simp [iat_ext hl HP.out]), HB.out⟩
  · go_enter Try.func16, Try.ntmps16
    have hli : ((a.length : Int) == b.length) = false := by simp; omega
    go_wp2
    go_ret
    refine ⟨retB ?_, Below.refl _ _⟩
    have hne : a ≠ b := fun e => hl (by rw [e])
    simp [hne]

end Go.Proofs.Ytaebbfilgfkckaa
