/- That WeighOrder answers true to every three words, in every world whose tables are laid. -/
import Derived.Test.YthmnmkolekgjoaaGreatDoorW11
namespace Go.Proofs.YthmnmkolekgjoaaGreatDoor
open Go.RowKit
open Go

theorem nanB_is (x : Nat) : nanB x = Fl.isNan x := by
  unfold nanB
  cases h : Fl.isNan x
  · rw [Fl.order_key x x h h, Fl.cmp_def, if_neg (by omega), if_pos rfl]; rfl
  · rw [Fl.order_nan_left x x h]; rfl

theorem ltB_is (x y : Nat) (hx : nanB x = false) (hy : nanB y = false) : ltB x y = decide (Fl.key x < Fl.key y) := by
  rw [nanB_is] at hx hy
  unfold ltB
  rw [Fl.order_key x y hx hy, Fl.cmp_def]
  by_cases h : Fl.key x < Fl.key y
  · rw [if_pos h]; simp [h]
  · rw [if_neg h]
    split <;> simp [h]

theorem less_self (x : Nat) : lessB x x = false := by
  unfold lessB
  cases h : nanB x
  · simp [ltB_is x x h h]
  · simp
theorem less_nan (x y : Nat) (h : nanB x = true) : lessB x y = false := by unfold lessB; simp [h]
theorem less_to_nan (x y : Nat) (h : nanB x = false) (h' : nanB y = true) : lessB x y = true := by unfold lessB; simp [h, h']
theorem less_plain (x y : Nat) (h : nanB x = false) (h' : nanB y = false) : lessB x y = ltB x y := by unfold lessB; simp [h, h']
theorem less_asym (x y : Nat) (h : lessB x y = true) : lessB y x = false := by
  cases hx : nanB x
  · cases hy : nanB y
    · rw [less_plain x y hx hy, ltB_is x y hx hy] at h
      rw [less_plain y x hy hx, ltB_is y x hy hx]
      simp at h ⊢; omega
    · exact less_nan y x hy
  · rw [less_nan x y hx] at h; cases h
theorem less_trans (x y z : Nat) (h : lessB x y = true) (h' : lessB y z = true) : lessB x z = true := by
  cases hx : nanB x
  · cases hy : nanB y
    · cases hz : nanB z
      · rw [less_plain x y hx hy, ltB_is x y hx hy] at h
        rw [less_plain y z hy hz, ltB_is y z hy hz] at h'
        rw [less_plain x z hx hz, ltB_is x z hx hz]
        simp at h h' ⊢; omega
      · exact less_to_nan x z hx hz
    · rw [less_nan y z hy] at h'; cases h'
  · rw [less_nan x y hx] at h; cases h

set_option maxRecDepth 100000 in
set_option maxHeartbeats 2000000 in
theorem order_walk (a b c : Int) (w : World) (hV : Vars w) : Calls Tryz.prog 4 #[.int .u64 a, .int .u64 b, .int .u64 c] w fun e w' => e = .returned (.bool true) ∧ Below w.heap.size w w' := by
  have HG := Lib.hid (begun9 w hV)
  clear hV
  have hfr := xFrom
  have l1 := less_self a.toNat
  have k6 : ∀ t, ltB a.toNat b.toNat = t → (FloatKind.f64.format.order a.toNat b.toNat == some Ordering.lt) = t := fun _ h => h
  have way : ∀ (n1 n2 h1 h2 : Bool), nanB a.toNat = n1 → nanB b.toNat = n2 → lessB a.toNat b.toNat = h1 → lessB b.toNat c.toNat = h2 →
      (n1 = true ∧ h1 = false) ∨ (n1 = false ∧ n2 = true ∧ h1 = true ∧ h2 = false ∧ lessB b.toNat a.toNat = false)
      ∨ (n1 = false ∧ n2 = false ∧ h1 = false ∧ ltB a.toNat b.toNat = false) ∨ (n1 = false ∧ n2 = false ∧ h1 = true ∧ h2 = false ∧ lessB b.toNat a.toNat = false ∧ ltB a.toNat b.toNat = true)
      ∨ (n1 = false ∧ n2 = false ∧ h1 = true ∧ h2 = true ∧ lessB b.toNat a.toNat = false ∧ lessB a.toNat c.toNat = true ∧ ltB a.toNat b.toNat = true) := by
    intro n1 n2 h1 h2 e1 e2 e3 e4
    subst e1 e2 e3 e4
    cases g1 : nanB a.toNat
    · cases g2 : nanB b.toNat
      · have hp := less_plain _ _ g1 g2
        cases g3 : lessB a.toNat b.toNat
        · right; right; left; exact ⟨rfl, rfl, rfl, by rw [← hp, g3]⟩
        · cases g4 : lessB b.toNat c.toNat
          · right; right; right; left; exact ⟨rfl, rfl, rfl, rfl, less_asym _ _ g3, by rw [← hp, g3]⟩
          · right; right; right; right; exact ⟨rfl, rfl, rfl, rfl, less_asym _ _ g3, less_trans _ _ _ g3 g4, by rw [← hp, g3]⟩
      · right; left
        have g3 := less_to_nan _ _ g1 g2
        exact ⟨rfl, rfl, g3, less_nan _ _ g2, less_asym _ _ g3⟩
    · left; exact ⟨rfl, less_nan _ _ g1⟩
  have W := way _ _ _ _ rfl rfl rfl rfl
  clear way
  rcases W with ⟨n1, h1⟩ | ⟨n1, n2, h1, h2, h3⟩ | ⟨n1, n2, h1, h4⟩ | ⟨n1, n2, h1, h2, h3, h4⟩ | ⟨n1, n2, h1, h2, h3, h5, h4⟩
  all_goals try have k := k6 _ h4
  all_goals clear k6
  all_goals
    go_enter Tryz.func4, Tryz.ntmps4
    go_wp2_with fail
    refine HG.out.mono ?_
    rintro e w1 ⟨rfl, hb⟩
    have HB := Lib.hid hb
    clear hb
    go_wp2_with (first | (go_at_call 20; refine (less20 _ _ _).mono ?_; rintro e w' ⟨rfl, rfl⟩) | (go_at_call 23; refine (isNaN23 _ _).mono ?_; rintro e w' ⟨rfl, rfl⟩))
    go_ret
    exact ⟨rfl, HB.out⟩
end Go.Proofs.YthmnmkolekgjoaaGreatDoor
