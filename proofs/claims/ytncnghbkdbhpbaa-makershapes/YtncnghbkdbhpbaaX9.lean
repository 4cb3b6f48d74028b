/- MakerShapes' walk, whatever the numbers. -/
import Derived.Test.YtncnghbkdbhpbaaX8
namespace Go.Proofs.Ytncnghbkdbhpbaa
open Go.RowKit Go.Sort
open Go

theorem shapes_in (n m : Nat) (w : World) (b1 : 3 ≤ n) (b2 : n ≤ 40) (b3 : 1 ≤ m) (b4 : m ≤ 20) : Calls Try.prog 4 #[.int .i64 n, .int .i64 m] w fun e w' => e = .returned (.bool true) ∧ Below w.heap.size w w' := by
  obtain ⟨q, hq, hq'⟩ := half n (by omega)
  have hqb : q ≤ 1000 := by
    have : n * (n - 1) ≤ 40 * 39 := Nat.mul_le_mul b2 (by omega)
    omega
  have hp : n * m ≤ 40 * 20 := Nat.mul_le_mul b2 b4
  have hp0 : 1 * 1 ≤ n * m := Nat.mul_le_mul (by omega) b3
  have hpi : (n : Int) * m = ((n * m : Nat) : Int) := (Int.natCast_mul n m).symm
  have hgl := grid_len n m (by omega) b3
  have h2p : 2 * n * m = 2 * (n * m) := Nat.mul_assoc 2 n m
  have h2i : 2 * (n : Int) * m = 2 * ((n * m : Nat) : Int) := by rw [Int.mul_assoc, hpi]
  have hfl : 2 * (fullL n n).length + n * n + n = 2 * n * n := full_len n n (Nat.le_refl _)
  have hnn : n * n = n * (n - 1) + n := by
    obtain ⟨k, rfl⟩ : ∃ k, n = k + 1 := ⟨n - 1, by omega⟩
    rw [Nat.add_sub_cancel, Nat.mul_add, Nat.mul_one]
  have h2n : 2 * n * n = 2 * (n * n) := Nat.mul_assoc 2 n n
  have hF3 := prism_fine n b1 (by omega)
  have hd : ∀ v, v < n + n → iat (degN (prismL n n) (n + n) (prismL n n).length) v = 3 := prism_deg n b1 (by omega)
  refine shapes_six n m n (n + 1) (n + n) n (n + m) (n * m) (cycleL n) (wheelL n n) (prismL n n) (fullL n n) (twoL n m n) (gridL n m (n * m)) w
    (fun W => cycle12ok n W (by omega) (by omega)) (fun W => wheel13ok n W b1 (by omega)) (fun W => prism14ok n W b1 (by omega)) (fun W => full15ok n q W (by omega) (by omega) hq (by omega))
    (fun W => two16ok n m (n * m) W (by omega) b3 (by omega) hpi rfl (by omega)) (fun W => ?_)
    (cycle_fine n b1 (by omega)) (wheel_fine n b1 (by omega)) hF3 (full_fine n b1 (by omega)) (two_fine n m (by omega) b3 (by omega) (by omega)) (grid_fine n m (by omega) b3 (by omega))
    q ((n * m : Nat) : Int) (2 * ((n * m : Nat) : Int)) b1 b2 b3 b4
    (by rw [cycleL_length n (by omega)]) (by rw [wheel_len n (by omega)]; omega) (by omega) (by rw [prism_len n (by omega)]; omega) (leN_all _ hF3.pos hd) (grN_all (by omega) _ hF3.pos hd)
    (by omega) hq (by omega) (by omega) (by rw [twoL_length]) hpi (by omega) (by omega) (by omega) h2i (by omega) (by omega)
  obtain ⟨g, hg⟩ : ∃ g : Nat, gridE n m = g := ⟨(gridL n m (n * m)).length, by unfold gridE; rw [hpi]; omega⟩
  refine grid17ok n m (n * m) g W (by omega) b3 (by omega) (by omega) hpi (by omega) hg ?_
  unfold gridE at hg
  rw [hpi] at hg
  omega
theorem shapes_walk (n m : Int) (w : World) : Calls Try.prog 4 #[.int .i64 n, .int .i64 m] w fun e w' => e = .returned (.bool true) ∧ Below w.heap.size w w' := by
  by_cases h1 : n < 3
  · exact shapes_out n m w (Or.inl h1)
  by_cases h2 : 40 < n
  · exact shapes_out n m w (Or.inr (Or.inl ⟨h1, h2⟩))
  by_cases h3 : m < 1
  · exact shapes_out n m w (Or.inr (Or.inr (Or.inl ⟨h1, h2, h3⟩)))
  by_cases h4 : 20 < m
  · exact shapes_out n m w (Or.inr (Or.inr (Or.inr ⟨h1, h2, h3, h4⟩)))
  obtain ⟨a, rfl⟩ : ∃ a : Nat, n = a := ⟨n.toNat, by omega⟩
  obtain ⟨b, rfl⟩ : ∃ b : Nat, m = b := ⟨m.toNat, by omega⟩
  exact shapes_in a b w (by omega) (by omega) (by omega) (by omega)
end Go.Proofs.Ytncnghbkdbhpbaa
