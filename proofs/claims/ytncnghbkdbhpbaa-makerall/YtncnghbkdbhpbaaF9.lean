/- The document's Kind and Make, of every name. -/
import Derived.Test.YtncnghbkdbhpbaaF6
import Derived.Test.YtncnghbkdbhpbaaF7
import Derived.Test.YtncnghbkdbhpbaaF8
namespace Go.Proofs.Ytncnghbkdbhpbaa
open Go.RowKit Go.Sort
open Go

theorem kkpath (a b seed : Int) (w : World) : Calls Try.prog 8 #[.string ⟨#[112, 97, 116, 104]⟩, .int .i64 a, .int .i64 b, .int .u64 seed] w fun e w' => (pathO a).made w e w' := by
  by_cases h1 : a < 1
  · rw [show pathO a = ⟨0, [], 1⟩ by unfold pathO; rw [if_pos h1]]; exact kpath_a a b seed w h1
  by_cases h2 : 4096 < a
  · rw [show pathO a = ⟨0, [], 3⟩ by unfold pathO; rw [if_neg h1, if_pos (by omega)]]; exact kpath_c a b seed w h2
  obtain ⟨n, rfl⟩ : ∃ n : Nat, a = n := ⟨a.toNat, by omega⟩
  exact kpath_ok n b seed w (by omega) (by omega)
theorem kkcycle (a b seed : Int) (w : World) : Calls Try.prog 8 #[.string ⟨#[99, 121, 99, 108, 101]⟩, .int .i64 a, .int .i64 b, .int .u64 seed] w fun e w' => (cycleO a).made w e w' := by
  by_cases h1 : a < 1
  · rw [show cycleO a = ⟨0, [], 1⟩ by unfold cycleO; rw [if_pos h1]]; exact kcycle_a a b seed w h1
  by_cases h2 : 4096 < a
  · rw [show cycleO a = ⟨0, [], 3⟩ by unfold cycleO; rw [if_neg h1, if_pos (by omega)]]; exact kcycle_c a b seed w h2
  obtain ⟨n, rfl⟩ : ∃ n : Nat, a = n := ⟨a.toNat, by omega⟩
  exact kcycle_ok n b seed w (by omega) (by omega)
theorem kkwheel (a b seed : Int) (w : World) : Calls Try.prog 8 #[.string ⟨#[119, 104, 101, 101, 108]⟩, .int .i64 a, .int .i64 b, .int .u64 seed] w fun e w' => (wheelO a).made w e w' := by
  by_cases h1 : a < 3
  · rw [show wheelO a = ⟨0, [], 1⟩ by unfold wheelO; rw [if_pos h1]]; exact kwheel_a a b seed w h1
  by_cases h2 : 4096 < a
  · rw [show wheelO a = ⟨0, [], 3⟩ by unfold wheelO; rw [if_neg h1, if_pos (by omega)]]; exact kwheel_c a b seed w h2
  obtain ⟨n, rfl⟩ : ∃ n : Nat, a = n := ⟨a.toNat, by omega⟩
  exact kwheel_ok n b seed w (by omega) (by omega)
theorem kkprism (a b seed : Int) (w : World) : Calls Try.prog 8 #[.string ⟨#[112, 114, 105, 115, 109]⟩, .int .i64 a, .int .i64 b, .int .u64 seed] w fun e w' => (prismO a).made w e w' := by
  by_cases h1 : a < 3
  · rw [show prismO a = ⟨0, [], 1⟩ by unfold prismO; rw [if_pos h1]]; exact kprism_a a b seed w h1
  by_cases h2 : 4096 < a
  · rw [show prismO a = ⟨0, [], 3⟩ by unfold prismO; rw [if_neg h1, if_pos (by omega)]]; exact kprism_c a b seed w h2
  obtain ⟨n, rfl⟩ : ∃ n : Nat, a = n := ⟨a.toNat, by omega⟩
  exact kprism_ok n b seed w (by omega) (by omega)
theorem kkbond (a b seed : Int) (w : World) : Calls Try.prog 8 #[.string ⟨#[98, 111, 110, 100]⟩, .int .i64 a, .int .i64 b, .int .u64 seed] w fun e w' => (bondO a).made w e w' := by
  by_cases h1 : a < 1
  · rw [show bondO a = ⟨0, [], 1⟩ by unfold bondO; rw [if_pos h1]]; exact kbond_a a b seed w h1
  by_cases h2 : 4096 < a
  · rw [show bondO a = ⟨0, [], 3⟩ by unfold bondO; rw [if_neg h1, if_pos (by omega)]]; exact kbond_c a b seed w h2
  obtain ⟨n, rfl⟩ : ∃ n : Nat, a = n := ⟨a.toNat, by omega⟩
  exact kbond_ok n b seed w (by omega) (by omega)
theorem kkcomplete (a b seed : Int) (w : World) : Calls Try.prog 8 #[.string ⟨#[99, 111, 109, 112, 108, 101, 116, 101]⟩, .int .i64 a, .int .i64 b, .int .u64 seed] w fun e w' => (fullO a).made w e w' := by
  by_cases h1 : a < 1
  · rw [show fullO a = ⟨0, [], 1⟩ by unfold fullO; rw [if_pos h1]]; exact kcomplete_a a b seed w h1
  by_cases h2 : 4096 < a
  · rw [show fullO a = ⟨0, [], 3⟩ by unfold fullO; rw [if_neg h1, if_pos (by omega)]]; exact kcomplete_c a b seed w h2
  refine kcomplete_o (fullO a) a b seed w (by omega) (by omega) fun W => ?_
  by_cases h3 : 79 < a
  · rw [show fullO a = ⟨0, [], 3⟩ by unfold fullO; rw [if_neg h1, if_pos (by omega)]]; exact complete24big a W h3
  obtain ⟨n, rfl⟩ : ∃ n : Nat, a = n := ⟨a.toNat, by omega⟩
  rw [← full_made n (by omega) (by omega)]
  exact complete24ok n W (by omega) (by omega)
theorem kkstack (a b seed : Int) (w : World) : Calls Try.prog 8 #[.string ⟨#[115, 116, 97, 99, 107]⟩, .int .i64 a, .int .i64 b, .int .u64 seed] w fun e w' => (stackO a seed).made w e w' := by
  by_cases h1 : a < 3
  · rw [show stackO a seed = ⟨0, [], 1⟩ by unfold stackO; rw [if_pos h1]]; exact kstack_a a b seed w h1
  by_cases h2 : 4096 < a
  · rw [show stackO a seed = ⟨0, [], 3⟩ by unfold stackO; rw [if_neg h1, if_pos (by omega)]]; exact kstack_c a b seed w h2
  refine kstack_o (stackO a seed) a b seed w (by omega) (by omega) fun W => ?_
  by_cases h3 : 1024 < a
  · rw [show stackO a seed = ⟨0, [], 3⟩ by unfold stackO; rw [if_neg h1, if_pos h3]]; exact stack28big a seed W h3
  obtain ⟨n, rfl⟩ : ∃ n : Nat, a = n := ⟨a.toNat, by omega⟩
  rw [← stack_made n seed (by omega) (by omega)]
  exact stack28ok n seed W (by omega) (by omega)
theorem kkrandom (a b seed : Int) (w : World) : Calls Try.prog 8 #[.string ⟨#[114, 97, 110, 100, 111, 109]⟩, .int .i64 a, .int .i64 b, .int .u64 seed] w fun e w' => (randomO a b seed).made w e w' := by
  by_cases h1 : a < 1
  · rw [show randomO a b seed = ⟨0, [], 1⟩ by unfold randomO; rw [if_pos (Or.inl h1)]]; exact krandom_a a b seed w h1
  by_cases h2 : b < 0
  · rw [show randomO a b seed = ⟨0, [], 1⟩ by unfold randomO; rw [if_pos (Or.inr h2)]]; exact krandom_b a b seed w (by omega) h2
  by_cases h3 : 4096 < a
  · rw [show randomO a b seed = ⟨0, [], 3⟩ by unfold randomO; rw [if_neg (by omega), if_pos (Or.inl (by omega))]]; exact krandom_c a b seed w (by omega) h3
  by_cases h4 : 4096 < b
  · rw [show randomO a b seed = ⟨0, [], 3⟩ by unfold randomO; rw [if_neg (by omega), if_pos (Or.inr (by omega))]]; exact krandom_d a b seed w (by omega) (by omega) h4
  refine krandom_o (randomO a b seed) a b seed w (by omega) (by omega) (by omega) (by omega) fun W => ?_
  obtain ⟨n, rfl⟩ : ∃ n : Nat, a = n := ⟨a.toNat, by omega⟩
  obtain ⟨m, rfl⟩ : ∃ m : Nat, b = m := ⟨b.toNat, by omega⟩
  rw [← random_made n m seed (by omega)]
  exact random27ok n m seed W (by omega) (by omega) (by omega)
theorem prod_ge (a b : Int) (ha : 1 ≤ a) (hb : 1 ≤ b) : a ≤ a * b ∧ b ≤ a * b := by
  constructor
  · have := Int.mul_le_mul_of_nonneg_left hb (show 0 ≤ a by omega)
    omega
  · have := Int.mul_le_mul_of_nonneg_right ha (show 0 ≤ b by omega)
    omega
theorem kktwo (a b seed : Int) (w : World) : Calls Try.prog 8 #[.string ⟨#[116, 119, 111]⟩, .int .i64 a, .int .i64 b, .int .u64 seed] w fun e w' => (twoO a b).made w e w' := by
  by_cases h1 : a < 1
  · rw [show twoO a b = ⟨0, [], 1⟩ by unfold twoO; rw [if_pos (Or.inl h1)]]; exact ktwo_a a b seed w h1
  by_cases h2 : b < 1
  · rw [show twoO a b = ⟨0, [], 1⟩ by unfold twoO; rw [if_pos (Or.inr h2)]]; exact ktwo_b a b seed w (by omega) h2
  by_cases h3 : 4096 < a
  · rw [show twoO a b = ⟨0, [], 3⟩ by unfold twoO; rw [if_neg (by omega), if_pos (Or.inl (by omega))]]; exact ktwo_c a b seed w (by omega) h3
  by_cases h4 : 4096 < b
  · rw [show twoO a b = ⟨0, [], 3⟩ by unfold twoO; rw [if_neg (by omega), if_pos (Or.inl (by omega))]]; exact ktwo_d a b seed w (by omega) (by omega) h4
  refine ktwo_o (twoO a b) a b seed w (by omega) (by omega) (by omega) (by omega) fun W => ?_
  obtain ⟨n, rfl⟩ : ∃ n : Nat, a = n := ⟨a.toNat, by omega⟩
  obtain ⟨m, rfl⟩ : ∃ m : Nat, b = m := ⟨b.toNat, by omega⟩
  obtain ⟨q, hq⟩ : ∃ q, n * m = q := ⟨_, rfl⟩
  have hq' : (n : Int) * m = q := by rw [← hq, Int.natCast_mul]
  have l2 : n * m ≤ 4096 * 4096 := Nat.mul_le_mul (by omega) (by omega)
  by_cases h5 : 3072 < q
  · rw [show twoO n m = ⟨0, [], 3⟩ by unfold twoO; rw [hq', if_neg (by omega), if_pos (Or.inr (by omega))]]
    exact sides25big n m q W hq' h5 (by omega)
  · rw [← two_made n m (by omega) (by omega) (by omega)]
    exact sides25ok n m q W (by omega) (by omega) hq' hq (by omega)
theorem kkgrid (a b seed : Int) (w : World) : Calls Try.prog 8 #[.string ⟨#[103, 114, 105, 100]⟩, .int .i64 a, .int .i64 b, .int .u64 seed] w fun e w' => (gridO a b).made w e w' := by
  by_cases h1 : a < 1
  · rw [show gridO a b = ⟨0, [], 1⟩ by unfold gridO; rw [if_pos (Or.inl h1)]]; exact kgrid_a a b seed w h1
  by_cases h2 : b < 1
  · rw [show gridO a b = ⟨0, [], 1⟩ by unfold gridO; rw [if_pos (Or.inr h2)]]; exact kgrid_b a b seed w (by omega) h2
  obtain ⟨p1, p2⟩ := prod_ge a b (by omega) (by omega)
  by_cases h3 : 4096 < a
  · rw [show gridO a b = ⟨0, [], 3⟩ by unfold gridO; rw [if_neg (by omega), if_pos (by omega)]]; exact kgrid_c a b seed w (by omega) h3
  by_cases h4 : 4096 < b
  · rw [show gridO a b = ⟨0, [], 3⟩ by unfold gridO; rw [if_neg (by omega), if_pos (by omega)]]; exact kgrid_d a b seed w (by omega) (by omega) h4
  refine kgrid_o (gridO a b) a b seed w (by omega) (by omega) (by omega) (by omega) fun W => ?_
  obtain ⟨n, rfl⟩ : ∃ n : Nat, a = n := ⟨a.toNat, by omega⟩
  obtain ⟨m, rfl⟩ : ∃ m : Nat, b = m := ⟨b.toNat, by omega⟩
  obtain ⟨q, hq⟩ : ∃ q, n * m = q := ⟨_, rfl⟩
  have hq' : (n : Int) * m = q := by rw [← hq, Int.natCast_mul]
  have l2 : n * m ≤ 4096 * 4096 := Nat.mul_le_mul (by omega) (by omega)
  by_cases h5 : 1024 < q
  · rw [show gridO n m = ⟨0, [], 3⟩ by unfold gridO; rw [hq', if_neg (by omega), if_pos (by omega)]]
    exact grid26big n m q W hq' h5 (by omega)
  · rw [← grid_made n m q (by omega) (by omega) hq (by omega)]
    exact grid26ok n m q W (by omega) (by omega) (by omega) hq' (by omega)
def kindO (i : Nat) (a b seed : Int) : Out :=
  match i with
  | 0 => pathO a
  | 1 => cycleO a
  | 2 => fullO a
  | 3 => twoO a b
  | 4 => gridO a b
  | 5 => wheelO a
  | 6 => prismO a
  | 7 => bondO a
  | 8 => randomO a b seed
  | _ => stackO a seed
def nmOf (i : Nat) : Value :=
  match i with
  | 0 => .string ⟨#[112, 97, 116, 104]⟩
  | 1 => .string ⟨#[99, 121, 99, 108, 101]⟩
  | 2 => .string ⟨#[99, 111, 109, 112, 108, 101, 116, 101]⟩
  | 3 => .string ⟨#[116, 119, 111]⟩
  | 4 => .string ⟨#[103, 114, 105, 100]⟩
  | 5 => .string ⟨#[119, 104, 101, 101, 108]⟩
  | 6 => .string ⟨#[112, 114, 105, 115, 109]⟩
  | 7 => .string ⟨#[98, 111, 110, 100]⟩
  | 8 => .string ⟨#[114, 97, 110, 100, 111, 109]⟩
  | _ => .string ⟨#[115, 116, 97, 99, 107]⟩
theorem kind8 (i : Nat) (hi : i < 10) (a b seed : Int) (w : World) : Calls Try.prog 8 #[nmOf i, .int .i64 a, .int .i64 b, .int .u64 seed] w fun e w' => (kindO i a b seed).made w e w' := by
  match i, hi with
  | 0, _ => exact kkpath a b seed w
  | 1, _ => exact kkcycle a b seed w
  | 2, _ => exact kkcomplete a b seed w
  | 3, _ => exact kktwo a b seed w
  | 4, _ => exact kkgrid a b seed w
  | 5, _ => exact kkwheel a b seed w
  | 6, _ => exact kkprism a b seed w
  | 7, _ => exact kkbond a b seed w
  | 8, _ => exact kkrandom a b seed w
  | 9, _ => exact kkstack a b seed w
theorem make9 (i : Nat) (hi : i < 10) (a b seed : Int) (w : World) : Calls Try.prog 9 #[nmOf i, .int .i64 a, .int .i64 b, .int .u64 seed] w fun e w' => (kindO i a b seed).made w e w' := by
  match i, hi with
  | 0, _ => exact mpath_o (pathO a) a b seed w (fun W => path29 a W)
  | 1, _ => exact mcycle_o (cycleO a) a b seed w (fun W => cycle12 a W)
  | 2, _ => exact mcomplete_o (fullO a) a b seed w (fun W => full15 a W)
  | 3, _ => exact mtwo_o (twoO a b) a b seed w (fun W => two16 a b W)
  | 4, _ => exact mgrid_o (gridO a b) a b seed w (fun W => grid17 a b W)
  | 5, _ => exact mwheel_o (wheelO a) a b seed w (fun W => wheel13 a W)
  | 6, _ => exact mprism_o (prismO a) a b seed w (fun W => prism14 a W)
  | 7, _ => exact mbond_o (bondO a) a b seed w (fun W => bond30 a W)
  | 8, _ => exact mrandom_o (randomO a b seed) a b seed w (fun W => random31 a b seed W)
  | 9, _ => exact mstack_o (stackO a seed) a b seed w (fun W => stack20 a seed W)
theorem kind_len (i : Nat) (a b seed : Int) : (kindO i a b seed).es.length ≤ 20000 := by
  match i with
  | 0 => simp only [kindO, pathO]; split; · simp
         split; · simp
         simp only [pathL_length]; omega
  | 1 => simp only [kindO, cycleO]; split; · simp
         split; · simp
         simp only []; rw [cycleL_length _ (by omega)]; omega
  | 2 => simp only [kindO, fullO]; split; · simp
         split; · simp
         simp only []; have := fullL_length a.toNat a.toNat (by omega); omega
  | 3 => simp only [kindO, twoO]; split; · simp
         rename_i h1; split; · simp
         rename_i h2
         simp only [twoL_length]
         have e : ((a.toNat * b.toNat : Nat) : Int) = a * b := by rw [Int.natCast_mul, Int.toNat_of_nonneg (by omega), Int.toNat_of_nonneg (by omega)]
         omega
  | 4 => simp only [kindO, gridO]; split; · simp
         split; · simp
         simp only []; have := gridL_length a.toNat b.toNat (a * b).toNat; omega
  | 5 => simp only [kindO, wheelO]; split; · simp
         split; · simp
         simp only []; have := wheelL_length a.toNat a.toNat (by omega); omega
  | 6 => simp only [kindO, prismO]; split; · simp
         split; · simp
         simp only []; have := prismL_length a.toNat a.toNat (by omega); omega
  | 7 => simp only [kindO, bondO]; split; · simp
         split; · simp
         simp only [bondL_length]; omega
  | 8 => simp only [kindO, randomO]; split; · simp
         split; · simp
         simp only [rndL_length]; omega
  | k + 9 => simp only [kindO, stackO]; split; · simp
             split; · simp
             simp only [(stk_length seed (a.toNat - 3)).2]; omega
end Go.Proofs.Ytncnghbkdbhpbaa
