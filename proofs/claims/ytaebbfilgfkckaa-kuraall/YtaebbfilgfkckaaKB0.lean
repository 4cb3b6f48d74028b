/- Numbers below another, each once; the last bit turned (carried). -/
import Derived.Test.YtaebbfilgfkckaaN5
namespace Go.Proofs.Ytaebbfilgfkckaa
open Go.RowKit Go.Sort
open Go

theorem nodup_nat : ∀ (m : Nat) (l : List Nat), l.Nodup → (∀ x ∈ l, x < m) → l.length ≤ m
  | 0, l, _, h => by
    cases l with
    | nil => simp
    | cons x xs => exact absurd (h x (by simp)) (by omega)
  | m + 1, l, hn, h => by
    by_cases hm : m ∈ l
    · have h1 := nodup_nat m (l.erase m) (hn.erase m) (fun x hx => by
        have h2 := h x (List.mem_of_mem_erase hx)
        have h3 : x ≠ m := fun e => by subst e; exact (List.Nodup.not_mem_erase hn) hx
        omega)
      have h4 := List.length_erase_of_mem hm
      omega
    · have := nodup_nat m l hn (fun x hx => by
        have h2 := h x hx
        have h3 : x ≠ m := fun e => hm (e ▸ hx)
        omega)
      omega
/-- The half-edge the other way. -/
def twn (h : Int) : Int := if h % 2 = 0 then h + 1 else h - 1
theorem nat_xor_one (k : Nat) : ((k ^^^ 1 : Nat) : Int) = twn (k : Int) := by
  have h1 : (k ^^^ 1) / 2 = k / 2 := by rw [Nat.xor_div_two]; simp
  have h2 : (k ^^^ 1) % 2 = (k + 1) % 2 := by have := @Nat.xor_mod_two_eq_one k 1; omega
  unfold twn
  split <;> omega
theorem xor_one (k : Nat) (hk : k < 1000000) : bits .xor .i64 (k : Int) 1 = twn (k : Int) := by
  have hx : k ^^^ 1 < 2 ^ 20 := Nat.xor_lt_two_pow (by omega) (by omega)
  have h1 : (BitVec.ofInt 64 (k : Int)).toNat = k := by
    rw [BitVec.ofInt_natCast, BitVec.toNat_ofNat]; exact Nat.mod_eq_of_lt (by omega)
  have h2 : (BitVec.ofInt 64 (1 : Int)).toNat = 1 := by decide
  show IntKind.i64.wrap ((BitVec.ofInt 64 (k : Int) ^^^ BitVec.ofInt 64 1).toNat : Int) = _
  rw [BitVec.toNat_xor, h1, h2, IntKind.wrap_i64, ← nat_xor_one]
  omega
end Go.Proofs.Ytaebbfilgfkckaa
