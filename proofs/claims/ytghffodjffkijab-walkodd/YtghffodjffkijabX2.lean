/- The document's blank and To. -/
import Derived.Test.YtghffodjffkijabX1
namespace Go.Proofs.Ytghffodjffkijab
open Go.RowKit Go.Sort
open Go

/-- The end of an edge that a half-edge comes to. -/
def toL (es : List Pt) (h : Nat) : Int := if h % 2 = 0 then (at' es (h / 2)).y else (at' es (h / 2)).x
theorem toL_in {m : Int} {es : List Pt} (hm : netB m es = true) (h : Nat) (hl : h < 2 * es.length) : 0 ≤ toL es h ∧ toL es h < m := by
  obtain ⟨_, _, _, hE⟩ := netB_is hm
  have := hE (h / 2) (by omega)
  unfold toL
  split <;> omega
/-- So many of a number, as far as they are laid. -/
def fillL (n k : Nat) (x : Int) : List Int := List.replicate k x ++ List.replicate (n - k) 0
theorem fillL_length (n k : Nat) (x : Int) (h : k ≤ n) : (fillL n k x).length = n := by simp [fillL]; omega
theorem fillL_set (n k : Nat) (x : Int) (h : k < n) : (fillL n k x).set k x = fillL n (k + 1) x := by
  unfold fillL
  rw [List.set_append_right _ _ (by simp), List.length_replicate, Nat.sub_self, show n - k = (n - (k + 1)) + 1 by omega, List.replicate_succ, List.set_cons_zero, List.replicate_succ' (n := k), List.append_assoc]
  rfl
end Go.Proofs.Ytghffodjffkijab
