/- A number put into a list. -/
import Derived.Test.YtmmbbfmkhbengaaN3
namespace Go.Proofs.Ytmmbbfmkhbengaa
open Go.RowKit Go.Sort
open Go

theorem iat_put {l : List Int} {j : Nat} {x : Int} (h : j < l.length) : iat (l.set j x) j = x := by
  unfold iat; rw [List.getD_eq_getElem?_getD, List.getElem?_set_self h]; rfl
theorem iat_put_ne {l : List Int} {j k : Nat} {x : Int} (h : k ≠ j) : iat (l.set j x) k = iat l k := by
  unfold iat; rw [List.getD_eq_getElem?_getD, List.getElem?_set_ne (fun e => h e.symm), List.getD_eq_getElem?_getD]
end Go.Proofs.Ytmmbbfmkhbengaa
