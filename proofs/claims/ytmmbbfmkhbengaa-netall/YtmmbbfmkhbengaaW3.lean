/- A net with an edge split. -/
import Derived.Test.YtmmbbfmkhbengaaM8
namespace Go.Proofs.Ytmmbbfmkhbengaa
open Go.RowKit Go.Sort
open Go

variable {es : List Pt}

theorem at_set_lt {l : List Pt} {i j : Nat} {p : Pt} (h : j < l.length) : at' (l.set i p) j = if i = j then p else at' l j := at_set l i j p h
/-- Where an edge is split: itself, the new one, and the others. -/
theorem split_atW (m : Int) (es : List Pt) {a : Nat} (ha : a < es.length) : at' (splitL m es a) a = ⟨(at' es a).x, m⟩ ∧ at' (splitL m es a) es.length = ⟨m, (at' es a).y⟩ ∧ ∀ i, i < es.length → i ≠ a → at' (splitL m es a) i = at' es i := by
  have hl : (es ++ [(⟨0, 0⟩ : Pt)]).length = es.length + 1 := by simp
  unfold splitL
  refine ⟨?_, ?_, fun i hi hne => ?_⟩
  · rw [at_set_lt (by rw [List.length_set, hl]; omega), if_neg (by omega), at_set_lt (by rw [hl]; omega), if_pos rfl]
  · rw [at_set_lt (by rw [List.length_set, hl]; omega), if_pos rfl]
  · rw [at_set_lt (by rw [List.length_set, hl]; omega), if_neg (by omega), at_set_lt (by rw [hl]; omega), if_neg (fun e => hne e.symm)]
    unfold at'
    rw [List.getD_eq_getElem?_getD, List.getD_eq_getElem?_getD, List.getElem?_append_left hi]
theorem split_net {m : Nat} {a : Nat} (hm : netB m es = true) (ha : a < es.length) (h1 : m + 1 ≤ 1024) (h2 : es.length + 1 ≤ 3072) : netB ((m : Int) + 1) (splitL m es a) = true := by
  obtain ⟨n0, n1, hes, hE⟩ := netB_is hm
  obtain ⟨s1, s2, s3⟩ := split_atW m es ha
  refine net_yes (by omega) (by rw [splitL_length]; simp [fitsB]; omega) (fun j hj => ?_)
  rw [splitL_length] at hj
  simp only [edB, belowB, Bool.and_eq_true, decide_eq_true_eq]
  by_cases e1 : j = a
  · rw [e1, s1]; have := hE a ha; simp only; omega
  · by_cases e2 : j = es.length
    · rw [e2, s2]; have := hE a ha; simp only; omega
    · rw [s3 j (by omega) e1]; have := hE j (by omega); omega
end Go.Proofs.Ytmmbbfmkhbengaa
