/- rot.Same and the document's Same, in every world. -/
import Derived.Test.YtcgdmonejogbaaaY6
namespace Go.Proofs.Ytcgdmonejogbaaa
open Go.RowKit Go.Sort
open Go

/-- A rotation, each list from its least number on. -/
def canonL (rs : List (List Int)) : List (List Int) := rs.map turnL
theorem canonL_length (rs : List (List Int)) : (canonL rs).length = rs.length := by simp [canonL]
theorem lat_canon {rs : List (List Int)} {v : Nat} (hv : v < rs.length) : lat (canonL rs) v = turnL (lat rs v) := lat_map turnL hv
/-- What a rotation's lists hold is bounded. -/
theorem rot_is {n : Int} {es : List Pt} {rs : List (List Int)} (h : rotI n es rs = 0) : netB n es = true ∧ (rs.length : Int) = n ∧ holdsP es rs := by
  unfold rotI at h
  by_cases hm : netB n es = true
  · rw [if_pos hm] at h
    by_cases hn : (rs.length : Int) = n
    · rw [if_pos hn] at h
      by_cases hh : holdsB es rs = true
      · exact ⟨hm, hn, of_decide_eq_true hh⟩
      · rw [if_neg hh] at h; omega
    · rw [if_neg hn] at h; omega
  · rw [if_neg hm] at h; omega
theorem lat_le_flat {rs : List (List Int)} {v : Nat} (hv : v < rs.length) : (lat rs v).length ≤ rs.flatten.length := by
  have : lat rs v ∈ rs := by
    unfold lat
    rw [List.getD_eq_getElem?_getD, List.getElem?_eq_getElem hv]
    exact List.getElem_mem hv
  exact (List.sublist_flatten_of_mem this).length_le
theorem rot_bounds {n : Int} {es : List Pt} {rs : List (List Int)} (h : rotI n es rs = 0) : rs.length ≤ 1024 ∧ ∀ v, v < rs.length → (lat rs v).length ≤ 6144 := by
  obtain ⟨h1, h2, h3⟩ := rot_is h
  obtain ⟨n0, n1, hes, _⟩ := netB_is h1
  refine ⟨by omega, fun v hv => ?_⟩
  have := lat_le_flat hv
  have := h3.2
  omega
/-- What Same answers. -/
def sameE (n : Int) (es : List Pt) (a b : List (List Int)) : Int := if rotI n es a = 0 then rotI n es b else rotI n es a
def sameR (n : Int) (es : List Pt) (a b : List (List Int)) : Bool := if sameE n es a b = 0 then decide (canonL a = canonL b) else false
end Go.Proofs.Ytcgdmonejogbaaa
