/- GeomAreas: what it passes by. -/
import Derived.Test.YtgnojjbdioldbaaA1
import Derived.Test.YtgnojjbdioldbaaG18
import Derived.Lib.QuietBelow
namespace Go.Proofs.Ytgnojjbdioldbaa
open Go.RowKit Go.Sort
open Go
theorem below_step9 {a b c : World} (h : Below a.heap.size a b) (k : Below b.heap.size b c) : Below a.heap.size a c := Below.trans h (k.mono h.size)
/-- What GeomAreas looks at. -/
def arOk (ps : List Pt) (at_ : Int) : Bool := decide (3 ≤ ps.length ∧ ps.length ≤ 100) && decide (errI ps = 0) && decide (1 ≤ at_ ∧ at_ ≤ ps.length - 2)
set_option maxRecDepth 100000 in
set_option maxHeartbeats 4000000 in
theorem areas_no (p : Option Addr) (ps : List Pt) (cap : Nat) (k : Int) (w : World) (h : Has w p ps) (hno : arOk ps k = false) : Calls Try.prog 8 #[.slice p ps.length cap, .int .i64 k] w fun e w' => e = .returned (.bool true) ∧ Below w.heap.size w w' := by
  have HH := hide h
  clear h
  go_enter Try.func8, Try.ntmps8
  go_wp2_with fail
  refine (begun9 _).mono ?_
  rintro e w1 ⟨rfl, hb⟩
  have A := hide (err10 p ps cap w1 (HH.out.later hb))
  have HB := hide hb
  clear hb
  by_cases h3 : ps.length < 3
  · go_wp2_with fail
    go_ret
    exact ⟨rfl, HB.out⟩
  by_cases h100 : 100 < ps.length
  · go_wp2_with fail
    go_ret
    exact ⟨rfl, HB.out⟩
  by_cases hE : errI ps = 0
  · have hk : ¬(1 ≤ k ∧ k ≤ (ps.length : Int) - 2) := by
      intro hk
      have : arOk ps k = true := by
        unfold arOk
        rw [decide_eq_true ⟨by omega, by omega⟩, decide_eq_true hE, decide_eq_true hk]
        rfl
      rw [this] at hno
      cases hno
    rw [hE] at A
    by_cases h1 : k < 1
    · go_wp2_with fail
      refine A.out.mono ?_
      rintro e w2 ⟨rfl, hb⟩
      have HB2 := hide (below_step9 HB.out hb)
      clear hb
      go_wp2_with fail
      go_ret
      exact ⟨rfl, HB2.out⟩
    · have h2 : (ps.length : Int) - 2 < k := by omega
      go_wp2_with fail
      refine A.out.mono ?_
      rintro e w2 ⟨rfl, hb⟩
      have HB2 := hide (below_step9 HB.out hb)
      clear hb
      go_wp2_with fail
      go_ret
      exact ⟨rfl, HB2.out⟩
  · obtain ⟨E, hEE⟩ : ∃ E, errI ps = E := ⟨_, rfl⟩
    rw [hEE] at A hE
    go_wp2_with fail
    refine A.out.mono ?_
    rintro e w2 ⟨rfl, hb⟩
    have HB2 := hide (below_step9 HB.out hb)
    clear hb
    go_wp2_with fail
    go_ret
    exact ⟨rfl, HB2.out⟩
end Go.Proofs.Ytgnojjbdioldbaa
