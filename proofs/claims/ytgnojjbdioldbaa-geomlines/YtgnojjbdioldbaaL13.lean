/- GeomLines' walk, whatever comes in. -/
import Derived.Test.YtgnojjbdioldbaaL9
import Derived.Test.YtgnojjbdioldbaaL10
import Derived.Test.YtgnojjbdioldbaaL11
import Derived.Test.YtgnojjbdioldbaaL12
namespace Go.Proofs.Ytgnojjbdioldbaa
open Go.RowKit Go.Sort
open Go

set_option maxRecDepth 100000 in
set_option maxHeartbeats 4000000 in
theorem lines_out (p1 q1 : Option Addr) (np nq cp cq : Nat) (w : World) (h : (40 : Int) < np ∨ (¬ (40 : Int) < np ∧ (40 : Int) < nq)) : Calls Try.prog 7 #[.slice p1 np cp, .slice q1 nq cq] w fun e w' => e = .returned (.bool true) ∧ Below w.heap.size w w' := by
  have BG := hide (begun9 w)
  rcases h with h | ⟨h, h1⟩
  all_goals
    go_enter Try.func7, Try.ntmps7
    go_wp2_with fail
    refine BG.out.mono ?_
    rintro e w0 ⟨rfl, hb0⟩
    have HB0 := hide hb0
    clear hb0
    go_wp2
    go_ret
    exact ⟨rfl, HB0.out⟩
theorem lines_walk (p1 q1 : Option Addr) (p q : List Pt) (cp cq : Nat) (w : World) (hp1 : p1 = none → cp = 0) (hq1 : q1 = none → cq = 0) (h : Has w p1 p) (k : Has w q1 q) : Calls Try.prog 7 #[.slice p1 p.length cp, .slice q1 q.length cq] w fun e w' => e = .returned (.bool true) ∧ Below w.heap.size w w' := by
  by_cases lp : 40 < p.length
  · exact lines_out p1 q1 p.length q.length cp cq w (Or.inl (by omega))
  by_cases lq : 40 < q.length
  · exact lines_out p1 q1 p.length q.length cp cq w (Or.inr ⟨by omega, by omega⟩)
  cases hmp : mayB p
  · exact lines_bad w cp cq p1 p hp1 h hmp (by omega) q1 q hq1 k (by omega)
  · by_cases hp0 : p.length = 0
    · have hp : p = [] := List.eq_nil_of_length_eq_zero hp0
      subst hp
      exact lines_nil w cp cq p1 hp1 q1 q hq1 k (by omega)
    · rcases h with h | ⟨b, off, rfl, hL⟩
      · rw [h] at hp0; simp at hp0
      cases hmq : mayB q
      · exact lines_half w cp cq b off p hL (by omega) hmp (by omega) q1 q hq1 k hmq (by omega)
      · by_cases hq0 : q.length = 0
        · have hq : q = [] := List.eq_nil_of_length_eq_zero hq0
          subst hq
          exact lines_q0 w cp cq b off p hL (by omega) hmp (by omega) q1 hq1
        · rcases k with k | ⟨b2, off2, rfl, hK⟩
          · rw [k] at hq0; simp at hq0
          exact lines_both w cp cq b off p hL (by omega) hmp (by omega) b2 off2 q hK (by omega) hmq (by omega)
end Go.Proofs.Ytgnojjbdioldbaa
