/- NetTwo where it passes by. -/
import Derived.Test.YtmmbbfmkhbengaaT3
import Derived.Test.YtmmbbfmkhbengaaT5
import Derived.Test.YtmmbbfmkhbengaaM5
namespace Go.Proofs.Ytmmbbfmkhbengaa
open Go.RowKit Go.Sort
open Go

def passB (n m : Int) (a b : List Pt) (l : List Int) : Bool := !(lightB n a && lightB m b && decide (l.length ≤ 400))
set_option maxRecDepth 100000 in
set_option maxHeartbeats 8000000 in
theorem two_passed (n m : Int) (p q q1 : Option Addr) (a b : List Pt) (l : List Int) (cp cq c1 : Nat) (w : World) (h : Has w p a) (k : Has w q b) (hp : passB n m a b l = true) :
    Calls Try.prog 4 #[nv n p a.length cp, nv m q b.length cq, .slice q1 l.length c1] w fun e w' => e = .returned (.bool true) ∧ Below w.heap.size w w' := by
  obtain ⟨W, hW, hb, a0, b0⟩ := two_args w n m p q a.length b.length cp cq
  have HB := hide hb
  have HA := hide a0
  have HC := hide b0
  have HH := hide (h.later hb)
  have HK := hide (k.later hb)
  clear h k hb a0 b0
  go_enter Try.func4, Try.ntmps4
  go_wp2_with fail
  rw [← hW]
  clear hW
  refine (begun8 _).mono ?_
  rintro e w1 ⟨rfl, hb1⟩
  have HB1 := hide (below_step HB.out hb1)
  have HA1 := hide (HA.out.later hb1)
  have HC1 := hide (HC.out.later hb1)
  have HH1 := hide (HH.out.later hb1)
  have HK1 := hide (HK.out.later hb1)
  clear hb1 HB HA HC HH HK
  have M := hide (light9 n p a cp w1 HH1.out)
  obtain ⟨q0, q1', _, _⟩ := HA1.out
  go_wp2_with fail
  refine M.out.mono ?_
  rintro e w2 ⟨rfl, hb2⟩
  have HB2 := hide (below_step HB1.out hb2)
  have HC2 := hide (HC1.out.later hb2)
  have HK2 := hide (HK1.out.later hb2)
  clear hb2 q0 q1' HB1 HA1 HC1 HH1 HK1 M
  cases h1 : lightB n a
  · go_wp2
    go_ret
    exact ⟨rfl, HB2.out⟩
  have M := hide (light9 m q b cq w2 HK2.out)
  obtain ⟨x0, x1, _, _⟩ := HC2.out
  go_wp2_with fail
  refine M.out.mono ?_
  rintro e w3 ⟨rfl, hb3⟩
  have HB3 := hide (below_step HB2.out hb3)
  clear hb3 x0 x1 HB2 HC2 HK2 M
  cases h2 : lightB m b
  · go_wp2
    go_ret
    exact ⟨rfl, HB3.out⟩
  have h3 : decide (l.length ≤ 400) = false := by
    unfold passB at hp
    rw [h1, h2] at hp
    simpa using hp
  have FW := few10 q1 l.length c1
  rw [h3] at FW
  go_wp2_with (go_at_call 10; with_reducible refine (FW _).mono ?_; rintro e w' ⟨rfl, hw⟩; have hw := hw.symm; subst hw)
  go_ret
  exact ⟨rfl, HB3.out⟩
end Go.Proofs.Ytmmbbfmkhbengaa
