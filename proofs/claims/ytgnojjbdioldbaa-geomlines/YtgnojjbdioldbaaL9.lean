/- GeomLines' walk. -/
import Derived.Test.YtgnojjbdioldbaaL8
import Derived.Test.YtgnojjbdioldbaaL5
import Derived.Test.YtgnojjbdioldbaaL1
import Derived.Test.YtgnojjbdioldbaaL2
import Derived.Test.YtgnojjbdioldbaaI4
import Derived.Test.YtgnojjbdioldbaaK1
import Derived.Test.YtgnojjbdioldbaaG18
namespace Go.Proofs.Ytgnojjbdioldbaa
open Go.RowKit Go.Sort
open Go

set_option maxRecDepth 100000 in
set_option maxHeartbeats 16000000 in
theorem lines_nil (w : World) (cp cq : Nat) (p1 : Option Addr) (hp1 : p1 = none → cp = 0) (q1 : Option Addr) (q : List Pt) (hq1 : q1 = none → cq = 0) (k : Has w q1 q) (lq : q.length ≤ 40) : Calls Try.prog 7 #[.slice p1 0 cp, .slice q1 q.length cq] w fun e w' => e = .returned (.bool true) ∧ Below w.heap.size w w' := by
  have BG := hide (begun9 w)
  have HP : Hid (Has w p1 []) := Or.inl rfl
  have HQ : Hid (Has w q1 q) := k
  have E1 : Hid (∀ V, Has V p1 [] → Calls Try.prog 10 #[.slice p1 0 cp] V fun e w' => e = .returned (.int .i64 0) ∧ Below V.heap.size V w') := by
    intro V hV
    have : errI [] = 0 := by decide
    have h2 := err10 p1 [] cp V hV
    rw [this] at h2
    exact h2
  have E2 : Hid (∀ V, Has V q1 q → Calls Try.prog 10 #[.slice q1 q.length cq] V fun e w' => e = .returned (.int .i64 (errI q)) ∧ Below V.heap.size V w') := by
    intro V hV
    exact err10 q1 q cq V hV
  have SI : Hid (∀ g c V, Lies V g 0 [] → 0 + 1 ≤ c → Calls Try.prog 23 #[.slice (some ⟨g, 0, none⟩) 0 c] V fun e w' => e = .returned (.tuple #[.bool false, .int .i64 1]) ∧ Below V.heap.size V w') := by
    intro g c V hV _
    refine (simple23 (some ⟨g, 0, none⟩) [] c V (Or.inr ⟨g, 0, rfl, hV⟩)).mono ?_
    rintro e w' ⟨h1, h2⟩
    exact ⟨simple_bad h1 (Or.inl rfl), h2⟩
  have AR : Hid (∀ g c V, Lies V g 0 [] → 0 + 1 ≤ c → Calls Try.prog 24 #[.slice (some ⟨g, 0, none⟩) 0 c] V fun e w' => e = .returned (.tuple #[.int .i64 0, .int .i64 0]) ∧ Below V.heap.size V w') := by
    intro g c V hV _
    have h2 := area24 (some ⟨g, 0, none⟩) [] c V (Or.inr ⟨g, 0, rfl, hV⟩)
    rw [show mayB [] = true by decide, show errI [] = 0 by decide] at h2
    exact h2
  have BX : Hid (∀ g c V, Lies V g 0 [] → 0 + 1 ≤ c → Calls Try.prog 25 #[.slice (some ⟨g, 0, none⟩) 0 c] V fun e w' => e = .returned (.tuple #[pv 0 0, pv 0 0, .int .i64 9]) ∧ Below V.heap.size V w') := by
    intro g c V hV hc
    have h2 := box7 (some ⟨g, 0, none⟩) [] c V (by first | omega | simp) (Or.inr ⟨g, 0, rfl, hV⟩)
    rw [show boxE [] = 9 by decide, show boxLo [] = ⟨0, 0⟩ by decide, show boxHi [] = ⟨0, 0⟩ by decide] at h2
    exact h2
  have A2 : Hid (∀ V, Has V p1 [] → Calls Try.prog 27 #[.slice p1 0 cp] V fun e w' => e = .returned (.int .i64 0) ∧ Below V.heap.size V w') := by
    intro V hV
    have h2 := area27 p1 [] cp V (by decide) hV
    exact h2
  have AP : Hid (∀ g c g2 c2 V, Lies V g 0 [] → Lies V g2 0 q → Calls Try.prog 26 #[.slice (some ⟨g, 0, none⟩) 0 c, .slice (some ⟨g2, 0, none⟩) q.length c2] V fun e w' => e = .returned (.tuple #[.bool false, .int .i64 1]) ∧ Below V.heap.size V w') := by
    intro g c g2 c2 V hV hW
    refine (apart26 (some ⟨g, 0, none⟩) (some ⟨g2, 0, none⟩) [] q c c2 V (Or.inr ⟨g, 0, rfl, hV⟩) (Or.inr ⟨g2, 0, rfl, hW⟩)).mono ?_
    rintro e w' ⟨h1, h2⟩
    exact ⟨apart_bad h1 (Or.inl rfl), h2⟩
  have i2 : ¬ (40 : Int) < q.length := by omega
  have W1 := hide (fun V hV => twin19 p1 [] cp V hp1 (by simp) hV)
  have W2 := hide (fun V hV => twin19 q1 q cq V hq1 (by omega) hV)
  have K1 := hide (fun g c V h1 h2 h3 => kept21 g c p1 [] cp V (by simp) h1 h2 h3)
  have K2 := hide (fun g c V h1 h2 h3 => kept21 g c q1 q cq V (by omega) h1 h2 h3)
  clear k
  go_enter Try.func7, Try.ntmps7
  go_wp2_with fail
  refine (BG.out).mono ?_
  rintro e v1 ⟨rfl, hb⟩
  replace HP := hide (HP.out.later hb)
  replace HQ := hide (HQ.out.later hb)
  have HB := hide hb
  clear hb
  go_wp2_with fail
  refine (E1.out v1 HP.out).mono ?_
  rintro e v2 ⟨rfl, hb⟩
  replace HP := hide (HP.out.later hb)
  replace HQ := hide (HQ.out.later hb)
  replace HB := hide (below_stepJ HB.out hb)
  clear hb
  go_wp2_with fail
  refine (E2.out v2 HQ.out).mono ?_
  rintro e v3 ⟨rfl, hb⟩
  replace HP := hide (HP.out.later hb)
  replace HQ := hide (HQ.out.later hb)
  replace HB := hide (below_stepJ HB.out hb)
  clear hb
  go_wp2_with fail
  refine (W1.out v3 HP.out).mono ?_
  rintro e v4 ⟨g1, c1, rfl, ht, hc1, hb⟩
  replace HP := hide (HP.out.later hb)
  replace HQ := hide (HQ.out.later hb)
  replace HB := hide (below_stepJ HB.out hb)
  have HT := hide ht
  clear hb ht
  go_wp2_with fail
  refine (W2.out v4 HQ.out).mono ?_
  rintro e v5 ⟨g2, c2, rfl, ht, hc2, hb⟩
  replace HP := hide (HP.out.later hb)
  replace HQ := hide (HQ.out.later hb)
  replace HT := hide (HT.out.later hb)
  replace HB := hide (below_stepJ HB.out hb)
  have HU := hide ht
  clear hb ht
  go_wp2_with fail
  refine (SI.out g1 c1 v5 (lies_front HT.out) hc1).mono ?_
  rintro e v6 ⟨rfl, hb⟩
  replace HP := hide (HP.out.later hb)
  replace HQ := hide (HQ.out.later hb)
  replace HT := hide (HT.out.later hb)
  replace HU := hide (HU.out.later hb)
  replace HB := hide (below_stepJ HB.out hb)
  clear hb
  go_wp2_with fail
  refine (AR.out g1 c1 v6 (lies_front HT.out) hc1).mono ?_
  rintro e v7 ⟨rfl, hb⟩
  replace HP := hide (HP.out.later hb)
  replace HQ := hide (HQ.out.later hb)
  replace HT := hide (HT.out.later hb)
  replace HU := hide (HU.out.later hb)
  replace HB := hide (below_stepJ HB.out hb)
  clear hb
  go_wp2_with fail
  refine (BX.out g1 c1 v7 (lies_front HT.out) hc1).mono ?_
  rintro e v8 ⟨rfl, hb⟩
  replace HP := hide (HP.out.later hb)
  replace HQ := hide (HQ.out.later hb)
  replace HT := hide (HT.out.later hb)
  replace HU := hide (HU.out.later hb)
  replace HB := hide (below_stepJ HB.out hb)
  clear hb
  obtain ⟨X, hX⟩ : ∃ X, X = (v8.alloc (.cells #[.int .i64 0, .int .i64 0] 23)).alloc (.cells #[.int .i64 0, .int .i64 0] 23) := ⟨_, rfl⟩
  have hbX : Below v8.heap.size v8 X := by rw [hX]; go_grown
  replace HP := hide (HP.out.later hbX)
  replace HQ := hide (HQ.out.later hbX)
  replace HT := hide (HT.out.later hbX)
  replace HU := hide (HU.out.later hbX)
  replace HB := hide (below_stepJ HB.out hbX)
  clear hbX
  go_wp2_with fail
  rw [← hX]
  clear hX
  refine (AP.out g1 c1 g2 c2 X (lies_front HT.out) (lies_front HU.out)).mono ?_
  rintro e v9 ⟨rfl, hb⟩
  replace HP := hide (HP.out.later hb)
  replace HQ := hide (HQ.out.later hb)
  replace HT := hide (HT.out.later hb)
  replace HU := hide (HU.out.later hb)
  replace HB := hide (below_stepJ HB.out hb)
  clear hb
  go_wp2_with fail
  refine (K1.out g1 c1 v9 hc1 HT.out HP.out).mono ?_
  rintro e v10 ⟨rfl, hb⟩
  replace HP := hide (HP.out.later hb)
  replace HQ := hide (HQ.out.later hb)
  replace HT := hide (HT.out.later hb)
  replace HU := hide (HU.out.later hb)
  replace HB := hide (below_stepJ HB.out hb)
  clear hb
  go_wp2_with fail
  refine (K2.out g2 c2 v10 hc2 HU.out HQ.out).mono ?_
  rintro e v11 ⟨rfl, hb⟩
  replace HP := hide (HP.out.later hb)
  replace HQ := hide (HQ.out.later hb)
  replace HT := hide (HT.out.later hb)
  replace HU := hide (HU.out.later hb)
  replace HB := hide (below_stepJ HB.out hb)
  clear hb
  go_wp2_with fail
  refine (A2.out v11 HP.out).mono ?_
  rintro e v12 ⟨rfl, hb⟩
  replace HP := hide (HP.out.later hb)
  replace HQ := hide (HQ.out.later hb)
  replace HT := hide (HT.out.later hb)
  replace HU := hide (HU.out.later hb)
  replace HB := hide (below_stepJ HB.out hb)
  clear hb
  go_wp2
  go_ret
  exact ⟨rfl, HB.out⟩
end Go.Proofs.Ytgnojjbdioldbaa
