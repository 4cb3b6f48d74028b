/- GeomLines' walk. -/
import Derived.Test.YtgnojjbdioldbaaJ6
import Derived.Test.YtgnojjbdioldbaaL5
import Derived.Test.YtgnojjbdioldbaaL1
import Derived.Test.YtgnojjbdioldbaaL2
import Derived.Test.YtgnojjbdioldbaaI4
import Derived.Test.YtgnojjbdioldbaaK1
import Derived.Test.YtgnojjbdioldbaaG18
namespace Go.Proofs.Ytgnojjbdioldbaa
open Go.RowKit Go.Sort
open Go

theorem lies_front {w : World} {b : Nat} {es fs : List Pt} (h : Lies w b 0 (es ++ fs)) : Lies w b 0 es := by
  intro j hj
  have := h j (by simp; omega)
  have e : at' (es ++ fs) j = at' es j := by unfold at'; rw [List.getD_eq_getElem?_getD, List.getD_eq_getElem?_getD, List.getElem?_append_left hj]
  rw [e] at this
  exact this
theorem simple_bad {p : List Pt} {e : Ending} (h : SimplePost p e) (hb : p.length = 0 ∨ mayB p = false) : e = .returned (.tuple #[.bool false, .int .i64 1]) := by
  rcases h with ⟨_, h⟩ | ⟨h0, h1, _⟩
  · exact h
  · rcases hb with hb | hb
    · omega
    · rw [hb] at h1; cases h1
theorem simple_good {p : List Pt} {e : Ending} (h : SimplePost p e) (h0 : 0 < p.length) (h1 : mayB p = true) : ∃ b : Bool, e = .returned (.tuple #[.bool b, .int .i64 0]) ∧ (b = true ↔ Simp p) := by
  rcases h with ⟨h | h, _⟩ | ⟨_, _, h⟩
  · omega
  · rw [h] at h1; cases h1
  · exact h
theorem apart_bad {p q : List Pt} {e : Ending} (h : ApartPost p q e) (hb : p.length = 0 ∨ q.length = 0 ∨ mayB p = false ∨ mayB q = false) : e = .returned (.tuple #[.bool false, .int .i64 1]) := by
  rcases h with ⟨_, h⟩ | ⟨h0, h1, h2, h3, _⟩
  · exact h
  · rcases hb with hb | hb | hb | hb
    · omega
    · omega
    · rw [hb] at h2; cases h2
    · rw [hb] at h3; cases h3
theorem apart_good {p q : List Pt} {e : Ending} (h : ApartPost p q e) (h0 : 0 < p.length) (h1 : 0 < q.length) (h2 : mayB p = true) (h3 : mayB q = true) : ∃ b : Bool, e = .returned (.tuple #[.bool b, .int .i64 0]) ∧ (b = true ↔ Apt p q) := by
  rcases h with ⟨h | h | h | h, _⟩ | ⟨_, _, _, _, h⟩
  · omega
  · omega
  · rw [h] at h2; cases h2
  · rw [h] at h3; cases h3
  · exact h
theorem bool_same {a b : Bool} {P : Prop} (h : a = true ↔ P) (k : b = true ↔ P) : a = b := by
  cases a <;> cases b <;> simp_all
set_option maxRecDepth 100000 in
set_option maxHeartbeats 16000000 in
theorem lines_bad (w : World) (cp cq : Nat) (p1 : Option Addr) (p : List Pt) (hp1 : p1 = none → cp = 0) (h : Has w p1 p) (hmp : mayB p = false) (lp : p.length ≤ 40) (q1 : Option Addr) (q : List Pt) (hq1 : q1 = none → cq = 0) (k : Has w q1 q) (lq : q.length ≤ 40) : Calls Try.prog 7 #[.slice p1 p.length cp, .slice q1 q.length cq] w fun e w' => e = .returned (.bool true) ∧ Below w.heap.size w w' := by
  have BG := hide (begun9 w)
  have HP : Hid (Has w p1 p) := h
  have HQ : Hid (Has w q1 q) := k
  have E1 : Hid (∀ V, Has V p1 p → Calls Try.prog 10 #[.slice p1 p.length cp] V fun e w' => e = .returned (.int .i64 1) ∧ Below V.heap.size V w') := by
    intro V hV
    have : errI p = 1 := by unfold errI; rw [hmp]; rfl
    have h2 := err10 p1 p cp V hV
    rw [this] at h2
    exact h2
  have E2 : Hid (∀ V, Has V q1 q → Calls Try.prog 10 #[.slice q1 q.length cq] V fun e w' => e = .returned (.int .i64 (errI q)) ∧ Below V.heap.size V w') := by
    intro V hV
    exact err10 q1 q cq V hV
  have SI : Hid (∀ g c V, Lies V g 0 p → p.length + 1 ≤ c → Calls Try.prog 23 #[.slice (some ⟨g, 0, none⟩) p.length c] V fun e w' => e = .returned (.tuple #[.bool false, .int .i64 1]) ∧ Below V.heap.size V w') := by
    intro g c V hV _
    refine (simple23 (some ⟨g, 0, none⟩) p c V (Or.inr ⟨g, 0, rfl, hV⟩)).mono ?_
    rintro e w' ⟨h1, h2⟩
    exact ⟨simple_bad h1 (Or.inr hmp), h2⟩
  have AR : Hid (∀ g c V, Lies V g 0 p → p.length + 1 ≤ c → Calls Try.prog 24 #[.slice (some ⟨g, 0, none⟩) p.length c] V fun e w' => e = .returned (.tuple #[.int .i64 0, .int .i64 1]) ∧ Below V.heap.size V w') := by
    intro g c V hV _
    have h2 := area24 (some ⟨g, 0, none⟩) p c V (Or.inr ⟨g, 0, rfl, hV⟩)
    rw [hmp, show errI p = 1 by unfold errI; rw [hmp]; rfl] at h2
    exact h2
  have BX : Hid (∀ g c V, Lies V g 0 p → p.length + 1 ≤ c → Calls Try.prog 25 #[.slice (some ⟨g, 0, none⟩) p.length c] V fun e w' => e = .returned (.tuple #[pv 0 0, pv 0 0, .int .i64 1]) ∧ Below V.heap.size V w') := by
    intro g c V hV hc
    have h2 := box7 (some ⟨g, 0, none⟩) p c V (by first | omega | simp) (Or.inr ⟨g, 0, rfl, hV⟩)
    rw [show boxE p = 1 by unfold boxE; rw [hmp]; rfl, show boxLo p = ⟨0, 0⟩ by unfold boxLo; rw [hmp]; rfl, show boxHi p = ⟨0, 0⟩ by unfold boxHi; rw [hmp]; rfl] at h2
    exact h2
  have AP : Hid (∀ g c g2 c2 V, Lies V g 0 p → Lies V g2 0 q → Calls Try.prog 26 #[.slice (some ⟨g, 0, none⟩) p.length c, .slice (some ⟨g2, 0, none⟩) q.length c2] V fun e w' => e = .returned (.tuple #[.bool false, .int .i64 1]) ∧ Below V.heap.size V w') := by
    intro g c g2 c2 V hV hW
    refine (apart26 (some ⟨g, 0, none⟩) (some ⟨g2, 0, none⟩) p q c c2 V (Or.inr ⟨g, 0, rfl, hV⟩) (Or.inr ⟨g2, 0, rfl, hW⟩)).mono ?_
    rintro e w' ⟨h1, h2⟩
    exact ⟨apart_bad h1 (Or.inr (Or.inr (Or.inl hmp))), h2⟩
  have i1 : ¬ (40 : Int) < p.length := by omega
  have i2 : ¬ (40 : Int) < q.length := by omega
  have W1 := hide (fun V hV => twin19 p1 p cp V hp1 (by omega) hV)
  have W2 := hide (fun V hV => twin19 q1 q cq V hq1 (by omega) hV)
  have K1 := hide (fun g c V h1 h2 h3 => kept21 g c p1 p cp V (by omega) h1 h2 h3)
  have K2 := hide (fun g c V h1 h2 h3 => kept21 g c q1 q cq V (by omega) h1 h2 h3)
  clear h k
  go_enter Try.func7, Try.ntmps7
  go_wp2_with fail
  refine (BG.out).mono ?_
  rintro e v1 ⟨rfl, hb⟩
  replace HP := hide (HP.out.later hb)
  replace HQ := hide (HQ.out.later hb)
  have HB := hide hb
  clear hb
  go_wp2_with fail
  refine (E1.out v1 HP.out).mono ?_
  rintro e v2 ⟨rfl, hb⟩
  replace HP := hide (HP.out.later hb)
  replace HQ := hide (HQ.out.later hb)
  replace HB := hide (below_stepJ HB.out hb)
  clear hb
  go_wp2_with fail
  refine (E2.out v2 HQ.out).mono ?_
  rintro e v3 ⟨rfl, hb⟩
  replace HP := hide (HP.out.later hb)
  replace HQ := hide (HQ.out.later hb)
  replace HB := hide (below_stepJ HB.out hb)
  clear hb
  go_wp2_with fail
  refine (W1.out v3 HP.out).mono ?_
  rintro e v4 ⟨g1, c1, rfl, ht, hc1, hb⟩
  replace HP := hide (HP.out.later hb)
  replace HQ := hide (HQ.out.later hb)
  replace HB := hide (below_stepJ HB.out hb)
  have HT := hide ht
  clear hb ht
  go_wp2_with fail
  refine (W2.out v4 HQ.out).mono ?_
  rintro e v5 ⟨g2, c2, rfl, ht, hc2, hb⟩
  replace HP := hide (HP.out.later hb)
  replace HQ := hide (HQ.out.later hb)
  replace HT := hide (HT.out.later hb)
  replace HB := hide (below_stepJ HB.out hb)
  have HU := hide ht
  clear hb ht
  go_wp2_with fail
  refine (SI.out g1 c1 v5 (lies_front HT.out) hc1).mono ?_
  rintro e v6 ⟨rfl, hb⟩
  replace HP := hide (HP.out.later hb)
  replace HQ := hide (HQ.out.later hb)
  replace HT := hide (HT.out.later hb)
  replace HU := hide (HU.out.later hb)
  replace HB := hide (below_stepJ HB.out hb)
  clear hb
  go_wp2_with fail
  refine (AR.out g1 c1 v6 (lies_front HT.out) hc1).mono ?_
  rintro e v7 ⟨rfl, hb⟩
  replace HP := hide (HP.out.later hb)
  replace HQ := hide (HQ.out.later hb)
  replace HT := hide (HT.out.later hb)
  replace HU := hide (HU.out.later hb)
  replace HB := hide (below_stepJ HB.out hb)
  clear hb
  go_wp2_with fail
  refine (BX.out g1 c1 v7 (lies_front HT.out) hc1).mono ?_
  rintro e v8 ⟨rfl, hb⟩
  replace HP := hide (HP.out.later hb)
  replace HQ := hide (HQ.out.later hb)
  replace HT := hide (HT.out.later hb)
  replace HU := hide (HU.out.later hb)
  replace HB := hide (below_stepJ HB.out hb)
  clear hb
  obtain ⟨X, hX⟩ : ∃ X, X = (v8.alloc (.cells #[.int .i64 0, .int .i64 0] 23)).alloc (.cells #[.int .i64 0, .int .i64 0] 23) := ⟨_, rfl⟩
  have hbX : Below v8.heap.size v8 X := by rw [hX]; go_grown
  replace HP := hide (HP.out.later hbX)
  replace HQ := hide (HQ.out.later hbX)
  replace HT := hide (HT.out.later hbX)
  replace HU := hide (HU.out.later hbX)
  replace HB := hide (below_stepJ HB.out hbX)
  clear hbX
  go_wp2_with fail
  rw [← hX]
  clear hX
  refine (AP.out g1 c1 g2 c2 X (lies_front HT.out) (lies_front HU.out)).mono ?_
  rintro e v9 ⟨rfl, hb⟩
  replace HP := hide (HP.out.later hb)
  replace HQ := hide (HQ.out.later hb)
  replace HT := hide (HT.out.later hb)
  replace HU := hide (HU.out.later hb)
  replace HB := hide (below_stepJ HB.out hb)
  clear hb
  go_wp2_with fail
  refine (K1.out g1 c1 v9 hc1 HT.out HP.out).mono ?_
  rintro e v10 ⟨rfl, hb⟩
  replace HP := hide (HP.out.later hb)
  replace HQ := hide (HQ.out.later hb)
  replace HT := hide (HT.out.later hb)
  replace HU := hide (HU.out.later hb)
  replace HB := hide (below_stepJ HB.out hb)
  clear hb
  go_wp2_with fail
  refine (K2.out g2 c2 v10 hc2 HU.out HQ.out).mono ?_
  rintro e v11 ⟨rfl, hb⟩
  replace HP := hide (HP.out.later hb)
  replace HQ := hide (HQ.out.later hb)
  replace HT := hide (HT.out.later hb)
  replace HU := hide (HU.out.later hb)
  replace HB := hide (below_stepJ HB.out hb)
  clear hb
  go_wp2
  go_ret
  exact ⟨rfl, HB.out⟩
set_option maxRecDepth 100000 in
set_option maxHeartbeats 16000000 in
theorem lines_nil (w : World) (cp cq : Nat) (p1 : Option Addr) (hp1 : p1 = none → cp = 0) (q1 : Option Addr) (q : List Pt) (hq1 : q1 = none → cq = 0) (k : Has w q1 q) (lq : q.length ≤ 40) : Calls Try.prog 7 #[.slice p1 0 cp, .slice q1 q.length cq] w fun e w' => e = .returned (.bool true) ∧ Below w.heap.size w w' := by
  have BG := hide (begun9 w)
  have HP : Hid (Has w p1 []) := Or.inl rfl
  have HQ : Hid (Has w q1 q) := k
  have E1 : Hid (∀ V, Has V p1 [] → Calls Try.prog 10 #[.slice p1 0 cp] V fun e w' => e = .returned (.int .i64 0) ∧ Below V.heap.size V w') := by
    intro V hV
    have : errI [] = 0 := by decide
    have h2 := err10 p1 [] cp V hV
    rw [this] at h2
    exact h2
  have E2 : Hid (∀ V, Has V q1 q → Calls Try.prog 10 #[.slice q1 q.length cq] V fun e w' => e = .returned (.int .i64 (errI q)) ∧ Below V.heap.size V w') := by
    intro V hV
    exact err10 q1 q cq V hV
  have SI : Hid (∀ g c V, Lies V g 0 [] → 0 + 1 ≤ c → Calls Try.prog 23 #[.slice (some ⟨g, 0, none⟩) 0 c] V fun e w' => e = .returned (.tuple #[.bool false, .int .i64 1]) ∧ Below V.heap.size V w') := by
    intro g c V hV _
    refine (simple23 (some ⟨g, 0, none⟩) [] c V (Or.inr ⟨g, 0, rfl, hV⟩)).mono ?_
    rintro e w' ⟨h1, h2⟩
    exact ⟨simple_bad h1 (Or.inl rfl), h2⟩
  have AR : Hid (∀ g c V, Lies V g 0 [] → 0 + 1 ≤ c → Calls Try.prog 24 #[.slice (some ⟨g, 0, none⟩) 0 c] V fun e w' => e = .returned (.tuple #[.int .i64 0, .int .i64 0]) ∧ Below V.heap.size V w') := by
    intro g c V hV _
    have h2 := area24 (some ⟨g, 0, none⟩) [] c V (Or.inr ⟨g, 0, rfl, hV⟩)
    rw [show mayB [] = true by decide, show errI [] = 0 by decide] at h2
    exact h2
  have BX : Hid (∀ g c V, Lies V g 0 [] → 0 + 1 ≤ c → Calls Try.prog 25 #[.slice (some ⟨g, 0, none⟩) 0 c] V fun e w' => e = .returned (.tuple #[pv 0 0, pv 0 0, .int .i64 9]) ∧ Below V.heap.size V w') := by
    intro g c V hV hc
    have h2 := box7 (some ⟨g, 0, none⟩) [] c V (by first | omega | simp) (Or.inr ⟨g, 0, rfl, hV⟩)
    rw [show boxE [] = 9 by decide, show boxLo [] = ⟨0, 0⟩ by decide, show boxHi [] = ⟨0, 0⟩ by decide] at h2
    exact h2
  have A2 : Hid (∀ V, Has V p1 [] → Calls Try.prog 27 #[.slice p1 0 cp] V fun e w' => e = .returned (.int .i64 0) ∧ Below V.heap.size V w') := by
    intro V hV
    have h2 := area27 p1 [] cp V (by decide) hV
    exact h2
  have AP : Hid (∀ g c g2 c2 V, Lies V g 0 [] → Lies V g2 0 q → Calls Try.prog 26 #[.slice (some ⟨g, 0, none⟩) 0 c, .slice (some ⟨g2, 0, none⟩) q.length c2] V fun e w' => e = .returned (.tuple #[.bool false, .int .i64 1]) ∧ Below V.heap.size V w') := by
    intro g c g2 c2 V hV hW
    refine (apart26 (some ⟨g, 0, none⟩) (some ⟨g2, 0, none⟩) [] q c c2 V (Or.inr ⟨g, 0, rfl, hV⟩) (Or.inr ⟨g2, 0, rfl, hW⟩)).mono ?_
    rintro e w' ⟨h1, h2⟩
    exact ⟨apart_bad h1 (Or.inl rfl), h2⟩
  have i2 : ¬ (40 : Int) < q.length := by omega
  have W1 := hide (fun V hV => twin19 p1 [] cp V hp1 (by simp) hV)
  have W2 := hide (fun V hV => twin19 q1 q cq V hq1 (by omega) hV)
  have K1 := hide (fun g c V h1 h2 h3 => kept21 g c p1 [] cp V (by simp) h1 h2 h3)
  have K2 := hide (fun g c V h1 h2 h3 => kept21 g c q1 q cq V (by omega) h1 h2 h3)
  clear k
  go_enter Try.func7, Try.ntmps7
  go_wp2_with fail
  refine (BG.out).mono ?_
  rintro e v1 ⟨rfl, hb⟩
  replace HP := hide (HP.out.later hb)
  replace HQ := hide (HQ.out.later hb)
  have HB := hide hb
  clear hb
  go_wp2_with fail
  refine (E1.out v1 HP.out).mono ?_
  rintro e v2 ⟨rfl, hb⟩
  replace HP := hide (HP.out.later hb)
  replace HQ := hide (HQ.out.later hb)
  replace HB := hide (below_stepJ HB.out hb)
  clear hb
  go_wp2_with fail
  refine (E2.out v2 HQ.out).mono ?_
  rintro e v3 ⟨rfl, hb⟩
  replace HP := hide (HP.out.later hb)
  replace HQ := hide (HQ.out.later hb)
  replace HB := hide (below_stepJ HB.out hb)
  clear hb
  go_wp2_with fail
  refine (W1.out v3 HP.out).mono ?_
  rintro e v4 ⟨g1, c1, rfl, ht, hc1, hb⟩
  replace HP := hide (HP.out.later hb)
  replace HQ := hide (HQ.out.later hb)
  replace HB := hide (below_stepJ HB.out hb)
  have HT := hide ht
  clear hb ht
  go_wp2_with fail
  refine (W2.out v4 HQ.out).mono ?_
  rintro e v5 ⟨g2, c2, rfl, ht, hc2, hb⟩
  replace HP := hide (HP.out.later hb)
  replace HQ := hide (HQ.out.later hb)
  replace HT := hide (HT.out.later hb)
  replace HB := hide (below_stepJ HB.out hb)
  have HU := hide ht
  clear hb ht
  go_wp2_with fail
  refine (SI.out g1 c1 v5 (lies_front HT.out) hc1).mono ?_
  rintro e v6 ⟨rfl, hb⟩
  replace HP := hide (HP.out.later hb)
  replace HQ := hide (HQ.out.later hb)
  replace HT := hide (HT.out.later hb)
  replace HU := hide (HU.out.later hb)
  replace HB := hide (below_stepJ HB.out hb)
  clear hb
  go_wp2_with fail
  refine (AR.out g1 c1 v6 (lies_front HT.out) hc1).mono ?_
  rintro e v7 ⟨rfl, hb⟩
  replace HP := hide (HP.out.later hb)
  replace HQ := hide (HQ.out.later hb)
  replace HT := hide (HT.out.later hb)
  replace HU := hide (HU.out.later hb)
  replace HB := hide (below_stepJ HB.out hb)
  clear hb
  go_wp2_with fail
  refine (BX.out g1 c1 v7 (lies_front HT.out) hc1).mono ?_
  rintro e v8 ⟨rfl, hb⟩
  replace HP := hide (HP.out.later hb)
  replace HQ := hide (HQ.out.later hb)
  replace HT := hide (HT.out.later hb)
  replace HU := hide (HU.out.later hb)
  replace HB := hide (below_stepJ HB.out hb)
  clear hb
  obtain ⟨X, hX⟩ : ∃ X, X = (v8.alloc (.cells #[.int .i64 0, .int .i64 0] 23)).alloc (.cells #[.int .i64 0, .int .i64 0] 23) := ⟨_, rfl⟩
  have hbX : Below v8.heap.size v8 X := by rw [hX]; go_grown
  replace HP := hide (HP.out.later hbX)
  replace HQ := hide (HQ.out.later hbX)
  replace HT := hide (HT.out.later hbX)
  replace HU := hide (HU.out.later hbX)
  replace HB := hide (below_stepJ HB.out hbX)
  clear hbX
  go_wp2_with fail
  rw [← hX]
  clear hX
  refine (AP.out g1 c1 g2 c2 X (lies_front HT.out) (lies_front HU.out)).mono ?_
  rintro e v9 ⟨rfl, hb⟩
  replace HP := hide (HP.out.later hb)
  replace HQ := hide (HQ.out.later hb)
  replace HT := hide (HT.out.later hb)
  replace HU := hide (HU.out.later hb)
  replace HB := hide (below_stepJ HB.out hb)
  clear hb
  go_wp2_with fail
  refine (K1.out g1 c1 v9 hc1 HT.out HP.out).mono ?_
  rintro e v10 ⟨rfl, hb⟩
  replace HP := hide (HP.out.later hb)
  replace HQ := hide (HQ.out.later hb)
  replace HT := hide (HT.out.later hb)
  replace HU := hide (HU.out.later hb)
  replace HB := hide (below_stepJ HB.out hb)
  clear hb
  go_wp2_with fail
  refine (K2.out g2 c2 v10 hc2 HU.out HQ.out).mono ?_
  rintro e v11 ⟨rfl, hb⟩
  replace HP := hide (HP.out.later hb)
  replace HQ := hide (HQ.out.later hb)
  replace HT := hide (HT.out.later hb)
  replace HU := hide (HU.out.later hb)
  replace HB := hide (below_stepJ HB.out hb)
  clear hb
  go_wp2_with fail
  refine (A2.out v11 HP.out).mono ?_
  rintro e v12 ⟨rfl, hb⟩
  replace HP := hide (HP.out.later hb)
  replace HQ := hide (HQ.out.later hb)
  replace HT := hide (HT.out.later hb)
  replace HU := hide (HU.out.later hb)
  replace HB := hide (below_stepJ HB.out hb)
  clear hb
  go_wp2
  go_ret
  exact ⟨rfl, HB.out⟩
set_option maxRecDepth 100000 in
set_option maxHeartbeats 16000000 in
theorem lines_half (w : World) (cp cq : Nat) (b off : Nat) (p : List Pt) (h : Lies w b off p) (hp0 : 0 < p.length) (hmp : mayB p = true) (lp : p.length ≤ 40) (q1 : Option Addr) (q : List Pt) (hq1 : q1 = none → cq = 0) (k : Has w q1 q) (hmq : mayB q = false) (lq : q.length ≤ 40) : Calls Try.prog 7 #[.slice (some ⟨b, off, none⟩) p.length cp, .slice q1 q.length cq] w fun e w' => e = .returned (.bool true) ∧ Below w.heap.size w w' := by
  have BG := hide (begun9 w)
  have HP : Hid (Has w (some ⟨b, off, none⟩) p) := Or.inr ⟨b, off, rfl, h⟩
  have HQ : Hid (Has w q1 q) := k
  have E1 : Hid (∀ V, Has V (some ⟨b, off, none⟩) p → Calls Try.prog 10 #[.slice (some ⟨b, off, none⟩) p.length cp] V fun e w' => e = .returned (.int .i64 0) ∧ Below V.heap.size V w') := by
    intro V hV
    have : errI p = 0 := by unfold errI; rw [hmp]; rfl
    have h2 := err10 (some ⟨b, off, none⟩) p cp V hV
    rw [this] at h2
    exact h2
  have E2 : Hid (∀ V, Has V q1 q → Calls Try.prog 10 #[.slice q1 q.length cq] V fun e w' => e = .returned (.int .i64 1) ∧ Below V.heap.size V w') := by
    intro V hV
    have : errI q = 1 := by unfold errI; rw [hmq]; rfl
    have h2 := err10 q1 q cq V hV
    rw [this] at h2
    exact h2
  obtain ⟨s, hs⟩ : ∃ s : Bool, s = true ↔ Simp p := ⟨@decide (Simp p) (Classical.propDecidable _), by simp⟩
  obtain ⟨lo, hlo⟩ : ∃ lo, loN p (p.length - 1) = lo := ⟨_, rfl⟩
  obtain ⟨hi, hhi⟩ : ∃ hi, hiN p (p.length - 1) = hi := ⟨_, rfl⟩
  have SI : Hid (∀ g c V, Lies V g 0 p → p.length + 1 ≤ c → Calls Try.prog 23 #[.slice (some ⟨g, 0, none⟩) p.length c] V fun e w' => e = .returned (.tuple #[.bool s, .int .i64 0]) ∧ Below V.heap.size V w') := by
    intro g c V hV _
    refine (simple23 (some ⟨g, 0, none⟩) p c V (Or.inr ⟨g, 0, rfl, hV⟩)).mono ?_
    rintro e w' ⟨h1, h2⟩
    obtain ⟨b3, h3, h4⟩ := simple_good h1 hp0 hmp
    rw [bool_same hs h4]
    exact ⟨h3, h2⟩
  have AR : Hid (∀ g c V, Lies V g 0 p → p.length + 1 ≤ c → Calls Try.prog 24 #[.slice (some ⟨g, 0, none⟩) p.length c] V fun e w' => e = .returned (.tuple #[.int .i64 (areaI p), .int .i64 0]) ∧ Below V.heap.size V w') := by
    intro g c V hV _
    have h2 := area24 (some ⟨g, 0, none⟩) p c V (Or.inr ⟨g, 0, rfl, hV⟩)
    rw [hmp, show errI p = 0 by unfold errI; rw [hmp]; rfl] at h2
    exact h2
  have BX : Hid (∀ g c V, Lies V g 0 p → p.length + 1 ≤ c → Calls Try.prog 25 #[.slice (some ⟨g, 0, none⟩) p.length c] V fun e w' => e = .returned (.tuple #[pv lo.x lo.y, pv hi.x hi.y, .int .i64 0]) ∧ Below V.heap.size V w') := by
    intro g c V hV hc
    have h2 := box7 (some ⟨g, 0, none⟩) p c V (by omega) (Or.inr ⟨g, 0, rfl, hV⟩)
    have n0 : ¬ p.length = 0 := by omega
    rw [show boxE p = 0 by unfold boxE; rw [hmp, if_pos rfl, if_neg n0], show boxLo p = lo by unfold boxLo; rw [hmp, if_pos rfl, if_neg n0]; exact hlo, show boxHi p = hi by unfold boxHi; rw [hmp, if_pos rfl, if_neg n0]; exact hhi] at h2
    exact h2
  have S2 : Hid (∀ V, Lies V b off p → Calls Try.prog 28 #[.slice (some ⟨b, off, none⟩) p.length cp] V fun e w' => e = .returned (.bool s) ∧ Below V.heap.size V w') := by
    intro V hV
    refine (simple28 b off cp p V hp0 hmp hV).mono ?_
    rintro e w' ⟨⟨r, rfl, hr⟩, h2⟩
    exact ⟨by rw [bool_same hs hr], h2⟩
  have B2 : Hid (∀ V, Lies V b off p → Calls Try.prog 29 #[.slice (some ⟨b, off, none⟩) p.length cp] V fun e w' => e = .returned (.tuple #[pv lo.x lo.y, pv hi.x hi.y]) ∧ Below V.heap.size V w') := by
    intro V hV
    have h2 := box29 b off cp p V hp0 (by omega) hV
    have n0 : ¬ p.length = 0 := by omega
    rw [show rlo p p.length = lo by unfold rlo; rw [if_neg n0]; exact hlo, show rhi p p.length = hi by unfold rhi; rw [if_neg n0]; exact hhi] at h2
    exact h2
  have A2 : Hid (∀ V, Lies V b off p → Calls Try.prog 27 #[.slice (some ⟨b, off, none⟩) p.length cp] V fun e w' => e = .returned (.int .i64 (areaI p)) ∧ Below V.heap.size V w') := by
    intro V hV
    exact area27 _ p cp V hmp (Or.inr ⟨b, off, rfl, hV⟩)
  have AP : Hid (∀ g c g2 c2 V, Lies V g 0 p → Lies V g2 0 q → Calls Try.prog 26 #[.slice (some ⟨g, 0, none⟩) p.length c, .slice (some ⟨g2, 0, none⟩) q.length c2] V fun e w' => e = .returned (.tuple #[.bool false, .int .i64 1]) ∧ Below V.heap.size V w') := by
    intro g c g2 c2 V hV hW
    refine (apart26 (some ⟨g, 0, none⟩) (some ⟨g2, 0, none⟩) p q c c2 V (Or.inr ⟨g, 0, rfl, hV⟩) (Or.inr ⟨g2, 0, rfl, hW⟩)).mono ?_
    rintro e w' ⟨h1, h2⟩
    exact ⟨apart_bad h1 (Or.inr (Or.inr (Or.inr hmq))), h2⟩
  have eqL : ∀ V, (Op.equalIn 10000 23 (pv lo.x lo.y) (pv lo.x lo.y)).run Try.prog V = .ok true V := fun V => by have := eq23 lo lo V; rw [decide_eq_true rfl] at this; exact this
  have eqH : ∀ V, (Op.equalIn 10000 23 (pv hi.x hi.y) (pv hi.x hi.y)).run Try.prog V = .ok true V := fun V => by have := eq23 hi hi V; rw [decide_eq_true rfl] at this; exact this
  have HLP := hide h
  have n0 : ¬ (p.length : Int) = 0 := by omega
  have i1 : ¬ (40 : Int) < p.length := by omega
  have i2 : ¬ (40 : Int) < q.length := by omega
  have W1 := hide (fun V hV => twin19 (some ⟨b, off, none⟩) p cp V (fun h => by cases h) (by omega) hV)
  have W2 := hide (fun V hV => twin19 q1 q cq V hq1 (by omega) hV)
  have K1 := hide (fun g c V h1 h2 h3 => kept21 g c (some ⟨b, off, none⟩) p cp V (by omega) h1 h2 h3)
  have K2 := hide (fun g c V h1 h2 h3 => kept21 g c q1 q cq V (by omega) h1 h2 h3)
  clear h hs hlo hhi k
  go_enter Try.func7, Try.ntmps7
  go_wp2_with fail
  refine (BG.out).mono ?_
  rintro e v1 ⟨rfl, hb⟩
  replace HP := hide (HP.out.later hb)
  replace HQ := hide (HQ.out.later hb)
  replace HLP := hide (HLP.out.later hb)
  have HB := hide hb
  clear hb
  go_wp2_with fail
  refine (E1.out v1 HP.out).mono ?_
  rintro e v2 ⟨rfl, hb⟩
  replace HP := hide (HP.out.later hb)
  replace HQ := hide (HQ.out.later hb)
  replace HLP := hide (HLP.out.later hb)
  replace HB := hide (below_stepJ HB.out hb)
  clear hb
  go_wp2_with fail
  refine (E2.out v2 HQ.out).mono ?_
  rintro e v3 ⟨rfl, hb⟩
  replace HP := hide (HP.out.later hb)
  replace HQ := hide (HQ.out.later hb)
  replace HLP := hide (HLP.out.later hb)
  replace HB := hide (below_stepJ HB.out hb)
  clear hb
  go_wp2_with fail
  refine (W1.out v3 HP.out).mono ?_
  rintro e v4 ⟨g1, c1, rfl, ht, hc1, hb⟩
  replace HP := hide (HP.out.later hb)
  replace HQ := hide (HQ.out.later hb)
  replace HLP := hide (HLP.out.later hb)
  replace HB := hide (below_stepJ HB.out hb)
  have HT := hide ht
  clear hb ht
  go_wp2_with fail
  refine (W2.out v4 HQ.out).mono ?_
  rintro e v5 ⟨g2, c2, rfl, ht, hc2, hb⟩
  replace HP := hide (HP.out.later hb)
  replace HQ := hide (HQ.out.later hb)
  replace HLP := hide (HLP.out.later hb)
  replace HT := hide (HT.out.later hb)
  replace HB := hide (below_stepJ HB.out hb)
  have HU := hide ht
  clear hb ht
  go_wp2_with fail
  refine (SI.out g1 c1 v5 (lies_front HT.out) hc1).mono ?_
  rintro e v6 ⟨rfl, hb⟩
  replace HP := hide (HP.out.later hb)
  replace HQ := hide (HQ.out.later hb)
  replace HLP := hide (HLP.out.later hb)
  replace HT := hide (HT.out.later hb)
  replace HU := hide (HU.out.later hb)
  replace HB := hide (below_stepJ HB.out hb)
  clear hb
  go_wp2_with fail
  refine (AR.out g1 c1 v6 (lies_front HT.out) hc1).mono ?_
  rintro e v7 ⟨rfl, hb⟩
  replace HP := hide (HP.out.later hb)
  replace HQ := hide (HQ.out.later hb)
  replace HLP := hide (HLP.out.later hb)
  replace HT := hide (HT.out.later hb)
  replace HU := hide (HU.out.later hb)
  replace HB := hide (below_stepJ HB.out hb)
  clear hb
  go_wp2_with fail
  refine (BX.out g1 c1 v7 (lies_front HT.out) hc1).mono ?_
  rintro e v8 ⟨rfl, hb⟩
  replace HP := hide (HP.out.later hb)
  replace HQ := hide (HQ.out.later hb)
  replace HLP := hide (HLP.out.later hb)
  replace HT := hide (HT.out.later hb)
  replace HU := hide (HU.out.later hb)
  replace HB := hide (below_stepJ HB.out hb)
  clear hb
  obtain ⟨X, hX⟩ : ∃ X, X = (v8.alloc (.cells #[.int .i64 lo.x, .int .i64 lo.y] 23)).alloc (.cells #[.int .i64 hi.x, .int .i64 hi.y] 23) := ⟨_, rfl⟩
  have hbX : Below v8.heap.size v8 X := by rw [hX]; go_grown
  have CL1 : Hid (X.cell? ⟨v8.heap.size, 0, none⟩ = some (.int .i64 lo.x) ∧ X.cell? ⟨v8.heap.size, 1, none⟩ = some (.int .i64 lo.y) ∧ X.cell? ⟨v8.heap.size + 1, 0, none⟩ = some (.int .i64 hi.x) ∧ X.cell? ⟨v8.heap.size + 1, 1, none⟩ = some (.int .i64 hi.y)) := by show _ ∧ _; rw [hX]; exact ⟨by go_cell, by go_cell, by go_cell, by go_cell⟩
  replace HP := hide (HP.out.later hbX)
  replace HQ := hide (HQ.out.later hbX)
  replace HLP := hide (HLP.out.later hbX)
  replace HT := hide (HT.out.later hbX)
  replace HU := hide (HU.out.later hbX)
  replace HB := hide (below_stepJ HB.out hbX)
  clear hbX
  go_wp2_with fail
  rw [← hX]
  clear hX
  refine (AP.out g1 c1 g2 c2 X (lies_front HT.out) (lies_front HU.out)).mono ?_
  rintro e v9 ⟨rfl, hb⟩
  replace HP := hide (HP.out.later hb)
  replace HQ := hide (HQ.out.later hb)
  replace HLP := hide (HLP.out.later hb)
  replace HT := hide (HT.out.later hb)
  replace HU := hide (HU.out.later hb)
  replace CL1 := hide (And.intro (later hb CL1.out.1) (And.intro (later hb CL1.out.2.1) (And.intro (later hb CL1.out.2.2.1) (later hb CL1.out.2.2.2))))
  replace HB := hide (below_stepJ HB.out hb)
  clear hb
  obtain ⟨kl, hkl⟩ : ∃ kl, v8.heap.size = kl := ⟨_, rfl⟩
  rw [hkl] at CL1 ⊢
  clear hkl
  go_wp2_with fail
  refine (K1.out g1 c1 v9 hc1 HT.out HP.out).mono ?_
  rintro e v10 ⟨rfl, hb⟩
  replace HP := hide (HP.out.later hb)
  replace HQ := hide (HQ.out.later hb)
  replace HLP := hide (HLP.out.later hb)
  replace HT := hide (HT.out.later hb)
  replace HU := hide (HU.out.later hb)
  replace CL1 := hide (And.intro (later hb CL1.out.1) (And.intro (later hb CL1.out.2.1) (And.intro (later hb CL1.out.2.2.1) (later hb CL1.out.2.2.2))))
  replace HB := hide (below_stepJ HB.out hb)
  clear hb
  go_wp2_with fail
  refine (K2.out g2 c2 v10 hc2 HU.out HQ.out).mono ?_
  rintro e v11 ⟨rfl, hb⟩
  replace HP := hide (HP.out.later hb)
  replace HQ := hide (HQ.out.later hb)
  replace HLP := hide (HLP.out.later hb)
  replace HT := hide (HT.out.later hb)
  replace HU := hide (HU.out.later hb)
  replace CL1 := hide (And.intro (later hb CL1.out.1) (And.intro (later hb CL1.out.2.1) (And.intro (later hb CL1.out.2.2.1) (later hb CL1.out.2.2.2))))
  replace HB := hide (below_stepJ HB.out hb)
  clear hb
  go_wp2_with fail
  refine (A2.out v11 HLP.out).mono ?_
  rintro e v12 ⟨rfl, hb⟩
  replace HP := hide (HP.out.later hb)
  replace HQ := hide (HQ.out.later hb)
  replace HLP := hide (HLP.out.later hb)
  replace HT := hide (HT.out.later hb)
  replace HU := hide (HU.out.later hb)
  replace CL1 := hide (And.intro (later hb CL1.out.1) (And.intro (later hb CL1.out.2.1) (And.intro (later hb CL1.out.2.2.1) (later hb CL1.out.2.2.2))))
  replace HB := hide (below_stepJ HB.out hb)
  clear hb
  go_wp2_with fail
  refine (S2.out v12 HLP.out).mono ?_
  rintro e v13 ⟨rfl, hb⟩
  replace HP := hide (HP.out.later hb)
  replace HQ := hide (HQ.out.later hb)
  replace HLP := hide (HLP.out.later hb)
  replace HT := hide (HT.out.later hb)
  replace HU := hide (HU.out.later hb)
  replace CL1 := hide (And.intro (later hb CL1.out.1) (And.intro (later hb CL1.out.2.1) (And.intro (later hb CL1.out.2.2.1) (later hb CL1.out.2.2.2))))
  replace HB := hide (below_stepJ HB.out hb)
  clear hb
  go_wp2_with fail
  refine (B2.out v13 HLP.out).mono ?_
  rintro e v14 ⟨rfl, hb⟩
  replace HP := hide (HP.out.later hb)
  replace HQ := hide (HQ.out.later hb)
  replace HLP := hide (HLP.out.later hb)
  replace HT := hide (HT.out.later hb)
  replace HU := hide (HU.out.later hb)
  replace CL1 := hide (And.intro (later hb CL1.out.1) (And.intro (later hb CL1.out.2.1) (And.intro (later hb CL1.out.2.2.1) (later hb CL1.out.2.2.2))))
  replace HB := hide (below_stepJ HB.out hb)
  clear hb
  obtain ⟨Z, hZ⟩ : ∃ Z, Z = (v14.alloc (.cells #[.int .i64 lo.x, .int .i64 lo.y] 23)).alloc (.cells #[.int .i64 hi.x, .int .i64 hi.y] 23) := ⟨_, rfl⟩
  have hbZ : Below v14.heap.size v14 Z := by rw [hZ]; go_grown
  obtain ⟨r0, r1, r2, r3⟩ := CL1.out
  have z1 : kl < v14.heap.size := block_lt_of_cell r0
  have z2 : kl + 1 < v14.heap.size := block_lt_of_cell r2
  have z3 : kl ≠ v14.heap.size := by omega
  have z4 : kl + 1 ≠ v14.heap.size := by omega
  have z5 : kl ≠ v14.heap.size + 1 := by omega
  have z6 : kl + 1 ≠ v14.heap.size + 1 := by omega
  replace HP := hide (HP.out.later hbZ)
  replace HQ := hide (HQ.out.later hbZ)
  replace HLP := hide (HLP.out.later hbZ)
  replace HT := hide (HT.out.later hbZ)
  replace HU := hide (HU.out.later hbZ)
  replace CL1 := hide (And.intro (later hbZ CL1.out.1) (And.intro (later hbZ CL1.out.2.1) (And.intro (later hbZ CL1.out.2.2.1) (later hbZ CL1.out.2.2.2))))
  replace HB := hide (below_stepJ HB.out hbZ)
  clear hbZ
  go_wp2
  try rw [← hZ]
  go_ret
  exact ⟨rfl, HB.out⟩
set_option maxRecDepth 100000 in
set_option maxHeartbeats 16000000 in
theorem lines_q0 (w : World) (cp cq : Nat) (b off : Nat) (p : List Pt) (h : Lies w b off p) (hp0 : 0 < p.length) (hmp : mayB p = true) (lp : p.length ≤ 40) (q1 : Option Addr) (hq1 : q1 = none → cq = 0) : Calls Try.prog 7 #[.slice (some ⟨b, off, none⟩) p.length cp, .slice q1 0 cq] w fun e w' => e = .returned (.bool true) ∧ Below w.heap.size w w' := by
  have BG := hide (begun9 w)
  have HP : Hid (Has w (some ⟨b, off, none⟩) p) := Or.inr ⟨b, off, rfl, h⟩
  have HQ : Hid (Has w q1 []) := Or.inl rfl
  have E1 : Hid (∀ V, Has V (some ⟨b, off, none⟩) p → Calls Try.prog 10 #[.slice (some ⟨b, off, none⟩) p.length cp] V fun e w' => e = .returned (.int .i64 0) ∧ Below V.heap.size V w') := by
    intro V hV
    have : errI p = 0 := by unfold errI; rw [hmp]; rfl
    have h2 := err10 (some ⟨b, off, none⟩) p cp V hV
    rw [this] at h2
    exact h2
  have E2 : Hid (∀ V, Has V q1 [] → Calls Try.prog 10 #[.slice q1 0 cq] V fun e w' => e = .returned (.int .i64 0) ∧ Below V.heap.size V w') := by
    intro V hV
    have : errI [] = 0 := by decide
    have h2 := err10 q1 [] cq V hV
    rw [this] at h2
    exact h2
  obtain ⟨s, hs⟩ : ∃ s : Bool, s = true ↔ Simp p := ⟨@decide (Simp p) (Classical.propDecidable _), by simp⟩
  obtain ⟨lo, hlo⟩ : ∃ lo, loN p (p.length - 1) = lo := ⟨_, rfl⟩
  obtain ⟨hi, hhi⟩ : ∃ hi, hiN p (p.length - 1) = hi := ⟨_, rfl⟩
  have SI : Hid (∀ g c V, Lies V g 0 p → p.length + 1 ≤ c → Calls Try.prog 23 #[.slice (some ⟨g, 0, none⟩) p.length c] V fun e w' => e = .returned (.tuple #[.bool s, .int .i64 0]) ∧ Below V.heap.size V w') := by
    intro g c V hV _
    refine (simple23 (some ⟨g, 0, none⟩) p c V (Or.inr ⟨g, 0, rfl, hV⟩)).mono ?_
    rintro e w' ⟨h1, h2⟩
    obtain ⟨b3, h3, h4⟩ := simple_good h1 hp0 hmp
    rw [bool_same hs h4]
    exact ⟨h3, h2⟩
  have AR : Hid (∀ g c V, Lies V g 0 p → p.length + 1 ≤ c → Calls Try.prog 24 #[.slice (some ⟨g, 0, none⟩) p.length c] V fun e w' => e = .returned (.tuple #[.int .i64 (areaI p), .int .i64 0]) ∧ Below V.heap.size V w') := by
    intro g c V hV _
    have h2 := area24 (some ⟨g, 0, none⟩) p c V (Or.inr ⟨g, 0, rfl, hV⟩)
    rw [hmp, show errI p = 0 by unfold errI; rw [hmp]; rfl] at h2
    exact h2
  have BX : Hid (∀ g c V, Lies V g 0 p → p.length + 1 ≤ c → Calls Try.prog 25 #[.slice (some ⟨g, 0, none⟩) p.length c] V fun e w' => e = .returned (.tuple #[pv lo.x lo.y, pv hi.x hi.y, .int .i64 0]) ∧ Below V.heap.size V w') := by
    intro g c V hV hc
    have h2 := box7 (some ⟨g, 0, none⟩) p c V (by omega) (Or.inr ⟨g, 0, rfl, hV⟩)
    have n0 : ¬ p.length = 0 := by omega
    rw [show boxE p = 0 by unfold boxE; rw [hmp, if_pos rfl, if_neg n0], show boxLo p = lo by unfold boxLo; rw [hmp, if_pos rfl, if_neg n0]; exact hlo, show boxHi p = hi by unfold boxHi; rw [hmp, if_pos rfl, if_neg n0]; exact hhi] at h2
    exact h2
  have S2 : Hid (∀ V, Lies V b off p → Calls Try.prog 28 #[.slice (some ⟨b, off, none⟩) p.length cp] V fun e w' => e = .returned (.bool s) ∧ Below V.heap.size V w') := by
    intro V hV
    refine (simple28 b off cp p V hp0 hmp hV).mono ?_
    rintro e w' ⟨⟨r, rfl, hr⟩, h2⟩
    exact ⟨by rw [bool_same hs hr], h2⟩
  have B2 : Hid (∀ V, Lies V b off p → Calls Try.prog 29 #[.slice (some ⟨b, off, none⟩) p.length cp] V fun e w' => e = .returned (.tuple #[pv lo.x lo.y, pv hi.x hi.y]) ∧ Below V.heap.size V w') := by
    intro V hV
    have h2 := box29 b off cp p V hp0 (by omega) hV
    have n0 : ¬ p.length = 0 := by omega
    rw [show rlo p p.length = lo by unfold rlo; rw [if_neg n0]; exact hlo, show rhi p p.length = hi by unfold rhi; rw [if_neg n0]; exact hhi] at h2
    exact h2
  have A2 : Hid (∀ V, Lies V b off p → Calls Try.prog 27 #[.slice (some ⟨b, off, none⟩) p.length cp] V fun e w' => e = .returned (.int .i64 (areaI p)) ∧ Below V.heap.size V w') := by
    intro V hV
    exact area27 _ p cp V hmp (Or.inr ⟨b, off, rfl, hV⟩)
  have AP : Hid (∀ g c g2 c2 V, Lies V g 0 p → Lies V g2 0 [] → Calls Try.prog 26 #[.slice (some ⟨g, 0, none⟩) p.length c, .slice (some ⟨g2, 0, none⟩) 0 c2] V fun e w' => e = .returned (.tuple #[.bool false, .int .i64 1]) ∧ Below V.heap.size V w') := by
    intro g c g2 c2 V hV hW
    refine (apart26 (some ⟨g, 0, none⟩) (some ⟨g2, 0, none⟩) p [] c c2 V (Or.inr ⟨g, 0, rfl, hV⟩) (Or.inr ⟨g2, 0, rfl, hW⟩)).mono ?_
    rintro e w' ⟨h1, h2⟩
    exact ⟨apart_bad h1 (Or.inr (Or.inl rfl)), h2⟩
  have eqL : ∀ V, (Op.equalIn 10000 23 (pv lo.x lo.y) (pv lo.x lo.y)).run Try.prog V = .ok true V := fun V => by have := eq23 lo lo V; rw [decide_eq_true rfl] at this; exact this
  have eqH : ∀ V, (Op.equalIn 10000 23 (pv hi.x hi.y) (pv hi.x hi.y)).run Try.prog V = .ok true V := fun V => by have := eq23 hi hi V; rw [decide_eq_true rfl] at this; exact this
  have HLP := hide h
  have n0 : ¬ (p.length : Int) = 0 := by omega
  have i1 : ¬ (40 : Int) < p.length := by omega
  have W1 := hide (fun V hV => twin19 (some ⟨b, off, none⟩) p cp V (fun h => by cases h) (by omega) hV)
  have W2 := hide (fun V hV => twin19 q1 [] cq V hq1 (by simp) hV)
  have K1 := hide (fun g c V h1 h2 h3 => kept21 g c (some ⟨b, off, none⟩) p cp V (by omega) h1 h2 h3)
  have K2 := hide (fun g c V h1 h2 h3 => kept21 g c q1 [] cq V (by simp) h1 h2 h3)
  clear h hs hlo hhi
  go_enter Try.func7, Try.ntmps7
  go_wp2_with fail
  refine (BG.out).mono ?_
  rintro e v1 ⟨rfl, hb⟩
  replace HP := hide (HP.out.later hb)
  replace HQ := hide (HQ.out.later hb)
  replace HLP := hide (HLP.out.later hb)
  have HB := hide hb
  clear hb
  go_wp2_with fail
  refine (E1.out v1 HP.out).mono ?_
  rintro e v2 ⟨rfl, hb⟩
  replace HP := hide (HP.out.later hb)
  replace HQ := hide (HQ.out.later hb)
  replace HLP := hide (HLP.out.later hb)
  replace HB := hide (below_stepJ HB.out hb)
  clear hb
  go_wp2_with fail
  refine (E2.out v2 HQ.out).mono ?_
  rintro e v3 ⟨rfl, hb⟩
  replace HP := hide (HP.out.later hb)
  replace HQ := hide (HQ.out.later hb)
  replace HLP := hide (HLP.out.later hb)
  replace HB := hide (below_stepJ HB.out hb)
  clear hb
  go_wp2_with fail
  refine (W1.out v3 HP.out).mono ?_
  rintro e v4 ⟨g1, c1, rfl, ht, hc1, hb⟩
  replace HP := hide (HP.out.later hb)
  replace HQ := hide (HQ.out.later hb)
  replace HLP := hide (HLP.out.later hb)
  replace HB := hide (below_stepJ HB.out hb)
  have HT := hide ht
  clear hb ht
  go_wp2_with fail
  refine (W2.out v4 HQ.out).mono ?_
  rintro e v5 ⟨g2, c2, rfl, ht, hc2, hb⟩
  replace HP := hide (HP.out.later hb)
  replace HQ := hide (HQ.out.later hb)
  replace HLP := hide (HLP.out.later hb)
  replace HT := hide (HT.out.later hb)
  replace HB := hide (below_stepJ HB.out hb)
  have HU := hide ht
  clear hb ht
  go_wp2_with fail
  refine (SI.out g1 c1 v5 (lies_front HT.out) hc1).mono ?_
  rintro e v6 ⟨rfl, hb⟩
  replace HP := hide (HP.out.later hb)
  replace HQ := hide (HQ.out.later hb)
  replace HLP := hide (HLP.out.later hb)
  replace HT := hide (HT.out.later hb)
  replace HU := hide (HU.out.later hb)
  replace HB := hide (below_stepJ HB.out hb)
  clear hb
  go_wp2_with fail
  refine (AR.out g1 c1 v6 (lies_front HT.out) hc1).mono ?_
  rintro e v7 ⟨rfl, hb⟩
  replace HP := hide (HP.out.later hb)
  replace HQ := hide (HQ.out.later hb)
  replace HLP := hide (HLP.out.later hb)
  replace HT := hide (HT.out.later hb)
  replace HU := hide (HU.out.later hb)
  replace HB := hide (below_stepJ HB.out hb)
  clear hb
  go_wp2_with fail
  refine (BX.out g1 c1 v7 (lies_front HT.out) hc1).mono ?_
  rintro e v8 ⟨rfl, hb⟩
  replace HP := hide (HP.out.later hb)
  replace HQ := hide (HQ.out.later hb)
  replace HLP := hide (HLP.out.later hb)
  replace HT := hide (HT.out.later hb)
  replace HU := hide (HU.out.later hb)
  replace HB := hide (below_stepJ HB.out hb)
  clear hb
  obtain ⟨X, hX⟩ : ∃ X, X = (v8.alloc (.cells #[.int .i64 lo.x, .int .i64 lo.y] 23)).alloc (.cells #[.int .i64 hi.x, .int .i64 hi.y] 23) := ⟨_, rfl⟩
  have hbX : Below v8.heap.size v8 X := by rw [hX]; go_grown
  have CL1 : Hid (X.cell? ⟨v8.heap.size, 0, none⟩ = some (.int .i64 lo.x) ∧ X.cell? ⟨v8.heap.size, 1, none⟩ = some (.int .i64 lo.y) ∧ X.cell? ⟨v8.heap.size + 1, 0, none⟩ = some (.int .i64 hi.x) ∧ X.cell? ⟨v8.heap.size + 1, 1, none⟩ = some (.int .i64 hi.y)) := by show _ ∧ _; rw [hX]; exact ⟨by go_cell, by go_cell, by go_cell, by go_cell⟩
  replace HP := hide (HP.out.later hbX)
  replace HQ := hide (HQ.out.later hbX)
  replace HLP := hide (HLP.out.later hbX)
  replace HT := hide (HT.out.later hbX)
  replace HU := hide (HU.out.later hbX)
  replace HB := hide (below_stepJ HB.out hbX)
  clear hbX
  go_wp2_with fail
  rw [← hX]
  clear hX
  refine (AP.out g1 c1 g2 c2 X (lies_front HT.out) (lies_front HU.out)).mono ?_
  rintro e v9 ⟨rfl, hb⟩
  replace HP := hide (HP.out.later hb)
  replace HQ := hide (HQ.out.later hb)
  replace HLP := hide (HLP.out.later hb)
  replace HT := hide (HT.out.later hb)
  replace HU := hide (HU.out.later hb)
  replace CL1 := hide (And.intro (later hb CL1.out.1) (And.intro (later hb CL1.out.2.1) (And.intro (later hb CL1.out.2.2.1) (later hb CL1.out.2.2.2))))
  replace HB := hide (below_stepJ HB.out hb)
  clear hb
  obtain ⟨kl, hkl⟩ : ∃ kl, v8.heap.size = kl := ⟨_, rfl⟩
  rw [hkl] at CL1 ⊢
  clear hkl
  go_wp2_with fail
  refine (K1.out g1 c1 v9 hc1 HT.out HP.out).mono ?_
  rintro e v10 ⟨rfl, hb⟩
  replace HP := hide (HP.out.later hb)
  replace HQ := hide (HQ.out.later hb)
  replace HLP := hide (HLP.out.later hb)
  replace HT := hide (HT.out.later hb)
  replace HU := hide (HU.out.later hb)
  replace CL1 := hide (And.intro (later hb CL1.out.1) (And.intro (later hb CL1.out.2.1) (And.intro (later hb CL1.out.2.2.1) (later hb CL1.out.2.2.2))))
  replace HB := hide (below_stepJ HB.out hb)
  clear hb
  go_wp2_with fail
  refine (K2.out g2 c2 v10 hc2 HU.out HQ.out).mono ?_
  rintro e v11 ⟨rfl, hb⟩
  replace HP := hide (HP.out.later hb)
  replace HQ := hide (HQ.out.later hb)
  replace HLP := hide (HLP.out.later hb)
  replace HT := hide (HT.out.later hb)
  replace HU := hide (HU.out.later hb)
  replace CL1 := hide (And.intro (later hb CL1.out.1) (And.intro (later hb CL1.out.2.1) (And.intro (later hb CL1.out.2.2.1) (later hb CL1.out.2.2.2))))
  replace HB := hide (below_stepJ HB.out hb)
  clear hb
  go_wp2_with fail
  refine (A2.out v11 HLP.out).mono ?_
  rintro e v12 ⟨rfl, hb⟩
  replace HP := hide (HP.out.later hb)
  replace HQ := hide (HQ.out.later hb)
  replace HLP := hide (HLP.out.later hb)
  replace HT := hide (HT.out.later hb)
  replace HU := hide (HU.out.later hb)
  replace CL1 := hide (And.intro (later hb CL1.out.1) (And.intro (later hb CL1.out.2.1) (And.intro (later hb CL1.out.2.2.1) (later hb CL1.out.2.2.2))))
  replace HB := hide (below_stepJ HB.out hb)
  clear hb
  go_wp2_with fail
  refine (S2.out v12 HLP.out).mono ?_
  rintro e v13 ⟨rfl, hb⟩
  replace HP := hide (HP.out.later hb)
  replace HQ := hide (HQ.out.later hb)
  replace HLP := hide (HLP.out.later hb)
  replace HT := hide (HT.out.later hb)
  replace HU := hide (HU.out.later hb)
  replace CL1 := hide (And.intro (later hb CL1.out.1) (And.intro (later hb CL1.out.2.1) (And.intro (later hb CL1.out.2.2.1) (later hb CL1.out.2.2.2))))
  replace HB := hide (below_stepJ HB.out hb)
  clear hb
  go_wp2_with fail
  refine (B2.out v13 HLP.out).mono ?_
  rintro e v14 ⟨rfl, hb⟩
  replace HP := hide (HP.out.later hb)
  replace HQ := hide (HQ.out.later hb)
  replace HLP := hide (HLP.out.later hb)
  replace HT := hide (HT.out.later hb)
  replace HU := hide (HU.out.later hb)
  replace CL1 := hide (And.intro (later hb CL1.out.1) (And.intro (later hb CL1.out.2.1) (And.intro (later hb CL1.out.2.2.1) (later hb CL1.out.2.2.2))))
  replace HB := hide (below_stepJ HB.out hb)
  clear hb
  obtain ⟨Z, hZ⟩ : ∃ Z, Z = (v14.alloc (.cells #[.int .i64 lo.x, .int .i64 lo.y] 23)).alloc (.cells #[.int .i64 hi.x, .int .i64 hi.y] 23) := ⟨_, rfl⟩
  have hbZ : Below v14.heap.size v14 Z := by rw [hZ]; go_grown
  obtain ⟨r0, r1, r2, r3⟩ := CL1.out
  have z1 : kl < v14.heap.size := block_lt_of_cell r0
  have z2 : kl + 1 < v14.heap.size := block_lt_of_cell r2
  have z3 : kl ≠ v14.heap.size := by omega
  have z4 : kl + 1 ≠ v14.heap.size := by omega
  have z5 : kl ≠ v14.heap.size + 1 := by omega
  have z6 : kl + 1 ≠ v14.heap.size + 1 := by omega
  replace HP := hide (HP.out.later hbZ)
  replace HQ := hide (HQ.out.later hbZ)
  replace HLP := hide (HLP.out.later hbZ)
  replace HT := hide (HT.out.later hbZ)
  replace HU := hide (HU.out.later hbZ)
  replace CL1 := hide (And.intro (later hbZ CL1.out.1) (And.intro (later hbZ CL1.out.2.1) (And.intro (later hbZ CL1.out.2.2.1) (later hbZ CL1.out.2.2.2))))
  replace HB := hide (below_stepJ HB.out hbZ)
  clear hbZ
  go_wp2
  try rw [← hZ]
  go_ret
  exact ⟨rfl, HB.out⟩
end Go.Proofs.Ytgnojjbdioldbaa
