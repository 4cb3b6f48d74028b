/- GeomLines' walk. -/
import Derived.Test.YtgnojjbdioldbaaL8
import Derived.Test.YtgnojjbdioldbaaL7
import Derived.Test.YtgnojjbdioldbaaL5
import Derived.Test.YtgnojjbdioldbaaL1
import Derived.Test.YtgnojjbdioldbaaL2
import Derived.Test.YtgnojjbdioldbaaI4
import Derived.Test.YtgnojjbdioldbaaK1
import Derived.Test.YtgnojjbdioldbaaG18
namespace Go.Proofs.Ytgnojjbdioldbaa
open Go.RowKit Go.Sort
open Go

set_option maxRecDepth 100000 in
set_option maxHeartbeats 16000000 in
theorem lines_both (w : World) (cp cq : Nat) (b off : Nat) (p : List Pt) (h : Lies w b off p) (hp0 : 0 < p.length) (hmp : mayB p = true) (lp : p.length ≤ 40) (b2 off2 : Nat) (q : List Pt) (k : Lies w b2 off2 q) (hq0 : 0 < q.length) (hmq : mayB q = true) (lq : q.length ≤ 40) : Calls Try.prog 7 #[.slice (some ⟨b, off, none⟩) p.length cp, .slice (some ⟨b2, off2, none⟩) q.length cq] w fun e w' => e = .returned (.bool true) ∧ Below w.heap.size w w' := by
  have BG := hide (begun9 w)
  have HP : Hid (Has w (some ⟨b, off, none⟩) p) := Or.inr ⟨b, off, rfl, h⟩
  have HQ : Hid (Has w (some ⟨b2, off2, none⟩) q) := Or.inr ⟨b2, off2, rfl, k⟩
  have E1 : Hid (∀ V, Has V (some ⟨b, off, none⟩) p → Calls Try.prog 10 #[.slice (some ⟨b, off, none⟩) p.length cp] V fun e w' => e = .returned (.int .i64 0) ∧ Below V.heap.size V w') := by
    intro V hV
    have : errI p = 0 := by unfold errI; rw [hmp]; rfl
    have h2 := err10 (some ⟨b, off, none⟩) p cp V hV
    rw [this] at h2
    exact h2
  have E2 : Hid (∀ V, Has V (some ⟨b2, off2, none⟩) q → Calls Try.prog 10 #[.slice (some ⟨b2, off2, none⟩) q.length cq] V fun e w' => e = .returned (.int .i64 0) ∧ Below V.heap.size V w') := by
    intro V hV
    have : errI q = 0 := by unfold errI; rw [hmq]; rfl
    have h2 := err10 (some ⟨b2, off2, none⟩) q cq V hV
    rw [this] at h2
    exact h2
  obtain ⟨s, hs⟩ : ∃ s : Bool, s = true ↔ Simp p := ⟨@decide (Simp p) (Classical.propDecidable _), by simp⟩
  obtain ⟨lo, hlo⟩ : ∃ lo, loN p (p.length - 1) = lo := ⟨_, rfl⟩
  obtain ⟨hi, hhi⟩ : ∃ hi, hiN p (p.length - 1) = hi := ⟨_, rfl⟩
  have SI : Hid (∀ g c V, Lies V g 0 p → p.length + 1 ≤ c → Calls Try.prog 23 #[.slice (some ⟨g, 0, none⟩) p.length c] V fun e w' => e = .returned (.tuple #[.bool s, .int .i64 0]) ∧ Below V.heap.size V w') := by
    intro g c V hV _
    refine (simple23 (some ⟨g, 0, none⟩) p c V (Or.inr ⟨g, 0, rfl, hV⟩)).mono ?_
    rintro e w' ⟨h1, h2⟩
    obtain ⟨b3, h3, h4⟩ := simple_good h1 hp0 hmp
    rw [bool_same hs h4]
    exact ⟨h3, h2⟩
  have AR : Hid (∀ g c V, Lies V g 0 p → p.length + 1 ≤ c → Calls Try.prog 24 #[.slice (some ⟨g, 0, none⟩) p.length c] V fun e w' => e = .returned (.tuple #[.int .i64 (areaI p), .int .i64 0]) ∧ Below V.heap.size V w') := by
    intro g c V hV _
    have h2 := area24 (some ⟨g, 0, none⟩) p c V (Or.inr ⟨g, 0, rfl, hV⟩)
    rw [hmp, show errI p = 0 by unfold errI; rw [hmp]; rfl] at h2
    exact h2
  have BX : Hid (∀ g c V, Lies V g 0 p → p.length + 1 ≤ c → Calls Try.prog 25 #[.slice (some ⟨g, 0, none⟩) p.length c] V fun e w' => e = .returned (.tuple #[pv lo.x lo.y, pv hi.x hi.y, .int .i64 0]) ∧ Below V.heap.size V w') := by
    intro g c V hV hc
    have h2 := box7 (some ⟨g, 0, none⟩) p c V (by omega) (Or.inr ⟨g, 0, rfl, hV⟩)
    have n0 : ¬ p.length = 0 := by omega
    rw [show boxE p = 0 by unfold boxE; rw [hmp, if_pos rfl, if_neg n0], show boxLo p = lo by unfold boxLo; rw [hmp, if_pos rfl, if_neg n0]; exact hlo, show boxHi p = hi by unfold boxHi; rw [hmp, if_pos rfl, if_neg n0]; exact hhi] at h2
    exact h2
  have S2 : Hid (∀ V, Lies V b off p → Calls Try.prog 28 #[.slice (some ⟨b, off, none⟩) p.length cp] V fun e w' => e = .returned (.bool s) ∧ Below V.heap.size V w') := by
    intro V hV
    refine (simple28 b off cp p V hp0 hmp hV).mono ?_
    rintro e w' ⟨⟨r, rfl, hr⟩, h2⟩
    exact ⟨by rw [bool_same hs hr], h2⟩
  have B2 : Hid (∀ V, Lies V b off p → Calls Try.prog 29 #[.slice (some ⟨b, off, none⟩) p.length cp] V fun e w' => e = .returned (.tuple #[pv lo.x lo.y, pv hi.x hi.y]) ∧ Below V.heap.size V w') := by
    intro V hV
    have h2 := box29 b off cp p V hp0 (by omega) hV
    have n0 : ¬ p.length = 0 := by omega
    rw [show rlo p p.length = lo by unfold rlo; rw [if_neg n0]; exact hlo, show rhi p p.length = hi by unfold rhi; rw [if_neg n0]; exact hhi] at h2
    exact h2
  have A2 : Hid (∀ V, Lies V b off p → Calls Try.prog 27 #[.slice (some ⟨b, off, none⟩) p.length cp] V fun e w' => e = .returned (.int .i64 (areaI p)) ∧ Below V.heap.size V w') := by
    intro V hV
    exact area27 _ p cp V hmp (Or.inr ⟨b, off, rfl, hV⟩)
  obtain ⟨x, hx⟩ : ∃ x : Bool, x = true ↔ Apt p q := ⟨@decide (Apt p q) (Classical.propDecidable _), by simp⟩
  have AP : Hid (∀ g c g2 c2 V, Lies V g 0 p → Lies V g2 0 q → Calls Try.prog 26 #[.slice (some ⟨g, 0, none⟩) p.length c, .slice (some ⟨g2, 0, none⟩) q.length c2] V fun e w' => e = .returned (.tuple #[.bool x, .int .i64 0]) ∧ Below V.heap.size V w') := by
    intro g c g2 c2 V hV hW
    refine (apart26 (some ⟨g, 0, none⟩) (some ⟨g2, 0, none⟩) p q c c2 V (Or.inr ⟨g, 0, rfl, hV⟩) (Or.inr ⟨g2, 0, rfl, hW⟩)).mono ?_
    rintro e w' ⟨h1, h2⟩
    obtain ⟨b3, h3, h4⟩ := apart_good h1 hp0 hq0 hmp hmq
    rw [bool_same hx h4]
    exact ⟨h3, h2⟩
  have A3 : Hid (∀ V, Lies V b off p → Lies V b2 off2 q → Calls Try.prog 30 #[.slice (some ⟨b, off, none⟩) p.length cp, .slice (some ⟨b2, off2, none⟩) q.length cq] V fun e w' => e = .returned (.bool x) ∧ Below V.heap.size V w') := by
    intro V hV hW
    refine (apart30 b off cp b2 off2 cq p q V hp0 hq0 hmp hmq hV hW).mono ?_
    rintro e w' ⟨⟨r, rfl, hr⟩, h2⟩
    exact ⟨by rw [bool_same hx hr], h2⟩
  have eqL : ∀ V, (Op.equalIn 10000 23 (pv lo.x lo.y) (pv lo.x lo.y)).run Try.prog V = .ok true V := fun V => by have := eq23 lo lo V; rw [decide_eq_true rfl] at this; exact this
  have eqH : ∀ V, (Op.equalIn 10000 23 (pv hi.x hi.y) (pv hi.x hi.y)).run Try.prog V = .ok true V := fun V => by have := eq23 hi hi V; rw [decide_eq_true rfl] at this; exact this
  have HLP := hide h
  have n0 : ¬ (p.length : Int) = 0 := by omega
  have HLQ := hide k
  have m0 : ¬ (q.length : Int) = 0 := by omega
  have i1 : ¬ (40 : Int) < p.length := by omega
  have i2 : ¬ (40 : Int) < q.length := by omega
  have W1 := hide (fun V hV => twin19 (some ⟨b, off, none⟩) p cp V (fun h => by cases h) (by omega) hV)
  have W2 := hide (fun V hV => twin19 (some ⟨b2, off2, none⟩) q cq V (fun h => by cases h) (by omega) hV)
  have K1 := hide (fun g c V h1 h2 h3 => kept21 g c (some ⟨b, off, none⟩) p cp V (by omega) h1 h2 h3)
  have K2 := hide (fun g c V h1 h2 h3 => kept21 g c (some ⟨b2, off2, none⟩) q cq V (by omega) h1 h2 h3)
  clear h hs hlo hhi k hx
  go_enter Try.func7, Try.ntmps7
  go_wp2_with fail
  refine (BG.out).mono ?_
  rintro e v1 ⟨rfl, hb⟩
  replace HP := hide (HP.out.later hb)
  replace HQ := hide (HQ.out.later hb)
  replace HLP := hide (HLP.out.later hb)
  replace HLQ := hide (HLQ.out.later hb)
  have HB := hide hb
  clear hb
  go_wp2_with fail
  refine (E1.out v1 HP.out).mono ?_
  rintro e v2 ⟨rfl, hb⟩
  replace HP := hide (HP.out.later hb)
  replace HQ := hide (HQ.out.later hb)
  replace HLP := hide (HLP.out.later hb)
  replace HLQ := hide (HLQ.out.later hb)
  replace HB := hide (below_stepJ HB.out hb)
  clear hb
  go_wp2_with fail
  refine (E2.out v2 HQ.out).mono ?_
  rintro e v3 ⟨rfl, hb⟩
  replace HP := hide (HP.out.later hb)
  replace HQ := hide (HQ.out.later hb)
  replace HLP := hide (HLP.out.later hb)
  replace HLQ := hide (HLQ.out.later hb)
  replace HB := hide (below_stepJ HB.out hb)
  clear hb
  go_wp2_with fail
  refine (W1.out v3 HP.out).mono ?_
  rintro e v4 ⟨g1, c1, rfl, ht, hc1, hb⟩
  replace HP := hide (HP.out.later hb)
  replace HQ := hide (HQ.out.later hb)
  replace HLP := hide (HLP.out.later hb)
  replace HLQ := hide (HLQ.out.later hb)
  replace HB := hide (below_stepJ HB.out hb)
  have HT := hide ht
  clear hb ht
  go_wp2_with fail
  refine (W2.out v4 HQ.out).mono ?_
  rintro e v5 ⟨g2, c2, rfl, ht, hc2, hb⟩
  replace HP := hide (HP.out.later hb)
  replace HQ := hide (HQ.out.later hb)
  replace HLP := hide (HLP.out.later hb)
  replace HLQ := hide (HLQ.out.later hb)
  replace HT := hide (HT.out.later hb)
  replace HB := hide (below_stepJ HB.out hb)
  have HU := hide ht
  clear hb ht
  go_wp2_with fail
  refine (SI.out g1 c1 v5 (lies_front HT.out) hc1).mono ?_
  rintro e v6 ⟨rfl, hb⟩
  replace HP := hide (HP.out.later hb)
  replace HQ := hide (HQ.out.later hb)
  replace HLP := hide (HLP.out.later hb)
  replace HLQ := hide (HLQ.out.later hb)
  replace HT := hide (HT.out.later hb)
  replace HU := hide (HU.out.later hb)
  replace HB := hide (below_stepJ HB.out hb)
  clear hb
  go_wp2_with fail
  refine (AR.out g1 c1 v6 (lies_front HT.out) hc1).mono ?_
  rintro e v7 ⟨rfl, hb⟩
  replace HP := hide (HP.out.later hb)
  replace HQ := hide (HQ.out.later hb)
  replace HLP := hide (HLP.out.later hb)
  replace HLQ := hide (HLQ.out.later hb)
  replace HT := hide (HT.out.later hb)
  replace HU := hide (HU.out.later hb)
  replace HB := hide (below_stepJ HB.out hb)
  clear hb
  go_wp2_with fail
  refine (BX.out g1 c1 v7 (lies_front HT.out) hc1).mono ?_
  rintro e v8 ⟨rfl, hb⟩
  replace HP := hide (HP.out.later hb)
  replace HQ := hide (HQ.out.later hb)
  replace HLP := hide (HLP.out.later hb)
  replace HLQ := hide (HLQ.out.later hb)
  replace HT := hide (HT.out.later hb)
  replace HU := hide (HU.out.later hb)
  replace HB := hide (below_stepJ HB.out hb)
  clear hb
  obtain ⟨X, hX⟩ : ∃ X, X = (v8.alloc (.cells #[.int .i64 lo.x, .int .i64 lo.y] 23)).alloc (.cells #[.int .i64 hi.x, .int .i64 hi.y] 23) := ⟨_, rfl⟩
  have hbX : Below v8.heap.size v8 X := by rw [hX]; go_grown
  have CL1 : Hid (X.cell? ⟨v8.heap.size, 0, none⟩ = some (.int .i64 lo.x) ∧ X.cell? ⟨v8.heap.size, 1, none⟩ = some (.int .i64 lo.y) ∧ X.cell? ⟨v8.heap.size + 1, 0, none⟩ = some (.int .i64 hi.x) ∧ X.cell? ⟨v8.heap.size + 1, 1, none⟩ = some (.int .i64 hi.y)) := by show _ ∧ _; rw [hX]; exact ⟨by go_cell, by go_cell, by go_cell, by go_cell⟩
  replace HP := hide (HP.out.later hbX)
  replace HQ := hide (HQ.out.later hbX)
  replace HLP := hide (HLP.out.later hbX)
  replace HLQ := hide (HLQ.out.later hbX)
  replace HT := hide (HT.out.later hbX)
  replace HU := hide (HU.out.later hbX)
  replace HB := hide (below_stepJ HB.out hbX)
  clear hbX
  go_wp2_with fail
  rw [← hX]
  clear hX
  refine (AP.out g1 c1 g2 c2 X (lies_front HT.out) (lies_front HU.out)).mono ?_
  rintro e v9 ⟨rfl, hb⟩
  replace HP := hide (HP.out.later hb)
  replace HQ := hide (HQ.out.later hb)
  replace HLP := hide (HLP.out.later hb)
  replace HLQ := hide (HLQ.out.later hb)
  replace HT := hide (HT.out.later hb)
  replace HU := hide (HU.out.later hb)
  replace CL1 := hide (And.intro (later hb CL1.out.1) (And.intro (later hb CL1.out.2.1) (And.intro (later hb CL1.out.2.2.1) (later hb CL1.out.2.2.2))))
  replace HB := hide (below_stepJ HB.out hb)
  clear hb
  obtain ⟨kl, hkl⟩ : ∃ kl, v8.heap.size = kl := ⟨_, rfl⟩
  rw [hkl] at CL1 ⊢
  clear hkl
  go_wp2_with fail
  refine (K1.out g1 c1 v9 hc1 HT.out HP.out).mono ?_
  rintro e v10 ⟨rfl, hb⟩
  replace HP := hide (HP.out.later hb)
  replace HQ := hide (HQ.out.later hb)
  replace HLP := hide (HLP.out.later hb)
  replace HLQ := hide (HLQ.out.later hb)
  replace HT := hide (HT.out.later hb)
  replace HU := hide (HU.out.later hb)
  replace CL1 := hide (And.intro (later hb CL1.out.1) (And.intro (later hb CL1.out.2.1) (And.intro (later hb CL1.out.2.2.1) (later hb CL1.out.2.2.2))))
  replace HB := hide (below_stepJ HB.out hb)
  clear hb
  go_wp2_with fail
  refine (K2.out g2 c2 v10 hc2 HU.out HQ.out).mono ?_
  rintro e v11 ⟨rfl, hb⟩
  replace HP := hide (HP.out.later hb)
  replace HQ := hide (HQ.out.later hb)
  replace HLP := hide (HLP.out.later hb)
  replace HLQ := hide (HLQ.out.later hb)
  replace HT := hide (HT.out.later hb)
  replace HU := hide (HU.out.later hb)
  replace CL1 := hide (And.intro (later hb CL1.out.1) (And.intro (later hb CL1.out.2.1) (And.intro (later hb CL1.out.2.2.1) (later hb CL1.out.2.2.2))))
  replace HB := hide (below_stepJ HB.out hb)
  clear hb
  go_wp2_with fail
  refine (A2.out v11 HLP.out).mono ?_
  rintro e v12 ⟨rfl, hb⟩
  replace HP := hide (HP.out.later hb)
  replace HQ := hide (HQ.out.later hb)
  replace HLP := hide (HLP.out.later hb)
  replace HLQ := hide (HLQ.out.later hb)
  replace HT := hide (HT.out.later hb)
  replace HU := hide (HU.out.later hb)
  replace CL1 := hide (And.intro (later hb CL1.out.1) (And.intro (later hb CL1.out.2.1) (And.intro (later hb CL1.out.2.2.1) (later hb CL1.out.2.2.2))))
  replace HB := hide (below_stepJ HB.out hb)
  clear hb
  go_wp2_with fail
  refine (S2.out v12 HLP.out).mono ?_
  rintro e v13 ⟨rfl, hb⟩
  replace HP := hide (HP.out.later hb)
  replace HQ := hide (HQ.out.later hb)
  replace HLP := hide (HLP.out.later hb)
  replace HLQ := hide (HLQ.out.later hb)
  replace HT := hide (HT.out.later hb)
  replace HU := hide (HU.out.later hb)
  replace CL1 := hide (And.intro (later hb CL1.out.1) (And.intro (later hb CL1.out.2.1) (And.intro (later hb CL1.out.2.2.1) (later hb CL1.out.2.2.2))))
  replace HB := hide (below_stepJ HB.out hb)
  clear hb
  go_wp2_with fail
  refine (B2.out v13 HLP.out).mono ?_
  rintro e v14 ⟨rfl, hb⟩
  replace HP := hide (HP.out.later hb)
  replace HQ := hide (HQ.out.later hb)
  replace HLP := hide (HLP.out.later hb)
  replace HLQ := hide (HLQ.out.later hb)
  replace HT := hide (HT.out.later hb)
  replace HU := hide (HU.out.later hb)
  replace CL1 := hide (And.intro (later hb CL1.out.1) (And.intro (later hb CL1.out.2.1) (And.intro (later hb CL1.out.2.2.1) (later hb CL1.out.2.2.2))))
  replace HB := hide (below_stepJ HB.out hb)
  clear hb
  obtain ⟨Z, hZ⟩ : ∃ Z, Z = (v14.alloc (.cells #[.int .i64 lo.x, .int .i64 lo.y] 23)).alloc (.cells #[.int .i64 hi.x, .int .i64 hi.y] 23) := ⟨_, rfl⟩
  have hbZ : Below v14.heap.size v14 Z := by rw [hZ]; go_grown
  obtain ⟨r0, r1, r2, r3⟩ := CL1.out
  have z1 : kl < v14.heap.size := block_lt_of_cell r0
  have z2 : kl + 1 < v14.heap.size := block_lt_of_cell r2
  have z3 : kl ≠ v14.heap.size := by omega
  have z4 : kl + 1 ≠ v14.heap.size := by omega
  have z5 : kl ≠ v14.heap.size + 1 := by omega
  have z6 : kl + 1 ≠ v14.heap.size + 1 := by omega
  replace HP := hide (HP.out.later hbZ)
  replace HQ := hide (HQ.out.later hbZ)
  replace HLP := hide (HLP.out.later hbZ)
  replace HLQ := hide (HLQ.out.later hbZ)
  replace HT := hide (HT.out.later hbZ)
  replace HU := hide (HU.out.later hbZ)
  replace CL1 := hide (And.intro (later hbZ CL1.out.1) (And.intro (later hbZ CL1.out.2.1) (And.intro (later hbZ CL1.out.2.2.1) (later hbZ CL1.out.2.2.2))))
  replace HB := hide (below_stepJ HB.out hbZ)
  clear hbZ
  go_wp2_with fail
  rw [← hZ]
  clear hZ
  refine (A3.out Z HLP.out HLQ.out).mono ?_
  rintro e v15 ⟨rfl, hb⟩
  replace HP := hide (HP.out.later hb)
  replace HQ := hide (HQ.out.later hb)
  replace HLP := hide (HLP.out.later hb)
  replace HLQ := hide (HLQ.out.later hb)
  replace HT := hide (HT.out.later hb)
  replace HU := hide (HU.out.later hb)
  replace CL1 := hide (And.intro (later hb CL1.out.1) (And.intro (later hb CL1.out.2.1) (And.intro (later hb CL1.out.2.2.1) (later hb CL1.out.2.2.2))))
  replace HB := hide (below_stepJ HB.out hb)
  clear hb
  go_wp2
  go_ret
  exact ⟨by simp, HB.out⟩
set_option maxRecDepth 100000 in
set_option maxHeartbeats 4000000 in
theorem lines_out (p1 q1 : Option Addr) (np nq cp cq : Nat) (w : World) (h : (40 : Int) < np ∨ (¬ (40 : Int) < np ∧ (40 : Int) < nq)) : Calls Try.prog 7 #[.slice p1 np cp, .slice q1 nq cq] w fun e w' => e = .returned (.bool true) ∧ Below w.heap.size w w' := by
  have BG := hide (begun9 w)
  rcases h with h | ⟨h, h1⟩
  all_goals
    go_enter Try.func7, Try.ntmps7
    go_wp2_with fail
    refine BG.out.mono ?_
    rintro e w0 ⟨rfl, hb0⟩
    have HB0 := hide hb0
    clear hb0
    go_wp2
    go_ret
    exact ⟨rfl, HB0.out⟩
theorem lines_walk (p1 q1 : Option Addr) (p q : List Pt) (cp cq : Nat) (w : World) (hp1 : p1 = none → cp = 0) (hq1 : q1 = none → cq = 0) (h : Has w p1 p) (k : Has w q1 q) : Calls Try.prog 7 #[.slice p1 p.length cp, .slice q1 q.length cq] w fun e w' => e = .returned (.bool true) ∧ Below w.heap.size w w' := by
  by_cases lp : 40 < p.length
  · exact lines_out p1 q1 p.length q.length cp cq w (Or.inl (by omega))
  by_cases lq : 40 < q.length
  · exact lines_out p1 q1 p.length q.length cp cq w (Or.inr ⟨by omega, by omega⟩)
  cases hmp : mayB p
  · exact lines_bad w cp cq p1 p hp1 h hmp (by omega) q1 q hq1 k (by omega)
  · by_cases hp0 : p.length = 0
    · have hp : p = [] := List.eq_nil_of_length_eq_zero hp0
      subst hp
      exact lines_nil w cp cq p1 hp1 q1 q hq1 k (by omega)
    · rcases h with h | ⟨b, off, rfl, hL⟩
      · rw [h] at hp0; simp at hp0
      cases hmq : mayB q
      · exact lines_half w cp cq b off p hL (by omega) hmp (by omega) q1 q hq1 k hmq (by omega)
      · by_cases hq0 : q.length = 0
        · have hq : q = [] := List.eq_nil_of_length_eq_zero hq0
          subst hq
          exact lines_q0 w cp cq b off p hL (by omega) hmp (by omega) q1 hq1
        · rcases k with k | ⟨b2, off2, rfl, hK⟩
          · rw [k] at hq0; simp at hq0
          exact lines_both w cp cq b off p hL (by omega) hmp (by omega) b2 off2 q hK (by omega) hmq (by omega)
end Go.Proofs.Ytgnojjbdioldbaa
