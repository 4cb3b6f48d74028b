/- Apart, in every world. -/
import Derived.Test.YtgnojjbdioldbaaJ5
namespace Go.Proofs.Ytgnojjbdioldbaa
open Go.RowKit Go.Sort
open Go

def Apt (p q : List Pt) : Prop := ∀ i, i < segN p → ∀ j, j < segN q → apartB (at' p i) (segZ p i) (at' q j) (segZ q j) (endL p q) = true
def ApartPost (p q : List Pt) (e : Ending) : Prop := ((p.length = 0 ∨ q.length = 0 ∨ mayB p = false ∨ mayB q = false) ∧ e = .returned (.tuple #[.bool false, .int .i64 1])) ∨ (0 < p.length ∧ 0 < q.length ∧ mayB p = true ∧ mayB q = true ∧ ∃ b : Bool, e = .returned (.tuple #[.bool b, .int .i64 0]) ∧ (b = true ↔ Apt p q))
theorem seg_pt {p : List Pt} (hp : ∀ j, j < p.length → ptB (at' p j) = true) (h0 : 0 < p.length) {i : Nat} (hi : i < segN p) : ptB (at' p i) = true ∧ ptB (segZ p i) = true := by
  unfold segN at hi
  unfold segZ
  by_cases h : p.length = 1
  · rw [if_pos h] at hi ⊢; exact ⟨hp i (by omega), hp 0 h0⟩
  · rw [if_neg h] at hi ⊢; exact ⟨hp i (by omega), hp (i + 1) (by omega)⟩
theorem ends_pt {p q : List Pt} (hp : ∀ j, j < p.length → ptB (at' p j) = true) (h0 : 0 < p.length) : ∀ i, i < (endL p q).length → ptB (at' (endL p q) i) = true := fun i hi => by
  rcases (endL_mem.1 (at_mem hi)).1 with e | e
  · rw [e]; exact hp 0 h0
  · rw [e]; exact hp _ (by omega)
set_option maxRecDepth 100000 in
set_option maxHeartbeats 8000000 in
theorem apart26 (p1 p2 : Option Addr) (p q : List Pt) (cap cap' : Nat) (w : World) (h : Has w p1 p) (k : Has w p2 q) : Calls Try.prog 26 #[.slice p1 p.length cap, .slice p2 q.length cap'] w fun e w' => ApartPost p q e ∧ Below w.heap.size w w' := by
  have M := hide (may15 p1 p cap w h)
  have HH := hide h
  have HK := hide k
  clear h k
  by_cases h0 : p.length = 0
  · have h0' : ((p.length : Int) == 0) = true := beq_iff_eq.2 (by omega)
    have H0 := hide h0
    clear h0
    go_enter Try.func26, Try.ntmps26
    go_wp2_with fail
    go_ret2
    exact ⟨Or.inl ⟨Or.inl H0.out, rfl⟩, Below.refl _ _⟩
  have h0' : ((p.length : Int) == 0) = false := beq_eq_false_iff_ne.2 (by omega)
  by_cases h1 : q.length = 0
  · have h1' : ((q.length : Int) == 0) = true := beq_iff_eq.2 (by omega)
    have H1 := hide h1
    clear h1 h0
    go_enter Try.func26, Try.ntmps26
    go_wp2_with fail
    go_ret2
    exact ⟨Or.inl ⟨Or.inr (Or.inl H1.out), rfl⟩, Below.refl _ _⟩
  have h1' : ((q.length : Int) == 0) = false := beq_eq_false_iff_ne.2 (by omega)
  have HP0 : Hid (0 < p.length) := by show 0 < p.length; omega
  have HQ0 : Hid (0 < q.length) := by show 0 < q.length; omega
  clear h0 h1
  cases hm : mayB p
  · rw [hm] at M
    have HM := hide hm
    clear hm
    go_enter Try.func26, Try.ntmps26
    go_wp2_with fail
    refine M.out.mono ?_
    rintro e w1 ⟨rfl, hb1⟩
    go_wp2_with fail
    go_ret2
    exact ⟨Or.inl ⟨Or.inr (Or.inr (Or.inl HM.out)), rfl⟩, hb1⟩
  rw [hm] at M
  have HM := hide hm
  clear hm
  go_enter Try.func26, Try.ntmps26
  go_wp2_with fail
  refine M.out.mono ?_
  rintro e w1 ⟨rfl, hb1⟩
  have HB1 := hide hb1
  have HH1 := hide (HH.out.later hb1)
  have HK1 := hide (HK.out.later hb1)
  have N := hide (may15 p2 q cap' w1 HK1.out)
  clear hb1 HH HK M
  cases hn : mayB q
  · rw [hn] at N
    have HN := hide hn
    clear hn
    go_wp2_with fail
    refine N.out.mono ?_
    rintro e w2 ⟨rfl, hb2⟩
    go_wp2_with fail
    go_ret2
    exact ⟨Or.inl ⟨Or.inr (Or.inr (Or.inr HN.out)), rfl⟩, below_stepJ HB1.out hb2⟩
  rw [hn] at N
  have HN := hide hn
  clear hn
  have HL1 := hide (mayB_len HM.out)
  have HL2 := hide (mayB_len HN.out)
  have HPT : Hid (∀ j, j < p.length → ptB (at' p j) = true) := fun j hj => mayB_at HM.out hj
  have HQT : Hid (∀ j, j < q.length → ptB (at' q j) = true) := fun j hj => mayB_at HN.out hj
  go_wp2_with fail
  refine N.out.mono ?_
  rintro e w2 ⟨rfl, hb2⟩
  have HB2 := hide (below_stepJ HB1.out hb2)
  have hh := HH1.out.later hb2
  have hk := HK1.out.later hb2
  clear hb2 HB1 HH1 HK1 N
  rcases hh with hh | ⟨b, off, rfl, hL⟩
  · exact absurd (by rw [hh]; rfl) (Nat.ne_of_gt HP0.out)
  rcases hk with hk | ⟨b', off', rfl, hL'⟩
  · exact absurd (by rw [hk]; rfl) (Nat.ne_of_gt HQ0.out)
  have CE := hide (common48 b off cap b' off' cap' p q w2 HP0.out HQ0.out HL1.out HL2.out hL hL')
  have HLp := hide hL
  have HLq := hide hL'
  clear hL hL' h0' h1'
  go_wp2_with fail
  refine CE.out.mono ?_
  rintro e w3 ⟨v3, rfl, o3, hb3⟩
  obtain ⟨p3, c3, rfl, has3, _, _, _⟩ := o3.form
  have hlen3 : (endL p q).length ≤ 2 := endsN_length _ _ _ _ 2
  have HJ3 := hide has3
  have HB3 := hide (below_stepJ HB2.out hb3)
  have HLp3 := hide (HLp.out.later hb3)
  have HLq3 := hide (HLq.out.later hb3)
  have S1 := hide (segments46all b' off' cap' q w3 HQ0.out HL2.out HLq3.out)
  clear o3 has3 hb3 CE HLp HLq HB2
  obtain ⟨js, hjs⟩ : ∃ js, endL p q = js := ⟨_, rfl⟩
  have HJS := hide hjs
  have HJP := hide (ends_pt (q := q) HPT.out HP0.out)
  rw [hjs] at HJ3 hlen3 HJP ⊢
  clear hjs
  have HL3 : Hid (js.length ≤ 4096) := by show js.length ≤ 4096; omega
  clear hlen3
  go_wp2_with fail
  refine S1.out.mono ?_
  rintro e w4 ⟨g', c', rfl, hs', hb4⟩
  have HB4 := hide (below_stepJ HB3.out hb4)
  have HLp4 := hide (HLp3.out.later hb4)
  have HJ4 := hide (HJ3.out.later hb4)
  have HS' := hide hs'
  have S2 := hide (segments46all b off cap p w4 HP0.out HL1.out HLp4.out)
  clear hs' hb4 S1 HB3 HLp3 HLq3 HJ3
  go_wp2_with fail
  refine S2.out.mono ?_
  rintro e w5 ⟨g, c, rfl, hs, hb5⟩
  have HB5 := hide (below_stepJ HB4.out hb5)
  have HJ5 := hide (HJ4.out.later hb5)
  have HS5 : Hid (∀ j, j < segN q → SegAt w5 g' j (at' q j) (segZ q j)) := fun j hj => (HS'.out j hj).later hb5
  have HSp := hide hs
  have hsp : segN p ≤ 4096 := by unfold segN; split <;> first | omega | (have := HL1.out; omega)
  have hsq : segN q ≤ 4096 := by unfold segN; split <;> first | omega | (have := HL2.out; omega)
  obtain ⟨n, hn⟩ : ∃ n, segN p = n := ⟨_, rfl⟩
  obtain ⟨m, hm⟩ : ∃ m, segN q = m := ⟨_, rfl⟩
  have HNM := hide (And.intro hn hm)
  rw [hn] at HSp hsp ⊢
  rw [hm] at HS5 hsq ⊢
  clear hs hb5 S2 HB4 HLp4 HJ4 HS' hn hm
  go_wp2_with fail
  go_loopw [38] (fun t wr => ∃ i : Nat, i ≤ n ∧ t = .int .i64 i ∧ Hid (Below w5.heap.size w5 wr) ∧ Hid (∀ x, x < i → ∀ y, y < m → apartB (at' p x) (segZ p x) (at' q y) (segZ q y) js = true)) (fun t _ => n - (intOf t).toNat)
  case atStart => exact ⟨0, by omega, rfl, Below.refl _ _, fun x hx => by omega⟩
  case round =>
    obtain ⟨i, hi, rfl, HBr, HG⟩ := hrel
    by_cases hlt : i < n
    · obtain ⟨s0, s1, s2, s3⟩ := (HSp.out i hlt).later HBr.out
      have hpt := seg_pt HPT.out HP0.out (i := i) (by rw [HNM.out.1]; exact hlt)
      obtain ⟨y, hy⟩ : ∃ y, at' p i = y := ⟨_, rfl⟩
      obtain ⟨z, hz⟩ : ∃ z, segZ p i = z := ⟨_, rfl⟩
      rw [hy] at s0 s1 hpt
      rw [hz] at s2 s3 hpt
      have HYZ := hide (And.intro hy hz)
      have HP1 := hide hpt
      have i1 : (i : Int) < n := by omega
      have i2 : (0 : Int) ≤ i := by omega
      clear hy hz hpt
      obtain ⟨U, hU⟩ : ∃ U, U = wr.alloc (.cells #[.int .i64 y.x, .int .i64 y.y, .int .i64 z.x, .int .i64 z.y] 59) := ⟨_, rfl⟩
      have hbU : Below wr.heap.size wr U := by rw [hU]; go_grown
      have HSB : Hid (SegBox U wr.heap.size y z) := by show SegBox _ _ _ _; rw [hU]; exact ⟨by go_cell, by go_cell, by go_cell, by go_cell⟩
      have HBU := hide (below_stepJ HBr.out hbU)
      go_upto_region 8 with fail
      rw [← hU]
      clear hU hbU s0 s1 s2 s3 HBr
      obtain ⟨ka, hka⟩ : ∃ ka, wr.heap.size = ka := ⟨_, rfl⟩
      rw [hka] at HSB ⊢
      clear hka
      go_wp2_with fail
      go_loopw [44] (fun t wq => ∃ j : Nat, j ≤ m ∧ t = .int .i64 j ∧ Hid (Below U.heap.size U wq) ∧ Hid (∀ x, x < j → apartB y z (at' q x) (segZ q x) js = true)) (fun t _ => m - (intOf t).toNat)
      case atStart => exact ⟨0, by omega, rfl, Below.refl _ _, fun x hx => by omega⟩
      case round =>
        obtain ⟨j, hj, rfl, HBq, HF⟩ := hrel
        by_cases hjl : j < m
        · have HU2 := hide (below_stepJ HBU.out HBq.out)
          obtain ⟨t0, t1, t2, t3⟩ := (HS5.out j hjl).later HU2.out
          have hpt := seg_pt HQT.out HQ0.out (i := j) (by rw [HNM.out.2]; exact hjl)
          obtain ⟨y', hy'⟩ : ∃ y', at' q j = y' := ⟨_, rfl⟩
          obtain ⟨z', hz'⟩ : ∃ z', segZ q j = z' := ⟨_, rfl⟩
          rw [hy'] at t0 t1 hpt
          rw [hz'] at t2 t3 hpt
          have HYJ := hide (And.intro hy' hz')
          have j1 : (j : Int) < m := by omega
          have j2 : (0 : Int) ≤ j := by omega
          obtain ⟨V, hV⟩ : ∃ V, V = wr.alloc (.cells #[.int .i64 y'.x, .int .i64 y'.y, .int .i64 z'.x, .int .i64 z'.y] 59) := ⟨_, rfl⟩
          have hbV : Below wr.heap.size wr V := by rw [hV]; go_grown
          have HVB : Hid (SegBox V wr.heap.size y' z') := by show SegBox _ _ _ _; rw [hV]; exact ⟨by go_cell, by go_cell, by go_cell, by go_cell⟩
          have HBV := hide (below_stepJ HBq.out hbV)
          have HWV := hide (below_stepJ HBU.out HBV.out)
          have AP := hide (apart49 y z y' z' HP1.out.1 HP1.out.2 hpt.1 hpt.2 p3 js c3 HL3.out HJP.out V (HJ5.out.later HWV.out))
          obtain ⟨R, hR⟩ : ∃ R, apartB y z y' z' js = R := ⟨_, rfl⟩
          have HR := hide hR
          rw [hR] at AP
          clear hy' hz' hpt hR
          go_upto_region 11 with fail
          rw [← hV]
          clear hV hbV t0 t1 t2 t3
          obtain ⟨r0, r1, r2, r3⟩ := HSB.out.later HBV.out
          obtain ⟨t0, t1, t2, t3⟩ := HVB.out
          go_wp2_with fail
          refine AP.out.mono ?_
          rintro e w6 ⟨rfl, hb6⟩
          have HB6 := hide (below_stepJ HBV.out hb6)
          have HW6 := hide (below_stepJ HB5.out (below_stepJ HWV.out hb6))
          clear hb6 r0 r1 r2 r3 t0 t1 t2 t3 AP
          cases R
          · go_wp2
            go_ret2
            exact ⟨Or.inr ⟨HP0.out, HQ0.out, HM.out, HN.out, false, rfl, fun k => by (cases k), fun k => by
              have := k i (by rw [HNM.out.1]; exact hlt) j (by rw [HNM.out.2]; exact hjl)
              rw [HJS.out, HYZ.out.1, HYZ.out.2, HYJ.out.1, HYJ.out.2, HR.out] at this
              cases this⟩, HW6.out⟩
          · go_wp2
            go_roundw
            case rel => exact ⟨j + 1, by omega, by go_num, HB6.out, fun x hx => by
              by_cases e : x = j
              · rw [e, HYJ.out.1, HYJ.out.2]; exact HR.out
              · exact HF.out x (by omega)⟩
            case measure => simp [intOf]; omega
        · have hin : j = m := by omega
          subst hin
          go_wp2
          go_roundw
          case rel => exact ⟨i + 1, by omega, by go_num, below_stepJ HBU.out HBq.out, fun x hx => by
            by_cases e : x = i
            · rw [e, HYZ.out.1, HYZ.out.2]; exact HF.out
            · exact HG.out x (by omega)⟩
          case measure => simp [intOf]; omega
    · have hin : i = n := by omega
      subst hin
      go_wp2
      go_ret2
      exact ⟨Or.inr ⟨HP0.out, HQ0.out, HM.out, HN.out, true, rfl, fun _ x hx y hy => by rw [HJS.out]; exact HG.out x (by rw [← HNM.out.1]; exact hx) y (by rw [← HNM.out.2]; exact hy), fun _ => rfl⟩, below_stepJ HB5.out HBr.out⟩
end Go.Proofs.Ytgnojjbdioldbaa
