/- Simple, in every world. -/
import Derived.Test.YtgnojjbdioldbaaJ1
import Derived.Deep.CutBlock
import Derived.Deep.DeepCutAuto
namespace Go.Proofs.Ytgnojjbdioldbaa
open Go.RowKit Go.Sort
open Go

/-- The segments with numbers below i are such as a simple polyline's. -/
def goodAt (ps : List Pt) (i : Nat) : Prop := at' ps i ≠ at' ps (i + 1) ∧ ∀ j, j < i → meetI (at' ps i) (at' ps (i + 1)) (at' ps j) (at' ps (j + 1)) = allowI ps j i
def Simp (ps : List Pt) : Prop := ∀ i, i + 1 < ps.length → goodAt ps i
def SimplePost (ps : List Pt) (e : Ending) : Prop := ((ps.length = 0 ∨ mayB ps = false) ∧ e = .returned (.tuple #[.bool false, .int .i64 1])) ∨ (0 < ps.length ∧ mayB ps = true ∧ ∃ b : Bool, e = .returned (.tuple #[.bool b, .int .i64 0]) ∧ (b = true ↔ Simp ps))
/-- A segment in a box of one's own. -/
def SegBox (W : World) (k : Nat) (a b : Pt) : Prop := W.cell? ⟨k, 0, none⟩ = some (.int .i64 a.x) ∧ W.cell? ⟨k, 1, none⟩ = some (.int .i64 a.y) ∧ W.cell? ⟨k, 2, none⟩ = some (.int .i64 b.x) ∧ W.cell? ⟨k, 3, none⟩ = some (.int .i64 b.y)
theorem SegBox.later {W W' : World} {k : Nat} {a b : Pt} (h : SegBox W k a b) (hb : Below W.heap.size W W') : SegBox W' k a b :=
  ⟨Ytgnojjbdioldbaa.later hb h.1, Ytgnojjbdioldbaa.later hb h.2.1, Ytgnojjbdioldbaa.later hb h.2.2.1, Ytgnojjbdioldbaa.later hb h.2.2.2⟩
set_option maxRecDepth 100000 in
set_option maxHeartbeats 8000000 in
theorem simple23 (p : Option Addr) (ps : List Pt) (cap : Nat) (w : World) (h : Has w p ps) : Calls Try.prog 23 #[.slice p ps.length cap] w fun e w' => SimplePost ps e ∧ Below w.heap.size w w' := by
  have M := hide (may15 p ps cap w h)
  have HH := hide h
  clear h
  by_cases h0 : ps.length = 0
  · have h0' : ((ps.length : Int) == 0) = true := beq_iff_eq.2 (by omega)
    go_enter Try.func23, Try.ntmps23
    go_wp2_with fail
    go_ret2
    exact ⟨Or.inl ⟨Or.inl h0, rfl⟩, Below.refl _ _⟩
  have h0' : ((ps.length : Int) == 0) = false := beq_eq_false_iff_ne.2 (by omega)
  cases hm : mayB ps
  · rw [hm] at M
    go_enter Try.func23, Try.ntmps23
    go_wp2_with fail
    refine M.out.mono ?_
    rintro e w1 ⟨rfl, hb1⟩
    go_wp2_with fail
    go_ret2
    exact ⟨Or.inl ⟨Or.inr hm, rfl⟩, hb1⟩
  rw [hm] at M
  have hl := mayB_len hm
  have HM := hide hm
  by_cases h1 : ps.length = 1
  · have h1' : ((ps.length : Int) == 1) = true := beq_iff_eq.2 (by omega)
    have H1 := hide h1
    clear h1 h0 hl hm
    go_enter Try.func23, Try.ntmps23
    go_wp2_with fail
    refine M.out.mono ?_
    rintro e w1 ⟨rfl, hb1⟩
    go_wp2_with fail
    go_ret2
    have h1 := H1.out
    exact ⟨Or.inr ⟨by omega, HM.out, true, rfl, fun _ i hi => by omega, fun _ => rfl⟩, hb1⟩
  have h1' : ((ps.length : Int) == 1) = false := beq_eq_false_iff_ne.2 (by omega)
  rcases HH.out with k | ⟨b, off, rfl, hLies⟩
  · subst k; simp at h0
  have HLI := hide hLies
  have HPT : Hid (∀ j, j < ps.length → ptB (at' ps j) = true) := fun j hj => mayB_at HM.out hj
  clear hLies hm
  obtain ⟨n, hn⟩ : ∃ n, ps.length = n + 1 := ⟨ps.length - 1, by omega⟩
  have HNN := hide hn
  have HN2 : Hid (1 ≤ n) := by show 1 ≤ n; omega
  have HL0 := hide hl
  clear hn h0 h1 hl
  go_enter Try.func23, Try.ntmps23
  go_wp2_with fail
  refine M.out.mono ?_
  rintro e w1 ⟨rfl, hb1⟩
  have HB1 := hide hb1
  have S := hide (segments46 b off cap ps w1 (by have := HNN.out; have := HN2.out; omega) HL0.out (HLI.out.later hb1))
  clear hb1
  go_wp2_with fail
  refine S.out.mono ?_
  rintro e w2 ⟨g, c, rfl, _, hs, hb2⟩
  have HB2 := hide (Below.trans HB1.out (hb2.mono HB1.out.size))
  have HL2 := hide ((HLI.out.later HB1.out).later hb2)
  have HS : Hid (∀ j, j < n → SegAt w2 g j (at' ps j) (at' ps (j + 1))) := fun j hj => hs j (by have := HNN.out; omega)
  rw [show ps.length - 1 = n by have := HNN.out; omega]
  clear hb2 hs S HH M HLI HB1 h0' h1'
  have hn4 : n ≤ 4096 := by have := HNN.out; have := HL0.out; omega
  go_wp2_with fail
  go_loopw [23] (fun t wr => ∃ i : Nat, i ≤ n ∧ t = .int .i64 i ∧ Hid (Below w2.heap.size w2 wr) ∧ Hid (∀ k, k < i → goodAt ps k)) (fun t _ => n - (intOf t).toNat)
  case atStart => exact ⟨0, by omega, rfl, Below.refl _ _, fun k hk => by omega⟩
  case round =>
    obtain ⟨i, hi, rfl, HBr, HG⟩ := hrel
    by_cases hlt : i < n
    · obtain ⟨s0, s1, s2, s3⟩ := (HS.out i hlt).later HBr.out
      obtain ⟨y, hy⟩ : ∃ y, at' ps i = y := ⟨_, rfl⟩
      obtain ⟨z, hz⟩ : ∃ z, at' ps (i + 1) = z := ⟨_, rfl⟩
      rw [hy] at s0 s1
      rw [hz] at s2 s3
      have HYZ := hide (And.intro hy hz)
      have i1 : (i : Int) < n := by omega
      have i2 : (0 : Int) ≤ i := by omega
      clear hy hz
      obtain ⟨ka, hka⟩ : ∃ ka, wr.heap.size = ka := ⟨_, rfl⟩
      obtain ⟨U, hU⟩ : ∃ U, U = wr.alloc (.cells #[.int .i64 y.x, .int .i64 y.y, .int .i64 z.x, .int .i64 z.y] 59) := ⟨_, rfl⟩
      have hbU : Below wr.heap.size wr U := by rw [hU]; go_grown
      have HSB : Hid (SegBox U ka y z) := by show SegBox _ _ _ _; rw [hU, ← hka]; exact ⟨by go_cell, by go_cell, by go_cell, by go_cell⟩
      have HBU := hide (Below.trans HBr.out (hbU.mono HBr.out.size))
      go_upto_region 9 with fail
      rw [← hU]
      clear hU hbU hka s0 s1 s2 s3 HBr
      obtain ⟨s0, s1, s2, s3⟩ := HSB.out
      have HBW := hide (Below.trans HB2.out (HBU.out.mono HB2.out.size))
      by_cases hyz : y = z
      · have heq : ∀ w, (Op.equalIn 10000 23 (pv y.x y.y) (pv z.x z.y)).run Try.prog w = .ok true w := fun w => by
          have := eq23 y z w
          rw [decide_eq_true hyz] at this
          exact this
        have HYE := hide hyz
        clear hyz
        go_wp2
        go_ret2
        exact ⟨Or.inr ⟨by have := HNN.out; omega, HM.out, false, rfl, fun k => by (cases k), fun k => absurd (by rw [HYZ.out.1, HYZ.out.2]; exact HYE.out) (k i (by have := HNN.out; omega)).1⟩, HBW.out⟩
      · have heq : ∀ w, (Op.equalIn 10000 23 (pv y.x y.y) (pv z.x z.y)).run Try.prog w = .ok false w := fun w => by
          have := eq23 y z w
          rw [decide_eq_false hyz] at this
          exact this
        have HYE := hide hyz
        clear hyz
        go_wp2_with fail
        go_loopw [34] (fun t wq => ∃ j : Nat, j ≤ i ∧ t = .int .i64 j ∧ Hid (Below U.heap.size U wq) ∧ Hid (∀ k, k < j → meetI y z (at' ps k) (at' ps (k + 1)) = allowI ps k i)) (fun t _ => i - (intOf t).toNat)
        case atStart => exact ⟨0, by omega, rfl, Below.refl _ _, fun k hk => by omega⟩
        case round =>
          obtain ⟨j, hj, rfl, HBq, HF⟩ := hrel
          by_cases hjl : j < i
          · have hU2 := hide (Below.trans HBU.out (HBq.out.mono HBU.out.size))
            obtain ⟨t0, t1, t2, t3⟩ := (HS.out j (by omega)).later hU2.out
            obtain ⟨r0, r1, r2, r3⟩ := HSB.out.later HBq.out
            have MT := fun (V : World) => meet32 y z (at' ps j) (at' ps (j + 1)) (by rw [← HYZ.out.1]; exact HPT.out i (by have := HNN.out; omega)) (by rw [← HYZ.out.2]; exact HPT.out (i + 1) (by have := HNN.out; omega)) (HPT.out j (by have := HNN.out; omega)) (HPT.out (j + 1) (by have := HNN.out; omega)) V
            obtain ⟨y', hy'⟩ : ∃ y', at' ps j = y' := ⟨_, rfl⟩
            obtain ⟨z', hz'⟩ : ∃ z', at' ps (j + 1) = z' := ⟨_, rfl⟩
            have HYJ := hide (And.intro hy' hz')
            rw [hy'] at t0 t1 MT
            rw [hz'] at t2 t3 MT
            obtain ⟨mI, hmI⟩ : ∃ m, meetI y z y' z' = m := ⟨_, rfl⟩
            obtain ⟨aI, haI⟩ : ∃ a, allowI ps j i = a := ⟨_, rfl⟩
            rw [hmI] at MT
            have HMA := hide (And.intro hmI haI)
            have CM : ∀ dd os, Calls Try.prog 32 #[sv y z, sv y' z'] (grow (redrawn wr dd) os) fun e w'' => e = .returned (.int .i64 mI) ∧ ∃ p : Regrown, w'' = grow (redrawn wr p.d) p.os := fun dd os => Calls.regrown_of (MT _)
            have CW : ∀ dd os, Calls Try.prog 47 #[.slice (some ⟨b, off, none⟩) ps.length cap, .int .i64 j, .int .i64 i] (grow (redrawn wr dd) os) fun e w'' => e = .returned (.int .i64 aI) ∧ ∃ p : Regrown, w'' = grow (redrawn wr p.d) p.os := fun dd os => Calls.regrown_of (by
              have := allowed47 b off cap ps j i (grow (redrawn wr dd) os) HL0.out hjl (by have := HNN.out; omega) ((HL2.out.later hU2.out).later (below_regrown wr dd os))
              rw [haI] at this
              exact this)
            have f0 := cell_regrown t0
            have f1 := cell_regrown t1
            have f2 := cell_regrown t2
            have f3 := cell_regrown t3
            have f4 := cell_regrown r0
            have f5 := cell_regrown r1
            have f6 := cell_regrown r2
            have f7 := cell_regrown r3
            have j1 : (j : Int) < n := by omega
            have j2 : (0 : Int) ≤ j := by omega
            have j3 : (j : Int) < i := by omega
            have HBX := hide (Below.trans HB2.out (hU2.out.mono HB2.out.size))
            clear hy' hz' hmI haI MT s0 s1 s2 s3 t0 t1 t2 t3 r0 r1 r2 r3
            go_upto_region 14 with fail
            refine wp_region_quiet_below (by kernel_rfl) (by kernel_rfl) ?_
            repeat (go_big_quiet_step (first | with_reducible exact CM _ _ | with_reducible exact CW _ _))
            refine wpQuiet_nil ?_
            intro x1 hw'
            have hbx : Below wr.heap.size wr x1 := by
              obtain ⟨⟨dq, osq⟩, hw''⟩ := hw'
              rw [hw'']
              exact below_regrown wr dq osq
            clear hw' f0 f1 f2 f3 f4 f5 f6 f7 CM CW
            by_cases hma : mI = aI
            · have hmb : (mI != aI) = false := by simp [hma]
              have HMB := hide hma
              clear hma
              go_wp2
              go_roundw
              case rel => exact ⟨j + 1, by omega, by go_num, Below.trans HBq.out (hbx.mono HBq.out.size), fun k hk => by
                by_cases e : k = j
                · rw [e, HYJ.out.1, HYJ.out.2, HMA.out.1, HMA.out.2]; exact HMB.out
                · exact HF.out k (by omega)⟩
              case measure => simp [intOf]; omega
            · have hmb : (mI != aI) = true := by simp [hma]
              have HMB := hide hma
              clear hma
              go_wp2
              go_ret2
              exact ⟨Or.inr ⟨by have := HNN.out; omega, HM.out, false, rfl, fun k => by (cases k), fun k => absurd (by
                have := (k i (by have := HNN.out; omega)).2 j hjl
                rw [HYZ.out.1, HYZ.out.2, HYJ.out.1, HYJ.out.2, HMA.out.1, HMA.out.2] at this
                exact this) HMB.out⟩, Below.trans HBX.out (hbx.mono HBX.out.size)⟩
          · have hin : j = i := by omega
            subst hin
            go_wp2
            go_roundw
            case rel => exact ⟨j + 1, by omega, by go_num, Below.trans HBU.out (HBq.out.mono HBU.out.size), fun k hk => by
              by_cases e : k = j
              · rw [e]; exact ⟨by rw [HYZ.out.1, HYZ.out.2]; exact HYE.out, fun k' hk' => by rw [HYZ.out.1, HYZ.out.2]; exact HF.out k' hk'⟩
              · exact HG.out k (by omega)⟩
            case measure => simp [intOf]; omega
    · have hin : i = n := by omega
      subst hin
      go_wp2
      go_ret2
      exact ⟨Or.inr ⟨by have := HNN.out; omega, HM.out, true, rfl, fun _ k hk => HG.out k (by have := HNN.out; omega), fun _ => rfl⟩, Below.trans HB2.out (HBr.out.mono HB2.out.size)⟩
end Go.Proofs.Ytgnojjbdioldbaa
