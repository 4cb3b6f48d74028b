/- GeomAround's walk. -/
import Derived.Test.YtgnojjbdioldbaaI3
import Derived.Test.YtgnojjbdioldbaaI4
namespace Go.Proofs.Ytgnojjbdioldbaa
open Go.RowKit Go.Sort
open Go

def aE (o : Pt) (ps : List Pt) (i : Nat) : Int := if o ∈ ps.take i then 1 else errI (o :: ps)
theorem aE_step {o : Pt} {ps : List Pt} {i : Nat} (hi : i < ps.length) : aE o ps (i + 1) = if at' ps i = o then 1 else aE o ps i := by
  have e : ps.take (i + 1) = ps.take i ++ [at' ps i] := by
    unfold at'
    rw [List.take_add_one, List.getD_eq_getElem?_getD, List.getElem?_eq_getElem hi]; rfl
  unfold aE
  rw [e]
  by_cases h : at' ps i = o
  · rw [if_pos (by simp [h]), if_pos h]
  · rw [if_neg h]
    have : (o ∈ ps.take i ++ [at' ps i]) ↔ o ∈ ps.take i := by
      rw [List.mem_append, List.mem_singleton]
      exact ⟨fun k => k.elim id fun k => absurd k.symm h, Or.inl⟩
    simp only [this]
theorem aE_all {o : Pt} {ps : List Pt} (hl : ps.length ≤ 200) : aE o ps ps.length = if arB o ps then 0 else 1 := by
  have e : mayB (o :: ps) = (ptB o && mayB ps) := by
    unfold mayB
    rw [List.all_cons, List.length_cons, decide_eq_true (show ps.length + 1 ≤ 4096 by omega), decide_eq_true (show ps.length ≤ 4096 by omega)]
    simp
  unfold aE errI arB
  rw [List.take_length, e]
  by_cases h : o ∈ ps
  · simp [h]
  · simp [h]
theorem ar_parts {o : Pt} {ps : List Pt} (h : arB o ps = true) : ptB o = true ∧ (∀ j, j < ps.length → ptB (at' ps j) = true) ∧ (∀ j, j < ps.length → at' ps j ≠ o) := by
  have h' : (ptB o = true ∧ mayB ps = true) ∧ o ∉ ps := by simpa [arB] using h
  exact ⟨h'.1.1, fun j hj => mayB_at h'.1.2 hj, fun j hj e => h'.2 (by rw [← e]; exact at_mem hj)⟩
set_option maxRecDepth 100000 in
set_option maxHeartbeats 8000000 in
theorem around_walk (p : Option Addr) (ps : List Pt) (cap : Nat) (o : Pt) (w : World) (hnil : p = none → cap = 0) (h : Has w p ps) : Calls Try.prog 6 #[pv o.x o.y, .slice p ps.length cap] w fun e w' => e = .returned (.bool true) ∧ Below w.heap.size w w' := by
  obtain ⟨W, hW, hbW, ow⟩ := one_pt w o
  have HH := hide (h.later hbW)
  have HB := hide hbW
  have HO := hide ow
  clear h hbW ow
  go_enter Try.func6, Try.ntmps6
  go_wp2_with fail
  rw [← hW]
  clear hW
  refine (begun9 _).mono ?_
  rintro e w1 ⟨rfl, hb1⟩
  have HB1 := hide (below_step9 HB.out hb1)
  have HH1 := hide (HH.out.later hb1)
  have HO1 := hide (HO.out.later hb1)
  clear hb1 HB HH HO
  by_cases hbig : (200 : Int) < ps.length
  · go_wp2_with fail
    go_ret
    exact ⟨rfl, HB1.out⟩
  have hl : ps.length ≤ 200 := by omega
  obtain ⟨q0, q1, _, _⟩ := HO1.out
  have hbA : Below w1.heap.size w1 (w1.alloc (.cells #[.int .i64 o.x, .int .i64 o.y] 23)) := by go_grown
  have oA : Owns (w1.alloc (.cells #[.int .i64 o.x, .int .i64 o.y] 23)) w1.heap.size (.slice (some ⟨w1.heap.size, 0, none⟩) 1 1) [o] := World.ownsRow_lit w1 #[.int .i64 o.x, .int .i64 o.y] 1 (Nat.le_refl _) (by unfold maxLen; omega) rfl
  obtain ⟨v2, D2, e2, o2, gr2⟩ := append_prs oA p cap ps hnil (HH1.out.later hbA) hbA.size (by simp; omega)
  have hb2 : Below w1.heap.size w1 D2 := below_grown hbA oA (Nat.le_refl _) hbA.size gr2
  rw [show [o] ++ ps = o :: ps from rfl] at o2
  obtain ⟨p2, c2, rfl, hhas2, _, _, _⟩ := o2.form
  have ER := hide (err10 p2 (o :: ps) c2 D2 hhas2)
  have HB2 := hide hb2
  clear o2 oA gr2 hb2 hbA hhas2
  go_wp2_with (first | (at_builtin; refine wpList_run_append (by rfl) (.tmp 18) (.tmp 19) 27 (by rfl) 27 (by rfl) (.slice (some ⟨w1.heap.size, 0, none⟩) 1 1) (.slice p ps.length cap) (.slice p2 (o :: ps).length c2) D2 (by rfl) (by rfl) e2 ?_))
  refine ER.out.mono ?_
  rintro e w3 ⟨rfl, hb3⟩
  have hb13 := below_step9 HB2.out hb3
  have HB3 := hide (below_step9 HB1.out hb13)
  have HH3 := hide (HH1.out.later hb13)
  have HO3 := hide (HO1.out.later hb13)
  clear hb3 hb13 HB1 HB2 HH1 HO1 q0 q1 e2 ER
  have HST : Hid (errI (o :: ps) = aE o ps 0) := by show _ = _; unfold aE; simp
  obtain ⟨E0, hE0⟩ : ∃ x, errI (o :: ps) = x := ⟨_, rfl⟩
  rw [hE0] at HST ⊢
  clear hE0
  go_upto_block 0 with fail
  go_cut [5, 6] (fun s5 s6 wx => s5 = .int .i64 (aE o ps ps.length) ∧ Hid (Below w3.heap.size w3 wx))
  case first =>
    go_wp2_with fail
    go_loopw [5, 6] (fun s t wr => ∃ i : Nat, i ≤ ps.length ∧ t = .int .i64 i ∧ s = .int .i64 (aE o ps i) ∧ Hid (Below w3.heap.size w3 wr)) (fun _ t _ => ps.length - (intOf t).toNat)
    case atStart => exact ⟨0, by omega, rfl, by rw [HST.out], Below.refl _ _⟩
    case round =>
      obtain ⟨i, hi, rfl, rfl, HBr⟩ := hrel
      have hst := fun h => aE_step (o := o) (ps := ps) (i := i) h
      obtain ⟨X, hX⟩ : ∃ x, aE o ps i = x := ⟨_, rfl⟩
      rw [hX] at hst ⊢
      by_cases hlt : i < ps.length
      · rcases HH3.out.later HBr.out with h | ⟨b, off, rfl, hL⟩
        · subst h; simp at hlt
        obtain ⟨c0, c1⟩ := hL i hlt
        obtain ⟨q0, q1, _, _⟩ := HO3.out.later HBr.out
        have HS := hide (hst hlt)
        obtain ⟨y, hy⟩ : ∃ y, at' ps i = y := ⟨_, rfl⟩
        rw [hy] at c0 c1 HS
        have i1 : (i : Int) < ps.length := by omega
        have i2 : (0 : Int) ≤ i := by omega
        clear hL hy hst hX
        by_cases hyo : y = o
        · have heq : ∀ w, (Op.equalIn 10000 23 (pv y.x y.y) (pv o.x o.y)).run Try.prog w = .ok true w := fun w => by
            have := eq23 y o w
            rw [decide_eq_true hyo] at this
            exact this
          rw [if_pos hyo] at HS
          go_wp2_with fail
          go_region
          go_wp2
          go_roundw
          case rel => exact ⟨i + 1, by omega, by go_num, by rw [HS.out], Below.trans HBr.out ((below_drew4 _).mono HBr.out.size)⟩
          case measure => simp [intOf]; omega
        · have heq : ∀ w, (Op.equalIn 10000 23 (pv y.x y.y) (pv o.x o.y)).run Try.prog w = .ok false w := fun w => by
            have := eq23 y o w
            rw [decide_eq_false hyo] at this
            exact this
          rw [if_neg hyo] at HS
          go_wp2_with fail
          go_region
          go_wp2
          go_roundw
          case rel => exact ⟨i + 1, by omega, by go_num, by rw [HS.out], Below.trans HBr.out ((below_drew4 _).mono HBr.out.size)⟩
          case measure => simp [intOf]; omega
      · have hin : i = ps.length := by omega
        subst hin
        go_wp2
        go_meet
        case rel => exact ⟨by rw [hX], HBr.out⟩
  case rest =>
    obtain ⟨rfl, HBx⟩ := hcut
    have HB4 := hide (below_step9 HB3.out HBx.out)
    have HH4 := hide (HH3.out.later HBx.out)
    have HO4 := hide (HO3.out.later HBx.out)
    rw [aE_all hl]
    obtain ⟨EE, hEE⟩ : ∃ x : Int, (if arB o ps = true then (0 : Int) else 1) = x := ⟨_, rfl⟩
    rw [hEE]
    have HEE := hide hEE
    clear hEE
    clear HBx HB3 HH3 HO3 HST
    have TW := hide (twin19 p ps cap wc hnil (by omega) HH4.out)
    go_wp2_with fail
    refine TW.out.mono ?_
    rintro e w5 ⟨g, c, rfl, lx, hc, hb5⟩
    have HB5 := hide (below_step9 HB4.out hb5)
    have HH5 := hide (HH4.out.later hb5)
    have HO5 := hide (HO4.out.later hb5)
    have HX5 := hide lx
    clear hb5 lx TW HB4 HH4 HO4
    obtain ⟨q0, q1, _, _⟩ := HO5.out
    cases har : arB o ps
    · have hE1 : EE = 1 := by rw [← HEE.out, har]; rfl
      subst hE1
      have AR := hide (around20no (some ⟨g, 0, none⟩) ps c o w5 (Or.inr ⟨g, 0, rfl, lies_left HX5.out⟩) har)
      go_wp2_with fail
      refine AR.out.mono ?_
      rintro e w6 ⟨rfl, hb6⟩
      have HB6 := hide (below_step9 HB5.out hb6)
      have KP := hide (kept21 g c p ps cap w6 (by omega) hc (HX5.out.later hb6) (HH5.out.later hb6))
      clear hb6 q0 q1 AR
      go_wp2_with fail
      refine KP.out.mono ?_
      rintro e w7 ⟨rfl, hb7⟩
      go_wp2_with fail
      go_ret
      exact ⟨rfl, below_step9 HB6.out hb7⟩
    · have hE1 : EE = 0 := by rw [← HEE.out, har]; rfl
      subst hE1
      have AR := hide (around20 (some ⟨g, 0, none⟩) ps c o w5 (Or.inr ⟨g, 0, rfl, lies_left HX5.out⟩) har)
      go_wp2_with fail
      refine AR.out.mono ?_
      rintro e w6 ⟨b, l, rfl, hll, hpm, hpw, hia, _, hb6⟩
      have HB6 := hide (below_step9 HB5.out hb6)
      have HH6 := hide (HH5.out.later hb6)
      have HO6 := hide (HO5.out.later hb6)
      have HOL : Hid (Ordered o ps ps.length l) := ⟨hpm, hpw⟩
      have HIA := hide hia
      have HLL := hide hll
      have KP := hide (kept21 g c p ps cap w6 (by omega) hc (HX5.out.later hb6) HH6.out)
      clear hb6 q0 q1 AR hia hpm hpw hll HB5 HH5 HO5 HX5
      go_wp2_with fail
      refine KP.out.mono ?_
      rintro e w7 ⟨rfl, hb7⟩
      have HB7 := hide (below_step9 HB6.out hb7)
      have HH7 := hide (HH6.out.later hb7)
      have HO7 := hide (HO6.out.later hb7)
      have HIA7 : Hid (IntsAt w7 b l) := fun j hj => later hb7 (HIA.out j hj)
      obtain ⟨a1, a2, a3⟩ := ar_parts har
      have RA := hide (around22 p ps cap o w7 (by omega) a1 a2 a3 HH7.out)
      have HA3 := hide a3
      clear hb7 KP HB6 HH6 HO6 HIA a1 a2 a3
      obtain ⟨q0, q1, _, _⟩ := HO7.out
      go_wp2_with fail
      refine RA.out.mono ?_
      rintro e w8 ⟨v, L, rfl, hOL, hIO, hb8⟩
      have HB8 := hide (below_step9 HB7.out hb8)
      have HIA8 : Hid (IntsAt w8 b l) := fun j hj => later hb8 (HIA7.out j hj)
      have hlL : l = L := ordered_one HOL.out hOL HA3.out
      subst hlL
      obtain ⟨p8, c8, hv8, hh8, _, _, _⟩ := hIO.form
      rw [ints_length, HLL.out] at hv8
      subst hv8
      have HH8 := hide hh8
      clear hb8 hIO hh8 q0 q1 RA hOL HB7 HIA7 HOL HA3
      go_wp2_with fail
      go_loopw [11] (fun t wr => ∃ i : Nat, i ≤ ps.length ∧ t = .int .i64 i ∧ Hid (Below w8.heap.size w8 wr)) (fun t _ => ps.length - (intOf t).toNat)
      case atStart => exact ⟨0, by omega, rfl, Below.refl _ _⟩
      case round =>
        obtain ⟨i, hi, rfl, HBr⟩ := hrel
        by_cases hlt : i < ps.length
        · rcases HH8.out.later HBr.out with h | ⟨b8, off8, rfl, hL8⟩
          · exfalso
            have hz : (ints l).length = 0 := by rw [h]; rfl
            rw [ints_length, HLL.out] at hz
            omega
          have d0 := hL8 i (by rw [ints_length, HLL.out]; exact hlt)
          rw [iat_ints] at d0
          have d1 : wr.cell? ⟨b, i, none⟩ = some (.int .i64 (nat' l i : Nat)) := later HBr.out (HIA8.out i (by rw [HLL.out]; exact hlt))
          obtain ⟨y, hy⟩ : ∃ y, nat' l i = y := ⟨_, rfl⟩
          rw [hy] at d0 d1
          have i1 : (i : Int) < ps.length := by omega
          have i2 : (0 : Int) ≤ i := by omega
          clear hL8 hy
          go_wp2_with fail
          go_region
          go_wp2
          go_roundw
          case rel => exact ⟨i + 1, by omega, by go_num, Below.trans HBr.out ((below_drew4 _).mono HBr.out.size)⟩
          case measure => simp [intOf]; omega
        · have hin : i = ps.length := by omega
          subst hin
          go_wp2
          go_ret
          exact ⟨rfl, below_step9 HB8.out HBr.out⟩
end Go.Proofs.Ytgnojjbdioldbaa
