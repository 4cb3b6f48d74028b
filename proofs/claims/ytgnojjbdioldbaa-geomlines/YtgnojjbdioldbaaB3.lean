/- Box, in every world: its answer. -/
import Derived.Test.YtgnojjbdioldbaaB2
namespace Go.Proofs.Ytgnojjbdioldbaa
open Go.RowKit Go.Sort
open Go
theorem min_if (a b : Int) : (if b < a then b else a) = min a b := by split <;> omega
theorem max_if (a b : Int) : (if a < b then b else a) = max a b := by split <;> omega
set_option maxRecDepth 100000 in
set_option maxHeartbeats 4000000 in
theorem box7some (p : Option Addr) (ps : List Pt) (cap : Nat) (w : World) (hcap : ps.length ≤ cap) (hm : mayB ps = true) (h0 : ¬ ps = []) (h : Has w p ps) : Calls Try.prog 25 #[.slice p ps.length cap] w fun e w' => e = .returned (.tuple #[pv (boxLo ps).x (boxLo ps).y, pv (boxHi ps).x (boxHi ps).y, .int .i64 (boxE ps)]) ∧ Below w.heap.size w w' := by
  obtain ⟨W, hW, hb, q⟩ := zeros w
  have M := may15 p ps cap W (h.later hb)
  have H := hide (h.later hb)
  have HB := hide hb
  have HQ := hide q
  have hl : ps.length ≤ 4096 := by simp [mayB] at hm; exact hm.1
  have h1 : 0 < ps.length := List.length_pos_iff.2 h0
  clear h hb q
  rw [hm] at M
  have M' := hide M
  clear M
  rcases H.out with h | ⟨b, off, rfl, hL⟩
  · exact absurd h h0
  go_enter Try.func25, Try.ntmps25
  go_wp2_with fail
  rw [← hW]
  clear hW
  refine M'.out.mono ?_
  rintro e w1 ⟨rfl, hb1⟩
  have HB1 := hide (Below.trans HB.out (hb1.mono HB.out.size))
  have HQ1 := hide (HQ.out.later hb1)
  have HL := hide (Lies.later hL hb1)
  obtain ⟨c0, c1⟩ := HL.out 0 h1
  rw [Nat.zero_mul, Nat.add_zero] at c0 c1
  have e1 : (0 : Int) < ps.length := by omega
  have C0 : Hid (w1.cell? ⟨b, off, none⟩ = some (.int .i64 (at' ps 0).x) ∧ w1.cell? ⟨b, off + 1, none⟩ = some (.int .i64 (at' ps 0).y)) := ⟨c0, c1⟩
  clear hb1 hL
  obtain ⟨x, hx⟩ : ∃ x, at' ps 0 = x := ⟨_, rfl⟩
  rw [hx] at c0 c1 C0
  go_wp2_with fail
  go_region_held3 (fun W => W.cell? ⟨b, off, none⟩ = some (.int .i64 x.x) ∧ W.cell? ⟨b, off + 1, none⟩ = some (.int .i64 x.y))
    (first | exact C0.out | (refine keep2 (W := w1) C0.out ?_; go_grown))
    (first | fail)
  focus
    obtain ⟨U, hU⟩ : ∃ U, U = ((w1.alloc (bx x)).alloc (bx x)).drew := ⟨_, rfl⟩
    have hbU : Hid (Below w1.heap.size w1 U) := by show Below _ _ _; rw [hU]; go_grown
    have k2 := two_x w1 x
    rw [← hU] at k2
    obtain ⟨ga, hga⟩ : ∃ n, n = w1.heap.size := ⟨_, rfl⟩
    obtain ⟨gb, hgb⟩ : ∃ n, n = w1.heap.size + 1 := ⟨_, rfl⟩
    have hge : w1.heap.size ≤ ga ∧ w1.heap.size ≤ gb ∧ ga ≠ gb := by omega
    rename_i hHeld
    clear hHeld
    rw [← hU]
    rw [← hgb, ← hga] at k2 ⊢
    have K2 := hide k2
    clear hU hga hgb k2
  rotate_left
  focus
    obtain ⟨U, hU⟩ : ∃ U, U = ((w1.alloc (bx x)).alloc (bx x)).drew := ⟨_, rfl⟩
    have hbU : Hid (Below w1.heap.size w1 U) := by show Below _ _ _; rw [hU]; go_grown
    have k2 := (two_x w1 x).symm2
    rw [← hU] at k2
    obtain ⟨gb, hgb⟩ : ∃ n, n = w1.heap.size := ⟨_, rfl⟩
    obtain ⟨ga, hga⟩ : ∃ n, n = w1.heap.size + 1 := ⟨_, rfl⟩
    have hge : w1.heap.size ≤ ga ∧ w1.heap.size ≤ gb ∧ ga ≠ gb := by omega
    rename_i hHeld
    clear hHeld
    rw [← hU]
    rw [← hga, ← hgb] at k2 ⊢
    have K2 := hide k2
    clear hU hga hgb k2
  rotate_left
  all_goals
    clear c0 c1 C0
    by_cases hc : cap = 1
    all_goals try subst hc
    all_goals
      have h2 : w.heap.size + 1 < w1.heap.size := block_lt_of_cell HQ1.out.2.1
      go_wp2_with fail
      go_loopw [28] (fun t wr => ∃ i : Nat, i ≤ ps.length - 1 ∧ t = .int .i64 i ∧ Hid (Below w1.heap.size w1 wr) ∧ Hid (Own2 wr ga gb (loN ps i) (hiN ps i))) (fun t _ => ps.length - (intOf t).toNat)
      case atStart =>
        refine ⟨0, by omega, rfl, hbU.out, ?_⟩
        subst hx
        exact K2.out
      case round =>
        obtain ⟨i, hi, rfl, HBr, HO⟩ := hrel
        by_cases hlt : i < ps.length - 1
        rotate_left
        · have hin : i = ps.length - 1 := by omega
          have hfin := hin
          rw [hin] at HO ⊢
          have HQ2 := hide (HQ1.out.later HBr.out)
          obtain ⟨⟨q0, q1, q2, q3⟩, q4, q5, q6, q7⟩ := HO.out
          obtain ⟨⟨r0, r1, r2, r3⟩, r4, r5, r6, r7⟩ := HQ2.out
          have elo : Hid (boxLo ps = loN ps (ps.length - 1)) := by show _ = _; rw [boxLo, hm, if_pos rfl, if_neg (by omega)]
          have ehi : Hid (boxHi ps = hiN ps (ps.length - 1)) := by show _ = _; rw [boxHi, hm, if_pos rfl, if_neg (by omega)]
          have eE : Hid (boxE ps = 0) := by show _ = _; rw [boxE, hm, if_pos rfl, if_neg (by omega)]
          have HB3 := hide (Below.trans HB1.out (HBr.out.mono HB1.out.size))
          obtain ⟨f, hf⟩ : ∃ f, loN ps (ps.length - 1) = f := ⟨_, rfl⟩
          obtain ⟨g, hg⟩ : ∃ g, hiN ps (ps.length - 1) = g := ⟨_, rfl⟩
          rw [hf] at q0 q1 HO elo
          rw [hg] at q4 q5 HO ehi
          clear hf hg hin hfin
          go_wp2_with fail
          have n1 : ga ≠ w.heap.size := by omega
          have n2 : ga ≠ w.heap.size + 1 := by omega
          have n3 : gb ≠ w.heap.size := by omega
          have n4 : gb ≠ w.heap.size + 1 := by omega
          go_region
          obtain ⟨V, hV, kV, bV⟩ := set4 HQ2.out (by omega) f g
          have hVB := bV w.heap.size w (Nat.le_refl _) (by omega) HB3.out
          have kD : Hid (Own2 V.drew w.heap.size (w.heap.size + 1) f g) := kV.later (by go_grown)
          have hDB : Hid (Below w.heap.size w V.drew) := by show Below _ _ _; go_grown
          rw [← hV]
          clear hV bV kV hVB q0 q1 q2 q3 q4 q5 q6 q7 r0 r1 r2 r3 r4 r5 r6 r7
          go_wp2_with fail
          exact bodyPost_ret (ret_box rfl rfl rfl kD.out) rfl ⟨by rw [elo.out, ehi.out, eE.out], hDB.out⟩
        all_goals try (exfalso; omega)
        all_goals
          obtain ⟨c0, c1⟩ := HL.out.later HBr.out (i + 1) (by omega)
          rw [show off + (i + 1) * 2 = off + 2 + i * 2 by omega] at c0 c1
          obtain ⟨⟨q0, q1, q2, q3⟩, q4, q5, q6, q7⟩ := HO.out
          have z1 : ga < wr.heap.size := block_lt_of_cell q0
          have z2 : gb < wr.heap.size := block_lt_of_cell q4
          have zb : b < wr.heap.size := block_lt_of_cell c0
          have elo : Hid (loN ps (i + 1) = ⟨min (loN ps i).x (at' ps (i + 1)).x, min (loN ps i).y (at' ps (i + 1)).y⟩) := rfl
          have ehi : Hid (hiN ps (i + 1) = ⟨max (hiN ps i).x (at' ps (i + 1)).x, max (hiN ps i).y (at' ps (i + 1)).y⟩) := rfl
          obtain ⟨f, hf⟩ : ∃ f, loN ps i = f := ⟨_, rfl⟩
          obtain ⟨g, hg⟩ : ∃ g, hiN ps i = g := ⟨_, rfl⟩
          obtain ⟨q, hq⟩ : ∃ q, at' ps (i + 1) = q := ⟨_, rfl⟩
          rw [hf] at q0 q1 HO elo
          rw [hg] at q4 q5 HO ehi
          rw [hq] at c0 c1 elo ehi
          clear hf hg hq
          go_wp2_with fail
          go_roundw
          case rel =>
            obtain ⟨V, hV, kV, bV⟩ := set4 HO.out hge.2.2 (loN ps (i + 1)) (hiN ps (i + 1))
            rw [elo.out, ehi.out] at hV
            simp only [← min_if, ← max_if] at hV
            rw [← hV]
            refine ⟨i + 1, by omega, by go_num, ?_, ?_⟩
            · have hb := bV w1.heap.size w1 hge.1 hge.2.1 HBr.out
              show Below _ _ _
              go_grown
              exact hb.size
            · exact kV.later (by go_grown)
          case measure => simp [intOf]; omega

theorem box7 (p : Option Addr) (ps : List Pt) (cap : Nat) (w : World) (hcap : ps.length ≤ cap) (h : Has w p ps) : Calls Try.prog 25 #[.slice p ps.length cap] w fun e w' => e = .returned (.tuple #[pv (boxLo ps).x (boxLo ps).y, pv (boxHi ps).x (boxHi ps).y, .int .i64 (boxE ps)]) ∧ Below w.heap.size w w' := by
  cases hm : mayB ps
  · exact box7no p ps cap w h hm
  · by_cases h0 : ps = []
    · subst h0; exact box7nil p cap w
    · exact box7some p ps cap w hcap hm h0 h
end Go.Proofs.Ytgnojjbdioldbaa
