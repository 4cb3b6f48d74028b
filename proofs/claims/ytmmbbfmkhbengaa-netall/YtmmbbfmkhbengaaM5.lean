/- What every statement begins with, in every world. -/
import Derived.Test.YtmmbbfmkhbengaaM4
namespace Go.Proofs.Ytmmbbfmkhbengaa
open Go.RowKit Go.Sort
open Go

def smp : List Pt := [⟨0, 1⟩, ⟨1, 0⟩, ⟨2, 2⟩, ⟨1, 2⟩]
abbrev smpObj : Obj := .cells #[.int .i64 0, .int .i64 1, .int .i64 1, .int .i64 0, .int .i64 2, .int .i64 2, .int .i64 1, .int .i64 2] 60
theorem smp_lies (W : World) (n : Nat) (hn : n = W.heap.size) : Lies (W.alloc smpObj) n 0 smp := by
  subst hn
  intro j hj
  have hj4 : j < 4 := hj
  rcases (by omega : j = 0 ∨ j = 1 ∨ j = 2 ∨ j = 3) with rfl | rfl | rfl | rfl <;> (simp only [at', smp, List.getD_cons_zero, List.getD_cons_succ]; exact ⟨by go_cell, by go_cell⟩)
set_option maxHeartbeats 1000000 in
theorem sample34 (w : World) : Calls Try.prog 34 #[] w fun e w' => ∃ g, e = .returned (nv 3 (some ⟨g, 0, none⟩) 4 4) ∧ Lies w' g 0 smp ∧ Below w.heap.size w w' := by
  go_enter Try.func34, Try.ntmps34
  go_wp2
  go_returns
  exact ⟨_, rfl, smp_lies _ _ (by simp), by go_grown⟩
theorem smp_net : netB 3 smp = true := by decide
theorem smp_out : outN smp 2 4 = [4, 5, 7] := by decide
theorem smp_loops : loopsI smp = 1 := by decide
theorem smp_par : parI smp = 1 := by decide
theorem smp_pick : pick smp [3, 0] = [⟨1, 2⟩, ⟨0, 1⟩] := by decide
theorem smp_sub : subE 3 smp [3, 0] = 0 := by decide
theorem smp_same : sameB 3 3 smp smp = true := by decide
theorem smp_other : sameB 3 3 smp [⟨1, 2⟩, ⟨0, 1⟩] = false := by decide
theorem has2 (W : World) (n : Nat) (hn : n = W.heap.size) (a b : Int) : ILies (W.alloc (.cells #[.int .i64 a, .int .i64 b] 3)) n 0 [a, b] := by
  subst hn
  intro j hj
  simp at hj
  rcases (by omega : j = 0 ∨ j = 1) with rfl | rfl <;> (simp only [iat, List.getD_cons_zero, List.getD_cons_succ]; go_cell)
theorem bOut (g : Nat) (W : World) (h : Lies W g 0 smp) : Calls Try.prog 26 #[nv 3 (some ⟨g, 0, none⟩) 4 4, .int .i64 2] W fun e w' => ∃ b off c, e = .returned (.tuple #[.slice (some ⟨b, off, none⟩) 3 c, .int .i64 0]) ∧ w'.cell? ⟨b, off, none⟩ = some (.int .i64 4) ∧ Below W.heap.size W w' := by
  have O := out26 3 (some ⟨g, 0, none⟩) smp 4 2 W (Or.inr ⟨g, 0, rfl, h⟩)
  refine O.mono ?_
  rintro e w' ⟨hP, hb⟩
  rcases hP with ⟨_, _, s, rfl, ho⟩ | ⟨_, hP, _⟩ | ⟨hP, _⟩
  · rw [show outN smp 2 smp.length = [4, 5, 7] from smp_out] at ho
    obtain ⟨p, c, rfl, hh, _⟩ := ho.form
    rcases hh with hh | ⟨b, off, rfl, hl⟩
    · cases hh
    · have := hl 0 (by simp)
      exact ⟨b, off, c, rfl, this, hb⟩
  · exact absurd hP (by decide)
  · exact absurd hP (by decide)
theorem bLook (g : Nat) (W : World) (h : Lies W g 0 smp) : Calls Try.prog 33 #[nv 3 (some ⟨g, 0, none⟩) 4 4] W fun e w' => ∃ c d s, e = .returned (.tuple #[lv 1 1 c d s, .int .i64 0]) ∧ Below W.heap.size W w' := by
  have O := look33 3 (some ⟨g, 0, none⟩) smp 4 W (Or.inr ⟨g, 0, rfl, h⟩)
  refine O.mono ?_
  rintro e w' ⟨hP, hb⟩
  rcases hP with ⟨_, rfl⟩ | ⟨hP, _⟩
  · rw [smp_loops, smp_par]
    exact ⟨_, _, _, rfl, hb⟩
  · exact absurd hP (by decide)
theorem bSub (g k c : Nat) (W : World) (h : Lies W g 0 smp) (hk : ILies W k 0 [3, 0]) : Calls Try.prog 27 #[nv 3 (some ⟨g, 0, none⟩) 4 4, .slice (some ⟨k, 0, none⟩) 2 c] W fun e w' => ∃ b, e = .returned (.tuple #[nv 3 (some ⟨b, 0, none⟩) 2 2, .int .i64 0]) ∧ Lies w' b 0 [⟨1, 2⟩, ⟨0, 1⟩] ∧ Below W.heap.size W w' := by
  have O := sub27 3 (some ⟨g, 0, none⟩) (some ⟨k, 0, none⟩) smp [3, 0] 4 c W (by decide) (Or.inr ⟨g, 0, rfl, h⟩) (Or.inr ⟨k, 0, rfl, hk⟩)
  refine O.mono ?_
  rintro e w' ⟨hP, hb⟩
  rcases hP with ⟨_, b, rfl, hr⟩ | ⟨hP, _⟩
  · rw [smp_pick] at hr
    exact ⟨b, rfl, hr.2.lies, hb⟩
  · exact absurd smp_sub hP
theorem bMay (g : Nat) (W : World) (h : Lies W g 0 smp) : Calls Try.prog 13 #[nv 3 (some ⟨g, 0, none⟩) 4 4] W fun e w' => e = .returned (.bool true) ∧ Below W.heap.size W w' := by
  have O := may13 3 (some ⟨g, 0, none⟩) smp 4 W (Or.inr ⟨g, 0, rfl, h⟩)
  rw [smp_net] at O
  exact O
theorem bSame (g : Nat) (W : World) (h : Lies W g 0 smp) : Calls Try.prog 21 #[nv 3 (some ⟨g, 0, none⟩) 4 4, nv 3 (some ⟨g, 0, none⟩) 4 4] W fun e w' => e = .returned (.bool true) ∧ Below W.heap.size W w' := by
  have O := same21 3 3 (some ⟨g, 0, none⟩) (some ⟨g, 0, none⟩) smp smp 4 4 W (by decide) (Or.inr ⟨g, 0, rfl, h⟩) (Or.inr ⟨g, 0, rfl, h⟩)
  rw [smp_same] at O
  exact O
theorem bOther (g b : Nat) (W : World) (h : Lies W g 0 smp) (k : Lies W b 0 [⟨1, 2⟩, ⟨0, 1⟩]) : Calls Try.prog 21 #[nv 3 (some ⟨g, 0, none⟩) 4 4, nv 3 (some ⟨b, 0, none⟩) 2 2] W fun e w' => e = .returned (.bool false) ∧ Below W.heap.size W w' := by
  have O := same21 3 3 (some ⟨g, 0, none⟩) (some ⟨b, 0, none⟩) smp [⟨1, 2⟩, ⟨0, 1⟩] 4 2 W (by decide) (Or.inr ⟨g, 0, rfl, h⟩) (Or.inr ⟨b, 0, rfl, k⟩)
  rw [smp_other] at O
  exact O
theorem nown_new (w : World) (n : Int) (p : Option Addr) (l c : Nat) : NOwn (w.alloc (nbx n p l c)) w.heap.size n p l c := ⟨by go_cell, by go_cell, by simp [go_sem], by simp [go_sem]⟩
set_option maxRecDepth 100000 in
set_option maxHeartbeats 8000000 in
theorem begun8 (w : World) : Calls Try.prog 8 #[] w fun e w' => e = .returned (.bool true) ∧ Below w.heap.size w w' := by
  go_enter Try.func8, Try.ntmps8
  go_wp2_with fail
  refine (sample34 _).mono ?_
  rintro e w1 ⟨g, rfl, hL, hb1⟩
  obtain ⟨W1, hW1⟩ : ∃ W1, W1 = w1.alloc (nbx 3 (some ⟨g, 0, none⟩) 4 4) := ⟨_, rfl⟩
  have hbW1 : Below w1.heap.size w1 W1 := by rw [hW1]; go_grown
  have HB1 := hide (below_step hb1 hbW1)
  have HL1 := hide (hL.later hbW1)
  have N1 : NOwn W1 w1.heap.size 3 (some ⟨g, 0, none⟩) 4 4 := by rw [hW1]; exact nown_new _ _ _ _ _
  have HN1 := hide N1
  clear hL hb1 hbW1 N1
  obtain ⟨gn, hgn⟩ : ∃ gn, gn = w1.heap.size := ⟨_, rfl⟩
  rw [← hgn] at HN1
  go_wp2_with fail
  rw [show w1.alloc (nbx 3 (some ⟨g, 0, none⟩) 4 4) = W1 from hW1.symm, ← hgn]
  clear hW1 hgn
  refine (bOut g W1 HL1.out).mono ?_
  rintro e w2 ⟨bo, oo, co, rfl, hc, hb⟩
  have HC2 := hide hc
  have HB2 := hide (below_step HB1.out hb)
  have HL2 := hide (HL1.out.later hb)
  have HN2 := hide (HN1.out.later hb)
  clear hc hb
  obtain ⟨q0, q1, _, _⟩ := HN2.out
  go_wp2_with fail
  refine (bLook g w2 HL2.out).mono ?_
  rintro e w3 ⟨lc, ld, ls, rfl, hb⟩
  obtain ⟨W3, hW3⟩ : ∃ W3, W3 = (w3.alloc (lbx 1 1 lc ld ls)).alloc (.cells #[.int .i64 3, .int .i64 0] 3) := ⟨_, rfl⟩
  have hbW3 : Below w2.heap.size w2 W3 := below_step hb (by rw [hW3]; go_grown)
  have HC3 := hide (later hbW3 HC2.out)
  have HB3 := hide (below_step HB2.out hbW3)
  have HL3 := hide (HL2.out.later hbW3)
  have HN3 := hide (HN2.out.later hbW3)
  have K3 : LOwn W3 w3.heap.size 1 1 lc ld ls := by rw [hW3]; exact (lown_new _ _ _ _ _ _).later (by go_grown)
  have I3 : ILies W3 (w3.heap.size + 1) 0 [3, 0] := by rw [hW3]; exact has2 _ _ (by simp) _ _
  have HK3 := hide K3
  have HI3 := hide I3
  clear q0 q1
  obtain ⟨q0, q1, _, _⟩ := HN2.out.later hb
  have zn : gn < w3.heap.size := block_lt_of_cell q0
  clear hb hbW3 K3 I3
  go_wp2_with fail
  rw [show (w3.alloc (lbx 1 1 lc ld ls)).alloc (.cells #[.int .i64 3, .int .i64 0] 3) = W3 from hW3.symm]
  obtain ⟨gk, hgk⟩ : ∃ gk, gk = w3.heap.size := ⟨_, rfl⟩
  rw [← hgk] at HK3 HI3 ⊢
  clear hgk hW3 q0 q1 zn
  refine (bSub g _ _ W3 HL3.out HI3.out).mono ?_
  rintro e w4 ⟨gs, rfl, hs, hb⟩
  obtain ⟨W4, hW4⟩ : ∃ W4, W4 = w4.alloc (nbx 3 (some ⟨gs, 0, none⟩) 2 2) := ⟨_, rfl⟩
  have hb4 : Below w4.heap.size w4 W4 := by rw [hW4]; go_grown
  have HB4 := hide (below_step (below_step HB3.out hb) hb4)
  have HC4 := hide (later hb4 (later hb HC3.out))
  have HL4 := hide ((HL3.out.later hb).later hb4)
  have HN4 := hide ((HN3.out.later hb).later hb4)
  have HK4 := hide ((HK3.out.later hb).later hb4)
  have HS4 := hide (hs.later hb4)
  have M4 : NOwn W4 w4.heap.size 3 (some ⟨gs, 0, none⟩) 2 2 := by rw [hW4]; exact nown_new _ _ _ _ _
  have HM4 := hide M4
  obtain ⟨q0, q1, _, _⟩ := HN3.out.later hb
  have zn : gn < w4.heap.size := block_lt_of_cell q0
  clear hs hb hb4 M4
  go_wp2_with fail
  rw [show w4.alloc (nbx 3 (some ⟨gs, 0, none⟩) 2 2) = W4 from hW4.symm]
  obtain ⟨gm, hgm⟩ : ∃ gm, gm = w4.heap.size := ⟨_, rfl⟩
  rw [← hgm] at HM4 ⊢
  clear hgm hW4 q0 q1 zn
  refine (bMay g W4 HL4.out).mono ?_
  rintro e w5 ⟨rfl, hb⟩
  have HB5 := hide (below_step HB4.out hb)
  have HL5 := hide (HL4.out.later hb)
  have HN5 := hide (HN4.out.later hb)
  have HM5 := hide (HM4.out.later hb)
  have HS5 := hide (HS4.out.later hb)
  have c0 := later hb HC4.out
  obtain ⟨⟨k0, k1, _, _, _⟩, _⟩ := HK4.out.later hb
  obtain ⟨q0, q1, _, _⟩ := HN5.out
  obtain ⟨m0, m1, _, _⟩ := HM5.out
  clear hb
  go_wp2_with fail
  refine (bSame g w5 HL5.out).mono ?_
  rintro e w6 ⟨rfl, hb⟩
  have HB6 := hide (below_step HB5.out hb)
  have HL6 := hide (HL5.out.later hb)
  have HS6 := hide (HS5.out.later hb)
  clear q0 q1 m0 m1 k0 k1 c0
  obtain ⟨q0, q1, _, _⟩ := HN5.out.later hb
  obtain ⟨m0, m1, _, _⟩ := HM5.out.later hb
  clear hb
  go_wp2_with fail
  refine (bOther g gs w6 HL6.out HS6.out).mono ?_
  rintro e w7 ⟨rfl, hb⟩
  have HB7 := hide (below_step HB6.out hb)
  clear hb q0 q1 m0 m1
  go_wp2
  go_ret
  exact ⟨rfl, HB7.out⟩
end Go.Proofs.Ytmmbbfmkhbengaa
