/- GeomBoxes, in every world. -/
import Derived.Test.YtgnojjbdioldbabB3
import Derived.Test.YtgnojjbdioldbabG18
namespace Go.Proofs.Ytgnojjbdioldbab
open Go.RowKit Go.Sort
open Go
def seenB (f : Nat → Int) (v : Int) : Nat → Bool
  | 0 => false
  | k + 1 => seenB f v k || (f k == v)
theorem seenB_of {f : Nat → Int} {v : Int} : ∀ {n j : Nat}, j < n → f j = v → seenB f v n = true
  | 0, j, h, _ => by omega
  | n + 1, j, h, e => by
    simp only [seenB, Bool.or_eq_true, beq_iff_eq]
    rcases Nat.lt_or_ge j n with h1 | h1
    · exact Or.inl (seenB_of h1 e)
    · have : j = n := by omega
      subst this; exact Or.inr e
def bxs (w2 : World) (lo hi : Pt) : World := (w2.alloc (bx lo)).alloc (bx hi)
theorem bxs_own (w2 : World) (lo hi : Pt) : Own2 (bxs w2 lo hi) w2.heap.size (w2.heap.size + 1) lo hi := ⟨⟨by unfold bxs; go_cell, by unfold bxs; go_cell, by simp [bxs, go_sem], by simp [bxs, go_sem]⟩, by unfold bxs; go_cell, by unfold bxs; go_cell, by simp [bxs, go_sem], by simp [bxs, go_sem]⟩
theorem below_step9 {a b c : World} (h : Below a.heap.size a b) (k : Below b.heap.size b c) : Below a.heap.size a c := Below.trans h (k.mono h.size)
set_option maxRecDepth 100000 in
set_option maxHeartbeats 4000000 in
theorem boxes_walk (p : Option Addr) (ps : List Pt) (cap : Nat) (w : World) (hcap : ps.length ≤ cap) (h : Has w p ps) : Calls Try.prog 3 #[.slice p ps.length cap] w fun e w' => e = .returned (.bool true) ∧ Below w.heap.size w w' := by
  have HH := hide h
  clear h
  by_cases hE : boxE ps = 0
  · have hm : mayB ps = true := by
      unfold boxE at hE
      by_cases h : mayB ps = true
      · exact h
      · rw [if_neg h] at hE; omega
    have hn : 0 < ps.length := by
      unfold boxE at hE
      rw [if_pos hm] at hE
      by_cases h : ps.length = 0
      · rw [if_pos h] at hE; omega
      · omega
    have elo : boxLo ps = loN ps (ps.length - 1) := by rw [boxLo, hm, if_pos rfl, if_neg (by omega)]
    have ehi : boxHi ps = hiN ps (ps.length - 1) := by rw [boxHi, hm, if_pos rfl, if_neg (by omega)]
    have hl : ps.length ≤ 4096 := by simp [mayB] at hm; exact hm.1
    obtain ⟨lo, hlo⟩ : ∃ lo, boxLo ps = lo := ⟨_, rfl⟩
    obtain ⟨hi, hhi⟩ : ∃ hi, boxHi ps = hi := ⟨_, rfl⟩
    have FB : Hid (∀ j, j < ps.length → (lo.x ≤ (at' ps j).x ∧ (at' ps j).x ≤ hi.x) ∧ lo.y ≤ (at' ps j).y ∧ (at' ps j).y ≤ hi.y) := fun j hj => by
      rw [← hlo, ← hhi, elo, ehi]
      exact ⟨⟨mnN_le _ _ j (by omega), le_mxN _ _ j (by omega)⟩, mnN_le _ _ j (by omega), le_mxN _ _ j (by omega)⟩
    have FS : Hid ((seenB (fun j => (at' ps j).x) lo.x ps.length = true ∧ seenB (fun j => (at' ps j).x) hi.x ps.length = true) ∧ seenB (fun j => (at' ps j).y) lo.y ps.length = true ∧ seenB (fun j => (at' ps j).y) hi.y ps.length = true) := by
      rw [← hlo, ← hhi, elo, ehi]
      obtain ⟨j1, a1, b1⟩ := mnN_at (fun j => (at' ps j).x) (ps.length - 1)
      obtain ⟨j2, a2, b2⟩ := mxN_at (fun j => (at' ps j).x) (ps.length - 1)
      obtain ⟨j3, a3, b3⟩ := mnN_at (fun j => (at' ps j).y) (ps.length - 1)
      obtain ⟨j4, a4, b4⟩ := mxN_at (fun j => (at' ps j).y) (ps.length - 1)
      exact ⟨⟨seenB_of (j := j1) (by omega) b1, seenB_of (j := j2) (by omega) b2⟩, seenB_of (j := j3) (by omega) b3, seenB_of (j := j4) (by omega) b4⟩
    go_enter Try.func3, Try.ntmps3
    go_wp2_with fail
    refine (begun9 _).mono ?_
    rintro e w1 ⟨rfl, hb⟩
    have A := hide (box7 p ps cap w1 hcap (HH.out.later hb))
    have HB := hide hb
    have HH1 := hide (HH.out.later hb)
    clear hb
    rw [hlo, hhi, hE] at A
    clear elo ehi hlo hhi
    by_cases h300 : ps.length ≤ 300
    · go_wp2_with fail
      refine A.out.mono ?_
      rintro e w2 ⟨rfl, hb⟩
      obtain ⟨U, hU⟩ : ∃ U, U = bxs w2 lo hi := ⟨_, rfl⟩
      have hbU : Below w2.heap.size w2 U := by rw [hU]; unfold bxs; go_grown
      have HQ : Hid (Own2 U w2.heap.size (w2.heap.size + 1) lo hi) := by show Own2 _ _ _ _ _; rw [hU]; exact bxs_own w2 lo hi
      have HB2 := hide (below_step9 (below_step9 HB.out hb) hbU)
      have HH2 := hide ((HH1.out.later hb).later hbU)
      clear hb hbU
      go_wp2_with fail
      rw [show (w2.alloc (bx lo)).alloc (bx hi) = U from hU.symm]
      clear hU
      go_loopw [6, 7, 8, 9, 10] (fun f1 f2 f3 f4 t wr => ∃ i : Nat, i ≤ ps.length ∧ f1 = .bool (seenB (fun j => (at' ps j).x) lo.x i) ∧ f2 = .bool (seenB (fun j => (at' ps j).x) hi.x i) ∧ f3 = .bool (seenB (fun j => (at' ps j).y) lo.y i) ∧ f4 = .bool (seenB (fun j => (at' ps j).y) hi.y i) ∧ t = .int .i64 i ∧ Hid (Below U.heap.size U wr)) (fun _ _ _ _ t _ => ps.length - (intOf t).toNat)
      case atStart => exact ⟨0, by omega, rfl, rfl, rfl, rfl, rfl, by show Below _ _ _; exact Below.refl _ _⟩
      case round =>
        obtain ⟨i, hi', rfl, rfl, rfl, rfl, rfl, HBr⟩ := hrel
        by_cases hlt : i < ps.length
        · obtain ⟨⟨q0, q1, _, _⟩, q4, q5, _, _⟩ := HQ.out.later HBr.out
          rcases HH2.out.later HBr.out with h | ⟨b, off, rfl, hL⟩
          · subst h; simp at hlt
          obtain ⟨c0, c1⟩ := hL i hlt
          have fb := FB.out i hlt
          have e1 : seenB (fun j => (at' ps j).x) lo.x (i + 1) = (seenB (fun j => (at' ps j).x) lo.x i || ((at' ps i).x == lo.x)) := rfl
          have e2 : seenB (fun j => (at' ps j).x) hi.x (i + 1) = (seenB (fun j => (at' ps j).x) hi.x i || ((at' ps i).x == hi.x)) := rfl
          have e3 : seenB (fun j => (at' ps j).y) lo.y (i + 1) = (seenB (fun j => (at' ps j).y) lo.y i || ((at' ps i).y == lo.y)) := rfl
          have e4 : seenB (fun j => (at' ps j).y) hi.y (i + 1) = (seenB (fun j => (at' ps j).y) hi.y i || ((at' ps i).y == hi.y)) := rfl
          have E1 := hide e1
          have E2 := hide e2
          have E3 := hide e3
          have E4 := hide e4
          clear e1 e2 e3 e4
          obtain ⟨q, hq⟩ : ∃ q, at' ps i = q := ⟨_, rfl⟩
          rw [hq] at c0 c1 fb E1 E2 E3 E4
          obtain ⟨v1, hv1⟩ : ∃ v, seenB (fun j => (at' ps j).x) lo.x i = v := ⟨_, rfl⟩
          obtain ⟨v2, hv2⟩ : ∃ v, seenB (fun j => (at' ps j).x) hi.x i = v := ⟨_, rfl⟩
          obtain ⟨v3, hv3⟩ : ∃ v, seenB (fun j => (at' ps j).y) lo.y i = v := ⟨_, rfl⟩
          obtain ⟨v4, hv4⟩ : ∃ v, seenB (fun j => (at' ps j).y) hi.y i = v := ⟨_, rfl⟩
          rw [hv1] at E1
          rw [hv2] at E2
          rw [hv3] at E3
          rw [hv4] at E4
          rw [hv1, hv2, hv3, hv4]
          clear hv1 hv2 hv3 hv4 hL hq
          have zb : b < wr.heap.size := block_lt_of_cell c0
          have z1 : w2.heap.size < wr.heap.size := block_lt_of_cell q0
          have z2 : w2.heap.size + 1 < wr.heap.size := block_lt_of_cell q4
          have g1 : decide (q.x < lo.x) = false := by simp; omega
          have g2 : decide (hi.x < q.x) = false := by simp; omega
          have g3 : decide (q.y < lo.y) = false := by simp; omega
          have g4 : decide (hi.y < q.y) = false := by simp; omega
          have e1 : (i : Int) < ps.length := by omega
          clear fb
          cases v1 <;> cases v2 <;> cases v3 <;> cases v4
          all_goals
            go_wp2_with fail
            go_roundw
            case rel =>
              refine ⟨i + 1, by omega, by rw [E1.out]; simp, by rw [E2.out]; simp, by rw [E3.out]; simp, by rw [E4.out]; simp, by go_num, ?_⟩
              have hb := HBr.out
              have hs := hb.size
              show Below _ _ _
              go_grown
            case measure => simp [intOf]; omega
        · have hin : i = ps.length := by omega
          subst hin
          obtain ⟨⟨f1, f2⟩, f3, f4⟩ := FS.out
          rw [f1, f2, f3, f4]
          go_wp2
          go_ret
          exact ⟨rfl, below_step9 HB2.out HBr.out⟩
    · have h301 : (300 : Int) < ps.length := by omega
      go_wp2_with fail
      refine A.out.mono ?_
      rintro e w2 ⟨rfl, hb⟩
      have HB2 := hide (below_step9 HB.out hb)
      clear hb
      go_wp2_with fail
      obtain ⟨U, hU⟩ : ∃ U, U = bxs w2 lo hi := ⟨_, rfl⟩
      have HB3 : Hid (Below w.heap.size w U) := below_step9 HB2.out (by rw [hU]; unfold bxs; go_grown)
      rw [show (w2.alloc (bx lo)).alloc (bx hi) = U from hU.symm]
      clear hU
      refine wp_region_quiet_below (by kernel_rfl) (by kernel_rfl) ?_
      repeat (go_big_quiet_step (first | fail))
      refine wpQuiet_nil ?_
      intro x1 hw'
      have hbx1 : Below U.heap.size U x1 := by
        obtain ⟨⟨dq, osq⟩, hw''⟩ := hw'
        rw [hw'']
        exact below_regrown U dq osq
      clear hw'
      go_wp2_with fail
      go_ret
      exact ⟨rfl, below_step9 HB3.out hbx1⟩
  · have elo : boxLo ps = ⟨0, 0⟩ := by
      unfold boxE at hE; unfold boxLo
      split
      · rename_i h; rw [if_pos h] at hE; split
        · rfl
        · rename_i h'; rw [if_neg h'] at hE; exact absurd rfl hE
      · rfl
    have ehi : boxHi ps = ⟨0, 0⟩ := by
      unfold boxE at hE; unfold boxHi
      split
      · rename_i h; rw [if_pos h] at hE; split
        · rfl
        · rename_i h'; rw [if_neg h'] at hE; exact absurd rfl hE
      · rfl
    have heq : ∀ w, (Op.equalIn 10000 25 (pv 0 0) (pv 0 0)).run Try.prog w = .ok true w := fun w => by
      have := eq23 ⟨0, 0⟩ ⟨0, 0⟩ w
      simpa using this
    go_enter Try.func3, Try.ntmps3
    go_wp2_with fail
    refine (begun9 _).mono ?_
    rintro e w1 ⟨rfl, hb⟩
    have A := hide (box7 p ps cap w1 hcap (HH.out.later hb))
    have HB := hide hb
    clear hb
    rw [elo, ehi] at A
    obtain ⟨E, hEE⟩ : ∃ E, boxE ps = E := ⟨_, rfl⟩
    rw [hEE] at A hE
    have hE2 : (E == 0) = false := by simpa using hE
    go_wp2_with fail
    refine A.out.mono ?_
    rintro e w2 ⟨rfl, hb⟩
    have HB2 := hide (below_step9 HB.out hb)
    clear hb
    go_wp2_with fail
    obtain ⟨U, hU⟩ : ∃ U, U = (w2.alloc (bx ⟨0, 0⟩)).alloc (bx ⟨0, 0⟩) := ⟨_, rfl⟩
    have HB3 : Hid (Below w.heap.size w U) := below_step9 HB2.out (by rw [hU]; go_grown)
    have u0 : U.cell? ⟨w2.heap.size, 0, none⟩ = some (.int .i64 0) := by rw [hU]; go_cell
    have u1 : U.cell? ⟨w2.heap.size, 1, none⟩ = some (.int .i64 0) := by rw [hU]; go_cell
    have u2 : U.cell? ⟨w2.heap.size + 1, 0, none⟩ = some (.int .i64 0) := by rw [hU]; go_cell
    have u3 : U.cell? ⟨w2.heap.size + 1, 1, none⟩ = some (.int .i64 0) := by rw [hU]; go_cell
    rw [← hU]
    clear hU
    have m0 := cell_regrown u0
    have m1 := cell_regrown u1
    have m2 := cell_regrown u2
    have m3 := cell_regrown u3
    have CA : ∀ dd os, Calls Try.prog 8 #[.int .i64 0, .int .i64 0] (grow (redrawn U dd) os) fun e w'' => e = .returned (pv 0 0) ∧ ∃ p : Regrown, w'' = grow (redrawn U p.d) p.os := fun dd os => Calls.regrown_of (pt18 0 0 _)
    refine wp_region_quiet_below (by kernel_rfl) (by kernel_rfl) ?_
    repeat (go_big_quiet_step (first | with_reducible exact CA _ _))
    refine wpQuiet_nil ?_
    intro x1 hw'
    have hbx1 : Below U.heap.size U x1 := by
      obtain ⟨⟨dq, osq⟩, hw''⟩ := hw'
      rw [hw'']
      exact below_regrown U dq osq
    clear hw' m0 m1 m2 m3 CA
    go_wp2_with fail
    go_ret
    exact ⟨rfl, below_step9 HB3.out hbx1⟩
end Go.Proofs.Ytgnojjbdioldbab
