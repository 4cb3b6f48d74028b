/- The ends of two segments that are on both, and how two segments meet, in every world. -/
import Derived.Test.YtgnojjbdioldbaaG4
namespace Go.Proofs.Ytgnojjbdioldbaa
open Go.RowKit Go.Sort
open Go

/-- What is told of the points l, those that h holds of: how many unlike ones, up to two. -/
def shared (h : Pt → Bool) : List Pt → Int → Pt → Int
  | [], how, _ => how
  | p :: r, how, f => if h p then (if how = 2 ∧ p ≠ f then 3 else shared h r 2 p) else shared h r how f
def bothB (a b c d p : Pt) : Bool := hasB a b p && hasB c d p
def sharedI (a b c d : Pt) : Int := shared (bothB a b c d) [a, b, c, d] 0 ⟨0, 0⟩

def nth (a b c d : Pt) (i : Nat) : Pt := [a, b, c, d].getD i ⟨0, 0⟩
theorem index95 (a b c d : Pt) (i : Nat) (hi : i < 4) (w : World) : (Instr.index 95 (.agg #[.int .i64 a.x, .int .i64 a.y, .int .i64 b.x, .int .i64 b.y, .int .i64 c.x, .int .i64 c.y, .int .i64 d.x, .int .i64 d.y]) (.int .i64 i)).run Try.prog w = .ok (pv (nth a b c d i).x (nth a b c d i).y) w := by
  rcases (by omega : i = 0 ∨ i = 1 ∨ i = 2 ∨ i = 3) with rfl | rfl | rfl | rfl <;> kernel_rfl
theorem nth_drop (a b c d : Pt) (i : Nat) (hi : i < 4) : [a, b, c, d].drop i = nth a b c d i :: [a, b, c, d].drop (i + 1) := by
  rcases (by omega : i = 0 ∨ i = 1 ∨ i = 2 ∨ i = 3) with rfl | rfl | rfl | rfl <;> rfl
theorem nth_all (a b c d : Pt) (ha : ptB a = true) (hb : ptB b = true) (hc : ptB c = true) (hd : ptB d = true) (i : Nat) (hi : i < 4) : ptB (nth a b c d i) = true := by
  rcases (by omega : i = 0 ∨ i = 1 ∨ i = 2 ∨ i = 3) with rfl | rfl | rfl | rfl <;> assumption

theorem below_alloc {w w' : World} {o : Obj} (h : Below (w.alloc o).heap.size (w.alloc o) w') : Below w.heap.size w w' :=
  Below.trans (by go_grown) (h.mono (by simp))
/-- A box of one's own that holds the point f. -/
def Own (W : World) (g : Nat) (f : Pt) : Prop :=
  W.cell? ⟨g, 0, none⟩ = some (.int .i64 f.x) ∧ W.cell? ⟨g, 1, none⟩ = some (.int .i64 f.y) ∧ W.frozen? ⟨g, 0, none⟩ = false ∧ W.frozen? ⟨g, 1, none⟩ = false
theorem Own.later {W W' : World} {g : Nat} {f : Pt} (h : Own W g f) (hb : Below W.heap.size W W') : Own W' g f := by
  obtain ⟨q0, q1, q2, q3⟩ := h
  exact ⟨Ytgnojjbdioldbaa.later hb q0, Ytgnojjbdioldbaa.later hb q1, by rw [hb.frozen (block_lt_of_cell q0)]; exact q2, by rw [hb.frozen (block_lt_of_cell q1)]; exact q3⟩
theorem eq23 (p q : Pt) (w : World) : (Op.equalIn 10000 23 (pv p.x p.y) (pv q.x q.y)).run Try.prog w = .ok (decide (p = q)) w := by
  have u3 := Try.underlying3
  have a3 := Try.isAgg3
  have z3 := Try.sizeOf3
  have hS : Try.prog.underlying 23 = some (.struct (Try.prog.fieldsOf 23)) := by kernel_rfl
  have hp : Try.prog.stoodInHeld 23 = false := by kernel_rfl
  rw [show (10000 : Nat) = 9999 + 1 from rfl, run_equalIn_agg w 9999 23 _ _ hS hp]
  simp only [Program.fieldsOf, Try.underlying23]
  go_simp
  obtain ⟨px, py⟩ := p
  obtain ⟨qx, qy⟩ := q
  by_cases h1 : px = qx <;> by_cases h2 : py = qy <;> simp [h1, h2]
theorem fresh {w w' : World} {p : Pt} (h : Below (w.alloc (bx p)).heap.size (w.alloc (bx p)) w') : w'.cell? ⟨w.heap.size, 0, none⟩ = some (.int .i64 p.x) ∧ w'.cell? ⟨w.heap.size, 1, none⟩ = some (.int .i64 p.y) :=
  ⟨later h (by go_cell), later h (by go_cell)⟩

theorem stored {w W : World} {a b c d f : Pt} (hB : Below w.heap.size w W) (HS : Segs W w.heap.size a b c d) (HO : Own W (w.heap.size + 1 + 1) f) (p : Pt) {W' : World} (e : W' = (W.setCell ⟨w.heap.size + 1 + 1, 0, none⟩ (.int .i64 p.x)).setCell ⟨w.heap.size + 1 + 1, 1, none⟩ (.int .i64 p.y)) :
    Below w.heap.size w W' ∧ Segs W' w.heap.size a b c d ∧ Own W' (w.heap.size + 1 + 1) p := by
  subst e
  obtain ⟨s0, s1, s2, s3, s4, s5, s6, s7⟩ := HS
  obtain ⟨q0, q1, q2, q3⟩ := HO
  refine ⟨by go_grown, ⟨?_, ?_, ?_, ?_, ?_, ?_, ?_, ?_⟩, ?_, ?_, ?_, ?_⟩
  all_goals go_cell

set_option maxHeartbeats 1000000 in
theorem sharedEnds55 (a b c d : Pt) (ha : ptB a = true) (hb : ptB b = true) (hc : ptB c = true) (hd : ptB d = true) (w : World) : Calls Try.prog 55 #[sv a b, sv c d] w fun e w' => e = .returned (.int .i64 (sharedI a b c d)) ∧ Below w.heap.size w w' := by
  have P := hide (nth_all a b c d ha hb hc hd)
  have H1 := hide (fun p hp w => has34 a b p ha hb hp w)
  have H2 := hide (fun p hp w => has34 c d p hc hd hp w)
  clear ha hb hc hd
  go_enter Try.func55, Try.ntmps55
  go_wp2_with fail
  go_loopw [5, 18] (fun v t wr => ∃ (i : Nat) (how : Int) (f : Pt), i ≤ 4 ∧ v = .int .i64 how ∧ t = .int .i64 i ∧ Hid (shared (bothB a b c d) ([a, b, c, d].drop i) how f = sharedI a b c d) ∧ Hid (Below w.heap.size w wr) ∧ Hid (Segs wr w.heap.size a b c d) ∧ Hid (Own wr (w.heap.size + 1 + 1) f)) (fun _ t _ => 4 - (intOf t).toNat)
  case atStart =>
    refine ⟨0, 0, ⟨0, 0⟩, by omega, rfl, rfl, rfl, ?_, ?_, ?_⟩
    · show Below _ _ _; go_grown
    · exact ⟨by go_cell, by go_cell, by go_cell, by go_cell, by go_cell, by go_cell, by go_cell, by go_cell⟩
    · exact ⟨by go_cell, by go_cell, by simp [go_sem], by simp [go_sem]⟩
  case round =>
    obtain ⟨i, how, f, hi, rfl, rfl, HE, HB, HS, HO⟩ := hrel
    by_cases h4 : i < 4
    · have hx := index95 a b c d i h4
      have hp := P.out i h4
      have hn := hide (nth_drop a b c d i h4)
      obtain ⟨p, hpd⟩ : ∃ p, nth a b c d i = p := ⟨_, rfl⟩
      rw [hpd] at hx hp hn
      clear hpd
      have C1 := H1.out p hp
      have C2 := H2.out p hp
      obtain ⟨s0, s1, s2, s3, s4, s5, s6, s7⟩ := HS.out
      obtain ⟨q0, q1, q2, q3⟩ := HO.out
      have z : w.heap.size + 1 + 1 < wr.heap.size := block_lt_of_cell q0
      have z1 : w.heap.size + 1 < wr.heap.size := block_lt_of_cell s4
      have z0 : w.heap.size < wr.heap.size := block_lt_of_cell s0
      cases h1 : hasB a b p
      · rw [h1] at C1
        have C1' := hide C1
        clear C1 C2
        go_wp2_with fail
        refine (C1'.out _).mono ?_
        rintro e w' ⟨rfl, hb0⟩
        have hb := hide (below_alloc hb0)
        clear hb0
        go_wp2
        go_roundw
        case rel => exact ⟨i + 1, how, f, by omega, rfl, by go_num, by rw [hn.out, shared, if_neg (by simp [bothB, h1])] at HE; exact HE, Below.trans HB.out (hb.out.mono HB.out.size), HS.out.later hb.out, HO.out.later hb.out⟩
        case measure => simp [intOf]; omega
      · rw [h1] at C1
        cases h2 : hasB c d p
        · rw [h2] at C2
          have C1' := hide C1
          have C2' := hide C2
          clear C1 C2
          go_wp2_with fail
          refine (C1'.out _).mono ?_
          rintro e w' ⟨rfl, hb0⟩
          obtain ⟨p0, p1⟩ := fresh hb0
          have hb := hide (below_alloc hb0)
          obtain ⟨t0, t1, t2, t3, t4, t5, t6, t7⟩ := HS.out.later hb.out
          clear hb0
          go_wp2_with fail
          refine (C2'.out _).mono ?_
          rintro e w'' ⟨rfl, hb2⟩
          have hb' := hide (Below.trans hb.out (hb2.mono hb.out.size))
          clear hb2
          go_wp2
          go_roundw
          case rel => exact ⟨i + 1, how, f, by omega, rfl, by go_num, by rw [hn.out, shared, if_neg (by simp [bothB, h2])] at HE; exact HE, Below.trans HB.out (hb'.out.mono HB.out.size), HS.out.later hb'.out, HO.out.later hb'.out⟩
          case measure => simp [intOf]; omega
        · rw [h2] at C2
          have C1' := hide C1
          have C2' := hide C2
          clear C1 C2
          by_cases hw2 : how = 2
          · subst hw2
            cases hpf : decide (p = f)
            · have heq := eq23 p f
              rw [hpf] at heq
              go_wp2_with fail
              refine (C1'.out _).mono ?_
              rintro e w' ⟨rfl, hb0⟩
              obtain ⟨p0, p1⟩ := fresh hb0
              have hb := hide (below_alloc hb0)
              obtain ⟨t0, t1, t2, t3, t4, t5, t6, t7⟩ := HS.out.later hb.out
              clear hb0
              go_wp2_with fail
              refine (C2'.out _).mono ?_
              rintro e w'' ⟨rfl, hb2⟩
              have hb' := hide (Below.trans hb.out (hb2.mono hb.out.size))
              obtain ⟨o0, o1, o2, o3⟩ := HO.out.later hb'.out
              have p0' := later hb2 p0
              have p1' := later hb2 p1
              clear hb2
              go_wp2
              go_ret
              rw [hn.out, shared, if_pos (by simp [bothB, h1, h2]), if_pos ⟨rfl, of_decide_eq_false hpf⟩] at HE
              exact ⟨retI HE.out, Below.trans HB.out (hb'.out.mono HB.out.size)⟩
            · have heq := eq23 p f
              rw [hpf] at heq
              go_wp2_with fail
              refine (C1'.out _).mono ?_
              rintro e w' ⟨rfl, hb0⟩
              obtain ⟨p0, p1⟩ := fresh hb0
              have hb := hide (below_alloc hb0)
              obtain ⟨t0, t1, t2, t3, t4, t5, t6, t7⟩ := HS.out.later hb.out
              clear hb0
              go_wp2_with fail
              refine (C2'.out _).mono ?_
              rintro e w'' ⟨rfl, hb2⟩
              have hb' := hide (Below.trans hb.out (hb2.mono hb.out.size))
              obtain ⟨o0, o1, o2, o3⟩ := HO.out.later hb'.out
              have p0' := later hb2 p0
              have p1' := later hb2 p1
              clear hb2
              go_wp2
              go_region
              all_goals
                go_wp2
                go_roundw
                case rel =>
                  obtain ⟨f1, f2, f3⟩ := stored (Below.trans HB.out (hb'.out.mono HB.out.size)) (HS.out.later hb'.out) (HO.out.later hb'.out) p rfl
                  exact ⟨i + 1, 2, p, by omega, rfl, by go_num, by rw [hn.out, shared, if_pos (by simp [bothB, h1, h2]), if_neg (by simpa using hpf)] at HE; exact HE, f1.drew, f2, f3⟩
                case measure => simp [intOf]; omega
          · have hw3 : (how == 2) = false := by simp [hw2]
            go_wp2_with fail
            refine (C1'.out _).mono ?_
            rintro e w' ⟨rfl, hb0⟩
            obtain ⟨p0, p1⟩ := fresh hb0
            have hb := hide (below_alloc hb0)
            obtain ⟨t0, t1, t2, t3, t4, t5, t6, t7⟩ := HS.out.later hb.out
            clear hb0
            go_wp2_with fail
            refine (C2'.out _).mono ?_
            rintro e w'' ⟨rfl, hb2⟩
            have hb' := hide (Below.trans hb.out (hb2.mono hb.out.size))
            obtain ⟨o0, o1, o2, o3⟩ := HO.out.later hb'.out
            have p0' := later hb2 p0
            have p1' := later hb2 p1
            clear hb2
            go_wp2
            go_region
            all_goals
              go_wp2
              go_roundw
              case rel =>
                obtain ⟨f1, f2, f3⟩ := stored (Below.trans HB.out (hb'.out.mono HB.out.size)) (HS.out.later hb'.out) (HO.out.later hb'.out) p rfl
                exact ⟨i + 1, 2, p, by omega, rfl, by go_num, by rw [hn.out, shared, if_pos (by simp [bothB, h1, h2]), if_neg (by simp [hw2])] at HE; exact HE, f1.drew, f2, f3⟩
              case measure => simp [intOf]; omega
    · go_wp2
      go_ret
      have : i = 4 := by omega
      subst this
      exact ⟨retI HE.out, HB.out⟩

def meetI (a b c d : Pt) : Int := if nearB a b c d then (if partsB a b c d && partsB c d a b then 1 else sharedI a b c d) else 0

set_option maxHeartbeats 1000000 in
theorem meet32 (a b c d : Pt) (ha : ptB a = true) (hb : ptB b = true) (hc : ptB c = true) (hd : ptB d = true) (w : World) : Calls Try.prog 32 #[sv a b, sv c d] w fun e w' => e = .returned (.int .i64 (meetI a b c d)) ∧ Below w.heap.size w w' := by
  have N := near53 a b c d
  have P1 := parts54 a b c d ha hb hc hd
  have P2 := parts54 c d a b hc hd ha hb
  have S := hide (sharedEnds55 a b c d ha hb hc hd)
  clear ha hb hc hd
  cases hn : nearB a b c d <;> cases h1 : partsB a b c d <;> cases h2 : partsB c d a b
  all_goals
    rw [hn] at N
    rw [h1] at P1
    rw [h2] at P2
    have N' := hide N
    have P1' := hide P1
    have P2' := hide P2
    clear N P1 P2
    go_enter Try.func32, Try.ntmps32
    obtain ⟨W, hW, hb, q⟩ := segs w a b c d
    go_wp2_with fail
    rw [← hW]
    refine (N'.out _).mono ?_
    rintro e w1 ⟨rfl, hb1⟩
    have HB := hide (Below.trans hb (hb1.mono hb.size))
    have HS := hide (q.later hb1)
    obtain ⟨s0, s1, s2, s3, s4, s5, s6, s7⟩ := HS.out
    clear hb hb1 hW q
    first
      | (go_wp2_with fail
         go_ret
         exact ⟨retI (by simp [meetI, hn]), HB.out⟩)
      | (go_wp2_with fail
         refine (P1'.out _).mono ?_
         rintro e w2 ⟨rfl, hb2⟩
         have HB2 := hide (Below.trans HB.out (hb2.mono HB.out.size))
         have HS2 := hide (HS.out.later hb2)
         obtain ⟨s0, s1, s2, s3, s4, s5, s6, s7⟩ := HS2.out
         clear hb2
         first
           | (go_wp2_with fail
              refine (P2'.out _).mono ?_
              rintro e w3 ⟨rfl, hb3⟩
              have HB3 := hide (Below.trans HB2.out (hb3.mono HB2.out.size))
              have HS3 := hide (HS2.out.later hb3)
              obtain ⟨s0, s1, s2, s3, s4, s5, s6, s7⟩ := HS3.out
              clear hb3
              go_wp2_with fail
              first
                | (go_ret
                   exact ⟨retI (by simp [meetI, hn, h1, h2]), HB3.out⟩)
                | (refine (S.out _).mono ?_
                   rintro e w4 ⟨rfl, hb4⟩
                   have HB4 := hide (Below.trans HB3.out (hb4.mono HB3.out.size))
                   clear hb4
                   go_wp2
                   go_ret
                   exact ⟨retI (by simp [meetI, hn, h1, h2]), HB4.out⟩))
           | (go_wp2_with fail
              refine (S.out _).mono ?_
              rintro e w4 ⟨rfl, hb4⟩
              have HB4 := hide (Below.trans HB2.out (hb4.mono HB2.out.size))
              clear hb4
              go_wp2
              go_ret
              exact ⟨retI (by simp [meetI, hn, h1]), HB4.out⟩))
end Go.Proofs.Ytgnojjbdioldbaa
