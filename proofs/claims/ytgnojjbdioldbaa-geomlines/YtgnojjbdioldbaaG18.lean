/- What every statement begins with, in every world. -/
import Derived.Test.YtgnojjbdioldbaaG14
import Derived.Test.YtgnojjbdioldbaaG15
import Derived.Test.YtgnojjbdioldbaaG16
namespace Go.Proofs.Ytgnojjbdioldbaa
open Go.RowKit Go.Sort Go.Proofs
open Go

theorem has2 (W : World) (n : Nat) (hn : n = W.heap.size) (a b : Pt) : Lies (W.alloc (.cells #[.int .i64 a.x, .int .i64 a.y, .int .i64 b.x, .int .i64 b.y] 23)) n 0 [a, b] := by
  subst hn
  intro j hj
  simp at hj
  rcases (by omega : j = 0 ∨ j = 1) with rfl | rfl <;> (simp only [at', List.getD_cons_zero, List.getD_cons_succ]; exact ⟨by go_cell, by go_cell⟩)

set_option maxRecDepth 100000 in
set_option maxHeartbeats 2000000 in
theorem simple23two (b off cap : Nat) (p q : Pt) (w : World) (hm : mayB [p, q] = true) (hpq : p ≠ q) (h : Lies w b off [p, q]) : Calls Try.prog 23 #[.slice (some ⟨b, off, none⟩) 2 cap] w fun e w' => e = .returned (.tuple #[.bool true, .int .i64 0]) ∧ Below w.heap.size w w' := by
  have M := may15 (some ⟨b, off, none⟩) [p, q] cap w (Or.inr ⟨_, _, rfl, h⟩)
  rw [hm] at M
  have M' := hide M
  have HL := hide h
  clear M h
  have heq := eq23 p q
  rw [decide_eq_false hpq] at heq
  go_enter Try.func23, Try.ntmps23
  go_wp2_with fail
  refine M'.out.mono ?_
  rintro e w1 ⟨rfl, hb1⟩
  have S := hide (segments46 b off cap [p, q] w1 (by simp) (by simp) (HL.out.later hb1))
  have HB1 := hide hb1
  clear hb1
  go_wp2_with fail
  refine S.out.mono ?_
  rintro e w2 ⟨g, c, rfl, _, hs, hb2⟩
  have HB2 := hide (Below.trans HB1.out (hb2.mono HB1.out.size))
  have s0 : w2.cell? ⟨g, 0, none⟩ = some (.int .i64 p.x) := (hs 0 (by simp)).1
  have s1 : w2.cell? ⟨g, 1, none⟩ = some (.int .i64 p.y) := (hs 0 (by simp)).2.1
  have s2 : w2.cell? ⟨g, 2, none⟩ = some (.int .i64 q.x) := (hs 0 (by simp)).2.2.1
  have s3 : w2.cell? ⟨g, 3, none⟩ = some (.int .i64 q.y) := (hs 0 (by simp)).2.2.2
  have z : g < w2.heap.size := block_lt_of_cell s0
  clear hb2 hs
  go_wp2_with fail
  refine wp_loop_rounds 2 ?_
  rw [rounds_succ]
  go_wp2_with fail
  refine wp_loop_rounds 1 ?_
  rw [rounds_succ]
  go_wp2_with fail
  rw [rounds_succ]
  go_wp2
  go_ret2
  exact ⟨rfl, Below.trans HB2.out (by have := HB2.out.size; go_grown)⟩

theorem bO (w : World) : Calls Try.prog 13 #[pv 0 0, pv 1 0, pv 1 1] w fun e w' => e = .returned (.tuple #[.int .i64 1, .int .i64 0]) ∧ Below w.heap.size w w' := by
  have h := orient13 ⟨0, 0⟩ ⟨1, 0⟩ ⟨1, 1⟩ w
  rw [show orientI ⟨0, 0⟩ ⟨1, 0⟩ ⟨1, 1⟩ = 1 by decide, show errI [⟨0, 0⟩, ⟨1, 0⟩, ⟨1, 1⟩] = 0 by decide] at h
  exact h
theorem bM (w : World) : Calls Try.prog 11 #[pv 0 0, pv 2 2, pv 0 2, pv 2 0] w fun e w' => e = .returned (.tuple #[.int .i64 1, .int .i64 0]) ∧ Below w.heap.size w w' := by
  have h := meet11 ⟨0, 0⟩ ⟨2, 2⟩ ⟨0, 2⟩ ⟨2, 0⟩ w
  rw [show meetJ ⟨0, 0⟩ ⟨2, 2⟩ ⟨0, 2⟩ ⟨2, 0⟩ = 1 by decide, show errI [⟨0, 0⟩, ⟨2, 2⟩, ⟨0, 2⟩, ⟨2, 0⟩] = 0 by decide] at h
  exact h
theorem two_places {l : List Nat} (hp : l.Perm (List.range 2)) (hw : l.Pairwise (fullLt ⟨0, 0⟩ [⟨1, 0⟩, ⟨0, 1⟩])) : l.getD 0 0 = 1 := by
  have hl : l.length = 2 := by rw [hp.length_eq]; rfl
  match l, hl, hp, hw with
  | [a, b], _, hp, hw =>
    have ha : a ∈ List.range 2 := hp.mem_iff.1 (by simp)
    have hn : [a, b].Nodup := hp.nodup_iff.2 List.nodup_range
    have hb : b ∈ List.range 2 := hp.mem_iff.1 (by simp)
    simp at ha hb hn
    by_cases h0 : a = 0
    · have h1 : b = 1 := by omega
      subst h0 h1
      exfalso
      have hf := (List.pairwise_cons.1 hw).1 1 (by simp)
      revert hf
      unfold fullLt dirLt dirEq
      decide
    · show a = 1
      omega
theorem bA (W : World) (n : Nat) (hn : n = W.heap.size) : Calls Try.prog 20 #[pv 0 0, .slice (some ⟨n, 0, none⟩) 2 2] (W.alloc (.cells #[.int .i64 1, .int .i64 0, .int .i64 0, .int .i64 1] 23)) fun e w' => ∃ b, e = .returned (.tuple #[.slice (some ⟨b, 0, none⟩) 2 2, .int .i64 0]) ∧ w'.cell? ⟨b, 0, none⟩ = some (.int .i64 1) ∧ Below W.heap.size W w' := by
  refine (around20 (some ⟨n, 0, none⟩) [⟨1, 0⟩, ⟨0, 1⟩] 2 ⟨0, 0⟩ _ (Or.inr ⟨n, 0, rfl, has2 W n hn ⟨1, 0⟩ ⟨0, 1⟩⟩) (by decide)).mono ?_
  rintro e w' ⟨b, l, rfl, l1, l2, l3, l4, _, hb⟩
  refine ⟨b, rfl, ?_, below_alloc hb⟩
  have h := l4 0 (by rw [l1]; simp)
  rw [two_places l2 l3] at h
  exact h
theorem bAr (W : World) (n : Nat) (hn : n = W.heap.size) : Calls Try.prog 24 #[.slice (some ⟨n, 0, none⟩) 4 4] (W.alloc (.cells #[.int .i64 0, .int .i64 0, .int .i64 2, .int .i64 0, .int .i64 2, .int .i64 1, .int .i64 0, .int .i64 1] 23)) fun e w' => e = .returned (.tuple #[.int .i64 4, .int .i64 0]) ∧ Below W.heap.size W w' := by
  have h := area24 (some ⟨n, 0, none⟩) [⟨0, 0⟩, ⟨2, 0⟩, ⟨2, 1⟩, ⟨0, 1⟩] 4 _ (has4 W n hn ⟨0, 0⟩ ⟨2, 0⟩ ⟨2, 1⟩ ⟨0, 1⟩)
  rw [show (if mayB [⟨0, 0⟩, ⟨2, 0⟩, ⟨2, 1⟩, ⟨0, 1⟩] = true then areaI [⟨0, 0⟩, ⟨2, 0⟩, ⟨2, 1⟩, ⟨0, 1⟩] else 0) = 4 by decide, show errI [⟨0, 0⟩, ⟨2, 0⟩, ⟨2, 1⟩, ⟨0, 1⟩] = 0 by decide] at h
  exact h.mono fun _ _ ⟨h1, h2⟩ => ⟨h1, below_alloc h2⟩
theorem bS (W : World) (n : Nat) (hn : n = W.heap.size) : Calls Try.prog 23 #[.slice (some ⟨n, 0, none⟩) 2 2] (W.alloc (.cells #[.int .i64 0, .int .i64 0, .int .i64 2, .int .i64 0] 23)) fun e w' => e = .returned (.tuple #[.bool true, .int .i64 0]) ∧ Below W.heap.size W w' :=
  (simple23two n 0 2 ⟨0, 0⟩ ⟨2, 0⟩ _ (by decide) (by decide) (has2 W n hn ⟨0, 0⟩ ⟨2, 0⟩)).mono fun _ _ ⟨h1, h2⟩ => ⟨h1, below_alloc h2⟩
theorem bY (W : World) (n : Nat) (hn : n = W.heap.size) : Calls Try.prog 15 #[.slice (some ⟨n, 0, none⟩) 1 1] (W.alloc (.cells #[.int .i64 1, .int .i64 1] 23)) fun e w' => e = .returned (.bool true) ∧ Below W.heap.size W w' := by
  have h := may15 _ [⟨1, 1⟩] 1 _ (has1 W n hn ⟨1, 1⟩)
  rw [show mayB [⟨1, 1⟩] = true by decide] at h
  exact h.mono fun _ _ ⟨h1, h2⟩ => ⟨h1, below_alloc h2⟩
theorem bN (W : World) (n : Nat) (hn : n = W.heap.size) : Calls Try.prog 15 #[.slice (some ⟨n, 0, none⟩) 1 1] (W.alloc (.cells #[.int .i64 2097152, .int .i64 0] 23)) fun e w' => e = .returned (.bool false) ∧ Below W.heap.size W w' := by
  have h := may15 _ [⟨2097152, 0⟩] 1 _ (has1 W n hn ⟨2097152, 0⟩)
  rw [show mayB [⟨2097152, 0⟩] = false by decide] at h
  exact h.mono fun _ _ ⟨h1, h2⟩ => ⟨h1, below_alloc h2⟩
theorem below_step {w a b : World} (h : Hid (Below w.heap.size w a)) (k : Below a.heap.size a b) : Hid (Below w.heap.size w b) := Below.trans h.out (k.mono h.out.size)

set_option maxRecDepth 100000 in
set_option maxHeartbeats 4000000 in
theorem begun9 (w : World) : Calls Try.prog 9 #[] w fun e w' => e = .returned (.bool true) ∧ Below w.heap.size w w' := by
  have HB : Hid (Below w.heap.size w w) := Below.refl _ _
  go_enter Try.func9, Try.ntmps9
  go_wp2_with (first
    | (go_at_call 18; refine (pt18 _ _ _).mono ?_; rintro e w' ⟨rfl, hb⟩; replace HB := below_step HB hb; clear hb)
    | (go_at_call 13; refine (bO _).mono ?_; rintro e w' ⟨rfl, hb⟩; replace HB := below_step HB hb; clear hb)
    | (go_at_call 11; refine (bM _).mono ?_; rintro e w' ⟨rfl, hb⟩; replace HB := below_step HB hb; clear hb)
    | fail)
  refine (bA _ _ rfl).mono ?_
  rintro e w' ⟨b, rfl, c0, hb⟩
  replace HB := below_step HB hb
  have C0 := hide c0
  clear hb c0
  go_wp2_with (first
    | (go_at_call 18; refine (pt18 _ _ _).mono ?_; rintro e w' ⟨rfl, hb⟩; replace HB := below_step HB hb; replace C0 := hide (later hb C0.out); clear hb)
    | (go_at_call 24; refine (bAr _ _ rfl).mono ?_; rintro e w' ⟨rfl, hb⟩; replace HB := below_step HB hb; replace C0 := hide (later hb C0.out); clear hb)
    | (go_at_call 23; refine (bS _ _ rfl).mono ?_; rintro e w' ⟨rfl, hb⟩; replace HB := below_step HB hb; replace C0 := hide (later hb C0.out); have c0 := C0.out; clear hb)
    | (go_at_call 15; refine (bY _ _ rfl).mono ?_; rintro e w' ⟨rfl, hb⟩; replace HB := below_step HB hb; replace C0 := hide (later hb C0.out); clear hb)
    | (go_at_call 15; refine (bN _ _ rfl).mono ?_; rintro e w' ⟨rfl, hb⟩; replace HB := below_step HB hb; clear hb)
    | fail)
  go_ret
  exact ⟨rfl, HB.out⟩
end Go.Proofs.Ytgnojjbdioldbaa
