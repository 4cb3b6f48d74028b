/- The order of two steps clockwise, in every world. -/
import Derived.Test.YtgnojjbdioldbaaG7
import Derived.Deep.RegionHeld3
namespace Go.Proofs.Ytgnojjbdioldbaa
open Go.RowKit Go.Sort
open Go

def halfI (s : Pt) : Int := if 0 < s.x ∨ (s.x = 0 ∧ 0 < s.y) then 0 else 1
theorem half62 (s : Pt) (w : World) : Calls Try.prog 62 #[pv s.x s.y] w fun e w' => e = .returned (.int .i64 (halfI s)) ∧ Below w.heap.size w w' := by
  by_cases h1 : 0 < s.x
  · go_enter Try.func62, Try.ntmps62
    go_wp2
    all_goals go_ret
    all_goals exact ⟨retI (by simp [halfI, h1]), by go_grown⟩
  · by_cases h2 : s.x = 0
    · by_cases h3 : 0 < s.y
      · go_enter Try.func62, Try.ntmps62
        go_wp2
        all_goals go_ret
        all_goals exact ⟨retI (by simp [halfI, h2, h3]), by go_grown⟩
      · go_enter Try.func62, Try.ntmps62
        go_wp2
        all_goals go_ret
        all_goals exact ⟨retI (by simp [halfI, h2, h3]), by go_grown⟩
    · have h2' : (s.x == 0) = false := by simp [h2]
      go_enter Try.func62, Try.ntmps62
      go_wp2
      all_goals go_ret
      all_goals exact ⟨retI (by simp [halfI, h1, h2]), by go_grown⟩
theorem square63 (s : Pt) (w : World) : Calls Try.prog 63 #[pv s.x s.y] w fun e w' => e = .returned (.int .i64 (wrap64 (wrap64 (s.x * s.x) + wrap64 (s.y * s.y)))) ∧ Below w.heap.size w w' := by
  go_enter Try.func63, Try.ntmps63
  go_wp2
  go_ret
  exact ⟨rfl, by go_grown⟩
theorem isNaN64 (x : Int) (w : World) : Calls Try.prog 64 #[.int .i64 x] w fun e w' => e = .returned (.bool false) ∧ w' = w := by
  go_enter Try.func64, Try.ntmps64
  go_wp2
  go_ret
  exact ⟨by simp, rfl⟩
theorem compare44 (a b : Int) (w : World) : Calls Try.prog 44 #[.int .i64 a, .int .i64 b] w fun e w' => e = .returned (.int .i64 (cmpI a b)) ∧ Below w.heap.size w w' := by
  go_enter Try.func44, Try.ntmps44
  go_wp2_with (go_at_call 64; refine (isNaN64 _ _).mono ?_; rintro e w' ⟨rfl, rfl⟩)
  all_goals go_ret
  all_goals exact ⟨retI (by simp only [cmpI]; repeat' split <;> omega), Below.refl _ _⟩
theorem compare56' (a b : Int) (w : World) : Calls Try.prog 56 #[.int .i64 a, .int .i64 b] w fun e w' => e = .returned (.int .i64 (cmpI a b)) ∧ Below w.heap.size w w' :=
  (compare56 a b w).mono fun _ _ ⟨h1, h2⟩ => ⟨h1, by rw [h2]; exact Below.refl _ _⟩

def orI : List Int → Int
  | [] => 0
  | x :: r => if x = 0 then orI r else x
theorem orI_drop (vs : List Int) (i : Nat) (h : i < vs.length) : orI (vs.drop i) = if vs.getD i 0 = 0 then orI (vs.drop (i + 1)) else vs.getD i 0 := by
  rw [List.drop_eq_getElem_cons h, orI, List.getD_eq_getElem?_getD, List.getElem?_eq_getElem h]; rfl

set_option maxHeartbeats 1000000 in
theorem or41 (b off cap : Nat) (vs : List Int) (w : World) (hn : vs.length ≤ 1000) (h : ∀ j, j < vs.length → w.cell? ⟨b, off + j, none⟩ = some (.int .i64 (vs.getD j 0))) : Calls Try.prog 41 #[.slice (some ⟨b, off, none⟩) vs.length cap] w fun e w' => e = .returned (.int .i64 (orI vs)) ∧ Below w.heap.size w w' := by
  have H := hide h
  clear h
  go_enter Try.func41, Try.ntmps41
  go_wp2
  go_loopw [8] (fun t wr => ∃ i : Nat, i ≤ vs.length ∧ t = .int .i64 i ∧ Hid (orI (vs.drop i) = orI vs) ∧ wr = w) (fun t _ => vs.length - (intOf t).toNat)
  case atStart => exact ⟨0, by omega, rfl, rfl, rfl⟩
  case round =>
    obtain ⟨i, hi, rfl, HP, rfl⟩ := hrel
    by_cases hlt : i < vs.length
    · have c0 := H.out i hlt
      have E := hide (orI_drop vs i hlt)
      generalize vs.getD i 0 = x at c0 E
      by_cases hx : x = 0
      · have hx' : (x == 0) = true := by simp [hx]
        go_wp2
        go_roundw
        case rel => exact ⟨i + 1, by omega, by go_num, by rw [E.out, if_pos hx] at HP; exact HP, by trivial⟩
        case measure => simp [intOf]; omega
      · have hx' : (x == 0) = false := by simp [hx]
        go_wp2
        go_ret
        exact ⟨retI (by rw [E.out, if_neg hx] at HP; exact HP.out), Below.refl _ _⟩
    · go_wp2
      go_ret
      have : i = vs.length := by omega
      subst this
      exact ⟨retI (by have := HP.out; rw [List.drop_length] at this; exact this), Below.refl _ _⟩

def crossW (s t : Pt) : Int := wrap64 (wrap64 (s.x * t.y) - wrap64 (s.y * t.x))
def squareW (s : Pt) : Int := wrap64 (wrap64 (s.x * s.x) + wrap64 (s.y * s.y))
def clockI (s t : Pt) : Int := orI [cmpI (halfI s) (halfI t), cmpI (crossW s t) 0, cmpI (squareW s) (squareW t)]

abbrev bx70 (p : Pt) : Obj := .cells #[.int .i64 p.x, .int .i64 p.y] 70
theorem two70 (w : World) (s t : Pt) : ∃ W, W = (w.alloc (bx70 s)).alloc (bx70 t) ∧ Below w.heap.size w W ∧ W.cell? ⟨w.heap.size, 0, none⟩ = some (.int .i64 s.x) ∧ W.cell? ⟨w.heap.size, 1, none⟩ = some (.int .i64 s.y) ∧ W.cell? ⟨w.heap.size + 1, 0, none⟩ = some (.int .i64 t.x) ∧ W.cell? ⟨w.heap.size + 1, 1, none⟩ = some (.int .i64 t.y) :=
  ⟨_, rfl, by go_grown, by go_cell, by go_cell, by go_cell, by go_cell⟩
theorem keep70 {w W W' : World} {g : Nat} {s t : Pt} (h : W.cell? ⟨g, 0, none⟩ = some (.int .i64 s.x) ∧ W.cell? ⟨g, 1, none⟩ = some (.int .i64 s.y) ∧ W.cell? ⟨g + 1, 0, none⟩ = some (.int .i64 t.x) ∧ W.cell? ⟨g + 1, 1, none⟩ = some (.int .i64 t.y) ∧ Hid (Below w.heap.size w W)) (hb : Below W.heap.size W W') :
    W'.cell? ⟨g, 0, none⟩ = some (.int .i64 s.x) ∧ W'.cell? ⟨g, 1, none⟩ = some (.int .i64 s.y) ∧ W'.cell? ⟨g + 1, 0, none⟩ = some (.int .i64 t.x) ∧ W'.cell? ⟨g + 1, 1, none⟩ = some (.int .i64 t.y) ∧ Hid (Below w.heap.size w W') :=
  ⟨later hb h.1, later hb h.2.1, later hb h.2.2.1, later hb h.2.2.2.1, Below.trans h.2.2.2.2.out (hb.mono h.2.2.2.2.out.size)⟩
theorem or41' (W : World) (n : Nat) (hn : n = W.heap.size) (x y z : Int) : Calls Try.prog 41 #[.slice (some ⟨n, 0, none⟩) 3 3] (W.alloc (.cells #[.int .i64 x, .int .i64 y, .int .i64 z] 3)) fun e w' => e = .returned (.int .i64 (orI [x, y, z])) ∧ Below (W.alloc (.cells #[.int .i64 x, .int .i64 y, .int .i64 z] 3)).heap.size (W.alloc (.cells #[.int .i64 x, .int .i64 y, .int .i64 z] 3)) w' := by
  subst hn
  refine or41 _ 0 3 [x, y, z] _ (by simp) fun j hj => ?_
  simp at hj
  rcases (by omega : j = 0 ∨ j = 1 ∨ j = 2) with rfl | rfl | rfl <;> (simp only [List.getD_cons_zero, List.getD_cons_succ]; go_cell)

set_option maxHeartbeats 2000000 in
theorem clockwise42 (s t : Pt) (w : World) : Calls Try.prog 42 #[pv s.x s.y, pv t.x t.y] w fun e w' => e = .returned (.int .i64 (clockI s t)) ∧ Below w.heap.size w w' := by
  go_enter Try.func42, Try.ntmps42
  obtain ⟨W, hW, hb, q⟩ := two70 w s t
  go_wp2_with fail
  rw [← hW]
  clear hW
  have S0 : W.cell? ⟨w.heap.size, 0, none⟩ = some (.int .i64 s.x) ∧ W.cell? ⟨w.heap.size, 1, none⟩ = some (.int .i64 s.y) ∧ W.cell? ⟨w.heap.size + 1, 0, none⟩ = some (.int .i64 t.x) ∧ W.cell? ⟨w.heap.size + 1, 1, none⟩ = some (.int .i64 t.y) ∧ Hid (Below w.heap.size w W) := ⟨q.1, q.2.1, q.2.2.1, q.2.2.2, hb⟩
  clear hb q
  go_region_held3 (fun w' => w'.cell? ⟨w.heap.size, 0, none⟩ = some (.int .i64 s.x) ∧ w'.cell? ⟨w.heap.size, 1, none⟩ = some (.int .i64 s.y) ∧ w'.cell? ⟨w.heap.size + 1, 0, none⟩ = some (.int .i64 t.x) ∧ w'.cell? ⟨w.heap.size + 1, 1, none⟩ = some (.int .i64 t.y) ∧ Hid (Below w.heap.size w w'))
    (first | exact keep70 S0 ((Below.refl _ _).drew) | (refine keep70 ?_ ?_ <;> assumption) | (refine keep70 (by assumption) ?_; go_grown))
    (first
      | (go_at_call 62; refine (half62 _ _).mono ?_; rintro e w' ⟨rfl, hb⟩)
      | (go_at_call 44; refine (compare44 _ _ _).mono ?_; rintro e w' ⟨rfl, hb⟩)
      | (go_at_call 57; refine (cross57 _ _ _).mono ?_; rintro e w' ⟨rfl, hb⟩)
      | (go_at_call 56; refine (compare56' _ _ _).mono ?_; rintro e w' ⟨rfl, hb⟩)
      | (go_at_call 63; refine (square63 _ _).mono ?_; rintro e w' ⟨rfl, hb⟩)
      | (go_at_call 41; refine (or41' _ _ rfl _ _ _).mono ?_; rintro e w' ⟨rfl, hb⟩))
  rename_i hH
  have HB := hide hH.2.2.2.2.out
  clear hH S0
  go_wp2
  go_ret
  exact ⟨retI rfl, HB.out⟩
end Go.Proofs.Ytgnojjbdioldbaa
