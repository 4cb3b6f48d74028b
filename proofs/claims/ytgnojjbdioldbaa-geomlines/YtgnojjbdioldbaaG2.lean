/- Turns, points on segments, and how two segments meet, in every world. -/
import Derived.Test.YtgnojjbdioldbaaG1
namespace Go.Proofs.Ytgnojjbdioldbaa
open Go.RowKit Go.Sort
open Go

def crossI (a b c : Pt) : Int := (b.x - a.x) * (c.y - a.y) - (b.y - a.y) * (c.x - a.x)
def turnI (a b c : Pt) : Int := sgn (crossI a b c)

theorem ptB_is {p : Pt} (h : ptB p = true) : -1048576 ≤ p.x ∧ p.x ≤ 1048576 ∧ -1048576 ≤ p.y ∧ p.y ≤ 1048576 := by
  simp [ptB, insideB] at h; omega
theorem mul_in {m n : Int} (a b : Int) (ha : -m ≤ a ∧ a ≤ m) (hb : -n ≤ b ∧ b ≤ n) : -(m * n) ≤ a * b ∧ a * b ≤ m * n := by
  have hm : 0 ≤ m := by omega
  have hn : 0 ≤ n := by omega
  have h1 : a.natAbs ≤ m.natAbs := by omega
  have h2 : b.natAbs ≤ n.natAbs := by omega
  have h3 := Nat.mul_le_mul h1 h2
  rw [← Int.natAbs_mul, ← Int.natAbs_mul] at h3
  have h4 : 0 ≤ m * n := Int.mul_nonneg hm hn
  omega
theorem w64 {n : Int} (h1 : -9223372036854775808 ≤ n) (h2 : n ≤ 9223372036854775807) : wrap64 n = n := IntWalk.wrap64_in n ⟨h1, h2⟩
theorem prods {a b c d : Pt} (ha : ptB a = true) (hb : ptB b = true) (hc : ptB c = true) (hd : ptB d = true) :
    wrap64 (wrap64 (wrap64 (b.x - a.x) * wrap64 (d.y - c.y)) - wrap64 (wrap64 (b.y - a.y) * wrap64 (d.x - c.x))) = (b.x - a.x) * (d.y - c.y) - (b.y - a.y) * (d.x - c.x) := by
  have ha := ptB_is ha
  have hb := ptB_is hb
  have hc := ptB_is hc
  have hd := ptB_is hd
  have p1 := mul_in (m := 2097152) (n := 2097152) (b.x - a.x) (d.y - c.y) (by omega) (by omega)
  have p2 := mul_in (m := 2097152) (n := 2097152) (b.y - a.y) (d.x - c.x) (by omega) (by omega)
  rw [w64 (n := b.x - a.x) (by omega) (by omega), w64 (n := d.y - c.y) (by omega) (by omega), w64 (n := b.y - a.y) (by omega) (by omega), w64 (n := d.x - c.x) (by omega) (by omega)]
  rw [w64 (n := (b.x - a.x) * (d.y - c.y)) (by omega) (by omega), w64 (n := (b.y - a.y) * (d.x - c.x)) (by omega) (by omega)]
  rw [w64 (by omega) (by omega)]
theorem cmp_sgn (n : Int) : cmpI n 0 = sgn n := by unfold cmpI sgn; repeat' split <;> omega

set_option maxHeartbeats 400000 in
theorem turn16 (a b c : Pt) (ha : ptB a = true) (hb : ptB b = true) (hc : ptB c = true) (w : World) : Calls Try.prog 16 #[pv a.x a.y, pv b.x b.y, pv c.x c.y] w fun e w' => e = .returned (.int .i64 (turnI a b c)) ∧ Below w.heap.size w w' := by
  have E := hide (@prods a b a c ha hb ha hc)
  clear ha hb hc
  go_enter Try.func16, Try.ntmps16
  go_wp2_with (go_at_call 36; refine (sign36 _ _).mono ?_; rintro e w' ⟨rfl, rfl⟩)
  go_ret
  exact ⟨retI (by rw [E.out]; rfl), by go_grown⟩

abbrev bx (p : Pt) : Obj := .cells #[.int .i64 p.x, .int .i64 p.y] 23
theorem boxes3 (w : World) (a b c : Pt) : ∃ W, W = ((w.alloc (bx a)).alloc (bx b)).alloc (bx c) ∧ Below w.heap.size w W
    ∧ W.cell? ⟨w.heap.size, 0, none⟩ = some (.int .i64 a.x) ∧ W.cell? ⟨w.heap.size, 1, none⟩ = some (.int .i64 a.y)
    ∧ W.cell? ⟨w.heap.size + 1, 0, none⟩ = some (.int .i64 b.x) ∧ W.cell? ⟨w.heap.size + 1, 1, none⟩ = some (.int .i64 b.y)
    ∧ W.cell? ⟨w.heap.size + 1 + 1, 0, none⟩ = some (.int .i64 c.x) ∧ W.cell? ⟨w.heap.size + 1 + 1, 1, none⟩ = some (.int .i64 c.y) :=
  ⟨_, rfl, by go_grown, by go_cell, by go_cell, by go_cell, by go_cell, by go_cell, by go_cell⟩

set_option maxHeartbeats 400000 in
theorem turn33 (a b c : Pt) (ha : ptB a = true) (hb : ptB b = true) (hc : ptB c = true) (w : World) : Calls Try.prog 33 #[pv a.x a.y, pv b.x b.y, pv c.x c.y] w fun e w' => e = .returned (.int .i64 (turnI a b c)) ∧ Below w.heap.size w w' := by
  have E := hide (@prods a b a c ha hb ha hc)
  clear ha hb hc
  go_enter Try.func33, Try.ntmps33
  go_wp2_with fail
  obtain ⟨W, hW, hb, q0, q1, q2, q3, q4, q5⟩ := boxes3 w a b c
  rw [← hW]
  have k0 := cell_regrown q0
  have k1 := cell_regrown q1
  have k2 := cell_regrown q2
  have k3 := cell_regrown q3
  have k4 := cell_regrown q4
  have k5 := cell_regrown q5
  have HB := hide hb
  clear hb hW q0 q1 q2 q3 q4 q5
  have c43 : ∀ a b : Pt, ∀ d os, Calls Try.prog 43 #[pv a.x a.y, pv b.x b.y] (grow (redrawn W d) os) fun e w'' => e = .returned (pv (wrap64 (b.x - a.x)) (wrap64 (b.y - a.y))) ∧ ∃ p : Regrown, w'' = grow (redrawn W p.d) p.os := fun a b d os => Calls.regrown_of (stepTo43 a b _)
  have c57 : ∀ x y u v : Int, ∀ d os, Calls Try.prog 57 #[pv x y, pv u v] (grow (redrawn W d) os) fun e w'' => e = .returned (.int .i64 (wrap64 (wrap64 (x * v) - wrap64 (y * u)))) ∧ ∃ p : Regrown, w'' = grow (redrawn W p.d) p.os := fun x y u v d os => Calls.regrown_of (cross57 ⟨x, y⟩ ⟨u, v⟩ _)
  have c56 : ∀ x y d os, Calls Try.prog 56 #[.int .i64 x, .int .i64 y] (grow (redrawn W d) os) fun e w'' => e = .returned (.int .i64 (cmpI x y)) ∧ ∃ p : Regrown, w'' = grow (redrawn W p.d) p.os := fun x y d os => Calls.regrown_of ((compare56 x y _).mono fun _ _ h => ⟨h.1, by rw [h.2]; exact Below.refl _ _⟩)
  refine wp_region_quiet_below (by kernel_rfl) (by kernel_rfl) ?_
  repeat (quiet_step (first | with_reducible exact c43 a b _ _ | with_reducible exact c43 a c _ _ | with_reducible exact c57 _ _ _ _ _ _ | with_reducible exact c56 _ _ _ _))
  refine wpQuiet_nil ?_
  intro wq hw'
  have HBq : Hid (Below w.heap.size w wq) := by
    obtain ⟨⟨dq, osq⟩, hw''⟩ := hw'
    rw [hw'']
    exact HB.out.trans ((below_regrown W dq osq).mono HB.out.size)
  clear hw' c43 c57 c56 k0 k1 k2 k3 k4 k5 HB
  go_wp2
  go_ret
  exact ⟨retI (by rw [E.out, cmp_sgn]; rfl), HBq.out⟩
end Go.Proofs.Ytgnojjbdioldbaa
