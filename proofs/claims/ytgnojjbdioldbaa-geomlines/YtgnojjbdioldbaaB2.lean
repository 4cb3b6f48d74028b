/- Box, in every world: its walk. -/
import Derived.Test.YtgnojjbdioldbaaB1
namespace Go.Proofs.Ytgnojjbdioldbaa
open Go.RowKit Go.Sort
open Go

theorem load25 {V : World} {g : Nat} {p : Pt} (h : Own V g p) : (loadVar 23 ⟨g, 0, none⟩).run Try.prog V = .ok (pv p.x p.y) V := by
  obtain ⟨q0, q1, _, _⟩ := h
  have l0 : (load ⟨g, 0, none⟩).run Try.prog V = .ok (.int .i64 p.x) V := by simp [go_sem, q0]
  have l1 : (load ⟨g, 1, none⟩).run Try.prog V = .ok (.int .i64 p.y) V := by simp [go_sem, q1]
  simp only [loadVar, Sem.run_bind, Try.isAgg23, Result.andThen_ok, if_true, Try.sizeOf23]
  simp only [loadCells, go_sem]
  simp only [Sem.run_bind, Nat.zero_add, l0, l1, Result.andThen_ok, Sem.run_pure]
  rfl
theorem results_ccT {fn : Func} {p q u : Tmp} {ty ty2 : TypeId} (h : fn.results = #[.cell p ty, .cell q ty2, .tmp u]) (tmps : Array Value) (P : Program) (w : World) :
    (results fn tmps).run P w =
      ((asAddr (tmps.getD p undef)).run P w).andThen fun a w₁ => ((loadVar ty a).run P w₁).andThen fun v w₂ => ((asAddr (tmps.getD q undef)).run P w₂).andThen fun a' w₃ => ((loadVar ty2 a').run P w₃).andThen fun v' w₄ => .ok (.tuple #[v, v', tmps.getD u undef]) w₄ := by
  simp only [results, h]
  simp [Sem.run_bind, Result.andThen]
theorem asA (V : World) (a : Addr) : (asAddr (.pointer (some a))).run Try.prog V = .ok a V := rfl
theorem ret_box {tmps : Array Value} {V : World} {g h : Nat} {e : Int} {lo hi : Pt} (h2 : tmps.getD 2 undef = .pointer (some ⟨g, 0, none⟩)) (h3 : tmps.getD 3 undef = .pointer (some ⟨h, 0, none⟩)) (h4 : tmps.getD 4 undef = .int .i64 e) (k : Own2 V g h lo hi) :
    (results Try.f25 tmps).run Try.prog V = .ok (.tuple #[pv lo.x lo.y, pv hi.x hi.y, .int .i64 e]) V := by
  have e1 := results_ccT (fn := Try.f25) (p := 2) (q := 3) (u := 4) (ty := 23) (ty2 := 23) Try.results25 tmps Try.prog V
  rw [e1, h2, h3, h4, asA, Result.andThen_ok, load25 k.1, Result.andThen_ok, asA, Result.andThen_ok, load25 k.2, Result.andThen_ok]

theorem two_x (w1 : World) (x : Pt) : Own2 ((w1.alloc (bx x)).alloc (bx x)).drew w1.heap.size (w1.heap.size + 1) x x :=
  ⟨⟨by go_cell, by go_cell, by simp [go_sem], by simp [go_sem]⟩, by go_cell, by go_cell, by simp [go_sem], by simp [go_sem]⟩
theorem Own2.symm2 {V : World} {g h : Nat} {p q : Pt} (k : Own2 V g h p q) : Own2 V h g q p := ⟨k.2, k.1⟩

set_option maxRecDepth 100000 in
set_option maxHeartbeats 4000000 in
theorem box7no (p : Option Addr) (ps : List Pt) (cap : Nat) (w : World) (h : Has w p ps) (hm : mayB ps = false) : Calls Try.prog 25 #[.slice p ps.length cap] w fun e w' => e = .returned (.tuple #[pv (boxLo ps).x (boxLo ps).y, pv (boxHi ps).x (boxHi ps).y, .int .i64 (boxE ps)]) ∧ Below w.heap.size w w' := by
  obtain ⟨W, hW, hb, q⟩ := zeros w
  have M := may15 p ps cap W (h.later hb)
  have HB := hide hb
  have HQ := hide q
  clear h hb q
  rw [hm] at M
  have M' := hide M
  clear M
  go_enter Try.func25, Try.ntmps25
  go_wp2_with fail
  rw [← hW]
  clear hW
  refine M'.out.mono ?_
  rintro e w1 ⟨rfl, hb1⟩
  have HB1 := hide (Below.trans HB.out (hb1.mono HB.out.size))
  have HQ1 := hide (HQ.out.later hb1)
  clear hb1
  obtain ⟨⟨q0, q1, q2, q3⟩, q4, q5, q6, q7⟩ := HQ1.out
  go_wp2
  obtain ⟨V, hV, kV, bV⟩ := set4 HQ1.out (by omega) ⟨0, 0⟩ ⟨0, 0⟩
  have hVB := bV w.heap.size w (Nat.le_refl _) (by omega) HB1.out
  rw [← hV]
  clear hV bV
  exact bodyPost_ret (ret_box rfl rfl rfl kV) rfl ⟨by simp [boxLo, boxHi, boxE, hm], hVB⟩
set_option maxRecDepth 100000 in
set_option maxHeartbeats 4000000 in
theorem box7nil (p : Option Addr) (cap : Nat) (w : World) : Calls Try.prog 25 #[.slice p 0 cap] w fun e w' => e = .returned (.tuple #[pv (boxLo []).x (boxLo []).y, pv (boxHi []).x (boxHi []).y, .int .i64 (boxE [])]) ∧ Below w.heap.size w w' := by
  obtain ⟨W, hW, hb, q⟩ := zeros w
  have M := may15 p [] cap W (Or.inl rfl)
  have HB := hide hb
  have HQ := hide q
  have hm : mayB [] = true := by decide
  clear hb q
  rw [hm] at M
  have M' := hide M
  clear M
  simp only [List.length_nil] at M'
  go_enter Try.func25, Try.ntmps25
  go_wp2_with fail
  rw [← hW]
  clear hW
  refine M'.out.mono ?_
  rintro e w1 ⟨rfl, hb1⟩
  have HB1 := hide (Below.trans HB.out (hb1.mono HB.out.size))
  have HQ1 := hide (HQ.out.later hb1)
  clear hb1
  obtain ⟨⟨q0, q1, q2, q3⟩, q4, q5, q6, q7⟩ := HQ1.out
  go_wp2
  obtain ⟨V, hV, kV, bV⟩ := set4 HQ1.out (by omega) ⟨0, 0⟩ ⟨0, 0⟩
  have hVB := bV w.heap.size w (Nat.le_refl _) (by omega) HB1.out
  rw [← hV]
  clear hV bV
  exact bodyPost_ret (ret_box rfl rfl rfl kV) rfl ⟨by simp [boxLo, boxHi, boxE, hm], hVB⟩
end Go.Proofs.Ytgnojjbdioldbaa
