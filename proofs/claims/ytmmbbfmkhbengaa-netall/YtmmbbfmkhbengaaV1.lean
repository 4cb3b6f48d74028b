/- The document's From, pair, Parallel. -/
import Derived.Test.YtmmbbfmkhbengaaT2
import Derived.Test.YtmmbbfmkhbengaaT4
namespace Go.Proofs.Ytmmbbfmkhbengaa
open Go.RowKit Go.Sort
open Go


/-- The end of an edge that a half-edge leaves. -/
def fromL (es : List Pt) (h : Nat) : Int := if h % 2 = 0 then (at' es (h / 2)).x else (at' es (h / 2)).y
set_option maxHeartbeats 1000000 in
theorem from50 (n : Int) (p : Option Addr) (es : List Pt) (cap h : Nat) (w : World) (hh : Has w p es) (hl : h < 2 * es.length) (hb : es.length ≤ 100000) : Calls Try.prog 59 #[nv n p es.length cap, .int .i64 h] w fun e w' => e = .returned (.int .i64 (fromL es h)) ∧ Below w.heap.size w w' := by
  have hk : h / 2 < es.length := by omega
  rcases hh with h0 | ⟨b, off, rfl, hL⟩
  · subst h0; simp at hk
  obtain ⟨c0, c1⟩ := hL (h / 2) hk
  have zb : b < w.heap.size := block_lt_of_cell c0
  have hd : Int.tdiv (h : Int) 2 = ((h / 2 : Nat) : Int) := by rw [Int.tdiv_eq_ediv_of_nonneg (by omega)]; exact (Int.natCast_ediv h 2).symm
  have hr : Int.tmod (h : Int) 2 = ((h % 2 : Nat) : Int) := by rw [Int.tmod_eq_emod_of_nonneg (by omega)]; exact (Int.natCast_emod h 2).symm
  have HF : Hid (fromL es h = if h % 2 = 0 then (at' es (h / 2)).x else (at' es (h / 2)).y) := rfl
  obtain ⟨x, hx⟩ : ∃ x, at' es (h / 2) = x := ⟨_, rfl⟩
  rw [hx] at c0 c1 HF
  have hr2 : h % 2 < 2 := by omega
  have hkl : h / 2 ≤ 100000 := by omega
  obtain ⟨q, hq⟩ : ∃ q, h / 2 = q := ⟨_, rfl⟩
  obtain ⟨r, hre⟩ : ∃ r, h % 2 = r := ⟨_, rfl⟩
  rw [hq] at c0 c1 hd hk hkl
  rw [hre] at hr HF hr2
  have i1 : (q : Int) < es.length := by omega
  have i2 : (0 : Int) ≤ q := by omega
  clear hx hL hq hre
  have h01 : r = 0 ∨ r = 1 := by omega
  rcases h01 with rfl | rfl
  · go_enter Try.func59, Try.ntmps59
    go_wp2
    go_ret
    exact ⟨retI (by rw [HF.out]; simp), by go_grown⟩
  · go_enter Try.func59, Try.ntmps59
    go_wp2
    go_ret
    exact ⟨retI (by rw [HF.out]; simp), by go_grown⟩
theorem load48 {V : World} {g : Nat} {x y : Int} (q0 : V.cell? ⟨g, 0, none⟩ = some (.int .i64 x)) (q1 : V.cell? ⟨g, 1, none⟩ = some (.int .i64 y)) : (loadVar 60 ⟨g, 0, none⟩).run Try.prog V = .ok (pv x y) V := by
  have l0 : (load ⟨g, 0, none⟩).run Try.prog V = .ok (.int .i64 x) V := by simp [go_sem, q0]
  have l1 : (load ⟨g, 1, none⟩).run Try.prog V = .ok (.int .i64 y) V := by simp [go_sem, q1]
  simp only [loadVar, Sem.run_bind, Try.isAgg60, Result.andThen_ok, if_true, Try.sizeOf60]
  simp only [loadCells, go_sem]
  simp only [Sem.run_bind, Nat.zero_add, l0, l1, Result.andThen_ok, Sem.run_pure]
  rfl
theorem ret_pair {fn : Func} {c : Tmp} (hr : fn.results = #[.cell c 60]) {tmps : Array Value} {V : World} {g : Nat} {x y : Int} (h2 : tmps.getD c undef = .pointer (some ⟨g, 0, none⟩)) (q0 : V.cell? ⟨g, 0, none⟩ = some (.int .i64 x)) (q1 : V.cell? ⟨g, 1, none⟩ = some (.int .i64 y)) :
    (results fn tmps).run Try.prog V = .ok (pv x y) V := by
  rw [results_c hr, h2, asA, Result.andThen_ok, load48 q0 q1]
def prP (p : Pt) : Pt := if p.y < p.x then ⟨p.y, p.x⟩ else p
set_option maxHeartbeats 1000000 in
theorem pair49 (p : Pt) (w : World) : Calls Try.prog 61 #[pv p.x p.y] w fun e w' => e = .returned (pv (prP p).x (prP p).y) ∧ Below w.heap.size w w' := by
  have HP : Hid (prP p = if p.y < p.x then ⟨p.y, p.x⟩ else p) := rfl
  by_cases h : p.y < p.x
  · rw [if_pos h] at HP
    rw [HP.out]
    go_enter Try.func61, Try.ntmps61
    go_wp2
    exact bodyPost_ret (ret_pair Try.results61 rfl (by go_cell) (by go_cell)) rfl ⟨rfl, by go_grown⟩
  · rw [if_neg h] at HP
    rw [HP.out]
    go_enter Try.func61, Try.ntmps61
    go_wp2
    exact bodyPost_ret (ret_pair Try.results61 rfl (by go_cell) (by go_cell)) rfl ⟨rfl, by go_grown⟩
def parB (es : List Pt) (e : Nat) : Bool := (List.range e).any fun i => decide (prP (at' es i) = prP (at' es e))
theorem parB_no {es : List Pt} {e : Nat} (h : ∀ i, i < e → prP (at' es i) ≠ prP (at' es e)) : parB es e = false := by
  simp only [parB, List.any_eq_false, List.mem_range, decide_eq_true_eq]
  exact h
theorem parB_yes {es : List Pt} {e i : Nat} (hi : i < e) (h : prP (at' es i) = prP (at' es e)) : parB es e = true := by
  simp only [parB, List.any_eq_true, List.mem_range, decide_eq_true_eq]
  exact ⟨i, hi, h⟩
set_option maxRecDepth 100000 in
set_option maxHeartbeats 4000000 in
theorem par39 (n : Int) (p : Option Addr) (es : List Pt) (cap k : Nat) (w : World) (hh : Has w p es) (hk : k < es.length) (hb : es.length ≤ 100000) : Calls Try.prog 60 #[nv n p es.length cap, .int .i64 k] w fun e w' => e = .returned (.bool (parB es k)) ∧ Below w.heap.size w w' := by
  rcases hh with h0 | ⟨b, off, rfl, hL⟩
  · subst h0; simp at hk
  obtain ⟨U, hU⟩ : ∃ U, U = w.alloc (nbx n (some ⟨b, off, none⟩) es.length cap) := ⟨_, rfl⟩
  have hbU : Below w.heap.size w U := by rw [hU]; go_grown
  have HN : Hid (NOwn U w.heap.size n (some ⟨b, off, none⟩) es.length cap) := by show NOwn _ _ _ _ _ _; rw [hU]; exact ⟨by unfold nbx; go_cell, by unfold nbx; go_cell, by unfold nbx; go_cell, by unfold nbx; go_cell⟩
  have HL := hide (hL.later hbU)
  have HB := hide hbU
  clear hbU hL
  go_enter Try.func60, Try.ntmps60
  go_wp2_with fail
  rw [← hU]
  obtain ⟨kb, hkb⟩ : ∃ kb, w.heap.size = kb := ⟨_, rfl⟩
  rw [hkb] at HN ⊢
  clear hU hkb
  go_loopw [5] (fun t wr => ∃ i : Nat, i ≤ k ∧ t = .int .i64 i ∧ Hid (Below U.heap.size U wr) ∧ Hid (∀ j, j < i → prP (at' es j) ≠ prP (at' es k))) (fun t _ => k - (intOf t).toNat)
  case atStart => exact ⟨0, by omega, rfl, Below.refl _ _, fun j hj => by omega⟩
  case round =>
    obtain ⟨i, hi, rfl, HBr, HP⟩ := hrel
    by_cases hlt : i < k
    · obtain ⟨q0, q1, _, _⟩ := HN.out.later HBr.out
      obtain ⟨c0, c1⟩ := HL.out.later HBr.out i (by omega)
      obtain ⟨d0, d1⟩ := HL.out.later HBr.out k hk
      have i1 : (i : Int) < es.length := by omega
      have i2 : (0 : Int) ≤ i := by omega
      have i3 : (k : Int) < es.length := by omega
      have i4 : (0 : Int) ≤ k := by omega
      obtain ⟨x, hx⟩ : ∃ x, at' es i = x := ⟨_, rfl⟩
      obtain ⟨y, hy⟩ : ∃ y, at' es k = y := ⟨_, rfl⟩
      rw [hx] at c0 c1
      rw [hy] at d0 d1
      have HX := hide hx
      have HY := hide hy
      clear hx hy
      have CX : ∀ dd os, Calls Try.prog 61 #[pv x.x x.y] (grow (redrawn wr dd) os) fun e w'' => e = .returned (pv (prP x).x (prP x).y) ∧ ∃ p : Regrown, w'' = grow (redrawn wr p.d) p.os := fun dd os => Calls.regrown_of (pair49 x _)
      have CY : ∀ dd os, Calls Try.prog 61 #[pv y.x y.y] (grow (redrawn wr dd) os) fun e w'' => e = .returned (pv (prP y).x (prP y).y) ∧ ∃ p : Regrown, w'' = grow (redrawn wr p.d) p.os := fun dd os => Calls.regrown_of (pair49 y _)
      have Q1 := cell_regrown q1
      have C0 := cell_regrown c0
      have C1 := cell_regrown c1
      have D0 := cell_regrown d0
      have D1 := cell_regrown d1
      have HE := fun V => eq60 (prP x) (prP y) V
      cases hxy : decide (prP x = prP y)
      · rw [hxy] at HE
        go_wp2_with fail
        refine wp_region_quiet_below (by kernel_rfl) (by kernel_rfl) ?_
        repeat (go_big_quiet_step (first | with_reducible exact CX _ _ | with_reducible exact CY _ _))
        refine wpQuiet_nil ?_
        intro x1 hw'
        have HB1 : Hid (Below wr.heap.size wr x1) := by
          obtain ⟨⟨dq, osq⟩, hw''⟩ := hw'
          show Below _ _ _
          rw [hw'']
          exact below_regrown wr dq osq
        clear hw' q0 q1 c0 c1 d0 d1 Q1 C0 C1 D0 D1 CX CY HE
        go_wp2
        go_roundw
        case rel => exact ⟨i + 1, by omega, by go_num, below_step HBr.out HB1.out, more HP.out (by rw [HX.out, HY.out]; exact of_decide_eq_false hxy)⟩
        case measure => simp [intOf]; omega
      · rw [hxy] at HE
        go_wp2_with fail
        refine wp_region_quiet_below (by kernel_rfl) (by kernel_rfl) ?_
        repeat (go_big_quiet_step (first | with_reducible exact CX _ _ | with_reducible exact CY _ _))
        refine wpQuiet_nil ?_
        intro x1 hw'
        have HB1 : Hid (Below wr.heap.size wr x1) := by
          obtain ⟨⟨dq, osq⟩, hw''⟩ := hw'
          show Below _ _ _
          rw [hw'']
          exact below_regrown wr dq osq
        clear hw' q0 q1 c0 c1 d0 d1 Q1 C0 C1 D0 D1 CX CY HE
        go_wp2
        go_ret
        exact ⟨retB (by rw [parB_yes hlt (by rw [HX.out, HY.out]; exact of_decide_eq_true hxy)]), below_step HB.out (below_step HBr.out HB1.out)⟩
    · have hin : i = k := by omega
      subst hin
      go_wp2
      go_ret
      exact ⟨retB (by rw [parB_no HP.out]), below_step HB.out HBr.out⟩
end Go.Proofs.Ytmmbbfmkhbengaa
