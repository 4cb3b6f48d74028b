/- The document's Degrees, in every world. -/
import Derived.Test.YtaebbfilgfkckaaT4
import Derived.Test.YtaebbfilgfkckaaN7
/- The document's small functions of a net: From, pair, in every world. -/
namespace Go.Proofs.Ytaebbfilgfkckaa
open Go.RowKit Go.Sort
open Go


/-- The end of an edge that a half-edge leaves. -/
def fromL (es : List Pt) (h : Nat) : Int := if h % 2 = 0 then (at' es (h / 2)).x else (at' es (h / 2)).y
set_option maxHeartbeats 1000000 in
theorem from50 (n : Int) (p : Option Addr) (es : List Pt) (cap h : Nat) (w : World) (hh : Has w p es) (hl : h < 2 * es.length) (hb : es.length ≤ 100000) : Calls Try.prog 38 #[nv n p es.length cap, .int .i64 h] w fun e w' => e = .returned (.int .i64 (fromL es h)) ∧ Below w.heap.size w w' := by
  have hk : h / 2 < es.length := by omega
  rcases hh with h0 | ⟨b, off, rfl, hL⟩
  · subst h0; simp at hk
  obtain ⟨c0, c1⟩ := hL (h / 2) hk
  have zb : b < w.heap.size := block_lt_of_cell c0
  have hd : Int.tdiv (h : Int) 2 = ((h / 2 : Nat) : Int) := by rw [Int.tdiv_eq_ediv_of_nonneg (by omega)]; exact (Int.natCast_ediv h 2).symm
  have hr : Int.tmod (h : Int) 2 = ((h % 2 : Nat) : Int) := by rw [Int.tmod_eq_emod_of_nonneg (by omega)]; exact (Int.natCast_emod h 2).symm
  have HF : Hid (fromL es h = if h % 2 = 0 then (at' es (h / 2)).x else (at' es (h / 2)).y) := rfl
  obtain ⟨x, hx⟩ : ∃ x, at' es (h / 2) = x := ⟨_, rfl⟩
  rw [hx] at c0 c1 HF
  have hr2 : h % 2 < 2 := by omega
  have hkl : h / 2 ≤ 100000 := by omega
  obtain ⟨q, hq⟩ : ∃ q, h / 2 = q := ⟨_, rfl⟩
  obtain ⟨r, hre⟩ : ∃ r, h % 2 = r := ⟨_, rfl⟩
  rw [hq] at c0 c1 hd hk hkl
  rw [hre] at hr HF hr2
  have i1 : (q : Int) < es.length := by omega
  have i2 : (0 : Int) ≤ q := by omega
  clear hx hL hq hre
  have h01 : r = 0 ∨ r = 1 := by omega
  rcases h01 with rfl | rfl
  · go_enter Try.func38, Try.ntmps38
    go_wp2
    go_ret
    exact ⟨retI (by rw [HF.out]; simp), by go_grown⟩
  · go_enter Try.func38, Try.ntmps38
    go_wp2
    go_ret
    exact ⟨retI (by rw [HF.out]; simp), by go_grown⟩
theorem load48 {V : World} {g : Nat} {x y : Int} (q0 : V.cell? ⟨g, 0, none⟩ = some (.int .i64 x)) (q1 : V.cell? ⟨g, 1, none⟩ = some (.int .i64 y)) : (loadVar 57 ⟨g, 0, none⟩).run Try.prog V = .ok (pv x y) V := by
  have l0 : (load ⟨g, 0, none⟩).run Try.prog V = .ok (.int .i64 x) V := by simp [go_sem, q0]
  have l1 : (load ⟨g, 1, none⟩).run Try.prog V = .ok (.int .i64 y) V := by simp [go_sem, q1]
  simp only [loadVar, Sem.run_bind, Try.isAgg57, Result.andThen_ok, if_true, Try.sizeOf57]
  simp only [loadCells, go_sem]
  simp only [Sem.run_bind, Nat.zero_add, l0, l1, Result.andThen_ok, Sem.run_pure]
  rfl
theorem ret_pair {fn : Func} {c : Tmp} (hr : fn.results = #[.cell c 57]) {tmps : Array Value} {V : World} {g : Nat} {x y : Int} (h2 : tmps.getD c undef = .pointer (some ⟨g, 0, none⟩)) (q0 : V.cell? ⟨g, 0, none⟩ = some (.int .i64 x)) (q1 : V.cell? ⟨g, 1, none⟩ = some (.int .i64 y)) :
    (results fn tmps).run Try.prog V = .ok (pv x y) V := by
  rw [results_c hr, h2, asA, Result.andThen_ok, load48 q0 q1]
def prP (p : Pt) : Pt := if p.y < p.x then ⟨p.y, p.x⟩ else p
def parB (es : List Pt) (e : Nat) : Bool := (List.range e).any fun i => decide (prP (at' es i) = prP (at' es e))
theorem parB_no {es : List Pt} {e : Nat} (h : ∀ i, i < e → prP (at' es i) ≠ prP (at' es e)) : parB es e = false := by
  simp only [parB, List.any_eq_false, List.mem_range, decide_eq_true_eq]
  exact h
theorem parB_yes {es : List Pt} {e i : Nat} (hi : i < e) (h : prP (at' es i) = prP (at' es e)) : parB es e = true := by
  simp only [parB, List.any_eq_true, List.mem_range, decide_eq_true_eq]
  exact ⟨i, hi, h⟩
end Go.Proofs.Ytaebbfilgfkckaa

namespace Go.Proofs.Ytaebbfilgfkckaa
open Go.RowKit Go.Sort
open Go


/-- Degrees, half-edge by half-edge. -/
def dgH (es : List Pt) (m : Nat) : Nat → List Int
  | 0 => List.replicate m 0
  | h + 1 => bump (dgH es m h) (fromL es h).toNat
theorem dgH_even (es : List Pt) (m : Nat) : ∀ i, dgH es m (2 * i) = degN es m i
  | 0 => rfl
  | i + 1 => by
    have ih := dgH_even es m i
    rw [show 2 * (i + 1) = 2 * i + 1 + 1 by omega]
    simp only [dgH, degN]
    rw [ih]
    have e1 : fromL es (2 * i) = (at' es i).x := by unfold fromL; rw [if_pos (by omega), show 2 * i / 2 = i by omega]
    have e2 : fromL es (2 * i + 1) = (at' es i).y := by unfold fromL; rw [if_neg (by omega), show (2 * i + 1) / 2 = i by omega]
    rw [e1, e2]
theorem dgH_length (es : List Pt) (m : Nat) : ∀ h, (dgH es m h).length = m
  | 0 => by simp [dgH]
  | h + 1 => by simp [dgH, bump_length, dgH_length es m h]
theorem dgH_in (es : List Pt) (m : Nat) : ∀ h j, j < m → 0 ≤ iat (dgH es m h) j ∧ iat (dgH es m h) j ≤ h
  | 0, j, hj => by simp only [dgH]; rw [iat_replicate _ _ _ hj]; omega
  | h + 1, j, hj => by
    have ih := dgH_in es m h j hj
    have hl := dgH_length es m h
    simp only [dgH]
    rw [bump_at _ _ _ (by omega)]
    split <;> omega
theorem fromL_in {m : Int} {es : List Pt} (hm : netB m es = true) (h : Nat) (hl : h < 2 * es.length) : 0 ≤ fromL es h ∧ fromL es h < m := by
  obtain ⟨_, _, _, hE⟩ := netB_is hm
  have := hE (h / 2) (by omega)
  unfold fromL
  split <;> omega
end Go.Proofs.Ytaebbfilgfkckaa
