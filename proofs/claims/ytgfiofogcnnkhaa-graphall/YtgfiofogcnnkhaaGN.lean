/- isBetween. -/
import Derived.Test.YtgfiofogcnnkhaaGM
import Derived.Deep.QuietTactic
import Derived.BigQuiet
namespace Go.Proofs.Ytgfiofogcnnkhaa
open Go.RowKit Go.Sort
open Go

theorem atN_mem {l : List Ed} {v x : Int} : ∀ {k : Nat}, x ∈ atN l v k ↔ ∃ j : Nat, j < k ∧ x = j ∧ ((eat l j).a = v ∨ (eat l j).b = v)
  | 0 => by simp [atN]
  | k + 1 => by
    have ih := atN_mem (l := l) (v := v) (x := x) (k := k)
    simp only [atN, List.mem_append]
    rw [ih]
    constructor
    · rintro (⟨j, h1, h2, h3⟩ | h)
      · exact ⟨j, by omega, h2, h3⟩
      · split at h
        · next ht =>
          simp at h
          exact ⟨k, by omega, h, ht⟩
        · simp at h
    · rintro ⟨j, h1, h2, h3⟩
      rcases Nat.lt_succ_iff_lt_or_eq.1 h1 with h | h
      · exact Or.inl ⟨j, h, h2, h3⟩
      · subst h
        right
        rw [if_pos h3]
        simp [h2]
theorem atN_up (l : List Ed) (v : Int) : ∀ k : Nat, Up (atN l v k)
  | 0 => List.Pairwise.nil
  | k + 1 => by
    have ih := atN_up l v k
    simp only [atN]
    refine List.pairwise_append.2 ⟨ih, ?_, ?_⟩
    · split <;> simp
    · intro x hx y hy
      obtain ⟨j, h1, h2, _⟩ := atN_mem.1 hx
      split at hy
      · simp at hy; omega
      · simp at hy
theorem plAt_two {G : Gr} {v : Int} (h : (plAt G v).length = 2) : ∃ p0 p1 : Nat, plAt G v = [(p0 : Int), (p1 : Int)] ∧ p0 < p1 ∧ p1 < G.es.length := by
  obtain ⟨x, y, e⟩ : ∃ x y, plAt G v = [x, y] := by
    rcases hp : plAt G v with _ | ⟨x, _ | ⟨y, _ | ⟨z, r⟩⟩⟩
    · rw [hp] at h; simp at h
    · rw [hp] at h; simp at h
    · exact ⟨x, y, rfl⟩
    · rw [hp] at h; simp at h
  have hx : x ∈ plAt G v := by rw [e]; simp
  have hy : y ∈ plAt G v := by rw [e]; simp
  obtain ⟨i, h1, rfl, _⟩ := atN_mem.1 hx
  obtain ⟨j, h2, rfl, _⟩ := atN_mem.1 hy
  have hu := atN_up G.es v G.es.length
  rw [show atN G.es v G.es.length = [(i : Int), (j : Int)] from e] at hu
  have := (List.pairwise_cons.1 hu).1 _ (List.mem_singleton.2 rfl)
  exact ⟨i, j, e, by omega, h2⟩
def btwB (G : Gr) (v : Int) : Bool := decide ((plAt G v).length = 2) && (!decide ((eat G.es (iat (plAt G v) 0).toNat).a = (eat G.es (iat (plAt G v) 0).toNat).b) && !decide ((eat G.es (iat (plAt G v) 1).toNat).a = (eat G.es (iat (plAt G v) 1).toNat).b))
set_option maxRecDepth 100000 in
set_option maxHeartbeats 8000000 in
theorem isBetween57 (b : Nat) (s : GV) (G : Gr) (v : Int) (p : Option Addr) (c : Nat) (w : World) (h : GAt w b s G) (hi : IHas w p (plAt G v)) (hl : G.es.length ≤ 5000) : Calls Try.prog 57 #[ptr b, .slice p (plAt G v).length c] w fun e w' => e = .returned (.bool (btwB G v)) ∧ Below w.heap.size w w' := by
  by_cases h2 : (plAt G v).length = 2
  · obtain ⟨p0, p1, e, h01, h1l⟩ := plAt_two h2
    have hB : btwB G v = (!decide ((eat G.es p0).a = (eat G.es p0).b) && !decide ((eat G.es p1).a = (eat G.es p1).b)) := by
      unfold btwB
      rw [e]
      simp [iat]
    rw [hB, h2]
    rcases hi with hi | ⟨pb, po, rfl, hc⟩
    · rw [hi] at h2; simp at h2
    have d0 := hc 0 (by omega)
    have d1 := hc 1 (by omega)
    rw [e] at d0 d1
    simp only [iat, List.getD_cons_zero, List.getD_cons_succ, Nat.add_zero] at d0 d1
    obtain ⟨pn, cn, pe, ce, pm, cm, pd, cd, _, hs, _⟩ := h.form
    have oe := h.edg
    rw [hs] at oe
    obtain ⟨g, rfl, _, hg⟩ := own_some oe (by omega)
    have q2 : w.cell? ⟨b, 2, none⟩ = some (.slice (some ⟨g, 0, none⟩) G.es.length ce) := by have := h.cells.2.2.1; rw [hs] at this; exact this
    have EL : ELies w g G.es := by
      rcases own_ehas oe with h | ⟨g', h1, h2⟩
      · rw [h] at h1l; simp at h1l
      · cases h1; exact h2
    obtain ⟨x0, x1, x2⟩ := EL p0 (by omega)
    obtain ⟨y0, y1, y2⟩ := EL p1 (by omega)
    generalize eat G.es p0 = x at x0 x1 x2
    generalize eat G.es p1 = y at y0 y1 y2
    have C1 : ∀ dd os, Calls Try.prog 87 #[.agg #[.int .i64 x.id, .int .i64 x.a, .int .i64 x.b]] (grow (redrawn w dd) os) fun e w'' => e = .returned (.bool (decide (x.a = x.b))) ∧ ∃ p : Regrown, w'' = grow (redrawn w p.d) p.os := fun dd os => Calls.regrown_of (isLoop87 x _)
    have C2 : ∀ dd os, Calls Try.prog 87 #[.agg #[.int .i64 y.id, .int .i64 y.a, .int .i64 y.b]] (grow (redrawn w dd) os) fun e w'' => e = .returned (.bool (decide (y.a = y.b))) ∧ ∃ p : Regrown, w'' = grow (redrawn w p.d) p.os := fun dd os => Calls.regrown_of (isLoop87 y _)
    have Q2 := cell_regrown q2
    have D0 := cell_regrown d0
    have D1 := cell_regrown d1
    have X0 := cell_regrown x0
    have X1 := cell_regrown x1
    have X2 := cell_regrown x2
    have Y0 := cell_regrown y0
    have Y1 := cell_regrown y1
    have Y2 := cell_regrown y2
    have i0 : (0 : Int) ≤ p0 := by omega
    have i1 : (p0 : Int) < G.es.length := by omega
    have i2 : (0 : Int) ≤ p1 := by omega
    have i3 : (p1 : Int) < G.es.length := by omega
    clear h oe EL hc q2 d0 d1 x0 x1 x2 y0 y1 y2 hB hs e h2
    obtain ⟨l0, hl0⟩ : ∃ l, decide (x.a = x.b) = l := ⟨_, rfl⟩
    obtain ⟨l1, hl1⟩ : ∃ l, decide (y.a = y.b) = l := ⟨_, rfl⟩
    rw [hl0] at C1 ⊢
    rw [hl1] at C2 ⊢
    clear hl0 hl1
    cases l0
    · go_enter Try.func57, Try.ntmps57
      go_wp2_with fail
      refine wp_region_quiet_below (by kernel_rfl) (by kernel_rfl) ?_
      repeat (go_big_quiet_step (first | with_reducible exact C1 _ _ | with_reducible exact C2 _ _))
      refine wpQuiet_nil ?_
      intro w1 hw'
      have hb1 : Below w.heap.size w w1 := by
        obtain ⟨⟨dq, osq⟩, hw''⟩ := hw'
        rw [hw'']
        exact below_regrown w dq osq
      have HB1 := hide hb1
      clear hw' hb1 C1 C2 Q2 D0 D1 X0 X1 X2 Y0 Y1 Y2
      go_wp2
      go_ret
      exact ⟨by cases l1 <;> rfl, HB1.out⟩
    · go_enter Try.func57, Try.ntmps57
      go_wp2_with fail
      refine wp_region_quiet_below (by kernel_rfl) (by kernel_rfl) ?_
      repeat (go_big_quiet_step (first | with_reducible exact C1 _ _ | with_reducible exact C2 _ _))
      refine wpQuiet_nil ?_
      intro w1 hw'
      have hb1 : Below w.heap.size w w1 := by
        obtain ⟨⟨dq, osq⟩, hw''⟩ := hw'
        rw [hw'']
        exact below_regrown w dq osq
      have HB1 := hide hb1
      clear hw' hb1 C1 C2 Q2 D0 D1 X0 X1 X2 Y0 Y1 Y2
      go_wp2
      go_ret
      exact ⟨by rfl, HB1.out⟩
  · have hB : btwB G v = false := by
      unfold btwB
      rw [decide_eq_false h2]
      rfl
    rw [hB]
    obtain ⟨n, hn⟩ : ∃ n, (plAt G v).length = n := ⟨_, rfl⟩
    rw [hn] at h2 ⊢
    have e2 : ((n : Int) == 2) = false := by
      rw [beq_eq_false_iff_ne]; omega
    clear h hi hB hn
    go_enter Try.func57, Try.ntmps57
    go_wp2_with fail
    refine wp_region_quiet_below (by kernel_rfl) (by kernel_rfl) ?_
    repeat (go_big_quiet_step (fail))
    refine wpQuiet_nil ?_
    intro w1 hw'
    have hb1 : Below w.heap.size w w1 := by
      obtain ⟨⟨dq, osq⟩, hw''⟩ := hw'
      rw [hw'']
      exact below_regrown w dq osq
    have HB1 := hide hb1
    clear hw' hb1
    go_wp2
    go_ret
    exact ⟨by rfl, HB1.out⟩
end Go.Proofs.Ytgfiofogcnnkhaa
