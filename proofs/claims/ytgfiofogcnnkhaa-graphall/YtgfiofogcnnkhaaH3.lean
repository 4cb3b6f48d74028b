/- slices.IndexFunc of marks; slices.Delete where nothing goes. -/
import Derived.Test.YtgfiofogcnnkhaaH2
namespace Go.Proofs.Ytgfiofogcnnkhaa
open Go.RowKit Go.Sort
open Go

def mix : List (Int × Nat) → Int → Nat
  | [], _ => 0
  | m :: r, x => if m.1 = x then 0 else mix r x + 1
theorem mix_hit : ∀ {l : List (Int × Nat)} {x : Int} {k : Nat}, k < l.length → (∀ j, j < k → (mat l j).1 ≠ x) → (mat l k).1 = x → mix l x = k
  | [], _, _, h, _, _ => by simp at h
  | m :: r, x, 0, _, _, h => if_pos h
  | m :: r, x, k + 1, h, h1, h2 => by
    have h0 : ¬ m.1 = x := h1 0 (by omega)
    unfold mix
    rw [if_neg h0, mix_hit (l := r) (k := k) (by simpa using h) (fun j hj => h1 (j + 1) (by omega)) h2]
theorem mix_none : ∀ {l : List (Int × Nat)} {x : Int}, (∀ j, j < l.length → (mat l j).1 ≠ x) → mix l x = l.length
  | [], _, _ => rfl
  | m :: r, x, h => by
    have h0 : ¬ m.1 = x := h 0 (by simp)
    unfold mix
    rw [if_neg h0, mix_none (l := r) (fun j hj => h (j + 1) (by simpa using hj))]
    rfl
def mixI (l : List (Int × Nat)) (x : Int) : Int := if mix l x < l.length then mix l x else -1
def MHas (w : World) (p : Option Addr) (l : List (Int × Nat)) : Prop := l = [] ∨ ∃ b, p = some ⟨b, 0, none⟩ ∧ ∀ j, j < l.length → w.cell? ⟨b, j * 2, none⟩ = some (.int .i64 (mat l j).1) ∧ w.cell? ⟨b, j * 2 + 1, none⟩ = some (.int .i64 (mat l j).2)
theorem MHas.later {w w' : World} {p : Option Addr} {l : List (Int × Nat)} (h : MHas w p l) (hb : Below w.heap.size w w') : MHas w' p l := by
  rcases h with h | ⟨b, h1, h2⟩
  · exact Or.inl h
  · exact Or.inr ⟨b, h1, fun j hj => ⟨Ytgfiofogcnnkhaa.later hb (h2 j hj).1, Ytgfiofogcnnkhaa.later hb (h2 j hj).2⟩⟩
theorem own_mhas {w : World} {B : Nat} {p : Option Addr} {n c : Nat} {l : List (Int × Nat)} (o : w.ownsRow B 89 2 (.slice p n c) l.length (mcells l)) : MHas w p l := by
  by_cases h0 : l.length = 0
  · exact Or.inl (List.length_eq_zero_iff.1 h0)
  · obtain ⟨g, rfl, rfl, _⟩ := own_some o (by omega)
    refine Or.inr ⟨g, rfl, fun j hj => ?_⟩
    obtain ⟨k0, k1⟩ := mcells_at l j hj
    exact ⟨by rw [World.ownsRow.cellAt o (j * 2) (by omega)]; exact k0, by rw [World.ownsRow.cellAt o (j * 2 + 1) (by omega)]; exact k1⟩
theorem back64 (a st x : Int) (k3 : Nat) (w : World) (h : w.cell? ⟨k3, 0, none⟩ = some (.int .i64 x)) : Calls Try.prog 64 #[.agg #[.int .i64 a, .int .i64 st], ptr k3] w fun e w' => e = .returned (.bool (a == x)) ∧ Below w.heap.size w w' := by
  have hk : k3 < w.heap.size := block_lt_of_cell h
  have hk2 : k3 ≠ w.heap.size := by omega
  go_enter Try.func64, Try.ntmps64
  go_wp2
  go_ret
  exact ⟨rfl, by go_grown⟩
set_option maxHeartbeats 4000000 in
set_option maxRecDepth 1000000 in
theorem index63 (p : Option Addr) (l : List (Int × Nat)) (c : Nat) (x : Int) (k3 : Nat) (w : World) (hl : l.length ≤ 5000) (h : MHas w p l) (hk : w.cell? ⟨k3, 0, none⟩ = some (.int .i64 x)) : Calls Try.prog 63 #[.slice p l.length c, .func (.func 64) #[] #[ptr k3]] w fun e w' => e = .returned (.int .i64 (mixI l x)) ∧ Below w.heap.size w w' := by
  have H := hide h
  have HK := hide hk
  clear h hk
  go_enter Try.func63, Try.ntmps63
  go_wp2
  go_loopw [8] (fun t8 wr => ∃ k : Nat, k ≤ l.length ∧ t8 = .int .i64 k ∧ Hid (Below w.heap.size w wr) ∧ Hid (∀ j, j < k → (mat l j).1 ≠ x)) (fun t8 _ => l.length - (intOf t8).toNat)
  case atStart => exact ⟨0, by omega, rfl, Below.refl _ _, fun j hj => absurd hj (Nat.not_lt_zero _)⟩
  case round =>
    obtain ⟨k, hkl, rfl, HB, HN⟩ := hrel
    by_cases hlt : k < l.length
    · rcases H.out.later HB.out with h | ⟨b, rfl, hc⟩
      · subst h; simp at hlt
      obtain ⟨c0, c1⟩ := hc k hlt
      clear hc
      obtain ⟨y, hy⟩ : ∃ y, mat l k = y := ⟨_, rfl⟩
      rw [hy] at c0 c1
      have HY := hide hy
      clear hy
      have e1 : (k : Int) < l.length := by omega
      have L := back64 y.1 y.2 x k3 wr (later HB.out HK.out)
      by_cases hyx : y.1 = x
      · rw [show (y.1 == x) = true by simpa using hyx] at L
        have HX := hide hyx
        clear hyx
        go_wp2_with (go_at_call 64; refine L.mono ?_; rintro e w' ⟨rfl, hb⟩; have HB2 := hide (below_step HB.out hb); clear hb)
        go_ret
        have hm := mix_hit hlt HN.out (by rw [HY.out]; exact HX.out)
        refine ⟨?_, HB2.out⟩
        unfold mixI
        rw [hm, if_pos hlt]
        rfl
      · rw [show (y.1 == x) = false by simpa using hyx] at L
        have HX := hide hyx
        clear hyx
        go_wp2_with (go_at_call 64; refine L.mono ?_; rintro e w' ⟨rfl, hb⟩; have HB2 := hide (below_step HB.out hb); clear hb)
        go_roundw
        case rel =>
          refine ⟨k + 1, by omega, by go_num, HB2.out, fun j hj => ?_⟩
          by_cases hjk : j = k
          · rw [hjk, HY.out]; exact HX.out
          · exact HN.out j (by omega)
        case measure => simp [intOf]; omega
    · have e1 : ¬ (k : Int) < l.length := by omega
      have hke : k = l.length := by omega
      have HM : Hid (mixI l x = -1) := by
        show _ = _
        unfold mixI
        rw [mix_none (fun j hj => HN.out j (by omega)), if_neg (by omega)]
      clear hke
      go_wp2_with fail
      go_ret
      exact ⟨by rw [HM.out]; rfl, HB.out⟩
theorem delete65same (p : Option Addr) (n c : Nat) (w : World) (hn : n ≤ 5000000) (hc : c ≤ maxLen) (hnc : n ≤ c) : Calls Try.prog 65 #[.slice p n c, .int .i64 n, .int .i64 n] w fun e w' => e = .returned (.slice p n c) ∧ w' = w := by
  have i4 : (n : Int) ≤ c := by omega
  have i5 : (c : Int) ≤ 9223372036854775807 := by unfold maxLen at hc; omega
  have i1 : (0 : Int) ≤ n := by omega
  cases p with
  | none =>
    go_enter Try.func65, Try.ntmps65
    go_wp2_with fail
    go_ret
    exact ⟨rfl, rfl⟩
  | some ad =>
    obtain ⟨ab, ao, asp⟩ := ad
    go_enter Try.func65, Try.ntmps65
    go_wp2_with fail
    all_goals (go_ret; exact ⟨rfl, rfl⟩)
end Go.Proofs.Ytgfiofogcnnkhaa
