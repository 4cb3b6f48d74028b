/- The reference's Area, in every world. -/
import Derived.Test.YtgnojjbdioldbaaL1
namespace Go.Proofs.Ytgnojjbdioldbaa
open Go.RowKit Go.Sort
open Go

/-- The sum as the reference adds it up: each point with the next one, round. -/
def rpart (ps : List Pt) (n : Nat) : Nat → Int
  | 0 => 0
  | i + 1 => rpart ps n i + (at' ps i).x * (at' ps ((i + 1) % n)).y - (at' ps ((i + 1) % n)).x * (at' ps i).y
theorem rpart_in {ps : List Pt} {n : Nat} (hn : ps.length = n) (h0 : 0 < n) (h : mayB ps = true) : ∀ i : Nat, i ≤ n → -(i * 2199023255552 : Int) ≤ rpart ps n i ∧ rpart ps n i ≤ i * 2199023255552
  | 0, _ => by simp [rpart]
  | i + 1, hi => by
    have ih := rpart_in hn h0 h i (by omega)
    have p := prod_in (mayB_at h (show i < ps.length by omega)) (mayB_at h (show (i + 1) % n < ps.length by rw [hn]; exact Nat.mod_lt _ h0))
    simp only [rpart]
    omega
theorem rpart_is {ps : List Pt} {n : Nat} (hn : ps.length = n) : ∀ i : Nat, i + 1 ≤ n → part ps (i + 1) = part ps 1 + rpart ps n i
  | 0, _ => by simp [rpart]
  | i + 1, hi => by
    have ih := rpart_is hn i (by omega)
    have e : (i + 1) % n = i + 1 := Nat.mod_eq_of_lt (by omega)
    simp only [rpart]
    rw [e]
    show part ps (i + 1) + prodI (prev ps (i + 1)) (at' ps (i + 1)) = _
    rw [ih]
    have hp : prev ps (i + 1) = at' ps i := by unfold prev; simp
    rw [hp]
    unfold prodI
    omega
theorem rpart_all {ps : List Pt} {n : Nat} (hn : ps.length = n) (h0 : 0 < n) : rpart ps n n = part ps n := by
  obtain ⟨m, rfl⟩ : ∃ m, n = m + 1 := ⟨n - 1, by omega⟩
  rw [rpart_is hn m (Nat.le_refl _)]
  simp only [rpart, Nat.mod_self]
  have hp : prev ps 0 = at' ps m := by unfold prev; rw [hn]; simp
  show _ = part ps 0 + prodI (prev ps 0) (at' ps 0) + _
  rw [hp]
  simp only [part]
  unfold prodI
  omega
set_option maxRecDepth 100000 in
set_option maxHeartbeats 8000000 in
theorem area27 (p : Option Addr) (ps : List Pt) (cap : Nat) (w : World) (hm : mayB ps = true) (h : Has w p ps) : Calls Try.prog 27 #[.slice p ps.length cap] w fun e w' => e = .returned (.int .i64 (areaI ps)) ∧ Below w.heap.size w w' := by
  have HH := hide h
  have HM := hide hm
  have hl := mayB_len hm
  obtain ⟨n, hn⟩ : ∃ n, ps.length = n := ⟨_, rfl⟩
  have HNN := hide hn
  have HA : Hid (areaI ps = if n < 3 then 0 else part ps n) := by show _ = _; unfold areaI; rw [hn]
  obtain ⟨A, hA⟩ : ∃ A, areaI ps = A := ⟨_, rfl⟩
  rw [hA] at HA ⊢
  rw [hn] at hl ⊢
  clear h hm hn hA
  by_cases h3 : n < 3
  · have h3' : (n : Int) < 3 := by omega
    have HZ : Hid (A = 0) := by show _ = _; rw [HA.out, if_pos h3]
    clear HA
    go_enter Try.func27, Try.ntmps27
    go_wp2_with fail
    go_ret
    exact ⟨retI HZ.out.symm, Below.refl _ _⟩
  have h3' : ¬ (n : Int) < 3 := by omega
  have HZ : Hid (A = rpart ps n n) := by show _ = _; rw [HA.out, if_neg h3, rpart_all HNN.out (by omega)]
  clear HA
  go_enter Try.func27, Try.ntmps27
  go_wp2_with fail
  go_loopw [3, 4] (fun s t wr => ∃ i : Nat, i ≤ n ∧ t = .int .i64 i ∧ s = .int .i64 (rpart ps n i) ∧ Hid (Below w.heap.size w wr)) (fun _ t _ => n - (intOf t).toNat)
  case atStart => exact ⟨0, by omega, rfl, rfl, Below.refl _ _⟩
  case round =>
    obtain ⟨i, hi, rfl, rfl, HBr⟩ := hrel
    have hin := rpart_in HNN.out (by omega) HM.out i hi
    by_cases hlt : i < n
    · have HR : Hid (rpart ps n (i + 1) = rpart ps n i + (at' ps i).x * (at' ps ((i + 1) % n)).y - (at' ps ((i + 1) % n)).x * (at' ps i).y) := rfl
      obtain ⟨q, hq⟩ : ∃ q, (i + 1) % n = q := ⟨_, rfl⟩
      have hqn : q < n := by rw [← hq]; exact Nat.mod_lt _ (by omega)
      rcases HH.out.later HBr.out with h | ⟨b, off, rfl, hL⟩
      · exfalso
        have := HNN.out
        rw [h] at this
        simp at this
        omega
      obtain ⟨c0, c1⟩ := hL i (by rw [HNN.out]; exact hlt)
      obtain ⟨d0, d1⟩ := hL q (by rw [HNN.out]; exact hqn)
      have pr := prod_in (mayB_at HM.out (show i < ps.length by rw [HNN.out]; exact hlt)) (mayB_at HM.out (show q < ps.length by rw [HNN.out]; exact hqn))
      rw [hq] at HR
      obtain ⟨y, hy⟩ : ∃ y, at' ps i = y := ⟨_, rfl⟩
      obtain ⟨z, hz⟩ : ∃ z, at' ps q = z := ⟨_, rfl⟩
      rw [hy] at c0 c1 pr HR
      rw [hz] at d0 d1 pr HR
      obtain ⟨S, hS⟩ : ∃ S, rpart ps n i = S := ⟨_, rfl⟩
      rw [hS] at HR hin ⊢
      have hrem : Int.tmod ((i : Int) + 1) n = q := by
        rw [Int.tmod_eq_emod_of_nonneg (by omega), ← hq]
        simp
      have hn0 : ¬ (n : Int) = 0 := by omega
      have hw1 : IntKind.i64.wrap ((i : Int) + 1) = (i : Int) + 1 := by rw [IntKind.wrap_i64]; omega
      have hnn : ¬ n = 0 := by omega
      have i1 : (i : Int) < n := by omega
      have i2 : (0 : Int) ≤ i := by omega
      have q1 : (q : Int) < n := by omega
      have q2 : (0 : Int) ≤ q := by omega
      have SK : ∀ V, Below wr.heap.size wr V → V.cell? ⟨b, off + i * 2, none⟩ = some (.int .i64 y.x) ∧ V.cell? ⟨b, off + i * 2 + 1, none⟩ = some (.int .i64 y.y) ∧ V.cell? ⟨b, off + q * 2, none⟩ = some (.int .i64 z.x) ∧ V.cell? ⟨b, off + q * 2 + 1, none⟩ = some (.int .i64 z.y) := fun V hB => ⟨later hB c0, later hB c1, later hB d0, later hB d1⟩
      have SK' := hide SK
      have HIN := hide hin
      have HPR := hide pr
      clear SK hL hy hz hS hq hin pr
      go_upto_region 7 with fail
      go_cut [5, 6] (fun s5 s6 wx => ∃ ka kb, s5 = .pointer (some ⟨ka, 0, none⟩) ∧ s6 = .pointer (some ⟨kb, 0, none⟩) ∧ Hid (Own wx ka y) ∧ Hid (Own wx kb z) ∧ Hid (Below wr.heap.size wr wx))
      case first =>
        go_region_held3 (fun V => V.cell? ⟨b, off + i * 2, none⟩ = some (.int .i64 y.x) ∧ V.cell? ⟨b, off + i * 2 + 1, none⟩ = some (.int .i64 y.y) ∧ V.cell? ⟨b, off + q * 2, none⟩ = some (.int .i64 z.x) ∧ V.cell? ⟨b, off + q * 2 + 1, none⟩ = some (.int .i64 z.y))
          (first | exact SK'.out _ (below_drewJ _) | exact SK'.out _ (by go_grown))
          (fail)
        all_goals
          rename_i hHeld
          clear hHeld
          go_wp2_with fail
          go_meet
          exact ⟨_, _, rfl, rfl, by show Own _ _ _; unfold Own; exact ⟨by go_cell, by go_cell, by go_cell, by go_cell⟩, by show Own _ _ _; unfold Own; exact ⟨by go_cell, by go_cell, by go_cell, by go_cell⟩, by show Below _ _ _; go_grown⟩
      case rest =>
        obtain ⟨ka, kb, rfl, rfl, HY, HZ1, HBx⟩ := hcut
        obtain ⟨e0, e1, _, _⟩ := HY.out
        obtain ⟨g0, g1, _, _⟩ := HZ1.out
        have hin := HIN.out
        have pr := HPR.out
        clear c0 c1 d0 d1 SK'
        go_wp2
        go_roundw
        case rel => exact ⟨i + 1, by omega, by go_num, by rw [HR.out], below_stepJ HBr.out HBx.out⟩
        case measure => simp [intOf]; omega
    · have hin' : i = n := by omega
      subst hin'
      go_wp2
      go_ret
      exact ⟨retI HZ.out.symm, HBr.out⟩
end Go.Proofs.Ytgnojjbdioldbaa
