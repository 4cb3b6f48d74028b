/- Moved, in every world. -/
import Derived.Test.YtmmbbfmkhbengaaN5
namespace Go.Proofs.Ytmmbbfmkhbengaa
open Go.RowKit Go.Sort
open Go

def allBB (l : List Int) (n : Int) : Bool := l.all fun x => belowB x n
theorem allBB_yes {l : List Int} {n : Int} (h : ∀ j, j < l.length → belowB (iat l j) n = true) : allBB l n = true := by
  unfold allBB
  rw [List.all_eq_true]
  intro x hx
  obtain ⟨j, hj, e⟩ := mem_iat hx
  rw [← e]; exact h j hj
theorem allBB_no {l : List Int} {n : Int} {j : Nat} (hj : j < l.length) (h : belowB (iat l j) n = false) : allBB l n = false := by
  unfold allBB
  rw [List.all_eq_false]
  exact ⟨_, iat_mem hj, by simp [h]⟩
theorem allBB_at {l : List Int} {n : Int} (h : allBB l n = true) {j : Nat} (hj : j < l.length) : 0 ≤ iat l j ∧ iat l j < n := by
  unfold allBB at h
  rw [List.all_eq_true] at h
  exact belowB_is (h _ (iat_mem hj))
set_option maxHeartbeats 1000000 in
theorem allBelow48 (p : Option Addr) (l : List Int) (cap : Nat) (n : Int) (w : World) (hl : l.length ≤ maxLen) (h : IHas w p l) : Calls Try.prog 48 #[.slice p l.length cap, .int .i64 n] w fun e w' => e = .returned (.bool (allBB l n)) ∧ w' = w := by
  have HH := hide h
  clear h
  unfold maxLen at hl
  go_enter Try.func48, Try.ntmps48
  go_wp2_with fail
  go_loop [9] (fun t => ∃ i : Nat, i ≤ l.length ∧ t = .int .i64 i ∧ Hid (∀ j, j < i → belowB (iat l j) n = true)) (fun t => l.length - (intOf t).toNat)
  case atStart => exact ⟨0, by omega, rfl, fun j hj => by omega⟩
  case round =>
    obtain ⟨i, hi, rfl, HP⟩ := hrel
    by_cases hlt : i < l.length
    · rcases HH.out with h | ⟨b, off, rfl, hL⟩
      · subst h; simp at hlt
      have c0 := hL i hlt
      have X := below36 (iat l i) n
      cases hx : belowB (iat l i) n
      · rw [hx] at X
        go_wp2_with (go_at_call 36; refine (X _).mono ?_; rintro e w' ⟨rfl, rfl⟩)
        go_ret
        exact ⟨retB (by rw [allBB_no hlt hx]), rfl⟩
      · rw [hx] at X
        go_wp2_with (go_at_call 36; refine (X _).mono ?_; rintro e w' ⟨rfl, rfl⟩)
        go_round
        case rel => exact ⟨i + 1, by omega, by go_num, more HP.out hx⟩
        case measure => simp [intOf]; omega
    · go_wp2
      go_ret
      have : i = l.length := by omega
      subst this
      exact ⟨retB (by rw [allBB_yes HP.out]), rfl⟩
def movE (n : Int) (es : List Pt) (l : List Int) : Int := if netB n es then (if (l.length : Int) = n ∧ allBB l n = true then errL l n else 2) else 1
def MovedPost (n : Int) (es : List Pt) (l : List Int) (w : World) (e : Ending) (w' : World) : Prop :=
  (movE n es l = 0 ∧ ∃ g, e = .returned (.tuple #[nv n (some ⟨g, 0, none⟩) es.length es.length, .int .i64 0]) ∧ PRow w' w.heap.size g es.length (rename es l)) ∨ (movE n es l ≠ 0 ∧ e = .returned (.tuple #[nv 0 none 0 0, .int .i64 (movE n es l)]))
theorem movE_net {n : Int} {es : List Pt} {l : List Int} (h : movE n es l = 0) : netB n es = true ∧ (l.length : Int) = n ∧ errL l n = 0 := by
  unfold movE at h
  by_cases k : netB n es = true
  · rw [if_pos k] at h
    by_cases k2 : (l.length : Int) = n ∧ allBB l n = true
    · rw [if_pos k2] at h; exact ⟨k, k2.1, h⟩
    · rw [if_neg k2] at h; omega
  · rw [if_neg k] at h; omega
theorem movE_of {n : Int} {es : List Pt} {l : List Int} (h : netB n es = true) (hl : (l.length : Int) = n) (k : errL l n = 0) : movE n es l = 0 := by
  unfold movE
  rw [if_pos h, if_pos ⟨hl, allBB_yes fun j hj => by
    have := (chk_zero (errN_all _ k j hj)).1
    simp [belowB, this.1, this.2]⟩]
  exact k

set_option maxRecDepth 100000 in
set_option maxHeartbeats 4000000 in
theorem moved20 (n : Int) (p q : Option Addr) (es : List Pt) (l : List Int) (cp cq : Nat) (w : World) (hl : l.length ≤ maxLen) (h : Has w p es) (k : IHas w q l) : Calls Try.prog 20 #[nv n p es.length cp, .slice q l.length cq] w fun e w' => MovedPost n es l w e w' ∧ Below w.heap.size w w' := by
  obtain ⟨W, hW, hb, a0, b0⟩ := two_nets w n p es.length cp
  have M := hide (may13 n p es cp W (h.later hb))
  have HH := hide (h.later hb)
  have HK := hide (k.later hb)
  have HB := hide hb
  have HA := hide a0
  have HN := hide b0
  obtain ⟨q0, q1, _, _⟩ := a0
  clear h k hb b0
  cases hm : netB n es
  · rw [hm] at M
    go_enter Try.func20, Try.ntmps20
    go_wp2_with fail
    rw [← hW]
    clear hW
    go_wp2_with fail
    refine M.out.mono ?_
    rintro e w1 ⟨rfl, hb1⟩
    have HB1 := hide (below_step HB.out hb1)
    have HN1 := hide (HN.out.later hb1)
    obtain ⟨r0, r1, r2, r3⟩ := HN1.out
    clear hb1 q0 q1
    go_wp2
    obtain ⟨V, hV⟩ : ∃ V, V = (w1.setCell ⟨w.heap.size + 1, 0, none⟩ (.int .i64 0)).setCell ⟨w.heap.size + 1, 1, none⟩ (.slice none 0 0) := ⟨_, rfl⟩
    have kV : NOwn V (w.heap.size + 1) 0 none 0 0 := by rw [hV]; exact HN1.out.set 0 none 0 0
    have bV : Below w.heap.size w V := by rw [hV]; exact (HB1.out.setCell (by simp) _).setCell (by simp) _
    rw [← hV]
    exact bodyPost_ret (ret_net Try.results20 rfl rfl kV) rfl ⟨Or.inr ⟨by simp [movE, hm], by simp [movE, hm]⟩, bV⟩
  · rw [hm] at M
    obtain ⟨n0, n1, hes, hends⟩ := netB_is hm
    have HE := hide hends
    clear hends
    go_enter Try.func20, Try.ntmps20
    go_wp2_with fail
    rw [← hW]
    clear hW
    go_wp2_with fail
    refine M.out.mono ?_
    rintro e w1 ⟨rfl, hb1⟩
    have HB1 := hide (below_step HB.out hb1)
    have HN1 := hide (HN.out.later hb1)
    have HA1 := hide (HA.out.later hb1)
    have HH1 := hide (HH.out.later hb1)
    have HK1 := hide (HK.out.later hb1)
    clear q0 q1 hb1 HA HN HB HH HK M
    obtain ⟨q0, q1, _, _⟩ := HA1.out
    have A := allBelow48 q l cq n w1 hl HK1.out
    by_cases hln : (l.length : Int) = n
    rotate_left
    · have hS : Hid (movE n es l = 2) := by show _ = _; unfold movE; rw [hm, if_pos rfl, if_neg (fun k => hln k.1)]
      have hlb : ((l.length : Int) == n) = false := by simpa using hln
      obtain ⟨r0, r1, r2, r3⟩ := HN1.out
      clear A
      go_wp2
      obtain ⟨V, hV⟩ : ∃ V, V = (w1.setCell ⟨w.heap.size + 1, 0, none⟩ (.int .i64 0)).setCell ⟨w.heap.size + 1, 1, none⟩ (.slice none 0 0) := ⟨_, rfl⟩
      have kV : NOwn V (w.heap.size + 1) 0 none 0 0 := by rw [hV]; exact HN1.out.set 0 none 0 0
      have bV : Below w.heap.size w V := by rw [hV]; exact (HB1.out.setCell (by simp) _).setCell (by simp) _
      rw [← hV]
      exact bodyPost_ret (ret_net Try.results20 rfl rfl kV) rfl ⟨Or.inr ⟨by rw [hS.out]; omega, by rw [hS.out]; rfl⟩, bV⟩
    subst hln
    cases hal : allBB l l.length
    · have hS : Hid (movE l.length es l = 2) := by show _ = _; unfold movE; rw [hm, if_pos rfl, if_neg (fun k => by rw [hal] at k; simp at k)]
      rw [hal] at A
      obtain ⟨r0, r1, r2, r3⟩ := HN1.out
      go_wp2_with (go_at_call 48; refine A.mono ?_; rintro e w' ⟨rfl, rfl⟩)
      obtain ⟨V, hV⟩ : ∃ V, V = (w'.setCell ⟨w.heap.size + 1, 0, none⟩ (.int .i64 0)).setCell ⟨w.heap.size + 1, 1, none⟩ (.slice none 0 0) := ⟨_, rfl⟩
      have kV : NOwn V (w.heap.size + 1) 0 none 0 0 := by rw [hV]; exact HN1.out.set 0 none 0 0
      have bV : Below w.heap.size w V := by rw [hV]; exact (HB1.out.setCell (by simp) _).setCell (by simp) _
      rw [← hV]
      exact bodyPost_ret (ret_net Try.results20 rfl rfl kV) rfl ⟨Or.inr ⟨by rw [hS.out]; omega, by rw [hS.out]; rfl⟩, bV⟩
    rw [hal] at A
    have HAL := hide A
    have P := hide (places49 q l cq l.length w1 hl (by omega) HK1.out)
    clear A
    go_wp2_with (first | (go_at_call 48; refine HAL.out.mono ?_; rintro e w' ⟨rfl, hw⟩; have hw := hw.symm; subst hw))
    refine P.out.mono ?_
    rintro e w2 ⟨hP, hb2⟩
    have HB2 := hide (below_step HB1.out hb2)
    have HN2 := hide (HN1.out.later hb2)
    have HA2 := hide (HA1.out.later hb2)
    have HH2 := hide (HH1.out.later hb2)
    have HK2 := hide (HK1.out.later hb2)
    clear hb2 q0 q1 HA1 HN1 HB1 HH1 HK1 P HAL
    rcases hP with ⟨hE, g, rfl, _⟩ | ⟨hE, rfl⟩
    · have hS : Hid (movE l.length es l = 0) := by show _ = _; unfold movE; rw [hm, if_pos rfl, if_pos ⟨rfl, hal⟩, hE]
      clear hE
      obtain ⟨q0, q1, _, _⟩ := HA2.out
      obtain ⟨r0, r1, r2, r3⟩ := HN2.out
      have PK : Hid (∀ w3, Below w2.heap.size w2 w3 → Calls Try.prog 50 #[.slice p es.length cp, .slice q l.length cq] w3 fun e w' => ∃ g, e = .returned (.slice (some ⟨g, 0, none⟩) es.length es.length) ∧ PRow w' w3.heap.size g es.length (rename es l) ∧ Below w3.heap.size w3 w') := fun w3 h3 => renamed50 p q es l cp cq w3 (by omega) HE.out (HH2.out.later h3) (HK2.out.later h3)
      go_wp2_with fail
      go_region_held3 (fun W => W.cell? ⟨w.heap.size, 0, none⟩ = some (.int .i64 l.length) ∧ W.cell? ⟨w.heap.size, 1, none⟩ = some (.slice p es.length cp))
        (first | exact ⟨HA2.out.1, HA2.out.2.1⟩ | exact ⟨HA3.out.1, HA3.out.2.1⟩ | exact ⟨other2 HA3.out.1 (by simp), other2 HA3.out.2.1 (by simp)⟩)
        (first | (go_at_call 50; refine (PK.out _ (by go_grown)).mono ?_; rintro e w3 ⟨g3, rfl, hr3, hb3'⟩; have hb3 : Below w2.heap.size w2 w3 := below_step (below_drew w2) hb3'; clear hb3'; have HA3 := hide (HA2.out.later hb3); have HN3 := hide (HN2.out.later hb3); have HR3 : Hid (PRow w3 w2.heap.size g3 es.length (rename es l)) := hr3; have HB3 := hide (below_step HB2.out hb3); clear hb3 hr3; obtain ⟨s0, s1, s2, s3⟩ := HN3.out))
      rename_i hHeld
      clear hHeld
      have hws : w.heap.size + 1 < w2.heap.size := block_lt_of_cell r0
      have hg3 := HR3.out.lt
      obtain ⟨V, hV⟩ : ∃ V, V = (w3.setCell ⟨w.heap.size + 1, 0, none⟩ (.int .i64 l.length)).setCell ⟨w.heap.size + 1, 1, none⟩ (.slice (some ⟨g3, 0, none⟩) es.length es.length) := ⟨_, rfl⟩
      have kV : NOwn V (w.heap.size + 1) l.length (some ⟨g3, 0, none⟩) es.length es.length := by rw [hV]; exact HN3.out.set _ _ _ _
      have bV : Below w.heap.size w V := by rw [hV]; exact (HB3.out.setCell (by simp) _).setCell (by simp) _
      have rV : PRow V w.heap.size g3 es.length (rename es l) := by rw [hV]; exact (prow_other (prow_other HR3.out (by omega) _) (by omega) _).base (by omega)
      rw [← hV]
      go_wp2_with fail
      exact bodyPost_ret (ret_net Try.results20 rfl rfl kV) rfl ⟨Or.inl ⟨hS.out, g3, rfl, rV⟩, bV⟩
    · obtain ⟨E, hEE⟩ : ∃ E, errL l l.length = E := ⟨_, rfl⟩
      have hS : Hid (movE l.length es l = E) := by show _ = _; unfold movE; rw [hm, if_pos rfl, if_pos ⟨rfl, hal⟩, hEE]
      rw [hEE] at hE ⊢
      have hEb : (E == 0) = false := by simpa using hE
      obtain ⟨r0, r1, r2, r3⟩ := HN2.out
      go_wp2
      obtain ⟨V, hV⟩ : ∃ V, V = (w2.setCell ⟨w.heap.size + 1, 0, none⟩ (.int .i64 0)).setCell ⟨w.heap.size + 1, 1, none⟩ (.slice none 0 0) := ⟨_, rfl⟩
      have kV : NOwn V (w.heap.size + 1) 0 none 0 0 := by rw [hV]; exact HN2.out.set 0 none 0 0
      have bV : Below w.heap.size w V := by rw [hV]; exact (HB2.out.setCell (by simp) _).setCell (by simp) _
      rw [← hV]
      exact bodyPost_ret (ret_net Try.results20 rfl rfl kV) rfl ⟨Or.inr ⟨by rw [hS.out]; exact hE, by rw [hS.out]; rfl⟩, bV⟩
end Go.Proofs.Ytmmbbfmkhbengaa
