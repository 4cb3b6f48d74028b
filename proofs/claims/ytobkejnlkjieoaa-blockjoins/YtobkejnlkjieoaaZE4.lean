/- Ear. -/
import Derived.Test.YtobkejnlkjieoaaZC24
namespace Go.Proofs.Ytobkejnlkjieoaa
open Go.RowKit Go.Sort
open Go
/-- What Ear answers instead of ears. -/
def earE (n : Int) (es : List Pt) : Int := if netB n es then if biB n es then if es.length < 2 then 9 else 0 else 7 else 1
def EaPost (n : Int) (es : List Pt) (w : World) (e : Ending) (w' : World) : Prop :=
  (earE n es = 0 ∧ netB n es = true ∧ biB n es = true ∧ 2 ≤ es.length ∧ ∃ v, e = .returned (.tuple #[v, .int .i64 0]) ∧ EL w' w.heap.size v (earsB n.toNat es)) ∨
  (earE n es ≠ 0 ∧ e = .returned (.tuple #[.slice none 0 0, .int .i64 (earE n es)]))
set_option maxRecDepth 100000 in
set_option maxHeartbeats 8000000 in
theorem ear26 (n : Int) (p : Option Addr) (es : List Pt) (cp : Nat) (w : World) (h : Has w p es) : Calls Try.prog 26 #[nv n p es.length cp] w fun e w' => EaPost n es w e w' ∧ Below w.heap.size w w' := by
  obtain ⟨W, hW, hb, a0⟩ := one_net w n p es.length cp
  have HH := hide (h.later hb)
  have HB := hide hb
  have HA := hide a0
  have hws : w.heap.size < W.heap.size := block_lt_of_cell a0.1
  have HSZ : Hid (w.heap.size ≤ W.heap.size) := Nat.le_of_lt hws
  have C1 := hide (biconnected14 n p es cp W (h.later hb))
  obtain ⟨kb, hkb⟩ : ∃ kb, w.heap.size = kb := ⟨_, rfl⟩
  have HS : Hid (∀ V, Below W.heap.size W V → V.cell? ⟨kb, 0, none⟩ = some (.int .i64 n) ∧ V.cell? ⟨kb, 1, none⟩ = some (.slice p es.length cp)) := fun V hV => by
    obtain ⟨r0, r1, _, _⟩ := HA.out.later hV
    rw [hkb] at r0 r1
    exact ⟨r0, r1⟩
  have HKB := hide hkb
  obtain ⟨q0, q1⟩ := HS.out W (Below.refl _ _)
  have HE : Hid (earE n es = if netB n es then if biB n es then if es.length < 2 then 9 else 0 else 7 else 1) := rfl
  clear h hb a0 hws
  go_enter Try.func26, Try.ntmps26
  go_upto_region 1 with fail
  rw [← hW]
  try rw [hkb]
  clear hW hkb
  go_wp2_with fail
  refine C1.out.mono ?_
  rintro e w1 ⟨rfl, hb1⟩
  have HB1 := hide hb1
  clear C1 q0 q1
  obtain ⟨q0, q1⟩ := HS.out w1 hb1
  have HBE : Hid (Below w.heap.size w w1) := below_step HB.out hb1
  cases hm : netB n es
  · rw [hm] at HE
    simp only [Bool.false_eq_true, if_false] at HE
    have hv : EaPost n es w (.returned (.tuple #[.slice none 0 0, .int .i64 1])) w1 := Or.inr ⟨by rw [HE.out]; decide, by rw [HE.out]⟩
    have HV := hide hv
    simp only [Bool.false_and, Bool.false_eq_true, if_false]
    clear hm hb1 hv
    go_wp2
    go_ret2
    exact ⟨HV.out, HBE.out⟩
  · cases hbi : biB n es
    · rw [hm, hbi] at HE
      simp only [Bool.false_eq_true, if_false, if_true] at HE
      have hv : EaPost n es w (.returned (.tuple #[.slice none 0 0, .int .i64 7])) w1 := Or.inr ⟨by rw [HE.out]; decide, by rw [HE.out]⟩
      have HV := hide hv
      simp only [Bool.and_false, if_true]
      clear hm hb1 hv hbi
      go_wp2
      go_ret2
      exact ⟨HV.out, HBE.out⟩
    · rw [hm, hbi] at HE
      simp only [if_true] at HE
      simp only [Bool.and_self, if_true]
      by_cases hl : es.length < 2
      · rw [if_pos hl] at HE
        have hv : EaPost n es w (.returned (.tuple #[.slice none 0 0, .int .i64 9])) w1 := Or.inr ⟨by rw [HE.out]; decide, by rw [HE.out]⟩
        have HV := hide hv
        have hl' : (es.length : Int) < 2 := by omega
        clear hm hb1 hv hbi hl
        go_wp2
        go_ret2
        exact ⟨HV.out, HBE.out⟩
      · rw [if_neg hl] at HE
        have hl2 : 2 ≤ es.length := by omega
        have hl' : ¬ (es.length : Int) < 2 := by omega
        obtain ⟨n0, n1, hes, _⟩ := netB_is hm
        have hn2 : 2 ≤ n := by
          unfold biB at hbi
          simp at hbi
          exact hbi.1
        obtain ⟨m, rfl⟩ : ∃ m : Nat, n = m := ⟨n.toNat, by omega⟩
        have C47 := hide (ears47 m p es cp w1 (HH.out.later hb1) hm (by omega))
        have HM := hide hm
        have HBI := hide hbi
        have HL2 := hide hl2
        clear hm hb1 hbi hl hl2
        go_wp2_with fail
        refine C47.out.mono ?_
        rintro e w2 ⟨v, rfl, hEL, hb2⟩
        obtain ⟨pv, cv, rfl⟩ := hEL.form
        have HEL := hide hEL
        have HB2 := hide (below_step HB1.out hb2)
        have HSB : Hid (w.heap.size ≤ w1.heap.size) := by show _ ≤ _; have := HB1.out.size; have := HSZ.out; omega
        clear C47 hEL hb2
        go_wp2
        go_ret2
        exact ⟨Or.inl ⟨HE.out, HM.out, HBI.out, HL2.out, _, rfl, by rw [show ((m : Nat) : Int).toNat = m from Int.toNat_natCast m]; exact HEL.out.base HSB.out⟩, below_step HB.out HB2.out⟩
end Go.Proofs.Ytobkejnlkjieoaa
