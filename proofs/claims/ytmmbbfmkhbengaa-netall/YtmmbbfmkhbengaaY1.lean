/- The document's Out and Bare. -/
import Derived.Test.YtmmbbfmkhbengaaW4
import Derived.Test.YtmmbbfmkhbengaaW1
import Derived.Test.YtmmbbfmkhbengaaV1
import Derived.Test.YtmmbbfmkhbengaaN8
import Derived.Test.YtmmbbfmkhbengaaM6
namespace Go.Proofs.Ytmmbbfmkhbengaa
open Go.RowKit Go.Sort
open Go

/-- The first h half-edges that leave v. -/
def roN (es : List Pt) (v : Int) : Nat → List Int
  | 0 => []
  | h + 1 => if fromL es h = v then roN es v h ++ [(h : Int)] else roN es v h
theorem roN_len (es : List Pt) (v : Int) : ∀ h, (roN es v h).length ≤ h
  | 0 => by simp [roN]
  | h + 1 => by
    have := roN_len es v h
    simp only [roN]
    split
    · rw [List.length_append, List.length_cons, List.length_nil]; omega
    · omega
theorem roN_out (es : List Pt) (v : Int) : ∀ i, roN es v (2 * i) = outN es v i
  | 0 => rfl
  | i + 1 => by
    have h1 : fromL es (2 * i) = (at' es i).x := by unfold fromL; rw [if_pos (by omega), show 2 * i / 2 = i by omega]
    have h2 : fromL es (2 * i + 1) = (at' es i).y := by unfold fromL; rw [if_neg (by omega), show (2 * i + 1) / 2 = i by omega]
    show roN es v (2 * i + 1 + 1) = _
    simp only [roN, outN, sideN, h1, h2, roN_out es v i]
    have e1 : ((2 * i : Nat) : Int) = 2 * (i : Int) := by omega
    have e2 : ((2 * i + 1 : Nat) : Int) = 2 * (i : Int) + 1 := by omega
    rw [e1, e2]
    by_cases a : (at' es i).x = v <;> by_cases b : (at' es i).y = v <;> simp [a, b]
set_option maxRecDepth 100000 in
set_option maxHeartbeats 8000000 in
theorem out38 (n : Int) (p : Option Addr) (es : List Pt) (cp : Nat) (v : Int) (w : World) (h : Has w p es) (hl : es.length ≤ 10000) : Calls Try.prog 38 #[nv n p es.length cp, .int .i64 v] w fun e w' => ∃ s, e = .returned s ∧ IOwns w' w.heap.size s (outN es v es.length) ∧ Below w.heap.size w w' := by
  obtain ⟨W, hW, hb, a0⟩ := one_net w n p es.length cp
  have HH := hide (h.later hb)
  have HB := hide hb
  have HA := hide a0
  clear h hb a0
  go_enter Try.func38, Try.ntmps38
  go_wp2_with fail
  rw [← hW]
  clear hW
  go_loopw [5, 6] (fun s t wr => ∃ i : Nat, i ≤ 2 * es.length ∧ t = .int .i64 i ∧ Hid (Below W.heap.size W wr) ∧ Hid (IOwns wr W.heap.size s (roN es v i))) (fun _ t _ => 2 * es.length - (intOf t).toNat)
  case atStart => exact ⟨0, by omega, rfl, Below.refl _ _, IOwns.nil _ _⟩
  case round =>
    obtain ⟨i, hi, rfl, HBr, HO⟩ := hrel
    obtain ⟨q0, q1, _, _⟩ := HA.out.later HBr.out
    by_cases hlt : i < 2 * es.length
    · have i1 : (i : Int) < 2 * (es.length : Int) := by omega
      have FR := hide (from50 n p es cp i wr (HH.out.later HBr.out) hlt (by omega))
      obtain ⟨p0, c, rfl, _, _, _⟩ := HO.out.form
      have hrl := roN_len es v i
      have HST : Hid (roN es v (i + 1) = if fromL es i = v then roN es v i ++ [(i : Int)] else roN es v i) := rfl
      obtain ⟨T, hT⟩ : ∃ T, roN es v i = T := ⟨_, rfl⟩
      rw [hT] at HO HST hrl ⊢
      clear hT
      go_wp2_with fail
      refine FR.out.mono ?_
      rintro e w1 ⟨rfl, hb1⟩
      have HB1 := hide (below_step HBr.out hb1)
      have HO1 := hide (HO.out.later hb1)
      clear hb1 FR q0 q1
      obtain ⟨z, hz⟩ : ∃ z, fromL es i = z := ⟨_, rfl⟩
      rw [hz] at HST ⊢
      clear hz
      by_cases hf : z = v
      · subst hf
        obtain ⟨v1, D, e1, o1, bD⟩ := push_int HO1.out (i : Int) HB1.out.size (by omega)
        obtain ⟨p1, c1, rfl, _, _, _⟩ := o1.form
        rw [show (T ++ [(i : Int)]).length = T.length + 1 by simp] at o1 e1
        have HOD := hide o1
        have HBD := hide (Below.trans HB1.out bD)
        clear o1 bD
        go_wp2_with (at_builtin; refine wpList_run_append rfl (.tmp 20) (.tmp 22) 25 rfl 25 rfl _ _ _ D rfl rfl e1 ?_)
        clear e1
        go_wp2
        go_roundw
        case rel => exact ⟨i + 1, by omega, by go_num, HBD.out, by show IOwns _ _ _ _; rw [HST.out]; first | (rw [if_pos rfl]; exact HOD.out) | (rw [if_pos trivial]; exact HOD.out)⟩
        case measure => simp [intOf]; omega
      · have t1 : (z == v) = false := by simp [hf]
        go_wp2
        go_roundw
        case rel => exact ⟨i + 1, by omega, by go_num, HB1.out, by show IOwns _ _ _ _; rw [HST.out, if_neg hf]; exact HO1.out⟩
        case measure => simp [intOf]; omega
    · have i1 : ¬ (i : Int) < 2 * (es.length : Int) := by omega
      have hie : i = 2 * es.length := by omega
      subst hie
      obtain ⟨p0, c, rfl, _, _, _⟩ := HO.out.form
      rw [roN_out] at HO ⊢
      have HOF := hide (HO.out.base HB.out.size)
      go_wp2
      go_ret
      exact ⟨_, rfl, HOF.out, below_step HB.out HBr.out⟩
end Go.Proofs.Ytmmbbfmkhbengaa
