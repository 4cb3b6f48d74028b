/- The document's own answer: whether a net may be; whether two lists are the same. -/
import Derived.Test.YtaebbfilgfkckaaN5
namespace Go.Proofs.Ytaebbfilgfkckaa
open Go.RowKit Go.Sort
open Go


set_option maxRecDepth 100000 in
set_option maxHeartbeats 4000000 in
theorem may12 (n : Int) (p : Option Addr) (es : List Pt) (cap : Nat) (w : World) (h : Has w p es) : Calls Try.prog 24 #[nv n p es.length cap] w fun e w' => e = .returned (.bool (netB n es)) ∧ Below w.heap.size w w' := by
  have H := hide h
  clear h
  by_cases h0 : 0 ≤ n
  · by_cases hn : n ≤ 1024
    · by_cases hl : es.length ≤ 3072
      · have hf : fitsB n es.length = true := by simp [fitsB, hn]; omega
        go_enter Try.func24, Try.ntmps24
        go_wp2_with fail
        go_loopw [3] (fun t wr => ∃ i : Nat, i ≤ es.length ∧ t = .int .i64 i ∧ Hid (∀ j, j < i → edB n (at' es j) = true) ∧ Hid (Below w.heap.size w wr) ∧ Hid (NOwn wr w.heap.size n p es.length cap)) (fun t _ => es.length - (intOf t).toNat)
        case atStart => exact ⟨0, by omega, rfl, fun j hj => by omega, by show Below _ _ _; go_grown, ⟨by go_cell, by go_cell, by simp [go_sem], by simp [go_sem]⟩⟩
        case round =>
          obtain ⟨i, hi, rfl, HP, HB, HN⟩ := hrel
          obtain ⟨q0, q1, _, _⟩ := HN.out
          by_cases hlt : i < es.length
          · go_wp2_with fail
            clear q0 q1
            go_loopw [4] (fun t wr => ∃ k : Nat, k ≤ 2 ∧ t = .int .i64 k ∧ Hid ((1 ≤ k → belowB (at' es i).x n = true) ∧ (2 ≤ k → belowB (at' es i).y n = true)) ∧ Hid (Below w.heap.size w wr) ∧ Hid (NOwn wr w.heap.size n p es.length cap)) (fun t _ => 2 - (intOf t).toNat)
            case atStart => exact ⟨0, by omega, rfl, ⟨fun h => by omega, fun h => by omega⟩, HB.out, HN.out⟩
            case round =>
              obtain ⟨k, hk, rfl, HS, HBk, HNk⟩ := hrel
              obtain ⟨q0, q1, _, _⟩ := HNk.out
              rcases H.out.later HBk.out with h | ⟨b, off, rfl, hL⟩
              · subst h; simp at hlt
              obtain ⟨c0, c1⟩ := hL i hlt
              have i1 : (i : Int) < es.length := by omega
              have i2 : (0 : Int) ≤ i := by omega
              have hbx : Hid (belowB (at' es i).x n = (decide (0 ≤ (at' es i).x) && decide ((at' es i).x < n))) := rfl
              have hby : Hid (belowB (at' es i).y n = (decide (0 ≤ (at' es i).y) && decide ((at' es i).y < n))) := rfl
              have hed : Hid (edB n (at' es i) = (belowB (at' es i).x n && belowB (at' es i).y n)) := rfl
              obtain ⟨r, hr⟩ : ∃ r, at' es i = r := ⟨_, rfl⟩
              rw [hr] at c0 c1 hbx hby HS
              have hed' : Hid (edB n (at' es i) = (belowB r.x n && belowB r.y n)) := by show _ = _; rw [hed.out, hr]
              have HRR := hide hr
              clear hL hr hed
              rcases (by omega : k = 0 ∨ k = 1 ∨ k = 2) with rfl | rfl | rfl
              · by_cases hx0 : r.x < 0
                · have g1 : decide (r.x < 0) = true := decide_eq_true hx0
                  go_wp2_with fail
                  go_quiet (fail)
                  go_wp2
                  go_ret
                  exact ⟨retB (by rw [net_no hlt (by rw [hed'.out, hbx.out]; simp; omega)]), below_drewN HBk.out⟩
                · have g1 : decide (r.x < 0) = false := decide_eq_false hx0
                  by_cases hxn : n ≤ r.x
                  · have g2 : decide (n ≤ r.x) = true := decide_eq_true hxn
                    go_wp2_with fail
                    go_quiet (fail)
                    go_wp2
                    go_ret
                    exact ⟨retB (by rw [net_no hlt (by rw [hed'.out, hbx.out]; simp; omega)]), below_drewN HBk.out⟩
                  · have g2 : decide (n ≤ r.x) = false := decide_eq_false hxn
                    go_wp2_with fail
                    go_quiet (fail)
                    go_wp2
                    go_roundw
                    case rel => exact ⟨1, by omega, by go_num, ⟨fun _ => by rw [HRR.out, hbx.out]; simp; omega, fun h => by omega⟩, below_drewN HBk.out, HNk.out.later (below_drewN (Below.refl _ _))⟩
                    case measure => simp [intOf]
              · by_cases hx0 : r.y < 0
                · have g1 : decide (r.y < 0) = true := decide_eq_true hx0
                  go_wp2_with fail
                  go_quiet (fail)
                  go_wp2
                  go_ret
                  exact ⟨retB (by rw [net_no hlt (by rw [hed'.out, hby.out]; simp; omega)]), below_drewN HBk.out⟩
                · have g1 : decide (r.y < 0) = false := decide_eq_false hx0
                  by_cases hxn : n ≤ r.y
                  · have g2 : decide (n ≤ r.y) = true := decide_eq_true hxn
                    go_wp2_with fail
                    go_quiet (fail)
                    go_wp2
                    go_ret
                    exact ⟨retB (by rw [net_no hlt (by rw [hed'.out, hby.out]; simp; omega)]), below_drewN HBk.out⟩
                  · have g2 : decide (n ≤ r.y) = false := decide_eq_false hxn
                    go_wp2_with fail
                    go_quiet (fail)
                    go_wp2
                    go_roundw
                    case rel => exact ⟨2, by omega, by go_num, ⟨fun h => by rw [HRR.out]; exact HS.out.1 (by omega), fun _ => by rw [HRR.out, hby.out]; simp; omega⟩, below_drewN HBk.out, HNk.out.later (below_drewN (Below.refl _ _))⟩
                    case measure => simp [intOf]
              · clear q0 q1 c0 c1
                go_wp2
                go_roundw
                case rel => exact ⟨i + 1, by omega, by go_num, more HP.out (by rw [hed'.out, HS.out.1 (by omega), HS.out.2 (by omega)]; rfl), HBk.out, HNk.out⟩
                case measure => simp [intOf]; omega
          · go_wp2
            go_ret
            have : i = es.length := by omega
            subst this
            exact ⟨retB (by rw [net_yes h0 hf HP.out]), HB.out⟩
      · have hl' : (3072 : Int) < es.length := by omega
        go_enter Try.func24, Try.ntmps24
        go_wp2
        go_ret
        exact ⟨retB (by simp [netB, fitsB]; omega), by go_grown⟩
    · have hn' : 1024 < n := by omega
      go_enter Try.func24, Try.ntmps24
      go_wp2
      go_ret
      exact ⟨retB (by simp [netB, fitsB]; omega), by go_grown⟩
  · have h0' : n < 0 := by omega
    go_enter Try.func24, Try.ntmps24
    go_wp2
    go_ret
    exact ⟨retB (by simp [netB]; omega), by go_grown⟩
end Go.Proofs.Ytaebbfilgfkckaa
