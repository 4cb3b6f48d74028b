/- Part, in every world. -/
import Derived.Test.YtcgdmonejogbaaaN5
namespace Go.Proofs.Ytcgdmonejogbaaa
open Go.RowKit Go.Sort
open Go
set_option maxRecDepth 100000 in
set_option maxHeartbeats 4000000 in
theorem may12 (n : Int) (p : Option Addr) (es : List Pt) (cap : Nat) (w : World) (h : Has w p es) : Calls Try.prog 41 #[nv n p es.length cap] w fun e w' => e = .returned (.bool (netB n es)) ∧ Below w.heap.size w w' := by
  have H := hide h
  clear h
  by_cases h0 : 0 ≤ n
  · by_cases hn : n ≤ 1024
    · by_cases hl : es.length ≤ 3072
      · have hf : fitsB n es.length = true := by simp [fitsB, hn]; omega
        go_enter Try.func41, Try.ntmps41
        go_wp2_with fail
        go_loopw [3] (fun t wr => ∃ i : Nat, i ≤ es.length ∧ t = .int .i64 i ∧ Hid (∀ j, j < i → edB n (at' es j) = true) ∧ Hid (Below w.heap.size w wr) ∧ Hid (NOwn wr w.heap.size n p es.length cap)) (fun t _ => es.length - (intOf t).toNat)
        case atStart => exact ⟨0, by omega, rfl, fun j hj => by omega, by show Below _ _ _; go_grown, ⟨by go_cell, by go_cell, by simp [go_sem], by simp [go_sem]⟩⟩
        case round =>
          obtain ⟨i, hi, rfl, HP, HB, HN⟩ := hrel
          obtain ⟨q0, q1, _, _⟩ := HN.out
          by_cases hlt : i < es.length
          · go_wp2_with fail
            clear q0 q1
            go_loopw [4] (fun t wr => ∃ k : Nat, k ≤ 2 ∧ t = .int .i64 k ∧ Hid ((1 ≤ k → belowB (at' es i).x n = true) ∧ (2 ≤ k → belowB (at' es i).y n = true)) ∧ Hid (Below w.heap.size w wr) ∧ Hid (NOwn wr w.heap.size n p es.length cap)) (fun t _ => 2 - (intOf t).toNat)
            case atStart => exact ⟨0, by omega, rfl, ⟨fun h => by omega, fun h => by omega⟩, HB.out, HN.out⟩
            case round =>
              obtain ⟨k, hk, rfl, HS, HBk, HNk⟩ := hrel
              obtain ⟨q0, q1, _, _⟩ := HNk.out
              rcases H.out.later HBk.out with h | ⟨b, off, rfl, hL⟩
              · subst h; simp at hlt
              obtain ⟨c0, c1⟩ := hL i hlt
              have i1 : (i : Int) < es.length := by omega
              have i2 : (0 : Int) ≤ i := by omega
              have hbx : Hid (belowB (at' es i).x n = (decide (0 ≤ (at' es i).x) && decide ((at' es i).x < n))) := rfl
              have hby : Hid (belowB (at' es i).y n = (decide (0 ≤ (at' es i).y) && decide ((at' es i).y < n))) := rfl
              have hed : Hid (edB n (at' es i) = (belowB (at' es i).x n && belowB (at' es i).y n)) := rfl
              obtain ⟨r, hr⟩ : ∃ r, at' es i = r := ⟨_, rfl⟩
              rw [hr] at c0 c1 hbx hby HS
              have hed' : Hid (edB n (at' es i) = (belowB r.x n && belowB r.y n)) := by show _ = _; rw [hed.out, hr]
              have HRR := hide hr
              clear hL hr hed
              rcases (by omega : k = 0 ∨ k = 1 ∨ k = 2) with rfl | rfl | rfl
              · by_cases hx0 : r.x < 0
                · have g1 : decide (r.x < 0) = true := decide_eq_true hx0
                  go_wp2_with fail
                  go_quiet (fail)
                  go_wp2
                  go_ret
                  exact ⟨retB (by rw [net_no hlt (by rw [hed'.out, hbx.out]; simp; omega)]), below_drewN HBk.out⟩
                · have g1 : decide (r.x < 0) = false := decide_eq_false hx0
                  by_cases hxn : n ≤ r.x
                  · have g2 : decide (n ≤ r.x) = true := decide_eq_true hxn
                    go_wp2_with fail
                    go_quiet (fail)
                    go_wp2
                    go_ret
                    exact ⟨retB (by rw [net_no hlt (by rw [hed'.out, hbx.out]; simp; omega)]), below_drewN HBk.out⟩
                  · have g2 : decide (n ≤ r.x) = false := decide_eq_false hxn
                    go_wp2_with fail
                    go_quiet (fail)
                    go_wp2
                    go_roundw
                    case rel => exact ⟨1, by omega, by go_num, ⟨fun _ => by rw [HRR.out, hbx.out]; simp; omega, fun h => by omega⟩, below_drewN HBk.out, HNk.out.later (below_drewN (Below.refl _ _))⟩
                    case measure => simp [intOf]
              · by_cases hx0 : r.y < 0
                · have g1 : decide (r.y < 0) = true := decide_eq_true hx0
                  go_wp2_with fail
                  go_quiet (fail)
                  go_wp2
                  go_ret
                  exact ⟨retB (by rw [net_no hlt (by rw [hed'.out, hby.out]; simp; omega)]), below_drewN HBk.out⟩
                · have g1 : decide (r.y < 0) = false := decide_eq_false hx0
                  by_cases hxn : n ≤ r.y
                  · have g2 : decide (n ≤ r.y) = true := decide_eq_true hxn
                    go_wp2_with fail
                    go_quiet (fail)
                    go_wp2
                    go_ret
                    exact ⟨retB (by rw [net_no hlt (by rw [hed'.out, hby.out]; simp; omega)]), below_drewN HBk.out⟩
                  · have g2 : decide (n ≤ r.y) = false := decide_eq_false hxn
                    go_wp2_with fail
                    go_quiet (fail)
                    go_wp2
                    go_roundw
                    case rel => exact ⟨2, by omega, by go_num, ⟨fun h => by rw [HRR.out]; exact HS.out.1 (by omega), fun _ => by rw [HRR.out, hby.out]; simp; omega⟩, below_drewN HBk.out, HNk.out.later (below_drewN (Below.refl _ _))⟩
                    case measure => simp [intOf]
              · clear q0 q1 c0 c1
                go_wp2
                go_roundw
                case rel => exact ⟨i + 1, by omega, by go_num, more HP.out (by rw [hed'.out, HS.out.1 (by omega), HS.out.2 (by omega)]; rfl), HBk.out, HNk.out⟩
                case measure => simp [intOf]; omega
          · go_wp2
            go_ret
            have : i = es.length := by omega
            subst this
            exact ⟨retB (by rw [net_yes h0 hf HP.out]), HB.out⟩
      · have hl' : (3072 : Int) < es.length := by omega
        go_enter Try.func41, Try.ntmps41
        go_wp2
        go_ret
        exact ⟨retB (by simp [netB, fitsB]; omega), by go_grown⟩
    · have hn' : 1024 < n := by omega
      go_enter Try.func41, Try.ntmps41
      go_wp2
      go_ret
      exact ⟨retB (by simp [netB, fitsB]; omega), by go_grown⟩
  · have h0' : n < 0 := by omega
    go_enter Try.func41, Try.ntmps41
    go_wp2
    go_ret
    exact ⟨retB (by simp [netB]; omega), by go_grown⟩
end Go.Proofs.Ytcgdmonejogbaaa
namespace Go.Proofs.Ytcgdmonejogbaaa
open Go.RowKit Go.Sort
open Go
set_option maxHeartbeats 1000000 in
theorem ints30 (p q : Option Addr) (a b : List Int) (cp cq : Nat) (w : World) (hla : a.length ≤ maxLen) (hp : IHas w p a) (hq : IHas w q b) : Calls Try.prog 31 #[.slice p a.length cp, .slice q b.length cq] w fun e w' => e = .returned (.bool (decide (a = b))) ∧ Below w.heap.size w w' := by
  have H := hide hp
  have K := hide hq
  unfold maxLen at hla
  clear hp hq
  by_cases hl : a.length = b.length
  · go_enter Try.func31, Try.ntmps31
    have hli : ((a.length : Int) == b.length) = true := by simp [hl]
    go_wp2_with fail
    go_loopw [5] (fun t wr => ∃ i : Nat, i ≤ a.length ∧ t = .int .i64 i ∧ Hid (∀ j, j < i → iat a j = iat b j) ∧ Hid (Below w.heap.size w wr)) (fun t _ => a.length - (intOf t).toNat)
    case atStart => exact ⟨0, by omega, rfl, fun j hj => by omega, Below.refl _ _⟩
    case round =>
      obtain ⟨i, hi, rfl, HP, HB⟩ := hrel
      by_cases hlt : i < a.length
      · rcases H.out.later HB.out with h | ⟨b1, o1, rfl, l1⟩
        · subst h; simp at hlt
        rcases K.out.later HB.out with h | ⟨b2, o2, rfl, l2⟩
        · rw [h] at hl; simp at hl; rw [hl] at hlt; simp at hlt
        have c0 := l1 i hlt
        have d0 := l2 i (by omega)
        clear l1 l2
        obtain ⟨x, hx⟩ : ∃ x, iat a i = x := ⟨_, rfl⟩
        obtain ⟨y, hy⟩ : ∃ y, iat b i = y := ⟨_, rfl⟩
        rw [hx] at c0
        rw [hy] at d0
        have e1 : (i : Int) < a.length := by omega
        have e2 : (i : Int) < b.length := by omega
        by_cases hxy : x = y
        · subst hxy
          go_wp2_with fail
          go_quiet (fail)
          go_wp2
          go_roundw
          case rel => exact ⟨i + 1, by omega, by go_num, more HP.out (by rw [hx, hy]), below_drewN HB.out⟩
          case measure => simp [intOf]; omega
        · have hxb : (x == y) = false := by simpa using hxy
          go_wp2_with fail
          go_quiet (fail)
          go_wp2
          go_ret
          refine ⟨retB ?_, below_drewN HB.out⟩
          have hne : a ≠ b := by
            intro e
            subst e
            rw [hx] at hy
            exact absurd hy hxy
          simp [hne]
      · go_wp2
        go_ret
        have : i = a.length := by omega
        subst this
        exact ⟨retB (by simp [iat_ext hl HP.out]), HB.out⟩
  · go_enter Try.func31, Try.ntmps31
    have hli : ((a.length : Int) == b.length) = false := by simp; omega
    go_wp2
    go_ret
    refine ⟨retB ?_, Below.refl _ _⟩
    have hne : a ≠ b := fun e => hl (by rw [e])
    simp [hne]
end Go.Proofs.Ytcgdmonejogbaaa
namespace Go.Proofs.Ytcgdmonejogbaaa
open Go.RowKit Go.Sort
open Go
theorem one_net (w : World) (n : Int) (p : Option Addr) (l c : Nat) : ∃ W, W = w.alloc (nbx n p l c) ∧ Below w.heap.size w W ∧ NOwn W w.heap.size n p l c :=
  ⟨_, rfl, by go_grown, by go_cell, by go_cell, by simp [go_sem], by simp [go_sem]⟩
end Go.Proofs.Ytcgdmonejogbaaa
namespace Go.Proofs.Ytcgdmonejogbaaa
open Go.RowKit Go.Sort
open Go
def lightB (n : Int) (es : List Pt) : Bool := decide (es.length ≤ 300) && (decide (n ≤ 300) || !netB n es)
theorem two_args (w : World) (n m : Int) (p q : Option Addr) (k l cp cq : Nat) : ∃ W, W = (w.alloc (nbx n p k cp)).alloc (nbx m q l cq) ∧ Below w.heap.size w W ∧ NOwn W w.heap.size n p k cp ∧ NOwn W (w.heap.size + 1) m q l cq :=
  ⟨_, rfl, by go_grown, ⟨by go_cell, by go_cell, by simp [go_sem], by simp [go_sem]⟩, by go_cell, by go_cell, by simp [go_sem], by simp [go_sem]⟩
set_option maxRecDepth 100000 in
set_option maxHeartbeats 4000000 in
theorem same22 (n m : Int) (p q : Option Addr) (a b : List Pt) (cp cq : Nat) (w : World) (hla : a.length ≤ 1000000000) (hp : Has w p a) (hq : Has w q b) : Calls Try.prog 37 #[nv n p a.length cp, nv m q b.length cq] w fun e w' => e = .returned (.bool (sameB n m a b)) ∧ Below w.heap.size w w' := by
  obtain ⟨W, hW, hb, a0, b0⟩ := two_args w n m p q a.length b.length cp cq
  have H := hide (hp.later hb)
  have K := hide (hq.later hb)
  have HB := hide hb
  have HA := hide a0
  have HN := hide b0
  clear hp hq hb a0 b0
  by_cases hnm : n = m
  · subst hnm
    by_cases hl : a.length = b.length
    · have hli : ((a.length : Int) == b.length) = true := by simp [hl]
      have HLE := hide hl
      clear hl
      obtain ⟨q0, q1, _, _⟩ := HA.out
      obtain ⟨r0, r1, _, _⟩ := HN.out
      go_enter Try.func37, Try.ntmps37
      go_wp2_with fail
      rw [← hW]
      clear hW q0 q1 r0 r1
      go_loopw [5] (fun t wr => ∃ i : Nat, i ≤ a.length ∧ t = .int .i64 i ∧ Hid (∀ j, j < i → at' a j = at' b j) ∧ Hid (Below W.heap.size W wr)) (fun t _ => a.length - (intOf t).toNat)
      case atStart => exact ⟨0, by omega, rfl, fun j hj => by omega, Below.refl _ _⟩
      case round =>
        obtain ⟨i, hi, rfl, HP, HBr⟩ := hrel
        obtain ⟨q0, q1, _, _⟩ := HA.out.later HBr.out
        obtain ⟨r0, r1, _, _⟩ := HN.out.later HBr.out
        by_cases hlt : i < a.length
        · rcases H.out.later HBr.out with h | ⟨b1, o1, rfl, l1⟩
          · subst h; simp at hlt
          rcases K.out.later HBr.out with h | ⟨b2, o2, rfl, l2⟩
          · have hl := HLE.out; rw [h] at hl; simp at hl; rw [hl] at hlt; simp at hlt
          obtain ⟨c0, c1⟩ := l1 i hlt
          obtain ⟨d0, d1⟩ := l2 i (by have := HLE.out; omega)
          clear l1 l2
          obtain ⟨x, hx⟩ : ∃ x, at' a i = x := ⟨_, rfl⟩
          obtain ⟨y, hy⟩ : ∃ y, at' b i = y := ⟨_, rfl⟩
          rw [hx] at c0 c1
          rw [hy] at d0 d1
          have heq := eq60 x y
          have e1 : (i : Int) < a.length := by omega
          have e2 : (i : Int) < b.length := by have := HLE.out; omega
          have e3 : (0 : Int) ≤ i := by omega
          cases hxy : decide (x = y)
          · rw [hxy] at heq
            go_wp2_with fail
            go_quiet (fail)
            go_wp2
            go_ret
            refine ⟨retB ?_, below_step HB.out (below_drewN HBr.out)⟩
            have hne : a ≠ b := by
              intro e
              subst e
              rw [hx] at hy
              exact absurd hy (of_decide_eq_false hxy)
            simp [sameB, hne]
          · rw [hxy] at heq
            go_wp2_with fail
            go_quiet (fail)
            go_wp2
            go_roundw
            case rel => exact ⟨i + 1, by omega, by go_num, more HP.out (by rw [hx, hy]; exact of_decide_eq_true hxy), below_drewN HBr.out⟩
            case measure => simp [intOf]; omega
        · go_wp2
          go_ret
          have : i = a.length := by omega
          subst this
          exact ⟨retB (by simp [sameB, at_ext HLE.out HP.out]), below_step HB.out HBr.out⟩
    · have hli : ((a.length : Int) == b.length) = false := by simp; omega
      go_enter Try.func37, Try.ntmps37
      go_wp2
      go_ret
      refine ⟨retB ?_, by go_grown⟩
      have hne : a ≠ b := fun e => hl (by rw [e])
      simp [sameB, hne]
  · have hne : (n == m) = false := by simpa using hnm
    go_enter Try.func37, Try.ntmps37
    go_wp2
    go_ret
    exact ⟨retB (by simp [sameB, hnm]), by go_grown⟩
end Go.Proofs.Ytcgdmonejogbaaa
namespace Go.Proofs.Ytcgdmonejogbaaa
open Go.RowKit Go.Sort
open Go
theorem below_grown {B : Nat} {a w w' : World} {v : Value} {base n : Nat} {xs : List Value} {e : TypeId} {size : Nat} (h : Below B a w) (ho : w.ownsRow base e size v n xs) (hB : B ≤ base) (hw : B ≤ w.heap.size) (hg : w.grownBy w' v.ownBlock) : Below B a w' :=
  h.grown hg hw fun k hk => Nat.le_trans hB (World.ownsRow.lt ho k hk).1
end Go.Proofs.Ytcgdmonejogbaaa
