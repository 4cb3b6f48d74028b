/- The statements' own small functions; the document's Same and Chosen, in every world. -/
import Derived.Test.YtmmbbfmkhbengaaN5
import Derived.Test.YtmmbbfmkhbengaaR1
import Derived.Test.YtmmbbfmkhbengaaN7
namespace Go.Proofs.Ytmmbbfmkhbengaa
open Go.RowKit Go.Sort
open Go

theorem few10 (p : Option Addr) (len cap : Nat) (w : World) : Calls Try.prog 10 #[.slice p len cap] w fun e w' => e = .returned (.bool (decide (len ≤ 400))) ∧ w' = w := by
  go_enter Try.func10, Try.ntmps10
  go_wp2
  go_ret
  exact ⟨retB (by simp; omega), rfl⟩
def lightB (n : Int) (es : List Pt) : Bool := decide (es.length ≤ 300) && (decide (n ≤ 300) || !netB n es)
set_option maxHeartbeats 1000000 in
theorem light9 (n : Int) (p : Option Addr) (es : List Pt) (cap : Nat) (w : World) (h : Has w p es) : Calls Try.prog 9 #[nv n p es.length cap] w fun e w' => e = .returned (.bool (lightB n es)) ∧ Below w.heap.size w w' := by
  obtain ⟨W, hW, hb, a0⟩ := one_net w n p es.length cap
  have M := hide (may12 n p es cap W (h.later hb))
  have HB := hide hb
  obtain ⟨q0, q1, _, _⟩ := a0
  clear h hb
  by_cases hl : es.length ≤ 300
  · have hl' : (es.length : Int) ≤ 300 := by omega
    by_cases hn : n ≤ 300
    · go_enter Try.func9, Try.ntmps9
      go_wp2_with fail
      go_ret
      exact ⟨retB (by simp [lightB, hl, hn]), by go_grown⟩
    · have hn' : 300 < n := by omega
      go_enter Try.func9, Try.ntmps9
      go_wp2_with fail
      rw [← hW]
      clear hW
      refine M.out.mono ?_
      rintro e w1 ⟨rfl, hb1⟩
      have HB1 := hide (below_step HB.out hb1)
      clear hb1 q0 q1
      go_wp2
      go_ret
      exact ⟨retB (by simp [lightB, hl]; omega), HB1.out⟩
  · have hl' : 300 < (es.length : Int) := by omega
    go_enter Try.func9, Try.ntmps9
    go_wp2_with fail
    go_ret
    exact ⟨retB (by simp [lightB, hl]), by go_grown⟩

theorem two_args (w : World) (n m : Int) (p q : Option Addr) (k l cp cq : Nat) : ∃ W, W = (w.alloc (nbx n p k cp)).alloc (nbx m q l cq) ∧ Below w.heap.size w W ∧ NOwn W w.heap.size n p k cp ∧ NOwn W (w.heap.size + 1) m q l cq :=
  ⟨_, rfl, by go_grown, ⟨by go_cell, by go_cell, by simp [go_sem], by simp [go_sem]⟩, by go_cell, by go_cell, by simp [go_sem], by simp [go_sem]⟩
set_option maxRecDepth 100000 in
set_option maxHeartbeats 4000000 in
theorem same22 (n m : Int) (p q : Option Addr) (a b : List Pt) (cp cq : Nat) (w : World) (hla : a.length ≤ 1000000000) (hp : Has w p a) (hq : Has w q b) : Calls Try.prog 22 #[nv n p a.length cp, nv m q b.length cq] w fun e w' => e = .returned (.bool (sameB n m a b)) ∧ Below w.heap.size w w' := by
  obtain ⟨W, hW, hb, a0, b0⟩ := two_args w n m p q a.length b.length cp cq
  have H := hide (hp.later hb)
  have K := hide (hq.later hb)
  have HB := hide hb
  have HA := hide a0
  have HN := hide b0
  clear hp hq hb a0 b0
  by_cases hnm : n = m
  · subst hnm
    by_cases hl : a.length = b.length
    · have hli : ((a.length : Int) == b.length) = true := by simp [hl]
      have HLE := hide hl
      clear hl
      obtain ⟨q0, q1, _, _⟩ := HA.out
      obtain ⟨r0, r1, _, _⟩ := HN.out
      go_enter Try.func22, Try.ntmps22
      go_wp2_with fail
      rw [← hW]
      clear hW q0 q1 r0 r1
      go_loopw [5] (fun t wr => ∃ i : Nat, i ≤ a.length ∧ t = .int .i64 i ∧ Hid (∀ j, j < i → at' a j = at' b j) ∧ Hid (Below W.heap.size W wr)) (fun t _ => a.length - (intOf t).toNat)
      case atStart => exact ⟨0, by omega, rfl, fun j hj => by omega, Below.refl _ _⟩
      case round =>
        obtain ⟨i, hi, rfl, HP, HBr⟩ := hrel
        obtain ⟨q0, q1, _, _⟩ := HA.out.later HBr.out
        obtain ⟨r0, r1, _, _⟩ := HN.out.later HBr.out
        by_cases hlt : i < a.length
        · rcases H.out.later HBr.out with h | ⟨b1, o1, rfl, l1⟩
          · subst h; simp at hlt
          rcases K.out.later HBr.out with h | ⟨b2, o2, rfl, l2⟩
          · have hl := HLE.out; rw [h] at hl; simp at hl; rw [hl] at hlt; simp at hlt
          obtain ⟨c0, c1⟩ := l1 i hlt
          obtain ⟨d0, d1⟩ := l2 i (by have := HLE.out; omega)
          clear l1 l2
          obtain ⟨x, hx⟩ : ∃ x, at' a i = x := ⟨_, rfl⟩
          obtain ⟨y, hy⟩ : ∃ y, at' b i = y := ⟨_, rfl⟩
          rw [hx] at c0 c1
          rw [hy] at d0 d1
          have heq := eq60 x y
          have e1 : (i : Int) < a.length := by omega
          have e2 : (i : Int) < b.length := by have := HLE.out; omega
          have e3 : (0 : Int) ≤ i := by omega
          cases hxy : decide (x = y)
          · rw [hxy] at heq
            go_wp2_with fail
            go_quiet (fail)
            go_wp2
            go_ret
            refine ⟨retB ?_, below_step HB.out (below_drewN HBr.out)⟩
            have hne : a ≠ b := by
              intro e
              subst e
              rw [hx] at hy
              exact absurd hy (of_decide_eq_false hxy)
            simp [sameB, hne]
          · rw [hxy] at heq
            go_wp2_with fail
            go_quiet (fail)
            go_wp2
            go_roundw
            case rel => exact ⟨i + 1, by omega, by go_num, more HP.out (by rw [hx, hy]; exact of_decide_eq_true hxy), below_drewN HBr.out⟩
            case measure => simp [intOf]; omega
        · go_wp2
          go_ret
          have : i = a.length := by omega
          subst this
          exact ⟨retB (by simp [sameB, at_ext HLE.out HP.out]), below_step HB.out HBr.out⟩
    · have hli : ((a.length : Int) == b.length) = false := by simp; omega
      go_enter Try.func22, Try.ntmps22
      go_wp2
      go_ret
      refine ⟨retB ?_, by go_grown⟩
      have hne : a ≠ b := fun e => hl (by rw [e])
      simp [sameB, hne]
  · have hne : (n == m) = false := by simpa using hnm
    go_enter Try.func22, Try.ntmps22
    go_wp2
    go_ret
    exact ⟨retB (by simp [sameB, hnm]), by go_grown⟩

set_option maxRecDepth 100000 in
set_option maxHeartbeats 4000000 in
theorem chosen52 (p : Option Addr) (l : List Int) (cap : Nat) (n : Int) (w : World) (hl : l.length ≤ maxLen) (h : IHas w p l) : Calls Try.prog 52 #[.slice p l.length cap, .int .i64 n] w fun e w' => e = .returned (.int .i64 (errL l n)) ∧ Below w.heap.size w w' := by
  have HH := hide h
  clear h
  unfold maxLen at hl
  go_enter Try.func52, Try.ntmps52
  go_wp2_with fail
  go_loopw [5] (fun t wr => ∃ k : Nat, k ≤ l.length ∧ t = .int .i64 k ∧ Hid (Below w.heap.size w wr) ∧ Hid (∀ j, j < k → chk l n j = 0)) (fun t _ => l.length - (intOf t).toNat)
  case atStart => exact ⟨0, by omega, rfl, Below.refl _ _, fun j hj => by omega⟩
  case round =>
    obtain ⟨k, hk, rfl, HB, HC⟩ := hrel
    by_cases hlk : k < l.length
    · rcases HH.out.later HB.out with h | ⟨b, off, rfl, hL⟩
      · subst h; simp at hlk
      have cl := hL k hlk
      have HLL := hide hL
      have hchk : Hid (chk l n k = if belowB (iat l k) n then (if metB l k then 18 else 0) else 2) := rfl
      have hbx : Hid (belowB (iat l k) n = (decide (0 ≤ iat l k) && decide (iat l k < n))) := rfl
      obtain ⟨x, hx⟩ : ∃ x, iat l k = x := ⟨_, rfl⟩
      rw [hx] at cl hbx hchk
      have HX := hide hx
      clear hL hx
      by_cases hx0 : x < 0
      · have hE : Hid (errL l n = 2) := by
          have h2 : chk l n k = 2 := by rw [hchk.out, hbx.out, if_neg (by simp; omega)]
          show _ = _
          unfold errL; rw [errN_first HC.out (by rw [h2]; omega) _ hlk, h2]
        go_wp2
        go_ret
        exact ⟨retI (by rw [hE.out]), HB.out⟩
      by_cases hxn : n ≤ x
      · have hE : Hid (errL l n = 2) := by
          have h2 : chk l n k = 2 := by rw [hchk.out, hbx.out, if_neg (by simp; omega)]
          show _ = _
          unfold errL; rw [errN_first HC.out (by rw [h2]; omega) _ hlk, h2]
        go_wp2
        go_ret
        exact ⟨retI (by rw [hE.out]), HB.out⟩
      have hbt : Hid (belowB x n = true) := by show _ = _; rw [hbx.out]; simp; omega
      go_wp2_with fail
      obtain ⟨w1, rfl⟩ : ∃ w1, w1 = wr := ⟨wr, rfl⟩
      go_loopw [6] (fun t wr => ∃ i : Nat, i ≤ k ∧ t = .int .i64 i ∧ Hid (Below w1.heap.size w1 wr) ∧ Hid (∀ j, j < i → iat l j ≠ x)) (fun t _ => k - (intOf t).toNat)
      case atStart => exact ⟨0, by omega, rfl, Below.refl _ _, fun j hj => by omega⟩
      case round =>
        obtain ⟨i, hi, rfl, HBi, HNi⟩ := hrel
        by_cases hik : i < k
        · have d0 := HLL.out.later HBi.out i (by omega)
          have d1 := HLL.out.later HBi.out k hlk
          rw [HX.out] at d1
          obtain ⟨y, hy⟩ : ∃ y, iat l i = y := ⟨_, rfl⟩
          rw [hy] at d0
          have i1 : (i : Int) < l.length := by omega
          have i2 : (0 : Int) ≤ i := by omega
          have i3 : (k : Int) < l.length := by omega
          have i4 : (0 : Int) ≤ k := by omega
          clear cl
          by_cases hyx : y = x
          · subst hyx
            have hE : Hid (errL l n = 18) := by
              have h2 : chk l n k = 18 := by rw [hchk.out, hbt.out, if_pos rfl, metB_yes hik (by rw [hy, HX.out]), if_pos rfl]
              show _ = _
              unfold errL; rw [errN_first HC.out (by rw [h2]; omega) _ hlk, h2]
            go_wp2_with fail
            go_quiet (fail)
            go_wp2
            go_ret
            exact ⟨retI (by rw [hE.out]), Below.trans HB.out (below_drewN (HBi.out.mono HB.out.size))⟩
          · have hyb : (y == x) = false := by simpa using hyx
            go_wp2_with fail
            go_quiet (fail)
            go_wp2
            go_roundw
            case rel => exact ⟨i + 1, by omega, by go_num, below_drewN HBi.out, more HNi.out (by rw [hy]; exact hyx)⟩
            case measure => simp [intOf]; omega
        · have hin : i = k := by omega
          subst hin
          have h2 : Hid (chk l n i = 0) := by show _ = _; rw [hchk.out, hbt.out, if_pos rfl, metB_of_no (by rw [HX.out]; exact HNi.out)]; rfl
          go_wp2
          go_roundw
          case rel => exact ⟨i + 1, by omega, by go_num, Below.trans HB.out (HBi.out.mono HB.out.size), more HC.out h2.out⟩
          case measure => simp [intOf]; omega
    · have hin : k = l.length := by omega
      subst hin
      have hE : Hid (errL l n = 0) := errN_zero _ HC.out
      go_wp2
      go_ret
      exact ⟨retI (by rw [hE.out]), HB.out⟩
end Go.Proofs.Ytmmbbfmkhbengaa
