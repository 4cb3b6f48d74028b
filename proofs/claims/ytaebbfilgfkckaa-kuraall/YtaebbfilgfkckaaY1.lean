/- Rotations in memory: lists of lists; Light, Lists, slices.Equal, EqualFunc. -/
import Derived.Test.YtaebbfilgfkckaaL0
import Derived.Test.YtaebbfilgfkckaaL1
import Derived.Test.YtaebbfilgfkckaaX2
import Derived.Deep.DeepCutAuto
import Derived.Deep.QuietTactic
import Derived.BigQuiet
import Derived.Lib.QuietBelow
import Derived.Deep.RegionHeld3
namespace Go.Proofs.Ytaebbfilgfkckaa
open Go.RowKit Go.Sort
open Go

def lat (rs : List (List Int)) (v : Nat) : List Int := rs.getD v []
theorem lat_ext {a b : List (List Int)} (hl : a.length = b.length) (h : ∀ v, v < a.length → lat a v = lat b v) : a = b := by
  refine List.ext_getElem hl ?_
  intro i h1 h2
  have := h i h1
  unfold lat at this
  rw [List.getD_eq_getElem?_getD, List.getD_eq_getElem?_getD, List.getElem?_eq_getElem h1, List.getElem?_eq_getElem h2] at this
  simpa using this
/-- A rotation lies in memory: a slice of slices, whatever they share. -/
def RHas (w : World) (p : Option Addr) (rs : List (List Int)) : Prop := rs = [] ∨ ∃ b off, p = some ⟨b, off, none⟩ ∧ ∀ v, v < rs.length → ∃ a c, w.cell? ⟨b, off + v, none⟩ = some (.slice a (lat rs v).length c) ∧ IHas w a (lat rs v) ∧ (lat rs v).length ≤ maxLen ∧ (lat rs v).length ≤ c ∧ (a = none → c = 0)
theorem RHas.later {w w' : World} {p : Option Addr} {rs : List (List Int)} (h : RHas w p rs) (hb : Below w.heap.size w w') : RHas w' p rs := by
  rcases h with h | ⟨b, off, hp, h⟩
  · exact Or.inl h
  · exact Or.inr ⟨b, off, hp, fun v hv => by obtain ⟨a, c, h1, h2, h3⟩ := h v hv; exact ⟨a, c, Ytaebbfilgfkckaa.later hb h1, h2.later hb, h3⟩⟩
theorem RHas.at_ {w : World} {p : Option Addr} {rs : List (List Int)} (h : RHas w p rs) {v : Nat} (hv : v < rs.length) : ∃ b off a c, p = some ⟨b, off, none⟩ ∧ w.cell? ⟨b, off + v, none⟩ = some (.slice a (lat rs v).length c) ∧ IHas w a (lat rs v) ∧ (lat rs v).length ≤ maxLen ∧ (lat rs v).length ≤ c ∧ (a = none → c = 0) := by
  rcases h with h | ⟨b, off, hp, h⟩
  · rw [h] at hv; simp at hv
  · obtain ⟨a, c, h1, h2, h3⟩ := h v hv
    exact ⟨b, off, a, c, hp, h1, h2, h3⟩
def RetB (e : Ending) : Prop := ∃ b : Bool, e = .returned (.bool b)
set_option maxRecDepth 100000 in
set_option maxHeartbeats 4000000 in
/-- The document's Lists. -/
theorem lists29 (p q : Option Addr) (a b : List (List Int)) (cp cq : Nat) (w : World) (hla : a.length ≤ maxLen) (hp : RHas w p a) (hq : RHas w q b) : Calls Try.prog 17 #[.slice p a.length cp, .slice q b.length cq] w fun e w' => e = .returned (.bool (decide (a = b))) ∧ Below w.heap.size w w' := by
  have H := hide hp
  have K := hide hq
  unfold maxLen at hla
  clear hp hq
  by_cases hl : a.length = b.length
  · go_enter Try.func17, Try.ntmps17
    have hli : ((a.length : Int) == b.length) = true := by simp [hl]
    go_wp2_with fail
    go_loopw [5] (fun t wr => ∃ i : Nat, i ≤ a.length ∧ t = .int .i64 i ∧ Hid (∀ j, j < i → lat a j = lat b j) ∧ Hid (Below w.heap.size w wr)) (fun t _ => a.length - (intOf t).toNat)
    case atStart => exact ⟨0, by omega, rfl, fun j hj => by omega, Below.refl _ _⟩
    case round =>
      obtain ⟨i, hi, rfl, HP, HB⟩ := hrel
      by_cases hlt : i < a.length
      · obtain ⟨b1, o1, a1, k1, rfl, c0, m1, z1⟩ := (H.out.later HB.out).at_ hlt
        obtain ⟨b2, o2, a2, k2, rfl, d0, m2, z2⟩ := (K.out.later HB.out).at_ (by omega : i < b.length)
        have I0 : Hid (∀ V, Below wr.heap.size wr V → Calls Try.prog 16 #[.slice a1 (lat a i).length k1, .slice a2 (lat b i).length k2] V fun e w' => e = .returned (.bool (decide (lat a i = lat b i))) ∧ Below V.heap.size V w') := fun V hV => ints30 a1 a2 (lat a i) (lat b i) k1 k2 V z1.1 (m1.later hV) (m2.later hV)
        have e1 : (i : Int) < a.length := by omega
        have e2 : (i : Int) < b.length := by omega
        have CI : ∀ dd os, Calls Try.prog 16 #[.slice a1 (lat a i).length k1, .slice a2 (lat b i).length k2] (grow (redrawn wr dd) os) fun e w'' => e = .returned (.bool (decide (lat a i = lat b i))) ∧ ∃ p : Regrown, w'' = grow (redrawn wr p.d) p.os := fun dd os => Calls.regrown_of (I0.out _ (below_regrown wr dd os))
        have F0 := cell_regrown c0
        have G0 := cell_regrown d0
        obtain ⟨D, hD⟩ : ∃ D, decide (lat a i = lat b i) = D := ⟨_, rfl⟩
        have HD := hide hD
        rw [hD] at CI
        clear m1 m2 z1 z2 hD I0
        go_upto_region 6 with fail
        refine wp_region_quiet_below (by kernel_rfl) (by kernel_rfl) ?_
        repeat (go_big_quiet_step (first | with_reducible exact CI _ _))
        refine wpQuiet_nil ?_
        intro w3 hw'
        have hb3 : Below wr.heap.size wr w3 := by
          obtain ⟨⟨dq, osq⟩, hw''⟩ := hw'
          rw [hw'']
          exact below_regrown wr dq osq
        have HBq := hide (below_step HB.out hb3)
        clear hw' hb3 F0 G0 c0 d0 CI
        cases D
        · go_wp2
          go_ret
          refine ⟨retB ?_, HBq.out⟩
          have h1 := of_decide_eq_false HD.out
          have hne : a ≠ b := fun e => h1 (by rw [e])
          simp [hne]
        · go_wp2
          go_roundw
          case rel => exact ⟨i + 1, by omega, by go_num, fun j hj => by
            by_cases hji : j = i
            · rw [hji]; exact of_decide_eq_true HD.out
            · exact HP.out j (by omega), HBq.out⟩
          case measure => simp [intOf]; omega
      · go_wp2
        go_ret
        have : i = a.length := by omega
        subst this
        exact ⟨retB (by simp [lat_ext hl HP.out]), HB.out⟩
  · go_enter Try.func17, Try.ntmps17
    have hli : ((a.length : Int) == b.length) = false := by simp; omega
    go_wp2
    go_ret
    refine ⟨retB ?_, Below.refl _ _⟩
    have hne : a ≠ b := fun e => hl (by rw [e])
    simp [hne]
end Go.Proofs.Ytaebbfilgfkckaa
