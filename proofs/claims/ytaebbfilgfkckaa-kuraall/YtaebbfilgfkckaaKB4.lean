/- Pure: paths through nodes of the degree 2 come to an end. -/
import Derived.Test.YtaebbfilgfkckaaKB3
import Derived.Test.YtaebbfilgfkckaaKB0
namespace Go.Proofs.Ytaebbfilgfkckaa
open Go.RowKit Go.Sort
open Go
variable {es : List Pt}
/-- The other half of an edge. -/
def tw (h : Nat) : Nat := if h % 2 = 0 then h + 1 else h - 1
theorem tw_lt {h m : Nat} (hl : h < 2 * m) : tw h < 2 * m := by unfold tw; split <;> omega
theorem tw_inj {a b : Nat} (h : tw a = tw b) : a = b := by unfold tw at h; split at h <;> split at h <;> omega
theorem tw_tw (h : Nat) : tw (tw h) = h := by unfold tw; split <;> split <;> omega
theorem from_tw (h : Nat) : fromL es (tw h) = toL es h := by
  unfold fromL toL tw
  by_cases e : h % 2 = 0
  · rw [if_pos e, if_neg (by omega), if_pos e, show (h + 1) / 2 = h / 2 by omega]
  · rw [if_neg e, if_pos (by omega), if_neg e, show (h - 1) / 2 = h / 2 by omega]
/-- The half-edges that leave a node. -/
abbrev ow (es : List Pt) (v : Nat) : List Int := outL es (2 * es.length) v
theorem ow_two {v : Nat} (h : (ow es v).length = 2) : ∃ a b : Nat, iat (ow es v) 0 = a ∧ iat (ow es v) 1 = b ∧ a < b ∧ b < 2 * es.length ∧ fromL es a = v ∧ fromL es b = v ∧ ∀ k, k < 2 * es.length → fromL es k = v → k = a ∨ k = b := by
  obtain ⟨a, ha, a1, a2⟩ := outL_at (es := es) (h := 2 * es.length) (v := v) (j := 0) (by rw [show (outL es (2 * es.length) v).length = 2 from h]; omega)
  obtain ⟨b, hb, b1, b2⟩ := outL_at (es := es) (h := 2 * es.length) (v := v) (j := 1) (by rw [show (outL es (2 * es.length) v).length = 2 from h]; omega)
  have hlt : a < b := by
    have hp : (outL es (2 * es.length) v).Pairwise (· < ·) := by
      unfold outL
      refine List.Pairwise.map _ (fun x y hxy => by omega) ((List.pairwise_lt_range).filter _)
    rw [List.pairwise_iff_getElem] at hp
    have h0 : 0 < (outL es (2 * es.length) v).length := by rw [show (outL es (2 * es.length) v).length = 2 from h]; omega
    have h1 : 1 < (outL es (2 * es.length) v).length := by rw [show (outL es (2 * es.length) v).length = 2 from h]; omega
    have := hp 0 1 h0 h1 (by omega)
    unfold iat at ha hb
    rw [List.getD_eq_getElem?_getD, List.getElem?_eq_getElem h0] at ha
    rw [List.getD_eq_getElem?_getD, List.getElem?_eq_getElem h1] at hb
    simp only [Option.getD_some] at ha hb
    rw [ha, hb] at this
    omega
  refine ⟨a, b, ha, hb, hlt, b1, a2, b2, fun k hk hf => ?_⟩
  obtain ⟨j, hj, e⟩ := outL_mem hk hf
  have hj2 : j < 2 := by rw [show (outL es (2 * es.length) v).length = 2 from h] at hj; exact hj
  have : j = 0 ∨ j = 1 := by omega
  rcases this with rfl | rfl
  · left; rw [ha] at e; omega
  · right; rw [hb] at e; omega
/-- Where a half-edge comes to. -/
def tN (es : List Pt) (h : Nat) : Nat := (toL es h).toNat
/-- The half-edge that goes on. -/
def nx (es : List Pt) (h : Nat) : Nat := (besI (ow es (tN es h)) (tw h : Nat)).toNat
/-- It goes on. -/
def Goes (es : List Pt) (h : Nat) : Prop := (ow es (tN es h)).length = 2
instance (es : List Pt) (h : Nat) : Decidable (Goes es h) := by unfold Goes; infer_instance
theorem nx_is {n : Nat} (hm : netB n es = true) {h : Nat} (hl : h < 2 * es.length) (hg : Goes es h) : besI (ow es (tN es h)) (tw h : Nat) = (nx es h : Nat) ∧ nx es h < 2 * es.length ∧ fromL es (nx es h) = tN es h ∧ nx es h ≠ tw h ∧ ∀ k, k < 2 * es.length → fromL es k = tN es h → k = tw h ∨ k = nx es h := by
  obtain ⟨a, b, ha, hb, hab, hbl, fa, fb, hall⟩ := ow_two hg
  have ht : fromL es (tw h) = tN es h := by
    have := (toL_in hm h hl).1
    rw [from_tw]
    unfold tN
    omega
  have h2 := hall (tw h) (tw_lt hl) ht
  have hbes : besI (ow es (tN es h)) (tw h : Nat) = if a = tw h then (b : Int) else a := by
    unfold besI
    rw [ha, hb]
    by_cases e : a = tw h
    · rw [if_pos (by omega), if_pos e]
    · rw [if_neg (by omega), if_neg e]
  rcases h2 with e | e
  · have hn : nx es h = b := by unfold nx; rw [hbes, if_pos e.symm]; omega
    rw [hbes, if_pos e.symm, hn]
    exact ⟨rfl, hbl, fb, by omega, fun k hk hf => by rcases hall k hk hf with r | r <;> omega⟩
  · have hn : nx es h = a := by unfold nx; rw [hbes, if_neg (by omega)]; omega
    rw [hbes, if_neg (by omega), hn]
    exact ⟨rfl, by omega, fa, by omega, fun k hk hf => by rcases hall k hk hf with r | r <;> omega⟩
theorem nx_inj {n : Nat} (hm : netB n es = true) {h k : Nat} (hl : h < 2 * es.length) (kl : k < 2 * es.length) (hg : Goes es h) (kg : Goes es k) (e : nx es h = nx es k) : h = k := by
  obtain ⟨_, h1, h2, h3, h4⟩ := nx_is hm hl hg
  obtain ⟨_, k1, k2, k3, k4⟩ := nx_is hm kl kg
  have hv : (tN es h : Int) = tN es k := by rw [← h2, e, k2]
  have ht : fromL es (tw h) = tN es h := by
    have := (toL_in hm h hl).1
    rw [from_tw]
    unfold tN
    omega
  rcases k4 (tw h) (tw_lt hl) (by rw [ht, hv]) with r | r
  · exact tw_inj r
  · rw [← e] at r; exact absurd r.symm h3
/-- So many steps on. -/
def itN (es : List Pt) (h : Nat) : Nat → Nat
  | 0 => h
  | i + 1 => nx es (itN es h i)
/-- It goes on so many times. -/
def Runs (es : List Pt) (h i : Nat) : Prop := ∀ j, j < i → Goes es (itN es h j)
theorem it_lt {n : Nat} (hm : netB n es = true) {h : Nat} (hl : h < 2 * es.length) : ∀ {i : Nat}, Runs es h i → itN es h i < 2 * es.length
  | 0, _ => hl
  | i + 1, hr => (nx_is hm (it_lt hm hl (i := i) fun j hj => hr j (by omega)) (hr i (by omega))).2.1
theorem it_ne {n : Nat} (hm : netB n es = true) {h : Nat} (hl : h < 2 * es.length) (hb : (ow es (fromL es h).toNat).length ≠ 2) {i : Nat} (hr : Runs es h i) : ∀ j k, j < k → k ≤ i → itN es h j ≠ itN es h k
  | 0, k + 1, _, hk, e => by
    have hr' : Runs es h k := fun j hj => hr j (by omega)
    obtain ⟨_, _, h2, _⟩ := nx_is hm (it_lt hm hl hr') (hr k (by omega))
    have e2 : h = nx es (itN es h k) := e
    rw [← e2] at h2
    rw [h2, Int.toNat_natCast] at hb
    exact hb (hr k (by omega))
  | j + 1, k + 1, hjk, hk, e => by
    have e2 : nx es (itN es h j) = nx es (itN es h k) := e
    have := nx_inj hm (it_lt hm hl fun x hx => hr x (by omega)) (it_lt hm hl fun x hx => hr x (by omega)) (hr j (by omega)) (hr k (by omega)) e2
    exact it_ne hm hl hb hr j k (by omega) (by omega) this
/-- The path, as far as it has come. -/
def pthN (es : List Pt) (h i : Nat) : List Nat := (List.range (i + 1)).map (itN es h)
theorem runs_lt {n : Nat} (hm : netB n es = true) {h : Nat} (hl : h < 2 * es.length) (hb : (ow es (fromL es h).toNat).length ≠ 2) {i : Nat} (hr : Runs es h i) : i < 2 * es.length := by
  have hn : (pthN es h i).Nodup := by
    unfold pthN
    rw [List.nodup_iff_pairwise_ne, List.pairwise_map]
    refine (List.pairwise_lt_range (n := i + 1)).imp_of_mem ?_
    intro a b ha hb2 hab
    exact it_ne hm hl hb hr a b hab (by have := List.mem_range.1 hb2; omega)
  have hlt : ∀ x ∈ pthN es h i, x < 2 * es.length := fun x hx => by
    obtain ⟨j, hj, rfl⟩ := List.mem_map.1 hx
    have := List.mem_range.1 hj
    exact it_lt hm hl fun y hy => hr y (by omega)
  have hsub := nodup_nat (2 * es.length) (pthN es h i) hn hlt
  have : (pthN es h i).length = i + 1 := by simp [pthN]
  omega
end Go.Proofs.Ytaebbfilgfkckaa
