/- Areas of lists of points: gone back, begun elsewhere, cut in two. -/
import Derived.Test.YtgnojjbdioldbaaG15
namespace Go.Proofs.Ytgnojjbdioldbaa
open Go.RowKit
open Go

/-- The products along k edges of a row of points. -/
def chain (f : Nat → Pt) : Nat → Int
  | 0 => 0
  | k + 1 => chain f k + prodI (f k) (f (k + 1))
theorem prodI_anti (p q : Pt) : prodI p q = -prodI q p := by unfold prodI; omega
theorem prodI_self (p : Pt) : prodI p p = 0 := by unfold prodI; omega
theorem chain_congr {f g : Nat → Pt} : ∀ k, (∀ j, j ≤ k → f j = g j) → chain f k = chain g k
  | 0, _ => rfl
  | k + 1, h => by
    simp only [chain]
    rw [chain_congr k (fun j hj => h j (by omega)), h k (by omega), h (k + 1) (by omega)]
theorem chain_add (f : Nat → Pt) (a : Nat) : ∀ b, chain f (a + b) = chain f a + chain (fun j => f (a + j)) b
  | 0 => by simp [chain]
  | b + 1 => by
    rw [show a + (b + 1) = (a + b) + 1 by omega]
    simp only [chain]
    rw [chain_add f a b, show a + b + 1 = a + (b + 1) by omega]
    omega
theorem chain_front (f : Nat → Pt) (k : Nat) : chain f (k + 1) = prodI (f 0) (f 1) + chain (fun j => f (j + 1)) k := by
  rw [show k + 1 = 1 + k by omega, chain_add f 1 k]
  simp only [chain, Int.zero_add]
  rw [chain_congr (f := fun j => f (1 + j)) (g := fun j => f (j + 1)) k (fun j _ => by rw [show 1 + j = j + 1 by omega])]
theorem chain_rev : ∀ (k : Nat) (f : Nat → Pt), chain (fun j => f (k - j)) k = -chain f k
  | 0, f => rfl
  | k + 1, f => by
    rw [chain_front]
    have e : chain (fun j => f (k + 1 - (j + 1))) k = chain (fun j => f (k - j)) k := chain_congr k (fun j _ => by rw [show k + 1 - (j + 1) = k - j by omega])
    simp only [chain]
    rw [e, chain_rev k f, show k + 1 - 0 = k + 1 by omega, show k + 1 - 1 = k by omega, prodI_anti (f (k + 1)) (f k)]
    omega
theorem part_chain (ps : List Pt) : ∀ i, part ps (i + 1) = prodI (at' ps (ps.length - 1)) (at' ps 0) + chain (at' ps) i
  | 0 => by simp [part, prev, chain]
  | i + 1 => by
    rw [show part ps (i + 1 + 1) = part ps (i + 1) + prodI (prev ps (i + 1)) (at' ps (i + 1)) from rfl, part_chain ps i]
    have : prev ps (i + 1) = at' ps i := by unfold prev; rw [if_neg (by omega)]; rfl
    rw [this]
    simp only [chain]
    omega
theorem area_chain (ps : List Pt) (h : 0 < ps.length) : areaI ps = prodI (at' ps (ps.length - 1)) (at' ps 0) + chain (at' ps) (ps.length - 1) := by
  unfold areaI
  split
  · rcases (by omega : ps.length = 1 ∨ ps.length = 2) with e | e
    · rw [e]; simp [chain, prodI_self]
    · rw [e]
      show 0 = prodI (at' ps 1) (at' ps 0) + (chain (at' ps) 0 + prodI (at' ps 0) (at' ps 1))
      have := prodI_anti (at' ps 1) (at' ps 0)
      simp only [chain]
      omega
  · rw [show part ps ps.length = part ps (ps.length - 1 + 1) by rw [show ps.length - 1 + 1 = ps.length by omega], part_chain]
theorem at_reverse (ps : List Pt) {j : Nat} (h : j < ps.length) : at' ps.reverse j = at' ps (ps.length - 1 - j) := by
  unfold at'
  rw [List.getD_eq_getElem?_getD, List.getD_eq_getElem?_getD, List.getElem?_reverse h]
theorem at_append_left (a b : List Pt) {j : Nat} (h : j < a.length) : at' (a ++ b) j = at' a j := by
  unfold at'
  rw [List.getD_eq_getElem?_getD, List.getD_eq_getElem?_getD, List.getElem?_append_left h]
theorem at_append_right (a b : List Pt) (j : Nat) : at' (a ++ b) (a.length + j) = at' b j := by
  unfold at'
  rw [List.getD_eq_getElem?_getD, List.getD_eq_getElem?_getD, List.getElem?_append_right (by omega), show a.length + j - a.length = j by omega]
theorem at_drop (a : List Pt) (k j : Nat) : at' (a.drop k) j = at' a (k + j) := by
  unfold at'
  rw [List.getD_eq_getElem?_getD, List.getD_eq_getElem?_getD, List.getElem?_drop]
theorem at_take (a : List Pt) {k j : Nat} (h : j < k) : at' (a.take k) j = at' a j := by
  unfold at'
  rw [List.getD_eq_getElem?_getD, List.getD_eq_getElem?_getD, List.getElem?_take_of_lt h]

theorem area_reverse (ps : List Pt) (h : 0 < ps.length) : areaI ps.reverse = -areaI ps := by
  rw [area_chain _ (by simpa using h), area_chain _ h, List.length_reverse, at_reverse ps (by omega), at_reverse ps h, show ps.length - 1 - (ps.length - 1) = 0 by omega, show ps.length - 1 - 0 = ps.length - 1 by omega]
  rw [chain_congr (g := fun j => at' ps (ps.length - 1 - j)) _ (fun j hj => at_reverse ps (by omega)), chain_rev, prodI_anti (at' ps 0)]
  omega
theorem area_turned (ps : List Pt) (a : Nat) (h1 : 0 < a) (h2 : a < ps.length) : areaI (ps.drop a ++ ps.take a) = areaI ps := by
  have hd : (ps.drop a).length = ps.length - a := List.length_drop
  have ht : (ps.take a).length = a := by rw [List.length_take]; omega
  have hl : (ps.drop a ++ ps.take a).length = ps.length := by rw [List.length_append, hd, ht]; omega
  have L : ∀ j, j < ps.length - a → at' (ps.drop a ++ ps.take a) j = at' ps (a + j) := fun j hj => by rw [at_append_left _ _ (by omega), at_drop]
  have R : ∀ j, j < a → at' (ps.drop a ++ ps.take a) (ps.length - a + j) = at' ps j := fun j hj => by
    have := at_append_right (ps.drop a) (ps.take a) j
    rw [hd] at this
    rw [this, at_take _ hj]
  rw [area_chain _ (by omega), area_chain _ (by omega), hl]
  have last := R (a - 1) (by omega)
  rw [show ps.length - a + (a - 1) = ps.length - 1 by omega] at last
  rw [last, L 0 (by omega), Nat.add_zero]
  have c1 : chain (at' (ps.drop a ++ ps.take a)) (ps.length - 1) = chain (fun j => at' ps (a + j)) (ps.length - a - 1) + prodI (at' ps (ps.length - 1)) (at' ps 0) + chain (at' ps) (a - 1) := by
    rw [show ps.length - 1 = (ps.length - a - 1 + 1) + (a - 1) by omega, chain_add]
    simp only [chain]
    rw [chain_congr (g := fun j => at' ps (a + j)) (ps.length - a - 1) (fun j hj => L j (by omega)), L (ps.length - a - 1) (by omega)]
    have r0 := R 0 (by omega)
    rw [Nat.add_zero] at r0
    rw [show ps.length - a - 1 + 1 = ps.length - a by omega, r0, show a + (ps.length - a - 1) = ps.length - 1 by omega]
    rw [chain_congr (f := fun j => at' (ps.drop a ++ ps.take a) (ps.length - a + j)) (g := at' ps) (a - 1) (fun j hj => R j (by omega))]
    rw [show ps.length - a + (a - 1) = ps.length - 1 by omega]
  have c2 : chain (at' ps) (ps.length - 1) = chain (at' ps) (a - 1) + prodI (at' ps (a - 1)) (at' ps a) + chain (fun j => at' ps (a + j)) (ps.length - a - 1) := by
    have e := chain_add (at' ps) a (ps.length - a - 1)
    rw [show a + (ps.length - a - 1) = ps.length - 1 by omega] at e
    rw [e]
    have e2 : chain (at' ps) a = chain (at' ps) (a - 1) + prodI (at' ps (a - 1)) (at' ps a) := by
      have : chain (at' ps) (a - 1 + 1) = chain (at' ps) (a - 1) + prodI (at' ps (a - 1)) (at' ps (a - 1 + 1)) := rfl
      rw [show a - 1 + 1 = a by omega] at this
      exact this
    rw [e2]
  rw [c1, c2]
  omega
theorem area_cut (ps : List Pt) (a : Nat) (h2 : a < ps.length) : areaI (ps.take (a + 1)) + areaI (ps.drop a ++ [at' ps 0]) = areaI ps := by
  have hd : (ps.drop a).length = ps.length - a := List.length_drop
  have ht : (ps.take (a + 1)).length = a + 1 := by rw [List.length_take]; omega
  have hl : (ps.drop a ++ [at' ps 0]).length = ps.length - a + 1 := by rw [List.length_append, hd]; rfl
  have L : ∀ j, j < ps.length - a → at' (ps.drop a ++ [at' ps 0]) j = at' ps (a + j) := fun j hj => by rw [at_append_left _ _ (by omega), at_drop]
  have R : at' (ps.drop a ++ [at' ps 0]) (ps.length - a) = at' ps 0 := by
    have := at_append_right (ps.drop a) [at' ps 0] 0
    rw [hd, Nat.add_zero] at this
    rw [this]; rfl
  rw [area_chain _ (by omega), area_chain _ (by omega), area_chain _ (by omega), ht, hl]
  rw [show a + 1 - 1 = a by omega, show ps.length - a + 1 - 1 = ps.length - a by omega, R, L 0 (by omega), Nat.add_zero, at_take ps (show a < a + 1 by omega), at_take ps (show 0 < a + 1 by omega)]
  rw [chain_congr (f := at' (ps.take (a + 1))) (g := at' ps) a (fun j hj => at_take ps (by omega))]
  have c1 : chain (at' (ps.drop a ++ [at' ps 0])) (ps.length - a) = chain (fun j => at' ps (a + j)) (ps.length - a - 1) + prodI (at' ps (ps.length - 1)) (at' ps 0) := by
    have : chain (at' (ps.drop a ++ [at' ps 0])) (ps.length - a - 1 + 1) = chain (at' (ps.drop a ++ [at' ps 0])) (ps.length - a - 1) + prodI (at' (ps.drop a ++ [at' ps 0]) (ps.length - a - 1)) (at' (ps.drop a ++ [at' ps 0]) (ps.length - a - 1 + 1)) := rfl
    rw [show ps.length - a - 1 + 1 = ps.length - a by omega, R, L _ (by omega), chain_congr (g := fun j => at' ps (a + j)) (ps.length - a - 1) (fun j hj => L j (by omega)), show a + (ps.length - a - 1) = ps.length - 1 by omega] at this
    exact this
  have e := chain_add (at' ps) a (ps.length - a - 1)
  rw [show a + (ps.length - a - 1) = ps.length - 1 by omega] at e
  have an := prodI_anti (at' ps a) (at' ps 0)
  rw [c1, e]
  simp only [Nat.add_zero]
  omega
end Go.Proofs.Ytgnojjbdioldbaa
