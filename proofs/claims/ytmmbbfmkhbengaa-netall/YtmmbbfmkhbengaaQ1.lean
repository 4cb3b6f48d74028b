/- Parts of parts, Subs of Subs: the lists. -/
import Derived.Test.YtmmbbfmkhbengaaN6
namespace Go.Proofs.Ytmmbbfmkhbengaa
open Go.RowKit
open Go

def both (a b : List Int) : List Int := b.map fun x => iat a x.toNat
theorem both_length (a b : List Int) : (both a b).length = b.length := List.length_map ..
theorem both_at (a b : List Int) {j : Nat} (h : j < b.length) : iat (both a b) j = iat a (iat b j).toNat := iat_map _ b 0 h
theorem errL_of {l : List Int} {m : Int} (h : ∀ j, j < l.length → (0 ≤ iat l j ∧ iat l j < m) ∧ ∀ k, k < j → iat l k ≠ iat l j) : errL l m = 0 := errN_zero _ fun j hj => chk_of (h j hj).1 (h j hj).2
theorem errL_is {l : List Int} {m : Int} (h : errL l m = 0) : ∀ j, j < l.length → (0 ≤ iat l j ∧ iat l j < m) ∧ ∀ k, k < j → iat l k ≠ iat l j := fun j hj => chk_zero (errN_all _ h j hj)
theorem errL_inj {l : List Int} {m : Int} (h : errL l m = 0) {i j : Nat} (hi : i < l.length) (hj : j < l.length) (e : iat l i = iat l j) : i = j := by
  rcases Nat.lt_trichotomy i j with h1 | h1 | h1
  · exact absurd e ((errL_is h j hj).2 i h1)
  · exact h1
  · exact absurd e.symm ((errL_is h i hi).2 j h1)
theorem both_ok {a b : List Int} {m : Int} (ha : errL a m = 0) (hb : errL b a.length = 0) : errL (both a b) m = 0 := by
  refine errL_of fun j hj => ?_
  rw [both_length] at hj
  obtain ⟨⟨b1, b2⟩, b3⟩ := errL_is hb j hj
  rw [both_at _ _ hj]
  refine ⟨(errL_is ha _ (by omega)).1, fun k hk e => ?_⟩
  rw [both_at _ _ (by omega)] at e
  obtain ⟨⟨c1, c2⟩, _⟩ := errL_is hb k (by omega)
  have := errL_inj ha (by omega) (by omega) e
  exact b3 k hk (by omega)
theorem pick_both {es : List Pt} {a b : List Int} (hb : errL b a.length = 0) : pick es (both a b) = pick (pick es a) b := by
  apply at_ext
  · rw [pick_length, pick_length, both_length]
  · intro j hj
    rw [pick_length, both_length] at hj
    obtain ⟨⟨b1, b2⟩, _⟩ := errL_is hb j hj
    rw [pick_at _ _ (by rw [both_length]; exact hj), both_at _ _ hj, pick_at _ _ hj, pick_at _ _ (by omega)]
theorem pick_len {es : List Pt} {a : List Int} : (pick es a).length = a.length := pick_length _ _

theorem takeN_range (f : Nat → Bool) : ∀ n, takeN f n = ((List.range n).filter f).map fun j : Nat => (j : Int)
  | 0 => rfl
  | n + 1 => by
    simp only [takeN]
    rw [List.range_succ, List.filter_append, List.map_append, takeN_range f n]
    by_cases h : f n = true
    · rw [if_pos h]; simp [h]
    · rw [if_neg h]; simp [h]
theorem filter_range {α : Type} (p : α → Bool) (xs : List α) (d : α) : xs.filter p = ((List.range xs.length).filter fun i => p (xs.getD i d)).map fun i => xs.getD i d := by
  have e : xs = (List.range xs.length).map fun i => xs.getD i d := by
    apply List.ext_getElem
    · simp
    · intro i h1 h2
      simp [List.getD_eq_getElem?_getD, h1]
  conv => lhs; rw [e]
  rw [List.filter_map]
  rfl
theorem pick_take (es : List Pt) (f : Pt → Bool) : pick es (takeN (fun j => f (at' es j)) es.length) = es.filter f := by
  rw [takeN_range, pick, List.map_map, filter_range f es ⟨0, 0⟩]
  rfl
theorem which_len (es : List Pt) (pl : List Int) : (which es pl).length = (es.filter (insB pl)).length := by
  have := pick_length es (which es pl)
  rw [show which es pl = takeN (fun j => insB pl (at' es j)) es.length from rfl, pick_take] at this
  exact this.symm
theorem rename_map (es : List Pt) (t : List Int) : rename es t = es.map fun p => ⟨iat t p.x.toNat, iat t p.y.toNat⟩ := rfl
def ren (t : List Int) (p : Pt) : Pt := ⟨iat t p.x.toNat, iat t p.y.toNat⟩
theorem partN_filter (n : Int) (es : List Pt) (l : List Int) : partN n es l = (es.filter (insB (placesOf n l))).map (ren (placesOf n l)) := by
  unfold partN which
  rw [pick_take]
  rfl
/-- Places by places. -/
theorem places_at {n : Nat} {l : List Int} (h : errL l n = 0) {x : Nat} (hx : x < n) : (∀ k, k < l.length → iat l k = (x : Int) → iat (placesOf n l) x = (k : Int)) ∧ ((∀ k, k < l.length → iat l k ≠ (x : Int)) → iat (placesOf n l) x = -1) := by
  unfold placesOf
  rw [Int.toNat_natCast]
  exact plN_at (errN_all _ h) x hx
theorem places_some {n : Nat} {l : List Int} (h : errL l n = 0) {x : Nat} (hx : x < n) (hne : iat (placesOf n l) x ≠ -1) : ∃ k, k < l.length ∧ iat l k = (x : Int) ∧ iat (placesOf n l) x = (k : Int) := by
  obtain ⟨h1, h2⟩ := places_at h hx
  apply Classical.byContradiction
  intro hn
  exact hne (h2 fun k hk e => hn ⟨k, hk, e, h1 k hk e⟩)
theorem places_both {n : Nat} {a b : List Int} (ha : errL a n = 0) (hb : errL b a.length = 0) {x : Nat} (hx : x < n) : iat (placesOf n (both a b)) x = if iat (placesOf n a) x = -1 then -1 else iat (placesOf a.length b) (iat (placesOf n a) x).toNat := by
  have hab := both_ok ha hb
  obtain ⟨r1, r2⟩ := places_at hab hx
  by_cases h : iat (placesOf n a) x = -1
  · rw [if_pos h]
    refine r2 fun k hk e => ?_
    rw [both_length] at hk
    rw [both_at _ _ hk] at e
    obtain ⟨⟨b1, b2⟩, _⟩ := errL_is hb k hk
    have := (places_at ha hx).1 (iat b k).toNat (by omega) e
    omega
  · rw [if_neg h]
    obtain ⟨k, hk, ek, ep⟩ := places_some ha hx h
    rw [ep, Int.toNat_natCast]
    obtain ⟨q1, q2⟩ := places_at hb hk
    by_cases hq : ∃ i, i < b.length ∧ iat b i = (k : Int)
    · obtain ⟨i, hi, ei⟩ := hq
      rw [q1 i hi ei]
      refine r1 i (by rw [both_length]; exact hi) ?_
      rw [both_at _ _ hi, ei, Int.toNat_natCast, ek]
    · rw [q2 fun i hi e => hq ⟨i, hi, e⟩]
      refine r2 fun i hi e => ?_
      rw [both_length] at hi
      rw [both_at _ _ hi] at e
      obtain ⟨⟨b1, b2⟩, _⟩ := errL_is hb i hi
      have := errL_inj ha (i := (iat b i).toNat) (j := k) (by omega) hk (by rw [e, ek])
      exact hq ⟨i, hi, by omega⟩
theorem ins_both {n : Nat} {a b : List Int} (ha : errL a n = 0) (hb : errL b a.length = 0) {p : Pt} (hp : 0 ≤ p.x ∧ p.x < n ∧ 0 ≤ p.y ∧ p.y < n) : insB (placesOf n (both a b)) p = (insB (placesOf a.length b) (ren (placesOf n a) p) && insB (placesOf n a) p) ∧ (insB (placesOf n a) p = true → ren (placesOf n (both a b)) p = ren (placesOf a.length b) (ren (placesOf n a) p)) := by
  have ex := places_both ha hb (x := p.x.toNat) (by omega)
  have ey := places_both ha hb (x := p.y.toNat) (by omega)
  unfold insB ren
  simp only
  rw [ex, ey]
  by_cases h1 : iat (placesOf n a) p.x.toNat = -1 <;> by_cases h2 : iat (placesOf n a) p.y.toNat = -1 <;> simp [h1, h2]
theorem part_both {n : Nat} {es : List Pt} {a b : List Int} (hes : ∀ j, j < es.length → 0 ≤ (at' es j).x ∧ (at' es j).x < n ∧ 0 ≤ (at' es j).y ∧ (at' es j).y < n) (ha : errL a n = 0) (hb : errL b a.length = 0) : partN n es (both a b) = partN a.length (partN n es a) b := by
  rw [partN_filter, partN_filter, partN_filter, List.filter_map, List.map_map, List.filter_filter]
  have e1 : es.filter (insB (placesOf n (both a b))) = es.filter fun p => (insB (placesOf a.length b) ∘ ren (placesOf n a)) p && insB (placesOf n a) p := by
    apply List.filter_congr
    intro p hp
    obtain ⟨j, hj, e⟩ := mem_at hp
    have := hes j hj
    rw [e] at this
    exact (ins_both ha hb this).1
  rw [e1]
  apply List.map_congr_left
  intro p hp
  rw [List.mem_filter] at hp
  obtain ⟨j, hj, e⟩ := mem_at hp.1
  have := hes j hj
  rw [e] at this
  have h2 := hp.2
  simp only [Bool.and_eq_true] at h2
  exact (ins_both ha hb this).2 h2.2
theorem which_both {n : Nat} {es : List Pt} {a b : List Int} (hes : ∀ j, j < es.length → 0 ≤ (at' es j).x ∧ (at' es j).x < n ∧ 0 ≤ (at' es j).y ∧ (at' es j).y < n) (ha : errL a n = 0) (hb : errL b a.length = 0) : which es (placesOf n (both a b)) = both (which es (placesOf n a)) (which (partN n es a) (placesOf a.length b)) := by
  have hL : which es (placesOf n a) = ((List.range es.length).filter fun j => insB (placesOf n a) (at' es j)).map fun j : Nat => (j : Int) := takeN_range _ _
  obtain ⟨L, hLL⟩ : ∃ L, (List.range es.length).filter (fun j => insB (placesOf n a) (at' es j)) = L := ⟨_, rfl⟩
  rw [hLL] at hL
  have hpart : partN n es a = L.map fun j => ren (placesOf n a) (at' es j) := by
    unfold partN
    rw [hL, rename_map, pick, List.map_map, List.map_map]
    rfl
  have hlen : (partN n es a).length = L.length := by rw [hpart, List.length_map]
  have h1 : both (which es (placesOf n a)) (which (partN n es a) (placesOf a.length b)) = ((L.filter fun j => insB (placesOf a.length b) (ren (placesOf n a) (at' es j))).map fun j : Nat => (j : Int)) := by
    rw [hL]
    unfold which both
    rw [takeN_range, hlen, List.map_map, filter_range _ L 0, List.map_map]
    have e2 : (List.range L.length).filter (fun j => insB (placesOf a.length b) (at' (partN n es a) j)) = (List.range L.length).filter fun i => insB (placesOf a.length b) (ren (placesOf n a) (at' es (L.getD i 0))) := by
      apply List.filter_congr
      intro j hj
      rw [List.mem_range] at hj
      rw [hpart, at_map _ L 0 hj]
    rw [e2]
    apply List.map_congr_left
    intro j hj
    rw [List.mem_filter, List.mem_range] at hj
    simp only [Function.comp, Int.toNat_natCast]
    exact iat_map _ L 0 hj.1
  rw [h1]
  unfold which
  rw [takeN_range, ← hLL, List.filter_filter]
  congr 1
  apply List.filter_congr
  intro j hj
  rw [List.mem_range] at hj
  exact (ins_both ha hb (hes j hj)).1
end Go.Proofs.Ytmmbbfmkhbengaa
