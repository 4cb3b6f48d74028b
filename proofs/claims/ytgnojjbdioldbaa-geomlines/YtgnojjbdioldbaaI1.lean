/- Lists of numbers in memory; points appended to points, whatever came in. -/
import Derived.Test.YtgnojjbdioldbaaA4
import Derived.Test.YtgnojjbdioldbaaM7
namespace Go.Proofs.Ytgnojjbdioldbaa
open Go.RowKit Go.Sort
open Go

def iat (l : List Int) (j : Nat) : Int := l.getD j 0
def ILies (w : World) (b off : Nat) (l : List Int) : Prop := ∀ j, j < l.length → w.cell? ⟨b, off + j, none⟩ = some (.int .i64 (iat l j))
def IHas (w : World) (p : Option Addr) (l : List Int) : Prop := l = [] ∨ ∃ b off, p = some ⟨b, off, none⟩ ∧ ILies w b off l
theorem ILies.later {w w' : World} {b off : Nat} {l : List Int} (h : ILies w b off l) (hb : Below w.heap.size w w') : ILies w' b off l := fun j hj => Ytgnojjbdioldbaa.later hb (h j hj)
theorem IHas.later {w w' : World} {p : Option Addr} {l : List Int} (h : IHas w p l) (hb : Below w.heap.size w w') : IHas w' p l := by
  rcases h with h | ⟨b, off, h1, h2⟩
  · exact Or.inl h
  · exact Or.inr ⟨b, off, h1, h2.later hb⟩
def icells (l : List Int) : List Value := l.map (.int .i64)
def IOwns (w : World) (base : Nat) (v : Value) (l : List Int) : Prop := w.ownsRow base 3 1 v l.length (icells l)
theorem IOwns.lies {w : World} {base g cap : Nat} {l : List Int} (h : IOwns w base (.slice (some ⟨g, 0, none⟩) l.length cap) l) : ILies w g 0 l := by
  intro j hj
  rw [show (0 : Nat) + j = j by omega, World.ownsRow.cellAt h j (by omega), icells, List.getElem?_map]
  unfold iat
  rw [List.getD_eq_getElem?_getD, List.getElem?_eq_getElem hj]
  rfl
theorem IOwns.form {w : World} {base : Nat} {v : Value} {l : List Int} (h : IOwns w base v l) : ∃ p cap, v = .slice p l.length cap ∧ IHas w p l ∧ l.length ≤ cap ∧ (p = none → cap = 0) ∧ (∀ a, p = some a → a.off = 0 ∧ a.spot = none ∧ base ≤ a.block ∧ a.block < w.heap.size) := by
  have h' := h
  obtain ⟨h1, ⟨rfl, h2⟩ | ⟨g, cap, cur, rfl, h3, h4, h5, _⟩⟩ := h'
  · exact ⟨none, 0, by rw [h2], Or.inl (List.length_eq_zero_iff.1 h2), by omega, fun _ => rfl, fun a ha => by cases ha⟩
  · refine ⟨_, _, rfl, Or.inr ⟨g, 0, rfl, h.lies⟩, h5, fun k => (by cases k), fun a ha => ?_⟩
    cases ha
    exact ⟨rfl, rfl, h3, (Array.getElem?_eq_some_iff.1 h4).1⟩
theorem IOwns.later {w w' : World} {base : Nat} {v : Value} {l : List Int} (h : IOwns w base v l) (hb : Below w.heap.size w w') : IOwns w' base v l :=
  World.ownsRow.kept h (grown_below hb) (by cases h' : v.ownBlock <;> simp)
theorem IOwns.nil (w : World) (base : Nat) : IOwns w base (.slice none 0 0) [] := World.ownsRow_nil _ _ _ _
theorem IOwns.set {w : World} {base g cap : Nat} {l : List Int} (h : IOwns w base (.slice (some ⟨g, 0, none⟩) l.length cap) l) (j : Nat) (x : Int) : IOwns (w.setCell ⟨g, j, none⟩ (.int .i64 x)) base (.slice (some ⟨g, 0, none⟩) (l.set j x).length cap) (l.set j x) := by
  have k := (World.ownsRow.stored h j (.int .i64 x)).1
  unfold IOwns
  rw [List.length_set, show icells (l.set j x) = (icells l).set j (.int .i64 x) from List.map_set]
  exact k
theorem iowns_more {w : World} {base : Nat} {v : Value} {l : List Int} {x : Int} (h : w.ownsRow base 3 1 v (l.length + 1) (icells l ++ [.int .i64 x])) : IOwns w base v (l ++ [x]) := by
  unfold IOwns
  rw [show icells (l ++ [x]) = icells l ++ [.int .i64 x] by simp [icells], List.length_append]
  exact h
theorem IOwns.frozen {w : World} {base g cap : Nat} {l : List Int} (h : IOwns w base (.slice (some ⟨g, 0, none⟩) l.length cap) l) (j : Nat) : w.frozen? ⟨g, j, none⟩ = false := World.ownsRow.frozenAt h j
theorem IOwns.at_ {w : World} {base g cap : Nat} {l : List Int} (h : IOwns w base (.slice (some ⟨g, 0, none⟩) l.length cap) l) {j : Nat} (hj : j < l.length) : w.cell? ⟨g, j, none⟩ = some (.int .i64 (iat l j)) := by
  have := h.lies j hj
  rw [Nat.zero_add] at this
  exact this
theorem iowns_block {w : World} {base : Nat} {v : Value} {l : List Int} (h : IOwns w base v l) (h0 : 0 < l.length) : ∃ g c, v = .slice (some ⟨g, 0, none⟩) l.length c ∧ l.length ≤ c ∧ base ≤ g ∧ g < w.heap.size := by
  obtain ⟨g, c, rfl, h1, h2⟩ := World.ownsRow.form h h0
  obtain ⟨p, c', hv, _, h3, _, _⟩ := IOwns.form h
  simp at hv
  exact ⟨g, c, rfl, by rw [hv.2]; exact h3, h1, h2⟩
theorem iat_set_eq {l : List Int} {j : Nat} {x : Int} (h : j < l.length) : iat (l.set j x) j = x := by
  unfold iat; rw [List.getD_eq_getElem?_getD, List.getElem?_set_self h]; rfl
theorem iat_set_ne {l : List Int} {j k : Nat} {x : Int} (h : j ≠ k) : iat (l.set j x) k = iat l k := by
  unfold iat; rw [List.getD_eq_getElem?_getD, List.getElem?_set_ne h, List.getD_eq_getElem?_getD]
theorem iat_ext {a b : List Int} (hl : a.length = b.length) (h : ∀ j, j < a.length → iat a j = iat b j) : a = b := by
  refine List.ext_getElem hl fun j h1 h2 => ?_
  have := h j h1
  unfold iat at this
  rw [List.getD_eq_getElem?_getD, List.getD_eq_getElem?_getD, List.getElem?_eq_getElem h1, List.getElem?_eq_getElem h2] at this
  exact this
/-- Numbers of places, as the program has them. -/
def ints (L : List Nat) : List Int := L.map fun (n : Nat) => (n : Int)
theorem ints_length (L : List Nat) : (ints L).length = L.length := by simp [ints]
theorem iat_ints (L : List Nat) (j : Nat) : iat (ints L) j = (nat' L j : Int) := by
  unfold iat ints nat'
  rw [List.getD_eq_getElem?_getD, List.getD_eq_getElem?_getD, List.getElem?_map]
  cases L[j]? <;> rfl
theorem grownBy_refl (w : World) (r : Option Nat) : w.grownBy w r := ⟨rfl, rfl, rfl, Nat.le_refl _, fun _ _ _ => rfl⟩
theorem append_prs {w : World} {base : Nat} {v : Value} {l : List Pt} (ho : Owns w base v l) (p : Option Addr) (cap : Nat) (qs : List Pt) (hnil : p = none → cap = 0) (hq : Has w p qs) (hb : base ≤ w.heap.size) (hl : l.length + qs.length ≤ 100000) :
    ∃ v' w', (Builtin.append_ #[27, 27] 27 #[v, .slice p qs.length cap]).run Try.prog w = .ok v' w' ∧ Owns w' base v' (l ++ qs) ∧ w.grownBy w' v.ownBlock := by
  obtain ⟨i0, hi0, hz0, hz1, hz2⟩ := info_parts info23
  cases p with
  | none =>
    have hqs : qs = [] := by
      rcases hq with h | ⟨b, off, h, _⟩
      · exact h
      · cases h
    subst hqs
    rw [hnil rfl]
    exact ⟨v, w, run_append_owned_none (P := Try.prog) (w := w) base 27 27 23 i0 2 Try.underlying27 hi0 v l.length (cells l) ho, by rw [List.append_nil]; exact ho, grownBy_refl _ _⟩
  | some a =>
    have hnews : ∀ j u, (cells qs)[j]? = some u → w.cell? (a.add j) = some u := by
      rcases hq with h | ⟨b, off, h, hL⟩
      · subst h; intro j u hj; simp [cells] at hj
      · cases h; exact cells_lie hL
    obtain ⟨v', w', h1, h2, h3, _⟩ := run_append_own (P := Try.prog) w base 27 27 23 i0 (.agg #[.int .i64 0, .int .i64 0]) 2 16 Try.underlying27 hi0 hz0 hz1 hz2 rfl (by decide) v l.length (cells l) ho a qs.length cap (cells qs) (cells_length qs) hnews (cells_one qs) (by unfold maxLen; omega) (by omega) hb
    refine ⟨v', w', h1, ?_, h3⟩
    unfold Owns
    rw [List.length_append, cells_append]
    exact h2
theorem owns_block {w : World} {base : Nat} {v : Value} {l : List Pt} (h : Owns w base v l) (h0 : 0 < l.length) : ∃ g c, v = .slice (some ⟨g, 0, none⟩) l.length c ∧ l.length ≤ c ∧ base ≤ g ∧ g < w.heap.size := by
  obtain ⟨g, c, rfl, h1, h2⟩ := World.ownsRow.form h h0
  obtain ⟨p, c', hv, _, h3, _, _⟩ := Owns.form h
  simp at hv
  exact ⟨g, c, rfl, by rw [hv.2]; exact h3, h1, h2⟩
end Go.Proofs.Ytgnojjbdioldbaa
