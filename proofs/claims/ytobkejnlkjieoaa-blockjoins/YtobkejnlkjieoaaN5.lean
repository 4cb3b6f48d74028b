/- Sub, in every world. -/
import Derived.Test.YtobkejnlkjieoaaProg
import Derived.WalkKit
import Derived.WalkSpells
import Derived.WalkLawsBesides
import Derived.Handy
import Derived.Below
import Derived.BigQuiet
import Derived.Deep.QuietTactic
import Derived.Lib.QuietBelow
import Derived.Deep.AppendLies
import Derived.OwnWalk
import Derived.Laws.OwnMore
import Derived.ChangeKeysEq
import Derived.Deep.RegionHeld3
/- Edges picked by their numbers; edges whose ends get other names. -/
/- Where in a list each number stands, or the list's first fault. -/
/- Whether a net may be; whether two are the same; whether two lists are. -/
/- Lists in memory: pairs of numbers, numbers, bools; those that a call makes for itself; the small functions of net. -/
namespace Go.Proofs.Ytobkejnlkjieoaa
open Go.RowKit Go.Sort
open Go


/-- Two numbers: an edge's ends. -/
structure Pt where
  x : Int
  y : Int
  deriving DecidableEq, Inhabited
abbrev pv (x y : Int) : Value := .agg #[.int .i64 x, .int .i64 y]
abbrev bx (p : Pt) : Obj := .cells #[.int .i64 p.x, .int .i64 p.y] 56
theorem hide {p : Prop} (h : p) : Hid p := h
theorem retB {a b : Bool} (h : a = true ↔ b = true) : Ending.returned (.bool a) = Ending.returned (.bool b) := by rw [Bool.eq_iff_iff.2 h]
theorem retI {a b : Int} (h : a = b) : Ending.returned (.int .i64 a) = Ending.returned (.int .i64 b) := by rw [h]
theorem later {w w' : World} {a : Addr} {v : Value} (hb : Below w.heap.size w w') (h : w.cell? a = some v) : w'.cell? a = some v := by
  have hl : a.block < w.heap.size := block_lt_of_cell h
  rw [hb.cell hl]
  exact h
theorem below_alloc {w w' : World} {o : Obj} (h : Below (w.alloc o).heap.size (w.alloc o) w') : Below w.heap.size w w' :=
  Below.trans ((Below.refl _ _).alloc (Nat.le_refl _) o) (h.mono (by simp))
theorem below_step {a b c : World} (h : Below a.heap.size a b) (k : Below b.heap.size b c) : Below a.heap.size a c := Below.trans h (k.mono h.size)
theorem below_drewN {B : Nat} {w W : World} {n : Nat} (h : Below B w W) : Below B w (W.drewN n) := ⟨h.os, h.tape, h.output, h.size, h.block⟩
theorem grown_below {w w' : World} (h : Below w.heap.size w w') : w.grownBy w' none := ⟨h.os, h.tape, h.output, h.size, fun k hk _ => h.block k hk⟩

def at' (ps : List Pt) (j : Nat) : Pt := ps.getD j ⟨0, 0⟩
def Lies (w : World) (b off : Nat) (ps : List Pt) : Prop :=
  ∀ j, j < ps.length → w.cell? ⟨b, off + j * 2, none⟩ = some (.int .i64 (at' ps j).x) ∧ w.cell? ⟨b, off + j * 2 + 1, none⟩ = some (.int .i64 (at' ps j).y)
def Has (w : World) (p : Option Addr) (ps : List Pt) : Prop := ps = [] ∨ ∃ b off, p = some ⟨b, off, none⟩ ∧ Lies w b off ps
theorem Lies.later {w w' : World} {b off : Nat} {ps : List Pt} (h : Lies w b off ps) (hb : Below w.heap.size w w') : Lies w' b off ps :=
  fun j hj => ⟨Ytobkejnlkjieoaa.later hb (h j hj).1, Ytobkejnlkjieoaa.later hb (h j hj).2⟩
theorem Has.later {w w' : World} {p : Option Addr} {ps : List Pt} (h : Has w p ps) (hb : Below w.heap.size w w') : Has w' p ps := by
  rcases h with h | ⟨b, off, h1, h2⟩
  · exact Or.inl h
  · exact Or.inr ⟨b, off, h1, h2.later hb⟩
def cells : List Pt → List Value
  | [] => []
  | p :: r => .int .i64 p.x :: .int .i64 p.y :: cells r
theorem cells_length : ∀ ps : List Pt, (cells ps).length = ps.length * 2
  | [] => rfl
  | p :: r => by simp only [cells, List.length_cons, cells_length r]; omega
theorem cells_append : ∀ ps qs : List Pt, cells (ps ++ qs) = cells ps ++ cells qs
  | [], _ => rfl
  | p :: r, qs => by simp only [List.cons_append, cells, cells_append r qs]
theorem cells_at : ∀ (ps : List Pt) (j : Nat), j < ps.length → (cells ps)[j * 2]? = some (.int .i64 (at' ps j).x) ∧ (cells ps)[j * 2 + 1]? = some (.int .i64 (at' ps j).y)
  | [], j, h => by simp at h
  | p :: r, 0, _ => ⟨rfl, rfl⟩
  | p :: r, j + 1, h => by
    have := cells_at r j (by simpa using h)
    have e : (j + 1) * 2 = j * 2 + 1 + 1 := by omega
    rw [e]
    exact this
theorem cells_set : ∀ (ps : List Pt) (j : Nat) (q : Pt), ((cells ps).set (j * 2) (.int .i64 q.x)).set (j * 2 + 1) (.int .i64 q.y) = cells (ps.set j q)
  | [], j, q => by simp [cells]
  | p :: r, 0, q => by simp [cells]
  | p :: r, j + 1, q => by
    have := cells_set r j q
    have e : (j + 1) * 2 = j * 2 + 1 + 1 := by omega
    rw [e]
    simp only [cells, List.set_cons_succ, List.set_cons_succ]
    rw [this]
theorem cells_zero : ∀ n : Nat, cells (List.replicate n ⟨0, 0⟩) = List.replicate (n * 2) (.int .i64 0)
  | 0 => rfl
  | n + 1 => by
    rw [List.replicate_succ, show (n + 1) * 2 = n * 2 + 1 + 1 by omega, List.replicate_succ, List.replicate_succ]
    simp only [cells, cells_zero n]
def Owns (w : World) (base : Nat) (v : Value) (ps : List Pt) : Prop := w.ownsRow base 56 2 v ps.length (cells ps)
theorem Owns.lies {w : World} {base g cap : Nat} {ps : List Pt} (h : Owns w base (.slice (some ⟨g, 0, none⟩) ps.length cap) ps) : Lies w g 0 ps := by
  intro j hj
  have k := cells_at ps j hj
  refine ⟨?_, ?_⟩
  · rw [show (0 : Nat) + j * 2 = j * 2 by omega, World.ownsRow.cellAt h (j * 2) (by omega)]; exact k.1
  · rw [show (0 : Nat) + j * 2 + 1 = j * 2 + 1 by omega, World.ownsRow.cellAt h (j * 2 + 1) (by omega)]; exact k.2
theorem Owns.form {w : World} {base : Nat} {v : Value} {ps : List Pt} (h : Owns w base v ps) : ∃ p cap, v = .slice p ps.length cap ∧ Has w p ps ∧ ps.length ≤ cap ∧ (p = none → cap = 0) ∧ (∀ a, p = some a → a.off = 0 ∧ a.spot = none ∧ base ≤ a.block ∧ a.block < w.heap.size) := by
  have h' := h
  obtain ⟨h1, ⟨rfl, h2⟩ | ⟨g, cap, cur, rfl, h3, h4, h5, _⟩⟩ := h'
  · exact ⟨none, 0, by rw [h2], Or.inl (List.length_eq_zero_iff.1 h2), by omega, fun _ => rfl, fun a ha => by cases ha⟩
  · refine ⟨_, _, rfl, Or.inr ⟨g, 0, rfl, h.lies⟩, h5, fun k => (by cases k), fun a ha => ?_⟩
    cases ha
    exact ⟨rfl, rfl, h3, (Array.getElem?_eq_some_iff.1 h4).1⟩
theorem Owns.later {w w' : World} {base : Nat} {v : Value} {ps : List Pt} (h : Owns w base v ps) (hb : Below w.heap.size w w') : Owns w' base v ps :=
  World.ownsRow.kept h (grown_below hb) (by cases h' : v.ownBlock <;> simp)
theorem Owns.nil (w : World) (base : Nat) : Owns w base (.slice none 0 0) [] := World.ownsRow_nil _ _ _ _
theorem Owns.set {w : World} {base g cap : Nat} {ps : List Pt} (h : Owns w base (.slice (some ⟨g, 0, none⟩) ps.length cap) ps) (j : Nat) (q : Pt) : Owns ((w.setCell ⟨g, j * 2, none⟩ (.int .i64 q.x)).setCell ⟨g, j * 2 + 1, none⟩ (.int .i64 q.y)) base (.slice (some ⟨g, 0, none⟩) (ps.set j q).length cap) (ps.set j q) := by
  have k := (World.ownsRow.stored (World.ownsRow.stored h (j * 2) (.int .i64 q.x)).1 (j * 2 + 1) (.int .i64 q.y)).1
  unfold Owns
  rw [← cells_set, List.length_set]
  exact k
theorem owns_more {w : World} {base : Nat} {v : Value} {ps : List Pt} {p : Pt} (h : w.ownsRow base 56 2 v (ps.length + 1) (cells ps ++ [.int .i64 p.x, .int .i64 p.y])) : Owns w base v (ps ++ [p]) := by
  unfold Owns
  rw [cells_append, List.length_append]
  exact h
theorem info60 : (Try.prog.info? 56).map (fun i => (i.zero, i.size, i.bytes)) = some (some (.agg #[.int .i64 0, .int .i64 0]), 2, 16) := by kernel_rfl
theorem info3 : (Try.prog.info? 3).map (fun i => (i.zero, i.size, i.bytes)) = some (some (.int .i64 0), 1, 8) := by kernel_rfl
theorem info4 : (Try.prog.info? 4).map (fun i => (i.zero, i.size, i.bytes)) = some (some (.bool false), 1, 1) := by kernel_rfl

def iat (l : List Int) (j : Nat) : Int := l.getD j 0
def ILies (w : World) (b off : Nat) (l : List Int) : Prop := ∀ j, j < l.length → w.cell? ⟨b, off + j, none⟩ = some (.int .i64 (iat l j))
def IHas (w : World) (p : Option Addr) (l : List Int) : Prop := l = [] ∨ ∃ b off, p = some ⟨b, off, none⟩ ∧ ILies w b off l
theorem ILies.later {w w' : World} {b off : Nat} {l : List Int} (h : ILies w b off l) (hb : Below w.heap.size w w') : ILies w' b off l := fun j hj => Ytobkejnlkjieoaa.later hb (h j hj)
theorem IHas.later {w w' : World} {p : Option Addr} {l : List Int} (h : IHas w p l) (hb : Below w.heap.size w w') : IHas w' p l := by
  rcases h with h | ⟨b, off, h1, h2⟩
  · exact Or.inl h
  · exact Or.inr ⟨b, off, h1, h2.later hb⟩
def icells (l : List Int) : List Value := l.map (.int .i64)
def IOwns (w : World) (base : Nat) (v : Value) (l : List Int) : Prop := w.ownsRow base 3 1 v l.length (icells l)
theorem IOwns.lies {w : World} {base g cap : Nat} {l : List Int} (h : IOwns w base (.slice (some ⟨g, 0, none⟩) l.length cap) l) : ILies w g 0 l := by
  intro j hj
  rw [show (0 : Nat) + j = j by omega, World.ownsRow.cellAt h j (by omega), icells, List.getElem?_map]
  unfold iat
  rw [List.getD_eq_getElem?_getD, List.getElem?_eq_getElem hj]
  rfl
theorem IOwns.form {w : World} {base : Nat} {v : Value} {l : List Int} (h : IOwns w base v l) : ∃ p cap, v = .slice p l.length cap ∧ IHas w p l ∧ l.length ≤ cap ∧ (p = none → cap = 0) ∧ (∀ a, p = some a → a.off = 0 ∧ a.spot = none ∧ base ≤ a.block ∧ a.block < w.heap.size) := by
  have h' := h
  obtain ⟨h1, ⟨rfl, h2⟩ | ⟨g, cap, cur, rfl, h3, h4, h5, _⟩⟩ := h'
  · exact ⟨none, 0, by rw [h2], Or.inl (List.length_eq_zero_iff.1 h2), by omega, fun _ => rfl, fun a ha => by cases ha⟩
  · refine ⟨_, _, rfl, Or.inr ⟨g, 0, rfl, h.lies⟩, h5, fun k => (by cases k), fun a ha => ?_⟩
    cases ha
    exact ⟨rfl, rfl, h3, (Array.getElem?_eq_some_iff.1 h4).1⟩
theorem IOwns.later {w w' : World} {base : Nat} {v : Value} {l : List Int} (h : IOwns w base v l) (hb : Below w.heap.size w w') : IOwns w' base v l :=
  World.ownsRow.kept h (grown_below hb) (by cases h' : v.ownBlock <;> simp)
theorem IOwns.nil (w : World) (base : Nat) : IOwns w base (.slice none 0 0) [] := World.ownsRow_nil _ _ _ _
theorem IOwns.set {w : World} {base g cap : Nat} {l : List Int} (h : IOwns w base (.slice (some ⟨g, 0, none⟩) l.length cap) l) (j : Nat) (x : Int) : IOwns (w.setCell ⟨g, j, none⟩ (.int .i64 x)) base (.slice (some ⟨g, 0, none⟩) (l.set j x).length cap) (l.set j x) := by
  have k := (World.ownsRow.stored h j (.int .i64 x)).1
  unfold IOwns
  rw [List.length_set, show icells (l.set j x) = (icells l).set j (.int .i64 x) from List.map_set]
  exact k
theorem iowns_more {w : World} {base : Nat} {v : Value} {l : List Int} {x : Int} (h : w.ownsRow base 3 1 v (l.length + 1) (icells l ++ [.int .i64 x])) : IOwns w base v (l ++ [x]) := by
  unfold IOwns
  rw [show icells (l ++ [x]) = icells l ++ [.int .i64 x] by simp [icells], List.length_append]
  exact h
theorem icells_zero (n : Nat) : icells (List.replicate n 0) = List.replicate n (.int .i64 0) := List.map_replicate
theorem at_mem {ps : List Pt} {j : Nat} (h : j < ps.length) : at' ps j ∈ ps := by
  unfold at'
  rw [List.getD_eq_getElem?_getD, List.getElem?_eq_getElem h]
  exact List.getElem_mem h
theorem mem_at {ps : List Pt} {p : Pt} (h : p ∈ ps) : ∃ j, j < ps.length ∧ at' ps j = p := by
  obtain ⟨j, hj, e⟩ := List.getElem_of_mem h
  exact ⟨j, hj, by unfold at'; rw [List.getD_eq_getElem?_getD, List.getElem?_eq_getElem hj]; exact e⟩
theorem iat_mem {l : List Int} {j : Nat} (h : j < l.length) : iat l j ∈ l := by
  unfold iat
  rw [List.getD_eq_getElem?_getD, List.getElem?_eq_getElem h]
  exact List.getElem_mem h
theorem mem_iat {l : List Int} {x : Int} (h : x ∈ l) : ∃ j, j < l.length ∧ iat l j = x := by
  obtain ⟨j, hj, e⟩ := List.getElem_of_mem h
  exact ⟨j, hj, by unfold iat; rw [List.getD_eq_getElem?_getD, List.getElem?_eq_getElem hj]; exact e⟩

def belowB (x n : Int) : Bool := decide (0 ≤ x) && decide (x < n)
def fitsB (a b : Int) : Bool := decide (a ≤ 1024) && decide (b ≤ 3072)
theorem below36 (x n : Int) (w : World) : Calls Try.prog 56 #[.int .i64 x, .int .i64 n] w fun e w' => e = .returned (.bool (belowB x n)) ∧ w' = w := by
  go_enter Try.func56, Try.ntmps56
  go_wp2
  all_goals go_ret
  all_goals exact ⟨retB (by simp [belowB]; omega), rfl⟩
theorem fits35 (a b : Int) (w : World) : Calls Try.prog 55 #[.int .i64 a, .int .i64 b] w fun e w' => e = .returned (.bool (fitsB a b)) ∧ w' = w := by
  go_enter Try.func55, Try.ntmps55
  go_wp2
  all_goals go_ret
  all_goals exact ⟨retB (by simp [fitsB]; omega), rfl⟩
theorem eq60 (p q : Pt) (w : World) : (Op.equalIn 10000 56 (pv p.x p.y) (pv q.x q.y)).run Try.prog w = .ok (decide (p = q)) w := by
  have u3 := Try.underlying3
  have a3 := Try.isAgg3
  have z3 := Try.sizeOf3
  obtain ⟨i3, hi3, _⟩ := info_parts info3
  rw [show (10000 : Nat) = 9999 + 1 from rfl, run_equalIn_array w 9999 _ _ Try.underlying56 hi3, show Try.prog.cellsOf 3 = 1 from by kernel_rfl, show List.range 2 = [0, 1] from rfl]
  simp only [Op.eqItems]
  go_simp
  obtain ⟨px, py⟩ := p
  obtain ⟨qx, qy⟩ := q
  by_cases h1 : px = qx <;> by_cases h2 : py = qy <;> simp [h1, h2]
end Go.Proofs.Ytobkejnlkjieoaa

namespace Go.Proofs.Ytobkejnlkjieoaa
open Go.RowKit Go.Sort
open Go


def edB (n : Int) (p : Pt) : Bool := belowB p.x n && belowB p.y n
def netB (n : Int) (es : List Pt) : Bool := decide (0 ≤ n) && fitsB n es.length && es.all (edB n)
abbrev nv (n : Int) (p : Option Addr) (len cap : Nat) : Value := .agg #[.int .i64 n, .slice p len cap]
theorem net_yes {n : Int} {es : List Pt} (h0 : 0 ≤ n) (h1 : fitsB n es.length = true) (h : ∀ j, j < es.length → edB n (at' es j) = true) : netB n es = true := by
  simp only [netB, Bool.and_eq_true, decide_eq_true_eq, List.all_eq_true]
  refine ⟨⟨h0, h1⟩, fun p hp => ?_⟩
  obtain ⟨j, hj, e⟩ := mem_at hp
  rw [← e]; exact h j hj
theorem net_no {n : Int} {es : List Pt} {j : Nat} (hj : j < es.length) (h : edB n (at' es j) = false) : netB n es = false := by
  have : es.all (edB n) = false := by
    rw [List.all_eq_false]
    exact ⟨_, at_mem hj, by simp [h]⟩
  simp [netB, this]
theorem netB_is {n : Int} {es : List Pt} (h : netB n es = true) : 0 ≤ n ∧ n ≤ 1024 ∧ es.length ≤ 3072 ∧ ∀ j, j < es.length → 0 ≤ (at' es j).x ∧ (at' es j).x < n ∧ 0 ≤ (at' es j).y ∧ (at' es j).y < n := by
  simp only [netB, fitsB, edB, belowB, Bool.and_eq_true, decide_eq_true_eq, List.all_eq_true] at h
  obtain ⟨⟨h0, h1, h2⟩, h3⟩ := h
  refine ⟨h0, h1, by omega, fun j hj => ?_⟩
  have := h3 _ (at_mem hj)
  omega
theorem more {P : Nat → Prop} {i : Nat} (h : ∀ j, j < i → P j) (k : P i) : ∀ j, j < i + 1 → P j := by
  intro j hj
  rcases Nat.lt_succ_iff_lt_or_eq.1 hj with h1 | h1
  · exact h j h1
  · rw [h1]; exact k

set_option maxHeartbeats 1000000 in
theorem may13 (n : Int) (p : Option Addr) (es : List Pt) (cap : Nat) (w : World) (h : Has w p es) : Calls Try.prog 36 #[nv n p es.length cap] w fun e w' => e = .returned (.bool (netB n es)) ∧ Below w.heap.size w w' := by
  have H := hide h
  clear h
  by_cases h0 : 0 ≤ n
  · have hF := fits35 n es.length
    cases hf : fitsB n es.length
    · rw [hf] at hF
      go_enter Try.func36, Try.ntmps36
      go_wp2_with (go_at_call 55; refine (hF _).mono ?_; rintro e w' ⟨rfl, rfl⟩)
      go_ret
      exact ⟨retB (by simp [netB, hf]), by go_grown⟩
    · rw [hf] at hF
      go_enter Try.func36, Try.ntmps36
      go_wp2_with (go_at_call 55; refine (hF _).mono ?_; rintro e w' ⟨rfl, rfl⟩)
      have hfl : es.length ≤ 3072 := by simp [fitsB] at hf; omega
      go_loopw [20] (fun t wr => ∃ i : Nat, i ≤ es.length ∧ t = .int .i64 i ∧ Hid (∀ j, j < i → edB n (at' es j) = true) ∧ Hid (Below w.heap.size w wr) ∧ wr.cell? ⟨w.heap.size, 0, none⟩ = some (.int .i64 n)) (fun t _ => es.length - (intOf t).toNat)
      case atStart => exact ⟨0, by omega, rfl, fun j hj => by omega, by show Below _ _ _; go_grown, by go_cell⟩
      case round =>
        obtain ⟨i, hi, rfl, HP, HB, q0⟩ := hrel
        by_cases hlt : i < es.length
        · rcases H.out with h | ⟨b, off, rfl, hl⟩
          · subst h; simp at hlt
          obtain ⟨c0, c1⟩ := hl.later HB.out i hlt
          clear hl
          have X := below36 (at' es i).x n
          have Y := below36 (at' es i).y n
          have z0 : w.heap.size < wr.heap.size := block_lt_of_cell q0
          have zb : b < wr.heap.size := block_lt_of_cell c0
          cases hx : belowB (at' es i).x n
          · rw [hx] at X
            go_wp2_with (go_at_call 56; refine (X _).mono ?_; rintro e w' ⟨rfl, rfl⟩)
            go_ret
            exact ⟨retB (by rw [net_no hlt (by simp [edB, hx])]), Below.trans HB.out (by have := HB.out.size; go_grown)⟩
          · rw [hx] at X
            cases hy : belowB (at' es i).y n
            · rw [hy] at Y
              go_wp2_with (go_at_call 56; first | (with_reducible refine (X _).mono ?_; rintro e w' ⟨rfl, rfl⟩) | (with_reducible refine (Y _).mono ?_; rintro e w' ⟨rfl, rfl⟩))
              go_ret
              exact ⟨retB (by rw [net_no hlt (by simp [edB, hx, hy])]), Below.trans HB.out (by have := HB.out.size; go_grown)⟩
            · rw [hy] at Y
              go_wp2_with (go_at_call 56; first | (with_reducible refine (X _).mono ?_; rintro e w' ⟨rfl, rfl⟩) | (with_reducible refine (Y _).mono ?_; rintro e w' ⟨rfl, rfl⟩))
              go_roundw
              case rel => exact ⟨i + 1, by omega, by go_num, more HP.out (by simp [edB, hx, hy]), Below.trans HB.out (by have := HB.out.size; show Below _ _ _; go_grown), by go_cell⟩
              case measure => simp [intOf]; omega
        · go_wp2
          go_ret
          have : i = es.length := by omega
          subst this
          exact ⟨retB (by rw [net_yes h0 hf HP.out]), HB.out⟩
  · go_enter Try.func36, Try.ntmps36
    go_wp2
    go_ret
    exact ⟨retB (by simp [netB]; omega), by go_grown⟩

theorem at_ext {a b : List Pt} (hl : a.length = b.length) (h : ∀ j, j < a.length → at' a j = at' b j) : a = b := by
  apply List.ext_getElem hl
  intro j h1 h2
  have := h j h1
  unfold at' at this
  rw [List.getD_eq_getElem?_getD, List.getD_eq_getElem?_getD, List.getElem?_eq_getElem h1, List.getElem?_eq_getElem h2] at this
  exact this
theorem iat_ext {a b : List Int} (hl : a.length = b.length) (h : ∀ j, j < a.length → iat a j = iat b j) : a = b := by
  apply List.ext_getElem hl
  intro j h1 h2
  have := h j h1
  unfold iat at this
  rw [List.getD_eq_getElem?_getD, List.getD_eq_getElem?_getD, List.getElem?_eq_getElem h1, List.getElem?_eq_getElem h2] at this
  exact this

def sameB (n m : Int) (a b : List Pt) : Bool := decide (n = m) && decide (a = b)
end Go.Proofs.Ytobkejnlkjieoaa

namespace Go.Proofs.Ytobkejnlkjieoaa
open Go.RowKit Go.Sort
open Go


/-- The first that is not nought among k numbers. -/
def errN (f : Nat → Int) : Nat → Int
  | 0 => 0
  | k + 1 => if errN f k = 0 then f k else errN f k
theorem errN_zero {f : Nat → Int} : ∀ k, (∀ j, j < k → f j = 0) → errN f k = 0
  | 0, _ => rfl
  | k + 1, h => by simp only [errN]; rw [errN_zero k (fun j hj => h j (by omega)), if_pos rfl]; exact h k (by omega)
theorem errN_all {f : Nat → Int} : ∀ k, errN f k = 0 → ∀ j, j < k → f j = 0
  | 0, _, j, hj => by omega
  | k + 1, h, j, hj => by
    simp only [errN] at h
    by_cases e : errN f k = 0
    · rw [if_pos e] at h
      rcases Nat.lt_succ_iff_lt_or_eq.1 hj with h1 | h1
      · exact errN_all k e j h1
      · rw [h1]; exact h
    · rw [if_neg e] at h; exact absurd h e
theorem errN_first {f : Nat → Int} {i : Nat} (h : ∀ j, j < i → f j = 0) (hi : f i ≠ 0) : ∀ k, i < k → errN f k = f i
  | 0, hk => by omega
  | k + 1, hk => by
    simp only [errN]
    rcases Nat.lt_succ_iff_lt_or_eq.1 hk with h1 | h1
    · rw [errN_first h hi k h1, if_neg hi]
    · subst h1; rw [errN_zero i h, if_pos rfl]
def metB (l : List Int) (i : Nat) : Bool := (List.range i).any fun k => decide (iat l k = iat l i)
theorem metB_no {l : List Int} {i : Nat} (h : metB l i = false) : ∀ k, k < i → iat l k ≠ iat l i := by
  intro k hk e
  unfold metB at h
  rw [List.any_eq_false] at h
  exact h k (List.mem_range.2 hk) (by simp [e])
theorem metB_yes {l : List Int} {i k : Nat} (hk : k < i) (e : iat l k = iat l i) : metB l i = true := by
  unfold metB
  rw [List.any_eq_true]
  exact ⟨k, List.mem_range.2 hk, by simp [e]⟩
theorem metB_of_no {l : List Int} {i : Nat} (h : ∀ k, k < i → iat l k ≠ iat l i) : metB l i = false := by
  cases hm : metB l i
  · rfl
  · unfold metB at hm
    rw [List.any_eq_true] at hm
    obtain ⟨k, hk, e⟩ := hm
    exact absurd (of_decide_eq_true e) (h k (List.mem_range.1 hk))
/-- What is wrong with the number at i: beyond n (2), or there already (18). -/
def chk (l : List Int) (n : Int) (i : Nat) : Int := if belowB (iat l i) n then (if metB l i then 18 else 0) else 2
def errL (l : List Int) (n : Int) : Int := errN (chk l n) l.length
/-- Where each number stands, by the first i of the list. -/
def plN (l : List Int) (m : Nat) : Nat → List Int
  | 0 => List.replicate m (-1)
  | i + 1 => (plN l m i).set (iat l i).toNat i
theorem plN_length (l : List Int) (m : Nat) : ∀ i, (plN l m i).length = m
  | 0 => by simp [plN]
  | i + 1 => by simp [plN, plN_length l m i]
theorem iat_set (l : List Int) (j k : Nat) (x : Int) (hk : k < l.length) : iat (l.set j x) k = if j = k then x else iat l k := by
  unfold iat
  rw [List.getD_eq_getElem?_getD, List.getD_eq_getElem?_getD, List.getElem?_set]
  by_cases h : j = k
  · subst h; simp [hk]
  · simp [h]
theorem iat_replicate (m k : Nat) (x : Int) (hk : k < m) : iat (List.replicate m x) k = x := by
  unfold iat
  rw [List.getD_eq_getElem?_getD, List.getElem?_replicate, if_pos hk]; rfl
theorem belowB_is {x n : Int} (h : belowB x n = true) : 0 ≤ x ∧ x < n := by simpa [belowB] using h
theorem chk_zero {l : List Int} {n : Int} {i : Nat} (h : chk l n i = 0) : (0 ≤ iat l i ∧ iat l i < n) ∧ ∀ k, k < i → iat l k ≠ iat l i := by
  unfold chk at h
  split at h
  · rename_i hb
    split at h
    · omega
    · rename_i hm
      exact ⟨belowB_is hb, metB_no (by simpa using hm)⟩
  · omega
theorem chk_of {l : List Int} {n : Int} {i : Nat} (h : 0 ≤ iat l i ∧ iat l i < n) (k : ∀ k, k < i → iat l k ≠ iat l i) : chk l n i = 0 := by
  unfold chk
  rw [show belowB (iat l i) n = true by simp [belowB, h.1, h.2], if_pos rfl, metB_of_no k]
  rfl
/-- The list of places, by its content. -/
theorem plN_at {l : List Int} {m : Nat} : ∀ {i : Nat}, (∀ j, j < i → chk l m j = 0) → ∀ x : Nat, x < m → (∀ k, k < i → iat l k = (x : Int) → iat (plN l m i) x = (k : Int)) ∧ ((∀ k, k < i → iat l k ≠ (x : Int)) → iat (plN l m i) x = -1)
  | 0, _, x, hx => ⟨fun k hk => by omega, fun _ => iat_replicate m x (-1) hx⟩
  | i + 1, h, x, hx => by
    obtain ⟨h1, h2⟩ := plN_at (l := l) (m := m) (i := i) (fun j hj => h j (by omega)) x hx
    have hc := chk_zero (h i (by omega))
    have hl := plN_length l m i
    simp only [plN]
    rw [iat_set _ _ _ _ (by omega)]
    refine ⟨fun k hk e => ?_, fun hno => ?_⟩
    · by_cases hki : k = i
      · subst hki; rw [if_pos (by omega)]
      · have hne := hc.2 k (by omega)
        rw [if_neg (by omega)]
        exact h1 k (by omega) e
    · have hne := hno i (by omega)
      rw [if_neg (by omega)]
      exact h2 fun k hk => hno k (by omega)
theorem plN_free {l : List Int} {m i x : Nat} (h : ∀ j, j < i → chk l m j = 0) (hx : x < m) : iat (plN l m i) x = -1 ↔ ∀ k, k < i → iat l k ≠ (x : Int) := by
  obtain ⟨h1, h2⟩ := plN_at h x hx
  refine ⟨fun e k hk ek => ?_, h2⟩
  have := h1 k hk ek
  omega

theorem IOwns.frozen {w : World} {base g cap : Nat} {l : List Int} (h : IOwns w base (.slice (some ⟨g, 0, none⟩) l.length cap) l) (j : Nat) : w.frozen? ⟨g, j, none⟩ = false := World.ownsRow.frozenAt h j
theorem IOwns.at_ {w : World} {base g cap : Nat} {l : List Int} (h : IOwns w base (.slice (some ⟨g, 0, none⟩) l.length cap) l) {j : Nat} (hj : j < l.length) : w.cell? ⟨g, j, none⟩ = some (.int .i64 (iat l j)) := by
  have := h.lies j hj
  rw [Nat.zero_add] at this
  exact this
/-- n numbers in block g of one's own. -/
def IRow (w : World) (base g n : Nat) (l : List Int) : Prop := l.length = n ∧ IOwns w base (.slice (some ⟨g, 0, none⟩) l.length n) l
theorem IRow.cell {w : World} {base g n : Nat} {l : List Int} (h : IRow w base g n l) {j : Nat} (hj : j < n) : w.cell? ⟨g, j, none⟩ = some (.int .i64 (iat l j)) ∧ w.frozen? ⟨g, j, none⟩ = false := ⟨h.2.at_ (by rw [h.1]; exact hj), h.2.frozen j⟩
theorem IRow.set {w : World} {base g n : Nat} {l : List Int} (h : IRow w base g n l) (j : Nat) (x : Int) : IRow (w.setCell ⟨g, j, none⟩ (.int .i64 x)) base g n (l.set j x) := ⟨by rw [List.length_set]; exact h.1, h.2.set j x⟩
theorem IRow.later {w w' : World} {base g n : Nat} {l : List Int} (h : IRow w base g n l) (hb : Below w.heap.size w w') : IRow w' base g n l := ⟨h.1, h.2.later hb⟩
theorem IRow.lt {w : World} {base g n : Nat} {l : List Int} (h : IRow w base g n l) : base ≤ g ∧ g < w.heap.size := World.ownsRow.lt h.2 g rfl
theorem IRow.owns {w : World} {base g n : Nat} {l : List Int} (h : IRow w base g n l) : IOwns w base (.slice (some ⟨g, 0, none⟩) n n) l := by
  have := h.2
  rw [h.1] at this
  exact this
theorem irow_made {w : World} {base g n : Nat} (h : w.ownsRow base 3 1 (.slice (some ⟨g, 0, none⟩) n n) n (madeCells #[.int .i64 0] n).toList) : IRow w base g n (List.replicate n 0) := by
  rw [toList_madeCells_one] at h
  refine ⟨List.length_replicate, ?_⟩
  unfold IOwns
  rw [List.length_replicate, icells_zero]
  exact h
theorem below_made {w w' : World} (h : w.grownBy w' none) : Below w.heap.size w w' := ⟨h.os, h.tape, h.output, h.size, fun k hk => h.block k hk (by simp)⟩

def PlPost (l : List Int) (m : Nat) (w : World) (e : Ending) (w' : World) : Prop := (errL l m = 0 ∧ ∃ g, e = .returned (.tuple #[.slice (some ⟨g, 0, none⟩) m m, .int .i64 0]) ∧ IRow w' w.heap.size g m (plN l m l.length)) ∨ (errL l m ≠ 0 ∧ e = .returned (.tuple #[.slice none 0 0, .int .i64 (errL l m)]))
end Go.Proofs.Ytobkejnlkjieoaa

namespace Go.Proofs.Ytobkejnlkjieoaa
open Go.RowKit Go.Sort
open Go


/-- n pairs in block g of one's own. -/
def PRow (w : World) (base g n : Nat) (ps : List Pt) : Prop := ps.length = n ∧ Owns w base (.slice (some ⟨g, 0, none⟩) ps.length n) ps
theorem PRow.cell {w : World} {base g n : Nat} {ps : List Pt} (h : PRow w base g n ps) {j : Nat} (hj : j < n) : w.cell? ⟨g, j * 2, none⟩ = some (.int .i64 (at' ps j).x) ∧ w.cell? ⟨g, j * 2 + 1, none⟩ = some (.int .i64 (at' ps j).y) ∧ w.frozen? ⟨g, j * 2, none⟩ = false ∧ w.frozen? ⟨g, j * 2 + 1, none⟩ = false := by
  have := h.2.lies j (by rw [h.1]; exact hj)
  rw [Nat.zero_add] at this
  exact ⟨this.1, this.2, World.ownsRow.frozenAt h.2 _, World.ownsRow.frozenAt h.2 _⟩
theorem PRow.set {w : World} {base g n : Nat} {ps : List Pt} (h : PRow w base g n ps) (j : Nat) (q : Pt) : PRow ((w.setCell ⟨g, j * 2, none⟩ (.int .i64 q.x)).setCell ⟨g, j * 2 + 1, none⟩ (.int .i64 q.y)) base g n (ps.set j q) := ⟨by rw [List.length_set]; exact h.1, h.2.set j q⟩
theorem PRow.later {w w' : World} {base g n : Nat} {ps : List Pt} (h : PRow w base g n ps) (hb : Below w.heap.size w w') : PRow w' base g n ps := ⟨h.1, h.2.later hb⟩
theorem PRow.lt {w : World} {base g n : Nat} {ps : List Pt} (h : PRow w base g n ps) : base ≤ g ∧ g < w.heap.size := World.ownsRow.lt h.2 g rfl
theorem PRow.has {w : World} {base g n : Nat} {ps : List Pt} (h : PRow w base g n ps) : Has w (some ⟨g, 0, none⟩) ps := Or.inr ⟨g, 0, rfl, h.2.lies⟩
theorem IRow.has {w : World} {base g n : Nat} {l : List Int} (h : IRow w base g n l) : IHas w (some ⟨g, 0, none⟩) l := Or.inr ⟨g, 0, rfl, h.2.lies⟩
theorem made_pairs (n : Nat) : (madeCells #[Value.int .i64 0, Value.int .i64 0] (n * 2)).toList = List.replicate (n * 2) (.int .i64 0) := by
  apply List.ext_getElem
  · simp [madeCells]
  · intro j h1 h2
    simp only [madeCells, Array.toList_map, List.getElem_map, List.getElem_replicate]
    simp only [Array.getElem_toList, Array.getElem_range]
    rcases Nat.mod_two_eq_zero_or_one j with h | h <;> simp [h]
theorem prow_made {w : World} {base g n : Nat} (h : w.ownsRow base 56 2 (.slice (some ⟨g, 0, none⟩) n n) n (madeCells #[.int .i64 0, .int .i64 0] (n * 2)).toList) : PRow w base g n (List.replicate n ⟨0, 0⟩) := by
  rw [made_pairs] at h
  refine ⟨List.length_replicate, ?_⟩
  unfold Owns
  rw [List.length_replicate, cells_zero]
  exact h
theorem at_set (l : List Pt) (j k : Nat) (x : Pt) (hk : k < l.length) : at' (l.set j x) k = if j = k then x else at' l k := by
  unfold at'
  rw [List.getD_eq_getElem?_getD, List.getD_eq_getElem?_getD, List.getElem?_set]
  by_cases h : j = k
  · subst h; simp [hk]
  · simp [h]
theorem at_map {α : Type} (f : α → Pt) (l : List α) (d : α) {j : Nat} (h : j < l.length) : at' (l.map f) j = f (l.getD j d) := by
  unfold at'
  rw [List.getD_eq_getElem?_getD, List.getD_eq_getElem?_getD, List.getElem?_map, List.getElem?_eq_getElem h]
  rfl
theorem iat_map {α : Type} (f : α → Int) (l : List α) (d : α) {j : Nat} (h : j < l.length) : iat (l.map f) j = f (l.getD j d) := by
  unfold iat
  rw [List.getD_eq_getElem?_getD, List.getD_eq_getElem?_getD, List.getElem?_map, List.getElem?_eq_getElem h]
  rfl
def pick (es : List Pt) (l : List Int) : List Pt := l.map fun x => at' es x.toNat
def rename (es : List Pt) (t : List Int) : List Pt := es.map fun p => ⟨iat t p.x.toNat, iat t p.y.toNat⟩
theorem pick_length (es : List Pt) (l : List Int) : (pick es l).length = l.length := List.length_map ..
theorem rename_length (es : List Pt) (t : List Int) : (rename es t).length = es.length := List.length_map ..
theorem pick_at (es : List Pt) (l : List Int) {j : Nat} (h : j < l.length) : at' (pick es l) j = at' es (iat l j).toNat := at_map _ l 0 h
theorem rename_at (es : List Pt) (t : List Int) {j : Nat} (h : j < es.length) : at' (rename es t) j = ⟨iat t (at' es j).x.toNat, iat t (at' es j).y.toNat⟩ := at_map _ es ⟨0, 0⟩ h

theorem other2 {U : World} {g i j : Nat} {a b v : Value} {A : Addr} (h : U.cell? A = some v) (hne : A.block ≠ g) : ((U.setCell ⟨g, i, none⟩ a).setCell ⟨g, j, none⟩ b).drew.cell? A = some v := by
  have n1 : (⟨g, i, none⟩ : Addr) ≠ A := fun e => hne (by rw [← e])
  have n2 : (⟨g, j, none⟩ : Addr) ≠ A := fun e => hne (by rw [← e])
  show ((U.setCell ⟨g, i, none⟩ a).setCell ⟨g, j, none⟩ b).cell? A = some v
  rw [World.cell?_setCell_other _ _ _ _ n2, World.cell?_setCell_other _ _ _ _ n1]; exact h
end Go.Proofs.Ytobkejnlkjieoaa

namespace Go.Proofs.Ytobkejnlkjieoaa
open Go.RowKit Go.Sort
open Go


/-- A net's box of one's own. -/
def NOwn (V : World) (g : Nat) (n : Int) (p : Option Addr) (l c : Nat) : Prop := V.cell? ⟨g, 0, none⟩ = some (.int .i64 n) ∧ V.cell? ⟨g, 1, none⟩ = some (.slice p l c) ∧ V.frozen? ⟨g, 0, none⟩ = false ∧ V.frozen? ⟨g, 1, none⟩ = false
abbrev nbx (n : Int) (p : Option Addr) (l c : Nat) : Obj := .cells #[.int .i64 n, .slice p l c] 24
theorem laterF {w w' : World} {a : Addr} {v : Value} {f : Bool} (hb : Below w.heap.size w w') (h : w.cell? a = some v) (k : w.frozen? a = f) : w'.frozen? a = f := by
  have hl : a.block < w.heap.size := block_lt_of_cell h
  rw [hb.frozen hl]
  exact k
theorem NOwn.later {W W' : World} {g : Nat} {n : Int} {p : Option Addr} {l c : Nat} (h : NOwn W g n p l c) (hb : Below W.heap.size W W') : NOwn W' g n p l c :=
  ⟨Ytobkejnlkjieoaa.later hb h.1, Ytobkejnlkjieoaa.later hb h.2.1, laterF hb h.1 h.2.2.1, laterF hb h.2.1 h.2.2.2⟩
theorem NOwn.set {W : World} {g : Nat} {n : Int} {p : Option Addr} {l c : Nat} (h : NOwn W g n p l c) (n' : Int) (p' : Option Addr) (l' c' : Nat) : NOwn ((W.setCell ⟨g, 0, none⟩ (.int .i64 n')).setCell ⟨g, 1, none⟩ (.slice p' l' c')) g n' p' l' c' := by
  obtain ⟨q0, q1, q2, q3⟩ := h
  refine ⟨?_, ?_, ?_, ?_⟩
  all_goals go_cell
theorem NOwn.other {W : World} {g : Nat} {n : Int} {p : Option Addr} {l c : Nat} (h : NOwn W g n p l c) {k i : Nat} (hne : k ≠ g) (v : Value) : NOwn (W.setCell ⟨k, i, none⟩ v) g n p l c := by
  obtain ⟨q0, q1, q2, q3⟩ := h
  have ne : ∀ j, (⟨k, i, none⟩ : Addr) ≠ ⟨g, j, none⟩ := fun j e => by injection e with e1 e2; exact hne e1
  exact ⟨by rw [World.cell?_setCell_other _ _ _ _ (ne 0)]; exact q0, by rw [World.cell?_setCell_other _ _ _ _ (ne 1)]; exact q1, by rw [World.frozen?_setCell]; exact q2, by rw [World.frozen?_setCell]; exact q3⟩
theorem load24 {V : World} {g : Nat} {n : Int} {p : Option Addr} {l c : Nat} (h : NOwn V g n p l c) : (loadVar 24 ⟨g, 0, none⟩).run Try.prog V = .ok (nv n p l c) V := by
  obtain ⟨q0, q1, _, _⟩ := h
  have l0 : (load ⟨g, 0, none⟩).run Try.prog V = .ok (.int .i64 n) V := by simp [go_sem, q0]
  have l1 : (load ⟨g, 1, none⟩).run Try.prog V = .ok (.slice p l c) V := by simp [go_sem, q1]
  simp only [loadVar, Sem.run_bind, Try.isAgg24, Result.andThen_ok, if_true, Try.sizeOf24]
  simp only [loadCells, go_sem]
  simp only [Sem.run_bind, Nat.zero_add, l0, l1, Result.andThen_ok, Sem.run_pure]
  rfl
theorem asA (V : World) (a : Addr) : (asAddr (.pointer (some a))).run Try.prog V = .ok a V := rfl
theorem results_cT {fn : Func} {p u : Tmp} {ty : TypeId} (h : fn.results = #[.cell p ty, .tmp u]) (tmps : Array Value) (P : Program) (w : World) :
    (results fn tmps).run P w = ((asAddr (tmps.getD p undef)).run P w).andThen fun a w₁ => ((loadVar ty a).run P w₁).andThen fun v w₂ => .ok (.tuple #[v, tmps.getD u undef]) w₂ := by
  simp only [results, h]
  simp [Sem.run_bind, Result.andThen]
theorem results_cTT {fn : Func} {p u v : Tmp} {ty : TypeId} (h : fn.results = #[.cell p ty, .tmp u, .tmp v]) (tmps : Array Value) (P : Program) (w : World) :
    (results fn tmps).run P w = ((asAddr (tmps.getD p undef)).run P w).andThen fun a w₁ => ((loadVar ty a).run P w₁).andThen fun x w₂ => .ok (.tuple #[x, tmps.getD u undef, tmps.getD v undef]) w₂ := by
  simp only [results, h]
  simp [Sem.run_bind, Result.andThen]
theorem ret_net {fn : Func} {c u : Tmp} (hr : fn.results = #[.cell c 24, .tmp u]) {tmps : Array Value} {V : World} {g : Nat} {n : Int} {p : Option Addr} {l k : Nat} {e : Value} (h2 : tmps.getD c undef = .pointer (some ⟨g, 0, none⟩)) (h4 : tmps.getD u undef = e) (h : NOwn V g n p l k) :
    (results fn tmps).run Try.prog V = .ok (.tuple #[nv n p l k, e]) V := by
  rw [results_cT hr, h2, h4, asA, Result.andThen_ok, load24 h, Result.andThen_ok]
theorem ret_net3 {fn : Func} {c u v : Tmp} (hr : fn.results = #[.cell c 24, .tmp u, .tmp v]) {tmps : Array Value} {V : World} {g : Nat} {n : Int} {p : Option Addr} {l k : Nat} {e f : Value} (h2 : tmps.getD c undef = .pointer (some ⟨g, 0, none⟩)) (h4 : tmps.getD u undef = e) (h5 : tmps.getD v undef = f) (h : NOwn V g n p l k) :
    (results fn tmps).run Try.prog V = .ok (.tuple #[nv n p l k, e, f]) V := by
  rw [results_cTT hr, h2, h4, h5, asA, Result.andThen_ok, load24 h, Result.andThen_ok]

/-- As many numbers as are not -1. -/
theorem plN_count {l : List Int} {m : Nat} : ∀ {i : Nat}, (∀ j, j < i → chk l m j = 0) → (plN l m i).countP (fun x => decide (x ≠ -1)) = i
  | 0, _ => by simp [plN]
  | i + 1, h => by
    have ih := plN_count (l := l) (m := m) (i := i) (fun j hj => h j (by omega))
    have hc := chk_zero (h i (by omega))
    have hl := plN_length l m i
    obtain ⟨x, hx⟩ : ∃ x : Nat, iat l i = x := ⟨(iat l i).toNat, by omega⟩
    have hxm : x < m := by omega
    have hf := (plN_free (l := l) (m := m) (i := i) (x := x) (fun j hj => h j (by omega)) hxm).2 (fun k hk => by rw [← hx]; exact hc.2 k hk)
    simp only [plN]
    rw [hx, Int.toNat_natCast, List.countP_set (by rw [hl]; exact hxm), ih]
    have e : (plN l m i)[x]'(by rw [hl]; exact hxm) = -1 := by
      unfold iat at hf
      rw [List.getD_eq_getElem?_getD, List.getElem?_eq_getElem (by rw [hl]; exact hxm)] at hf
      exact hf
    rw [e]
    simp
theorem chosen_le {l : List Int} {m : Nat} (h : errL l m = 0) : l.length ≤ m := by
  have k := plN_count (errN_all _ h)
  have := List.countP_le_length (p := fun x => decide (x ≠ -1)) (l := plN l m l.length)
  rw [plN_length] at this
  omega
theorem chosen_in {l : List Int} {m : Nat} (h : errL l m = 0) : ∀ j, j < l.length → 0 ≤ iat l j ∧ iat l j < m := fun j hj => (chk_zero (errN_all _ h j hj)).1

theorem below_drew (w : World) : Below w.heap.size w w.drew := by go_grown
theorem owns_base {w : World} {b b' : Nat} {e : TypeId} {size : Nat} {v : Value} {n : Nat} {xs : List Value} (h : w.ownsRow b e size v n xs) (hb : b' ≤ b) : w.ownsRow b' e size v n xs := by
  obtain ⟨h1, h2 | ⟨g, cap, cur, rfl, h3, h4⟩⟩ := h
  · exact ⟨h1, Or.inl h2⟩
  · exact ⟨h1, Or.inr ⟨g, cap, cur, rfl, Nat.le_trans hb h3, h4⟩⟩
theorem PRow.base {w : World} {b b' g n : Nat} {ps : List Pt} (h : PRow w b g n ps) (hb : b' ≤ b) : PRow w b' g n ps := ⟨h.1, owns_base h.2 hb⟩
theorem IRow.base {w : World} {b b' g n : Nat} {l : List Int} (h : IRow w b g n l) (hb : b' ≤ b) : IRow w b' g n l := ⟨h.1, owns_base h.2 hb⟩
theorem IOwns.base {w : World} {b b' : Nat} {v : Value} {l : List Int} (h : IOwns w b v l) (hb : b' ≤ b) : IOwns w b' v l := owns_base h hb
theorem prow_other {w : World} {b g n : Nat} {ps : List Pt} (h : PRow w b g n ps) {k i : Nat} (hne : k ≠ g) (v : Value) : PRow (w.setCell ⟨k, i, none⟩ v) b g n ps := ⟨h.1, ownsRow_setCell_other h.2 (fun e => hne (by have : some g = some k := e; injection this with this; exact this.symm)) v⟩
theorem irow_other {w : World} {b g n : Nat} {ps : List Int} (h : IRow w b g n ps) {k i : Nat} (hne : k ≠ g) (v : Value) : IRow (w.setCell ⟨k, i, none⟩ v) b g n ps := ⟨h.1, ownsRow_setCell_other h.2 (fun e => hne (by have : some g = some k := e; injection this with this; exact this.symm)) v⟩
def subE (n : Int) (es : List Pt) (l : List Int) : Int := if netB n es then errL l es.length else 1
def SubPost (n : Int) (es : List Pt) (l : List Int) (w : World) (e : Ending) (w' : World) : Prop :=
  (subE n es l = 0 ∧ ∃ g, e = .returned (.tuple #[nv n (some ⟨g, 0, none⟩) l.length l.length, .int .i64 0]) ∧ PRow w' w.heap.size g l.length (pick es l)) ∨ (subE n es l ≠ 0 ∧ e = .returned (.tuple #[nv 0 none 0 0, .int .i64 (subE n es l)]))
theorem two_nets (w : World) (n : Int) (p : Option Addr) (l c : Nat) : ∃ W, W = (w.alloc (nbx n p l c)).alloc (nbx 0 none 0 0) ∧ Below w.heap.size w W ∧ NOwn W w.heap.size n p l c ∧ NOwn W (w.heap.size + 1) 0 none 0 0 :=
  ⟨_, rfl, by go_grown, ⟨by go_cell, by go_cell, by simp [go_sem], by simp [go_sem]⟩, by go_cell, by go_cell, by simp [go_sem], by simp [go_sem]⟩

end Go.Proofs.Ytobkejnlkjieoaa
