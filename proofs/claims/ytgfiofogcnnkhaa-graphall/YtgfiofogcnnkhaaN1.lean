/- Lists in memory: pairs of numbers, numbers; those that a call makes for itself; the small functions of net. -/
import Derived.Test.YtgfiofogcnnkhaaProg
import Derived.WalkKit
import Derived.WalkSpells
import Derived.WalkLawsBesides
import Derived.Handy
import Derived.Below
import Derived.BigQuiet
import Derived.Deep.QuietTactic
import Derived.Lib.QuietBelow
import Derived.Deep.AppendLies
import Derived.OwnWalk
import Derived.Laws.OwnMore
import Derived.ChangeKeysEq
namespace Go.Proofs.Ytgfiofogcnnkhaa
open Go.RowKit Go.Sort
open Go


/-- Two numbers: an edge's ends. -/
structure Pt where
  x : Int
  y : Int
  deriving DecidableEq, Inhabited
abbrev pv (x y : Int) : Value := .agg #[.int .i64 x, .int .i64 y]
abbrev bx (p : Pt) : Obj := .cells #[.int .i64 p.x, .int .i64 p.y] 68
theorem hide {p : Prop} (h : p) : Hid p := h
theorem retB {a b : Bool} (h : a = true ↔ b = true) : Ending.returned (.bool a) = Ending.returned (.bool b) := by rw [Bool.eq_iff_iff.2 h]
theorem retI {a b : Int} (h : a = b) : Ending.returned (.int .i64 a) = Ending.returned (.int .i64 b) := by rw [h]
theorem later {w w' : World} {a : Addr} {v : Value} (hb : Below w.heap.size w w') (h : w.cell? a = some v) : w'.cell? a = some v := by
  have hl : a.block < w.heap.size := block_lt_of_cell h
  rw [hb.cell hl]
  exact h
theorem below_alloc {w w' : World} {o : Obj} (h : Below (w.alloc o).heap.size (w.alloc o) w') : Below w.heap.size w w' :=
  Below.trans ((Below.refl _ _).alloc (Nat.le_refl _) o) (h.mono (by simp))
theorem below_step {a b c : World} (h : Below a.heap.size a b) (k : Below b.heap.size b c) : Below a.heap.size a c := Below.trans h (k.mono h.size)
theorem below_drewN {B : Nat} {w W : World} {n : Nat} (h : Below B w W) : Below B w (W.drewN n) := ⟨h.os, h.tape, h.output, h.size, h.block⟩
theorem grown_below {w w' : World} (h : Below w.heap.size w w') : w.grownBy w' none := ⟨h.os, h.tape, h.output, h.size, fun k hk _ => h.block k hk⟩

def at' (ps : List Pt) (j : Nat) : Pt := ps.getD j ⟨0, 0⟩
def Lies (w : World) (b off : Nat) (ps : List Pt) : Prop :=
  ∀ j, j < ps.length → w.cell? ⟨b, off + j * 2, none⟩ = some (.int .i64 (at' ps j).x) ∧ w.cell? ⟨b, off + j * 2 + 1, none⟩ = some (.int .i64 (at' ps j).y)
def Has (w : World) (p : Option Addr) (ps : List Pt) : Prop := ps = [] ∨ ∃ b off, p = some ⟨b, off, none⟩ ∧ Lies w b off ps
theorem Lies.later {w w' : World} {b off : Nat} {ps : List Pt} (h : Lies w b off ps) (hb : Below w.heap.size w w') : Lies w' b off ps :=
  fun j hj => ⟨Ytgfiofogcnnkhaa.later hb (h j hj).1, Ytgfiofogcnnkhaa.later hb (h j hj).2⟩
theorem Has.later {w w' : World} {p : Option Addr} {ps : List Pt} (h : Has w p ps) (hb : Below w.heap.size w w') : Has w' p ps := by
  rcases h with h | ⟨b, off, h1, h2⟩
  · exact Or.inl h
  · exact Or.inr ⟨b, off, h1, h2.later hb⟩
def cells : List Pt → List Value
  | [] => []
  | p :: r => .int .i64 p.x :: .int .i64 p.y :: cells r
theorem cells_length : ∀ ps : List Pt, (cells ps).length = ps.length * 2
  | [] => rfl
  | p :: r => by simp only [cells, List.length_cons, cells_length r]; omega
theorem cells_append : ∀ ps qs : List Pt, cells (ps ++ qs) = cells ps ++ cells qs
  | [], _ => rfl
  | p :: r, qs => by simp only [List.cons_append, cells, cells_append r qs]
theorem cells_at : ∀ (ps : List Pt) (j : Nat), j < ps.length → (cells ps)[j * 2]? = some (.int .i64 (at' ps j).x) ∧ (cells ps)[j * 2 + 1]? = some (.int .i64 (at' ps j).y)
  | [], j, h => by simp at h
  | p :: r, 0, _ => ⟨rfl, rfl⟩
  | p :: r, j + 1, h => by
    have := cells_at r j (by simpa using h)
    have e : (j + 1) * 2 = j * 2 + 1 + 1 := by omega
    rw [e]
    exact this
theorem cells_set : ∀ (ps : List Pt) (j : Nat) (q : Pt), ((cells ps).set (j * 2) (.int .i64 q.x)).set (j * 2 + 1) (.int .i64 q.y) = cells (ps.set j q)
  | [], j, q => by simp [cells]
  | p :: r, 0, q => by simp [cells]
  | p :: r, j + 1, q => by
    have := cells_set r j q
    have e : (j + 1) * 2 = j * 2 + 1 + 1 := by omega
    rw [e]
    simp only [cells, List.set_cons_succ, List.set_cons_succ]
    rw [this]
theorem cells_zero : ∀ n : Nat, cells (List.replicate n ⟨0, 0⟩) = List.replicate (n * 2) (.int .i64 0)
  | 0 => rfl
  | n + 1 => by
    rw [List.replicate_succ, show (n + 1) * 2 = n * 2 + 1 + 1 by omega, List.replicate_succ, List.replicate_succ]
    simp only [cells, cells_zero n]
def Owns (w : World) (base : Nat) (v : Value) (ps : List Pt) : Prop := w.ownsRow base 68 2 v ps.length (cells ps)
theorem Owns.lies {w : World} {base g cap : Nat} {ps : List Pt} (h : Owns w base (.slice (some ⟨g, 0, none⟩) ps.length cap) ps) : Lies w g 0 ps := by
  intro j hj
  have k := cells_at ps j hj
  refine ⟨?_, ?_⟩
  · rw [show (0 : Nat) + j * 2 = j * 2 by omega, World.ownsRow.cellAt h (j * 2) (by omega)]; exact k.1
  · rw [show (0 : Nat) + j * 2 + 1 = j * 2 + 1 by omega, World.ownsRow.cellAt h (j * 2 + 1) (by omega)]; exact k.2
theorem Owns.form {w : World} {base : Nat} {v : Value} {ps : List Pt} (h : Owns w base v ps) : ∃ p cap, v = .slice p ps.length cap ∧ Has w p ps ∧ ps.length ≤ cap ∧ (p = none → cap = 0) ∧ (∀ a, p = some a → a.off = 0 ∧ a.spot = none ∧ base ≤ a.block ∧ a.block < w.heap.size) := by
  have h' := h
  obtain ⟨h1, ⟨rfl, h2⟩ | ⟨g, cap, cur, rfl, h3, h4, h5, _⟩⟩ := h'
  · exact ⟨none, 0, by rw [h2], Or.inl (List.length_eq_zero_iff.1 h2), by omega, fun _ => rfl, fun a ha => by cases ha⟩
  · refine ⟨_, _, rfl, Or.inr ⟨g, 0, rfl, h.lies⟩, h5, fun k => (by cases k), fun a ha => ?_⟩
    cases ha
    exact ⟨rfl, rfl, h3, (Array.getElem?_eq_some_iff.1 h4).1⟩
theorem Owns.later {w w' : World} {base : Nat} {v : Value} {ps : List Pt} (h : Owns w base v ps) (hb : Below w.heap.size w w') : Owns w' base v ps :=
  World.ownsRow.kept h (grown_below hb) (by cases h' : v.ownBlock <;> simp)
theorem Owns.nil (w : World) (base : Nat) : Owns w base (.slice none 0 0) [] := World.ownsRow_nil _ _ _ _
theorem Owns.set {w : World} {base g cap : Nat} {ps : List Pt} (h : Owns w base (.slice (some ⟨g, 0, none⟩) ps.length cap) ps) (j : Nat) (q : Pt) : Owns ((w.setCell ⟨g, j * 2, none⟩ (.int .i64 q.x)).setCell ⟨g, j * 2 + 1, none⟩ (.int .i64 q.y)) base (.slice (some ⟨g, 0, none⟩) (ps.set j q).length cap) (ps.set j q) := by
  have k := (World.ownsRow.stored (World.ownsRow.stored h (j * 2) (.int .i64 q.x)).1 (j * 2 + 1) (.int .i64 q.y)).1
  unfold Owns
  rw [← cells_set, List.length_set]
  exact k
theorem owns_more {w : World} {base : Nat} {v : Value} {ps : List Pt} {p : Pt} (h : w.ownsRow base 68 2 v (ps.length + 1) (cells ps ++ [.int .i64 p.x, .int .i64 p.y])) : Owns w base v (ps ++ [p]) := by
  unfold Owns
  rw [cells_append, List.length_append]
  exact h
theorem info60 : (Try.prog.info? 68).map (fun i => (i.zero, i.size, i.bytes)) = some (some (.agg #[.int .i64 0, .int .i64 0]), 2, 16) := by kernel_rfl
theorem info3 : (Try.prog.info? 3).map (fun i => (i.zero, i.size, i.bytes)) = some (some (.int .i64 0), 1, 8) := by kernel_rfl
theorem info4 : (Try.prog.info? 4).map (fun i => (i.zero, i.size, i.bytes)) = some (some (.bool false), 1, 1) := by kernel_rfl

def iat (l : List Int) (j : Nat) : Int := l.getD j 0
def ILies (w : World) (b off : Nat) (l : List Int) : Prop := ∀ j, j < l.length → w.cell? ⟨b, off + j, none⟩ = some (.int .i64 (iat l j))
def IHas (w : World) (p : Option Addr) (l : List Int) : Prop := l = [] ∨ ∃ b off, p = some ⟨b, off, none⟩ ∧ ILies w b off l
theorem ILies.later {w w' : World} {b off : Nat} {l : List Int} (h : ILies w b off l) (hb : Below w.heap.size w w') : ILies w' b off l := fun j hj => Ytgfiofogcnnkhaa.later hb (h j hj)
theorem IHas.later {w w' : World} {p : Option Addr} {l : List Int} (h : IHas w p l) (hb : Below w.heap.size w w') : IHas w' p l := by
  rcases h with h | ⟨b, off, h1, h2⟩
  · exact Or.inl h
  · exact Or.inr ⟨b, off, h1, h2.later hb⟩
def icells (l : List Int) : List Value := l.map (.int .i64)
def IOwns (w : World) (base : Nat) (v : Value) (l : List Int) : Prop := w.ownsRow base 3 1 v l.length (icells l)
theorem IOwns.lies {w : World} {base g cap : Nat} {l : List Int} (h : IOwns w base (.slice (some ⟨g, 0, none⟩) l.length cap) l) : ILies w g 0 l := by
  intro j hj
  rw [show (0 : Nat) + j = j by omega, World.ownsRow.cellAt h j (by omega), icells, List.getElem?_map]
  unfold iat
  rw [List.getD_eq_getElem?_getD, List.getElem?_eq_getElem hj]
  rfl
theorem IOwns.form {w : World} {base : Nat} {v : Value} {l : List Int} (h : IOwns w base v l) : ∃ p cap, v = .slice p l.length cap ∧ IHas w p l ∧ l.length ≤ cap ∧ (p = none → cap = 0) ∧ (∀ a, p = some a → a.off = 0 ∧ a.spot = none ∧ base ≤ a.block ∧ a.block < w.heap.size) := by
  have h' := h
  obtain ⟨h1, ⟨rfl, h2⟩ | ⟨g, cap, cur, rfl, h3, h4, h5, _⟩⟩ := h'
  · exact ⟨none, 0, by rw [h2], Or.inl (List.length_eq_zero_iff.1 h2), by omega, fun _ => rfl, fun a ha => by cases ha⟩
  · refine ⟨_, _, rfl, Or.inr ⟨g, 0, rfl, h.lies⟩, h5, fun k => (by cases k), fun a ha => ?_⟩
    cases ha
    exact ⟨rfl, rfl, h3, (Array.getElem?_eq_some_iff.1 h4).1⟩
theorem IOwns.later {w w' : World} {base : Nat} {v : Value} {l : List Int} (h : IOwns w base v l) (hb : Below w.heap.size w w') : IOwns w' base v l :=
  World.ownsRow.kept h (grown_below hb) (by cases h' : v.ownBlock <;> simp)
theorem IOwns.nil (w : World) (base : Nat) : IOwns w base (.slice none 0 0) [] := World.ownsRow_nil _ _ _ _
theorem IOwns.set {w : World} {base g cap : Nat} {l : List Int} (h : IOwns w base (.slice (some ⟨g, 0, none⟩) l.length cap) l) (j : Nat) (x : Int) : IOwns (w.setCell ⟨g, j, none⟩ (.int .i64 x)) base (.slice (some ⟨g, 0, none⟩) (l.set j x).length cap) (l.set j x) := by
  have k := (World.ownsRow.stored h j (.int .i64 x)).1
  unfold IOwns
  rw [List.length_set, show icells (l.set j x) = (icells l).set j (.int .i64 x) from List.map_set]
  exact k
theorem iowns_more {w : World} {base : Nat} {v : Value} {l : List Int} {x : Int} (h : w.ownsRow base 3 1 v (l.length + 1) (icells l ++ [.int .i64 x])) : IOwns w base v (l ++ [x]) := by
  unfold IOwns
  rw [show icells (l ++ [x]) = icells l ++ [.int .i64 x] by simp [icells], List.length_append]
  exact h
theorem icells_zero (n : Nat) : icells (List.replicate n 0) = List.replicate n (.int .i64 0) := List.map_replicate
theorem at_mem {ps : List Pt} {j : Nat} (h : j < ps.length) : at' ps j ∈ ps := by
  unfold at'
  rw [List.getD_eq_getElem?_getD, List.getElem?_eq_getElem h]
  exact List.getElem_mem h
theorem mem_at {ps : List Pt} {p : Pt} (h : p ∈ ps) : ∃ j, j < ps.length ∧ at' ps j = p := by
  obtain ⟨j, hj, e⟩ := List.getElem_of_mem h
  exact ⟨j, hj, by unfold at'; rw [List.getD_eq_getElem?_getD, List.getElem?_eq_getElem hj]; exact e⟩
theorem iat_mem {l : List Int} {j : Nat} (h : j < l.length) : iat l j ∈ l := by
  unfold iat
  rw [List.getD_eq_getElem?_getD, List.getElem?_eq_getElem h]
  exact List.getElem_mem h
theorem mem_iat {l : List Int} {x : Int} (h : x ∈ l) : ∃ j, j < l.length ∧ iat l j = x := by
  obtain ⟨j, hj, e⟩ := List.getElem_of_mem h
  exact ⟨j, hj, by unfold iat; rw [List.getD_eq_getElem?_getD, List.getElem?_eq_getElem hj]; exact e⟩

def belowB (x n : Int) : Bool := decide (0 ≤ x) && decide (x < n)
def fitsB (a b : Int) : Bool := decide (a ≤ 1024) && decide (b ≤ 3072)
theorem below36 (x n : Int) (w : World) : Calls Try.prog 72 #[.int .i64 x, .int .i64 n] w fun e w' => e = .returned (.bool (belowB x n)) ∧ w' = w := by
  go_enter Try.func72, Try.ntmps72
  go_wp2
  all_goals go_ret
  all_goals exact ⟨retB (by simp [belowB]; omega), rfl⟩
theorem fits35 (a b : Int) (w : World) : Calls Try.prog 71 #[.int .i64 a, .int .i64 b] w fun e w' => e = .returned (.bool (fitsB a b)) ∧ w' = w := by
  go_enter Try.func71, Try.ntmps71
  go_wp2
  all_goals go_ret
  all_goals exact ⟨retB (by simp [fitsB]; omega), rfl⟩
theorem eq60 (p q : Pt) (w : World) : (Op.equalIn 10000 68 (pv p.x p.y) (pv q.x q.y)).run Try.prog w = .ok (decide (p = q)) w := by
  have u3 := Try.underlying3
  have a3 := Try.isAgg3
  have z3 := Try.sizeOf3
  obtain ⟨i3, hi3, _⟩ := info_parts info3
  rw [show (10000 : Nat) = 9999 + 1 from rfl, run_equalIn_array w 9999 _ _ Try.underlying68 hi3, show Try.prog.cellsOf 3 = 1 from by kernel_rfl, show List.range 2 = [0, 1] from rfl]
  simp only [Op.eqItems]
  go_simp
  obtain ⟨px, py⟩ := p
  obtain ⟨qx, qy⟩ := q
  by_cases h1 : px = qx <;> by_cases h2 : py = qy <;> simp [h1, h2]
end Go.Proofs.Ytgfiofogcnnkhaa
