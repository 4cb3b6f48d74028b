/- A graph: what it is, how it changes, how that is undone; how it lies in memory. -/
import Derived.Test.YtgfiofogcnnkhaaN2
import Derived.Maps.AppendAt
import Derived.OneCell
namespace Go.Proofs.Ytgfiofogcnnkhaa
open Go.RowKit Go.Sort
open Go

structure Ed where
  id : Int
  a : Int
  b : Int
  deriving DecidableEq, Inhabited
inductive Un where
  | n
  | e
  | tn (p : Nat) (id : Int)
  | te (p : Nat) (x : Ed)
  | se (p s : Nat) (was : Int)
structure Gr where
  ns : List Int
  es : List Ed
  nn : Int
  ne : Int
  ms : List (Int × Nat)
  lm : Int
  dn : List Un
def eat (l : List Ed) (j : Nat) : Ed := l.getD j ⟨0, 0, 0⟩
def Gr.rem (G : Gr) (u : Un) : Gr := { G with dn := if G.ms.length = 0 then G.dn else G.dn ++ [u] }
def Gr.layN (G : Gr) : Gr := Gr.rem { G with ns := G.ns ++ [G.nn], nn := G.nn + 1 } .n
def Gr.layE (G : Gr) (u v : Int) : Gr := Gr.rem { G with es := G.es ++ [⟨G.ne, u, v⟩], ne := G.ne + 1 } .e
def Gr.takeN (G : Gr) (p : Nat) : Gr := Gr.rem { G with ns := G.ns.eraseIdx p } (.tn p (iat G.ns p))
def Gr.takeE (G : Gr) (p : Nat) : Gr := Gr.rem { G with es := G.es.eraseIdx p } (.te p (eat G.es p))
def Ed.get (x : Ed) (s : Nat) : Int := if s = 0 then x.a else x.b
def Ed.put (x : Ed) (s : Nat) (v : Int) : Ed := if s = 0 then { x with a := v } else { x with b := v }
def Gr.setE (G : Gr) (p s : Nat) (v : Int) : Gr := Gr.rem { G with es := G.es.set p ((eat G.es p).put s v) } (.se p s ((eat G.es p).get s))

def ecells : List Ed → List Value
  | [] => []
  | x :: r => .int .i64 x.id :: .int .i64 x.a :: .int .i64 x.b :: ecells r
theorem ecells_length : ∀ l : List Ed, (ecells l).length = l.length * 3
  | [] => rfl
  | x :: r => by simp only [ecells, List.length_cons, ecells_length r]; omega
theorem ecells_append : ∀ l m : List Ed, ecells (l ++ m) = ecells l ++ ecells m
  | [], _ => rfl
  | x :: r, m => by simp only [List.cons_append, ecells, ecells_append r m]
theorem ecells_at : ∀ (l : List Ed) (j : Nat), j < l.length → (ecells l)[j * 3]? = some (.int .i64 (eat l j).id) ∧ (ecells l)[j * 3 + 1]? = some (.int .i64 (eat l j).a) ∧ (ecells l)[j * 3 + 2]? = some (.int .i64 (eat l j).b)
  | [], j, h => by simp at h
  | x :: r, 0, _ => ⟨rfl, rfl, rfl⟩
  | x :: r, j + 1, h => by
    have := ecells_at r j (by simpa using h)
    have e : (j + 1) * 3 = j * 3 + 1 + 1 + 1 := by omega
    rw [e]
    exact this
theorem ecells_set : ∀ (l : List Ed) (j s : Nat) (v : Int), s < 2 → j < l.length → (ecells l).set (j * 3 + 1 + s) (.int .i64 v) = ecells (l.set j ((eat l j).put s v))
  | [], j, s, v, _, h => by simp at h
  | x :: r, 0, s, v, hs, _ => by
    rcases Nat.lt_succ_iff_lt_or_eq.1 hs with h | h
    · have : s = 0 := by omega
      subst this
      rfl
    · subst h
      rfl
  | x :: r, j + 1, s, v, hs, h => by
    have ih := ecells_set r j s v hs (by simpa using h)
    have e : (j + 1) * 3 + 1 + s = (j * 3 + 1 + s) + 1 + 1 + 1 := by omega
    rw [e]
    simp only [ecells, List.set_cons_succ]
    rw [ih]
    rfl
def mcells : List (Int × Nat) → List Value
  | [] => []
  | x :: r => .int .i64 x.1 :: .int .i64 x.2 :: mcells r
theorem mcells_length : ∀ l : List (Int × Nat), (mcells l).length = l.length * 2
  | [] => rfl
  | x :: r => by simp only [mcells, List.length_cons, mcells_length r]; omega
theorem mcells_append : ∀ l m : List (Int × Nat), mcells (l ++ m) = mcells l ++ mcells m
  | [], _ => rfl
  | x :: r, m => by simp only [List.cons_append, mcells, mcells_append r m]
def mat (l : List (Int × Nat)) (j : Nat) : Int × Nat := l.getD j (0, 0)
theorem mcells_at : ∀ (l : List (Int × Nat)) (j : Nat), j < l.length → (mcells l)[j * 2]? = some (.int .i64 (mat l j).1) ∧ (mcells l)[j * 2 + 1]? = some (.int .i64 (mat l j).2)
  | [], j, h => by simp at h
  | x :: r, 0, _ => ⟨rfl, rfl⟩
  | x :: r, j + 1, h => by
    have := mcells_at r j (by simpa using h)
    have e : (j + 1) * 2 = j * 2 + 1 + 1 := by omega
    rw [e]
    exact this

/-- All blocks that were there are as they were, but for those that are named. -/
structure Frame (w w' : World) (p : Nat → Prop) : Prop where
  os : w'.os = w.os
  tape : w'.tape = w.tape
  output : w'.output = w.output
  size : w.heap.size ≤ w'.heap.size
  block : ∀ i, i < w.heap.size → ¬ p i → w'.heap[i]? = w.heap[i]?
theorem Frame.row {w w' : World} {p : Nat → Prop} {base e size n : Nat} {v : Value} {xs : List Value} (h : Frame w w' p) (o : w.ownsRow base e size v n xs) (hp : ∀ i, v.ownBlock = some i → ¬ p i) : w'.ownsRow base e size v n xs := by
  obtain ⟨h0, ⟨h1, h2⟩ | ⟨g, cap, cur, h1, h2, h3, h4⟩⟩ := o
  · exact ⟨h0, Or.inl ⟨h1, h2⟩⟩
  · refine ⟨h0, Or.inr ⟨g, cap, cur, h1, h2, ?_, h4⟩⟩
    rw [h.block g (Array.getElem?_eq_some_iff.1 h3).1 (hp g (by rw [h1]; rfl))]
    exact h3
theorem Frame.of_below {w w' : World} (h : Below w.heap.size w w') (p : Nat → Prop) : Frame w w' p := ⟨h.os, h.tape, h.output, h.size, fun i hi _ => h.block i hi⟩
theorem Frame.trans {a b c : World} {p : Nat → Prop} (h : Frame a b p) (k : Frame b c p) : Frame a c p :=
  ⟨k.os.trans h.os, k.tape.trans h.tape, k.output.trans h.output, Nat.le_trans h.size k.size, fun i hi hp => (k.block i (Nat.lt_of_lt_of_le hi h.size) hp).trans (h.block i hi hp)⟩
theorem Frame.mono {a b : World} {p q : Nat → Prop} (h : Frame a b p) (hpq : ∀ i, i < a.heap.size → p i → q i) : Frame a b q :=
  ⟨h.os, h.tape, h.output, h.size, fun i hi hq => h.block i hi (fun hp => hq (hpq i hi hp))⟩
theorem Frame.set (w : World) (a : Addr) (v : Value) {p : Nat → Prop} (hp : p a.block) : Frame w (w.setCell a v) p :=
  ⟨rfl, rfl, rfl, by simp [World.setCell], fun _ _ hi => Below.heap_setCell _ _ _ _ (fun e => hi (by first | (rw [e]; exact hp) | (rw [← e]; exact hp)))⟩
theorem Frame.grown {w w' : World} {r : Option Nat} {p : Nat → Prop} (h : w.grownBy w' r) (hp : ∀ i, r = some i → p i) : Frame w w' p :=
  ⟨h.os, h.tape, h.output, h.size, fun i hi hn => h.block i hi (fun e => hn (hp i e.symm))⟩
theorem Frame.below {w w' : World} {p : Nat → Prop} {B : Nat} (h : Frame w w' p) (hB : B ≤ w.heap.size) (hp : ∀ i, p i → B ≤ i) : Below B w w' :=
  ⟨h.os, h.tape, h.output, h.size, fun i hi => h.block i (by omega) (fun k => by have := hp i k; omega)⟩
theorem Frame.cell {w w' : World} {p : Nat → Prop} (h : Frame w w' p) {a : Addr} {v : Value} (hc : w.cell? a = some v) (hp : ¬ p a.block) : w'.cell? a = some v := by
  rw [World.cell?_of_block (h.block a.block (block_lt_of_cell hc) hp)]
  exact hc
theorem own_at {w : World} {B e size n : Nat} {v : Value} {xs : List Value} (o : w.ownsRow B e size v n xs) {i : Nat} (h : v.ownBlock = some i) : ∃ cur, w.heap[i]? = some (.cells cur e (0, 0)) := by
  obtain ⟨_, ⟨k1, _⟩ | ⟨g2, c2, cur2, k1, _, k2, _⟩⟩ := o
  · rw [k1] at h; simp [Value.ownBlock] at h
  · rw [k1] at h
    simp only [Value.ownBlock, Option.some.injEq] at h
    rw [← h]
    exact ⟨_, k2⟩
theorem apart {w : World} {B e size n B' e' size' n' : Nat} {v v' : Value} {xs xs' : List Value} (o : w.ownsRow B e size v n xs) (o' : w.ownsRow B' e' size' v' n' xs') (hne : e ≠ e') {i : Nat} (h : v.ownBlock = some i) : ¬ v'.ownBlock = some i := by
  intro h'
  obtain ⟨c1, k1⟩ := own_at o h
  obtain ⟨c2, k2⟩ := own_at o' h'
  rw [k1] at k2
  cases k2
  exact hne rfl
theorem own_lt {w : World} {B e size n : Nat} {v : Value} {xs : List Value} (o : w.ownsRow B e size v n xs) {i : Nat} (h : v.ownBlock = some i) : i < w.heap.size := by
  obtain ⟨c, k⟩ := own_at o h
  exact (Array.getElem?_eq_some_iff.1 k).1

/-- A graph's four lists. -/
structure GV where
  vn : Value
  ve : Value
  vm : Value
  vd : Value
  t : Nat → Prop
def gcells (s : GV) (G : Gr) : List Value := [.bool true, s.vn, s.ve, .int .i64 G.nn, .int .i64 G.ne, s.vm, .int .i64 G.lm, s.vd]
/-- The blocks that are a graph's own. -/
def GB (b : Nat) (s : GV) (i : Nat) : Prop := i = b ∨ s.vn.ownBlock = some i ∨ s.ve.ownBlock = some i ∨ s.vm.ownBlock = some i ∨ s.vd.ownBlock = some i
/-- Where what was caught must not lie. -/
def GN (b : Nat) (s : GV) (i : Nat) : Prop := GB b s i ∨ s.t i
abbrev ptr (k : Nat) : Value := .pointer (some ⟨k, 0, none⟩)
/-- A function value that undoes a step; what it has caught lies apart from N. -/
def UnAt (w : World) (N : Nat → Prop) (f : Value) : Un → Prop
  | .n => f = .func (.func 74) #[] #[]
  | .e => f = .func (.func 75) #[] #[]
  | .tn p id => ∃ k1 k2, f = .func (.func 92) #[] #[ptr k1, ptr k2] ∧ ¬ N k1 ∧ ¬ N k2 ∧ w.cell? ⟨k1, 0, none⟩ = some (.int .i64 p) ∧ w.cell? ⟨k2, 0, none⟩ = some (.int .i64 id)
  | .te p x => ∃ k1 k2, f = .func (.func 89) #[] #[ptr k1, ptr k2] ∧ ¬ N k1 ∧ ¬ N k2 ∧ w.cell? ⟨k1, 0, none⟩ = some (.int .i64 p) ∧ w.cell? ⟨k2, 0, none⟩ = some (.int .i64 x.id) ∧ w.cell? ⟨k2, 1, none⟩ = some (.int .i64 x.a) ∧ w.cell? ⟨k2, 2, none⟩ = some (.int .i64 x.b)
  | .se p s was => ∃ k1 k2 k3, f = .func (.func 84) #[] #[ptr k1, ptr k2, ptr k3] ∧ ¬ N k1 ∧ ¬ N k2 ∧ ¬ N k3 ∧ w.cell? ⟨k1, 0, none⟩ = some (.int .i64 was) ∧ w.cell? ⟨k2, 0, none⟩ = some (.int .i64 p) ∧ w.cell? ⟨k3, 0, none⟩ = some (.int .i64 s)
theorem UnAt.keep {w w' : World} {N N' p : Nat → Prop} {f : Value} {u : Un} (h : UnAt w N f u) (hf : Frame w w' p) (hp : ∀ k, k < w.heap.size → p k → N k) (hN : ∀ k, N' k → N k ∨ w.heap.size ≤ k) : UnAt w' N' f u := by
  have hn : ∀ k v i, ¬ N k → w.cell? ⟨k, i, none⟩ = some v → ¬ N' k ∧ w'.cell? ⟨k, i, none⟩ = some v := fun k v i h1 h2 => by
    have hl : k < w.heap.size := block_lt_of_cell h2
    exact ⟨fun h3 => (hN k h3).elim h1 (fun h4 => by omega), hf.cell h2 (fun h3 => h1 (hp k hl h3))⟩
  cases u with
  | n => exact h
  | e => exact h
  | tn p id =>
    obtain ⟨k1, k2, h1, h2, h3, h4, h5⟩ := h
    exact ⟨k1, k2, h1, (hn _ _ _ h2 h4).1, (hn _ _ _ h3 h5).1, (hn _ _ _ h2 h4).2, (hn _ _ _ h3 h5).2⟩
  | te p x =>
    obtain ⟨k1, k2, h1, h2, h3, h4, h5, h6, h7⟩ := h
    exact ⟨k1, k2, h1, (hn _ _ _ h2 h4).1, (hn _ _ _ h3 h5).1, (hn _ _ _ h2 h4).2, (hn _ _ _ h3 h5).2, (hn _ _ _ h3 h6).2, (hn _ _ _ h3 h7).2⟩
  | se p s was =>
    obtain ⟨k1, k2, k3, h1, h2, h3, h4, h5, h6, h7⟩ := h
    exact ⟨k1, k2, k3, h1, (hn _ _ _ h2 h5).1, (hn _ _ _ h3 h6).1, (hn _ _ _ h4 h7).1, (hn _ _ _ h2 h5).2, (hn _ _ _ h3 h6).2, (hn _ _ _ h4 h7).2⟩
def UnAll (w : World) (N : Nat → Prop) (fs : List Value) (us : List Un) : Prop := fs.length = us.length ∧ ∀ (j : Nat) (f : Value) (u : Un), fs[j]? = some f → us[j]? = some u → UnAt w N f u
theorem UnAll.keep {w w' : World} {N N' p : Nat → Prop} {fs : List Value} {us : List Un} (h : UnAll w N fs us) (hf : Frame w w' p) (hp : ∀ k, k < w.heap.size → p k → N k) (hN : ∀ k, N' k → N k ∨ w.heap.size ≤ k) : UnAll w' N' fs us :=
  ⟨h.1, fun j f u h1 h2 => (h.2 j f u h1 h2).keep hf hp hN⟩
structure GAt (w : World) (b : Nat) (s : GV) (G : Gr) : Prop where
  box : w.ownsRow 0 81 8 (.slice (some ⟨b, 0, none⟩) 1 1) 1 (gcells s G)
  nod : IOwns w 0 s.vn G.ns
  edg : w.ownsRow 0 76 3 s.ve G.es.length (ecells G.es)
  mks : w.ownsRow 0 89 2 s.vm G.ms.length (mcells G.ms)
  don : ∃ fs, w.ownsRow 0 93 1 s.vd G.dn.length fs ∧ UnAll w (GN b s) fs G.dn ∧ ∀ k, s.t k → k < w.heap.size
/-- What becomes of memory. -/
structure GFr (w w' : World) (b : Nat) (s s' : GV) : Prop where
  fr : Frame w w' (GB b s)
  lie : ∀ k, GB b s' k → GB b s k ∨ w.heap.size ≤ k
  same : s'.t = s.t
theorem gn_lie {w : World} {b : Nat} {s s' : GV} (h : ∀ k, GB b s' k → GB b s k ∨ w.heap.size ≤ k) (ht : s'.t = s.t := by rfl) : ∀ k, GN b s' k → GN b s k ∨ w.heap.size ≤ k := fun k hk => hk.elim (fun h1 => (h k h1).imp Or.inl id) (fun h1 => Or.inl (Or.inr (by rw [← ht]; exact h1)))
theorem GFr.trans {w w' w'' : World} {b : Nat} {s s' s'' : GV} (h : GFr w w' b s s') (k : GFr w' w'' b s' s'') : GFr w w'' b s s'' := by
  have hs := h.fr.size
  refine ⟨⟨k.fr.os.trans h.fr.os, k.fr.tape.trans h.fr.tape, k.fr.output.trans h.fr.output, Nat.le_trans hs k.fr.size, fun i hi hp => ?_⟩, fun i hi => ?_, k.same.trans h.same⟩
  · rw [k.fr.block i (by omega) (fun h1 => (h.lie i h1).elim hp (fun h2 => by omega)), h.fr.block i hi hp]
  · rcases k.lie i hi with h1 | h1
    · exact h.lie i h1
    · exact Or.inr (by omega)
theorem GFr.of_below {w w' : World} {b : Nat} {s : GV} (h : Below w.heap.size w w') : GFr w w' b s s := ⟨Frame.of_below h _, fun _ h => Or.inl h, rfl⟩
theorem GAt.later {w w' : World} {b : Nat} {s : GV} {G : Gr} (h : GAt w b s G) (hb : Below w.heap.size w w') : GAt w' b s G := by
  have hf : Frame w w' (fun _ => False) := Frame.of_below hb _
  obtain ⟨fs, h1, h2, tb⟩ := h.don
  exact ⟨hf.row h.box (fun _ _ => id), hf.row h.nod (fun _ _ => id), hf.row h.edg (fun _ _ => id), hf.row h.mks (fun _ _ => id), fs, hf.row h1 (fun _ _ => id), h2.keep hf (fun _ _ => False.elim) (fun _ h => Or.inl h), fun k hk => Nat.lt_of_lt_of_le (tb k hk) hf.size⟩
theorem GAt.lt {w : World} {b : Nat} {s : GV} {G : Gr} (h : GAt w b s G) : b < w.heap.size := own_lt h.box rfl
theorem GAt.cells {w : World} {b : Nat} {s : GV} {G : Gr} (h : GAt w b s G) : w.cell? ⟨b, 0, none⟩ = some (.bool true) ∧ w.cell? ⟨b, 1, none⟩ = some s.vn ∧ w.cell? ⟨b, 2, none⟩ = some s.ve ∧ w.cell? ⟨b, 3, none⟩ = some (.int .i64 G.nn) ∧ w.cell? ⟨b, 4, none⟩ = some (.int .i64 G.ne) ∧ w.cell? ⟨b, 5, none⟩ = some s.vm ∧ w.cell? ⟨b, 6, none⟩ = some (.int .i64 G.lm) ∧ w.cell? ⟨b, 7, none⟩ = some s.vd :=
  ⟨World.ownsRow.cellAt h.box 0 (by omega), World.ownsRow.cellAt h.box 1 (by omega), World.ownsRow.cellAt h.box 2 (by omega), World.ownsRow.cellAt h.box 3 (by omega), World.ownsRow.cellAt h.box 4 (by omega), World.ownsRow.cellAt h.box 5 (by omega), World.ownsRow.cellAt h.box 6 (by omega), World.ownsRow.cellAt h.box 7 (by omega)⟩
theorem GAt.free {w : World} {b : Nat} {s : GV} {G : Gr} (h : GAt w b s G) (i : Nat) : w.frozen? ⟨b, i, none⟩ = false := World.ownsRow.frozenAt h.box i
theorem box_ne {w : World} {b : Nat} {xs ys : List Value} {B e size n : Nat} {v : Value} (h : w.ownsRow 0 81 8 (.slice (some ⟨b, 0, none⟩) 1 1) 1 xs) (o : w.ownsRow B e size v n ys) (hne : e ≠ 81) : v.ownBlock ≠ some b := fun k => apart o h hne k rfl
theorem row_set {w : World} {B e size n : Nat} {v : Value} {xs : List Value} (o : w.ownsRow B e size v n xs) {b i : Nat} (hne : v.ownBlock ≠ some b) (u : Value) : (w.setCell ⟨b, i, none⟩ u).ownsRow B e size v n xs := ownsRow_setCell_other o hne u

/- One number of the box changes. -/
theorem GAt.setC {w : World} {b : Nat} {s : GV} {G : Gr} (h : GAt w b s G) (i : Nat) (u : Value) (G' : Gr) (hc : (gcells s G).set i u = gcells s G') (h1 : G'.ns = G.ns) (h2 : G'.es = G.es) (h3 : G'.ms = G.ms) (h4 : G'.dn = G.dn) : GAt (w.setCell ⟨b, i, none⟩ u) b s G' ∧ GFr w (w.setCell ⟨b, i, none⟩ u) b s s := by
  obtain ⟨fs, o, k, tb⟩ := h.don
  have hf : Frame w (w.setCell ⟨b, i, none⟩ u) (fun k => k = b) := Frame.set _ _ _ rfl
  refine ⟨⟨by rw [← hc]; exact (World.ownsRow.stored h.box i u).1, by rw [h1]; exact row_set h.nod (box_ne h.box h.nod (by decide)) u, by rw [h2]; exact row_set h.edg (box_ne h.box h.edg (by decide)) u, by rw [h3]; exact row_set h.mks (box_ne h.box h.mks (by decide)) u, fs, by rw [h4]; exact row_set o (box_ne h.box o (by decide)) u, by rw [h4]; exact k.keep hf (fun k _ e => Or.inl (Or.inl e)) (fun _ h => Or.inl h), fun i hi => Nat.lt_of_lt_of_le (tb i hi) hf.size⟩, hf.mono (fun k _ e => Or.inl e), fun _ h => Or.inl h, rfl⟩
/- The nodes change. -/
theorem GAt.setN {w w' : World} {b : Nat} {s : GV} {G : Gr} (h : GAt w b s G) {v : Value} {l : List Int} (hf : Frame w w' (fun i => s.vn.ownBlock = some i)) (o : IOwns w' 0 v l) (hl : ∀ i, v.ownBlock = some i → s.vn.ownBlock = some i ∨ w.heap.size ≤ i) : GAt (w'.setCell ⟨b, 1, none⟩ v) b { s with vn := v } { G with ns := l } ∧ GFr w (w'.setCell ⟨b, 1, none⟩ v) b s { s with vn := v } := by
  obtain ⟨fs, od, k, tb⟩ := h.don
  have x : w'.ownsRow 0 81 8 (.slice (some ⟨b, 0, none⟩) 1 1) 1 (gcells s G) := hf.row h.box (fun i e => apart h.box h.nod (by decide) e)
  have xe := hf.row h.edg (fun i e => apart h.edg h.nod (by decide) e)
  have xm := hf.row h.mks (fun i e => apart h.mks h.nod (by decide) e)
  have xd := hf.row od (fun i e => apart od h.nod (by decide) e)
  have hF : Frame w (w'.setCell ⟨b, 1, none⟩ v) (GB b s) := (hf.mono (fun k _ e => Or.inr (Or.inl e))).trans (Frame.set _ _ _ (Or.inl rfl))
  have hL : ∀ k, GB b { s with vn := v } k → GB b s k ∨ w.heap.size ≤ k := by
    rintro k (e | e | e)
    · exact Or.inl (Or.inl e)
    · exact (hl k e).imp (fun e => Or.inr (Or.inl e)) id
    · exact Or.inl (Or.inr (Or.inr e))
  exact ⟨⟨(World.ownsRow.stored x 1 v).1, row_set o (box_ne x o (by decide)) v, row_set xe (box_ne x xe (by decide)) v, row_set xm (box_ne x xm (by decide)) v, fs, row_set xd (box_ne x xd (by decide)) v, k.keep hF (fun _ _ h => Or.inl h) (gn_lie hL), fun i hi => Nat.lt_of_lt_of_le (tb i hi) hF.size⟩, hF, hL, rfl⟩
theorem GAt.setEs {w w' : World} {b : Nat} {s : GV} {G : Gr} (h : GAt w b s G) {v : Value} {l : List Ed} (hf : Frame w w' (fun i => s.ve.ownBlock = some i)) (o : w'.ownsRow 0 76 3 v l.length (ecells l)) (hl : ∀ i, v.ownBlock = some i → s.ve.ownBlock = some i ∨ w.heap.size ≤ i) : GAt (w'.setCell ⟨b, 2, none⟩ v) b { s with ve := v } { G with es := l } ∧ GFr w (w'.setCell ⟨b, 2, none⟩ v) b s { s with ve := v } := by
  obtain ⟨fs, od, k, tb⟩ := h.don
  have x : w'.ownsRow 0 81 8 (.slice (some ⟨b, 0, none⟩) 1 1) 1 (gcells s G) := hf.row h.box (fun i e => apart h.box h.edg (by decide) e)
  have xe := hf.row h.nod (fun i e => apart h.nod h.edg (by decide) e)
  have xm := hf.row h.mks (fun i e => apart h.mks h.edg (by decide) e)
  have xd := hf.row od (fun i e => apart od h.edg (by decide) e)
  have hF : Frame w (w'.setCell ⟨b, 2, none⟩ v) (GB b s) := (hf.mono (fun k _ e => Or.inr (Or.inr (Or.inl e)))).trans (Frame.set _ _ _ (Or.inl rfl))
  have hL : ∀ k, GB b { s with ve := v } k → GB b s k ∨ w.heap.size ≤ k := by
    rintro k (e | e | e | e)
    · exact Or.inl (Or.inl e)
    · exact Or.inl (Or.inr (Or.inl e))
    · exact (hl k e).imp (fun e => Or.inr (Or.inr (Or.inl e))) id
    · exact Or.inl (Or.inr (Or.inr (Or.inr e)))
  exact ⟨⟨(World.ownsRow.stored x 2 v).1, row_set xe (box_ne x xe (by decide)) v, row_set o (box_ne x o (by decide)) v, row_set xm (box_ne x xm (by decide)) v, fs, row_set xd (box_ne x xd (by decide)) v, k.keep hF (fun _ _ h => Or.inl h) (gn_lie hL), fun i hi => Nat.lt_of_lt_of_le (tb i hi) hF.size⟩, hF, hL, rfl⟩
theorem GAt.setMs {w w' : World} {b : Nat} {s : GV} {G : Gr} (h : GAt w b s G) {v : Value} {l : List (Int × Nat)} (hf : Frame w w' (fun i => s.vm.ownBlock = some i)) (o : w'.ownsRow 0 89 2 v l.length (mcells l)) (hl : ∀ i, v.ownBlock = some i → s.vm.ownBlock = some i ∨ w.heap.size ≤ i) : GAt (w'.setCell ⟨b, 5, none⟩ v) b { s with vm := v } { G with ms := l } ∧ GFr w (w'.setCell ⟨b, 5, none⟩ v) b s { s with vm := v } := by
  obtain ⟨fs, od, k, tb⟩ := h.don
  have x : w'.ownsRow 0 81 8 (.slice (some ⟨b, 0, none⟩) 1 1) 1 (gcells s G) := hf.row h.box (fun i e => apart h.box h.mks (by decide) e)
  have xe := hf.row h.nod (fun i e => apart h.nod h.mks (by decide) e)
  have xm := hf.row h.edg (fun i e => apart h.edg h.mks (by decide) e)
  have xd := hf.row od (fun i e => apart od h.mks (by decide) e)
  have hF : Frame w (w'.setCell ⟨b, 5, none⟩ v) (GB b s) := (hf.mono (fun k _ e => Or.inr (Or.inr (Or.inr (Or.inl e))))).trans (Frame.set _ _ _ (Or.inl rfl))
  have hL : ∀ k, GB b { s with vm := v } k → GB b s k ∨ w.heap.size ≤ k := by
    rintro k (e | e | e | e | e)
    · exact Or.inl (Or.inl e)
    · exact Or.inl (Or.inr (Or.inl e))
    · exact Or.inl (Or.inr (Or.inr (Or.inl e)))
    · exact (hl k e).imp (fun e => Or.inr (Or.inr (Or.inr (Or.inl e)))) id
    · exact Or.inl (Or.inr (Or.inr (Or.inr (Or.inr e))))
  exact ⟨⟨(World.ownsRow.stored x 5 v).1, row_set xe (box_ne x xe (by decide)) v, row_set xm (box_ne x xm (by decide)) v, row_set o (box_ne x o (by decide)) v, fs, row_set xd (box_ne x xd (by decide)) v, k.keep hF (fun _ _ h => Or.inl h) (gn_lie hL), fun i hi => Nat.lt_of_lt_of_le (tb i hi) hF.size⟩, hF, hL, rfl⟩
theorem GAt.setDn {w w' : World} {b : Nat} {s : GV} {G : Gr} (h : GAt w b s G) {v : Value} {fs : List Value} {l : List Un} (hf : Frame w w' (fun i => s.vd.ownBlock = some i)) (o : w'.ownsRow 0 93 1 v l.length fs) (hl : ∀ i, v.ownBlock = some i → s.vd.ownBlock = some i ∨ w.heap.size ≤ i) (hu : UnAll w (GN b s) fs l) : GAt (w'.setCell ⟨b, 7, none⟩ v) b { s with vd := v } { G with dn := l } ∧ GFr w (w'.setCell ⟨b, 7, none⟩ v) b s { s with vd := v } := by
  obtain ⟨fs0, od, _, tb⟩ := h.don
  have x : w'.ownsRow 0 81 8 (.slice (some ⟨b, 0, none⟩) 1 1) 1 (gcells s G) := hf.row h.box (fun i e => apart h.box od (by decide) e)
  have xe := hf.row h.nod (fun i e => apart h.nod od (by decide) e)
  have xm := hf.row h.edg (fun i e => apart h.edg od (by decide) e)
  have xd := hf.row h.mks (fun i e => apart h.mks od (by decide) e)
  have hF : Frame w (w'.setCell ⟨b, 7, none⟩ v) (GB b s) := (hf.mono (fun k _ e => Or.inr (Or.inr (Or.inr (Or.inr e))))).trans (Frame.set _ _ _ (Or.inl rfl))
  have hL : ∀ k, GB b { s with vd := v } k → GB b s k ∨ w.heap.size ≤ k := by
    rintro k (e | e | e | e | e)
    · exact Or.inl (Or.inl e)
    · exact Or.inl (Or.inr (Or.inl e))
    · exact Or.inl (Or.inr (Or.inr (Or.inl e)))
    · exact Or.inl (Or.inr (Or.inr (Or.inr (Or.inl e))))
    · exact (hl k e).imp (fun e => Or.inr (Or.inr (Or.inr (Or.inr e)))) id
  exact ⟨⟨(World.ownsRow.stored x 7 v).1, row_set xe (box_ne x xe (by decide)) v, row_set xm (box_ne x xm (by decide)) v, row_set xd (box_ne x xd (by decide)) v, fs, row_set o (box_ne x o (by decide)) v, hu.keep hF (fun _ _ h => Or.inl h) (gn_lie hL), fun i hi => Nat.lt_of_lt_of_le (tb i hi) hF.size⟩, hF, hL, rfl⟩
end Go.Proofs.Ytgfiofogcnnkhaa
