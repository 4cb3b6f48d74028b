/- The document's Parts, with nothing left out, in every world. -/
import Derived.Test.YtghffodjffkijabX3
import Derived.Test.YtghffodjffkijabX4
import Derived.Deep.LoopGhost
import Derived.WalkSmall
namespace Go.Proofs.Ytghffodjffkijab
open Go.RowKit Go.Sort
open Go

theorem row_under {w w' : World} {Bt base e size n : Nat} {v : Value} {xs : List Value} (hb : Below Bt w w') (h : w.ownsRow base e size v n xs) (hlt : ∀ k, v.ownBlock = some k → k < Bt) : w'.ownsRow base e size v n xs := by
  obtain ⟨h0, ⟨h1, h2⟩ | ⟨g, cap, cur, h1, h2, h3, h4⟩⟩ := h
  · exact ⟨h0, Or.inl ⟨h1, h2⟩⟩
  · refine ⟨h0, Or.inr ⟨g, cap, cur, h1, h2, ?_, h4⟩⟩
    rw [hb.block g (hlt g (by rw [h1]; rfl))]
    exact h3
theorem Rows.below_set {w : World} {B g n c j : Nat} {rv : Nat → Value} {L : Nat → List Int} {u : Value} (h : Rows w B g n rv L) (hc : c < B) : Rows (w.setCell ⟨c, j, none⟩ u) B g n rv L :=
  ⟨ownsRow_setCell_below h.1 hc _, h.2.1, fun v hv => ownsRow_setCell_below (h.2.2 v hv) hc _⟩
theorem Rows.under {w w' : World} {B Bt g n : Nat} {rv : Nat → Value} {L : Nat → List Int} (h : Rows w B g n rv L) (hb : Below Bt w w') (hg : g < Bt) (hr : ∀ v k, v < n → (rv v).ownBlock = some k → k < Bt) : Rows w' B g n rv L :=
  ⟨row_under hb h.1 (fun k hk => by simp [Value.ownBlock] at hk; omega), h.2.1, fun v hv => row_under hb (h.2.2 v hv) (fun k hk => hr v k hv hk)⟩
theorem Rows.all_lt {w : World} {B g n : Nat} {rv : Nat → Value} {L : Nat → List Int} (h : Rows w B g n rv L) : ∀ v k, v < n → (rv v).ownBlock = some k → k < w.heap.size := fun v k hv hk => (World.ownsRow.lt (h.2.2 v hv) k hk).2
/-- What lies still while the labels spread: the net's box aside. -/
structure PM (W wr : World) (gc g n Bo Bt : Nat) (rv : Nat → Value) (L : Nat → List Int) (C : List Int) : Prop where
  below : Below W.heap.size W wr
  lab : IRow wr W.heap.size gc n C
  rows : Rows wr Bo g n rv L
  size : Bt ≤ wr.heap.size
structure PF (W : World) (gc g n Bo Bt : Nat) (rv : Nat → Value) : Prop where
  lo : gc < Bo
  bo : Bo ≤ Bt
  hi : g < Bt
  all : ∀ v k, v < n → (rv v).ownBlock = some k → k < Bt
  own : W.heap.size ≤ gc
variable {W wr wr' : World} {gc g n Bo Bt : Nat} {rv : Nat → Value} {L : Nat → List Int} {C : List Int}
theorem PM.later (h : PM W wr gc g n Bo Bt rv L C) (hb : Below wr.heap.size wr wr') : PM W wr' gc g n Bo Bt rv L C :=
  ⟨below_step h.below hb, h.lab.later hb, h.rows.later hb, Nat.le_trans h.size hb.size⟩
theorem PM.set (h : PM W wr gc g n Bo Bt rv L C) (f : PF W gc g n Bo Bt rv) (j : Nat) (x : Int) : PM W (wr.setCell ⟨gc, j, none⟩ (.int .i64 x)) gc g n Bo Bt rv L (C.set j x) :=
  ⟨h.below.setCell f.own _, h.lab.set j x, h.rows.below_set f.lo, by simpa using h.size⟩
theorem PM.under (h : PM W wr gc g n Bo Bt rv L C) (f : PF W gc g n Bo Bt rv) (hb : Below Bt wr wr') : PM W wr' gc g n Bo Bt rv L C :=
  ⟨Below.trans h.below (hb.mono (by have := f.own; have := f.lo; have := f.bo; omega)), ⟨h.lab.1, row_under hb h.lab.2 (fun k hk => by have := f.lo; have := f.bo; simp [Value.ownBlock] at hk; omega)⟩, h.rows.under hb f.hi f.all, Nat.le_trans h.size hb.size⟩
def nums (T : List Nat) : List Int := T.map fun (t : Nat) => (t : Int)
theorem nums_length (T : List Nat) : (nums T).length = T.length := by simp [nums]
theorem nums_more (T : List Nat) (x : Nat) : nums (T ++ [x]) = nums T ++ [(x : Int)] := by simp [nums]
/-- A number behind numbers that are owned: what comes of an append, and that nothing below changes. -/
theorem push_int {w : World} {B : Nat} {v : Value} {l : List Int} (o : IOwns w B v l) (x : Int) (hB : B ≤ w.heap.size) (hl : l.length ≤ 90000) : ∃ v' w', (Builtin.append_ #[27, 27] 27 #[v, .slice (some ⟨w.heap.size, 0, none⟩) 1 1]).run Try.prog (w.alloc (.cells #[.int .i64 x] 3)) = .ok v' w' ∧ IOwns w' B v' (l ++ [x]) ∧ Below B w w' := by
  have o' : IOwns (w.alloc (.cells #[.int .i64 x] 3)) B v l := o.later (by go_grown)
  obtain ⟨v', w', e1, o1, gr, _⟩ := append_int o' (one_int w x) (by simp; omega) hl
  exact ⟨v', w', e1, o1, below_grown (w := w.alloc (.cells #[.int .i64 x] 3)) (by go_grown) o' (Nat.le_refl _) (by simp; omega) gr⟩
theorem pop_int {w : World} {B b c : Nat} {T : List Nat} {v : Nat} (h : IOwns w B (.slice (some ⟨b, 0, none⟩) (T ++ [v]).length c) (nums (T ++ [v]))) : IOwns w B (.slice (some ⟨b, 0, none⟩) T.length c) (nums T) := by
  unfold IOwns at h ⊢
  rw [nums_length] at h ⊢
  rw [nums_more] at h
  simp only [List.length_append, List.length_cons, List.length_nil, Nat.zero_add] at h
  rw [show icells (nums T ++ [(v : Int)]) = icells (nums T) ++ [.int .i64 v] by simp [icells]] at h
  exact ownsRow_pop (by simp [icells, nums]) h
theorem iowns_block {w : World} {base : Nat} {v : Value} {l : List Int} (h : IOwns w base v l) (h0 : 0 < l.length) : ∃ g c, v = .slice (some ⟨g, 0, none⟩) l.length c ∧ l.length ≤ c ∧ base ≤ g ∧ g < w.heap.size := by
  obtain ⟨g, c, rfl, h1, h2⟩ := World.ownsRow.form h h0
  obtain ⟨p, c', hv, _, h3, _, _⟩ := IOwns.form h
  simp at hv
  exact ⟨g, c, rfl, by rw [hv.2]; exact h3, h1, h2⟩
theorem unl_le (C : List Int) : unl C ≤ C.length := List.countP_le_length
def PartsPost (es : List Pt) (n : Nat) (w : World) (e : Ending) (w' : World) : Prop := ∃ (gc k : Nat) (C : List Int) (r : Nat → Nat), e = .returned (.tuple #[.slice (some ⟨gc, 0, none⟩) n n, .int .i64 (k : Int)]) ∧ IRow w' w.heap.size gc n C ∧ Lab es n k n C r NoDue ∧ Below w.heap.size w w'
end Go.Proofs.Ytghffodjffkijab
