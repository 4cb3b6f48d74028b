/- A map of paths in memory: each path a list of its own. -/
import Derived.Test.YtaebbfilgfkckaaKB9
namespace Go.Proofs.Ytaebbfilgfkckaa
open Go.RowKit Go.Sort
open Go
open Go.ChangeMaps
theorem block_at {w w' : World} {b : Nat} {o : Obj} (hb : Below w.heap.size w w') (h : w.heap[b]? = some o) : w'.heap[b]? = some o := by
  rw [hb.block b (Array.getElem?_eq_some_iff.1 h).1]; exact h
theorem setBlock_grown (W : World) (b : Nat) (o : Obj) : W.grownBy (setBlock W b o) (some b) := ⟨rfl, rfl, rfl, by simp [setBlock], fun k hk hne => by
  simp only [setBlock]
  rw [Array.getElem?_setIfInBounds_ne]
  intro e; exact hne (by rw [e])⟩
theorem setBlock_at {W : World} {b : Nat} (h : b < W.heap.size) (o : Obj) : (setBlock W b o).heap[b]? = some o := by
  simp [setBlock, h]
theorem setBlock_below {B b : Nat} {w W : World} (h : Below B w W) (hb : B ≤ b) (o : Obj) : Below B w (setBlock W b o) := by
  have g := setBlock_grown W b o
  refine ⟨g.os.trans h.os, g.tape.trans h.tape, g.output.trans h.output, Nat.le_trans h.size g.size, fun k hk => ?_⟩
  rw [← h.block k hk]
  simp only [setBlock]
  rw [Array.getElem?_setIfInBounds_ne]
  omega
/-- A map is no row. -/
theorem map_apart {w : World} {b : Nat} {ms : Array MapEntry} {clock : Nat} (h : w.heap[b]? = some (.map ms clock)) {base e size n : Nat} {v : Value} {xs : List Value} (o : w.ownsRow base e size v n xs) : v.ownBlock ≠ some b := by
  intro hc
  obtain ⟨_, ⟨h1, _⟩ | ⟨g1, c1, cur1, h1, h2, h3, _⟩⟩ := o
  · rw [h1] at hc; simp [Value.ownBlock] at hc
  · rw [h1] at hc
    have : g1 = b := by simpa [Value.ownBlock] using hc
    rw [this, h] at h3
    cases h3
/-- The map at b: of each pair a path, or none; their blocks lie below T. -/
def WM (w : World) (B T b : Nat) (P : Pt → List Int) : Prop := B ≤ b ∧ ∃ ms clock f, w.heap[b]? = some (.map ms clock) ∧ MapV ms clock f ∧ (∀ p, Good p → P p = [] → f p = nilV) ∧ (∀ p, Good p → P p ≠ [] → ∃ g c, f p = .slice (some ⟨g, 0, none⟩) (P p).length c ∧ g < T ∧ IOwns w B (.slice (some ⟨g, 0, none⟩) (P p).length c) (P p)) ∧ ∀ p q j, Good p → Good q → (f p).ownBlock = some j → (f q).ownBlock = some j → p = q
theorem WM.later {w w' : World} {B T b : Nat} {P : Pt → List Int} (h : WM w B T b P) (hb : Below w.heap.size w w') : WM w' B T b P := by
  obtain ⟨h0, ms, clock, f, h1, h2, h3, h4, h5⟩ := h
  refine ⟨h0, ms, clock, f, block_at hb h1, h2, h3, fun p hp hn => ?_, h5⟩
  obtain ⟨g, c, e1, e2, e3⟩ := h4 p hp hn
  exact ⟨g, c, e1, e2, e3.later hb⟩
def updL (P : Pt → List Int) (p : Pt) (l : List Int) : Pt → List Int := fun q => if q = p then l else P q
/-- A path is laid into it. -/
theorem WM.put {w : World} {B T b g c : Nat} {P : Pt → List Int} (h : WM w B T b P) {p : Pt} (hp : Good p) {l : List Int} (hl : l ≠ []) (hBT : B ≤ T) (o : IOwns w T (.slice (some ⟨g, 0, none⟩) l.length c) l) : ∃ V, (Instr.mapUpdate 93 (.map (some b)) (pv p.x p.y) (.slice (some ⟨g, 0, none⟩) l.length c)).run Try.prog w = .ok () V ∧ WM V B w.heap.size b (updL P p l) ∧ w.grownBy V (some b) ∧ b < w.heap.size := by
  obtain ⟨h0, ms, clock, f, h1, h2, h3, h4, h5⟩ := h
  obtain ⟨ms2, clock2, m2, run⟩ := put93 h2 hp (.slice (some ⟨g, 0, none⟩) l.length c)
  have hbl : b < w.heap.size := (Array.getElem?_eq_some_iff.1 h1).1
  have hgr := setBlock_grown w b (.map ms2 clock2)
  obtain ⟨og1, og2⟩ := World.ownsRow.lt o g rfl
  refine ⟨setBlock w b (.map ms2 clock2), run w b h1, ⟨h0, ms2, clock2, _, setBlock_at hbl _, m2, fun q hq he => ?_, fun q hq hn => ?_, fun q r j hq hr e1 e2 => ?_⟩, hgr, hbl⟩
  · unfold updL at he
    by_cases hqp : q = p
    · rw [if_pos hqp] at he; exact absurd he hl
    · rw [if_neg hqp] at he
      rw [updP, if_neg hqp]
      exact h3 q hq he
  · by_cases hqp : q = p
    · have e : updL P p l q = l := by unfold updL; rw [if_pos hqp]
      rw [e, updP, if_pos hqp]
      exact ⟨g, c, rfl, og2, World.ownsRow.kept (o.base hBT) hgr (Or.inr fun e => map_apart h1 o e)⟩
    · have e : updL P p l q = P q := by unfold updL; rw [if_neg hqp]
      rw [e] at hn ⊢
      obtain ⟨g', c', e1, e2, e3⟩ := h4 q hq hn
      rw [updP, if_neg hqp]
      exact ⟨g', c', e1, (World.ownsRow.lt e3 g' rfl).2, World.ownsRow.kept e3 hgr (Or.inr fun e => map_apart h1 e3 e)⟩
  · have key : ∀ x, Good x → x ≠ p → ∀ j, (f x).ownBlock = some j → j < T := fun x hx hxp j hj => by
      by_cases hn : P x = []
      · rw [h3 x hx hn] at hj; simp [Value.ownBlock] at hj
      · obtain ⟨g', c', e1, e2, _⟩ := h4 x hx hn
        rw [e1] at hj
        have : g' = j := by simpa [Value.ownBlock] using hj
        omega
    unfold updP at e1 e2
    by_cases hqp : q = p <;> by_cases hrp : r = p
    · rw [hqp, hrp]
    · rw [if_pos hqp] at e1
      rw [if_neg hrp] at e2
      have h6 : g = j := by simpa [Value.ownBlock] using e1
      have := key r hr hrp j e2
      omega
    · rw [if_neg hqp] at e1
      rw [if_pos hrp] at e2
      have h6 : g = j := by simpa [Value.ownBlock] using e2
      have := key q hq hqp j e1
      omega
    · rw [if_neg hqp] at e1
      rw [if_neg hrp] at e2
      exact h5 q r j hq hr e1 e2
/-- A path is looked up. -/
theorem WM.look {w : World} {B T b : Nat} {P : Pt → List Int} (h : WM w B T b P) {p : Pt} (hp : Good p) : ∃ v, (Instr.lookup 93 (.map (some b)) (pv p.x p.y) false).run Try.prog w = .ok v w ∧ (P p = [] → v = nilV) ∧ (P p ≠ [] → ∃ g c, v = .slice (some ⟨g, 0, none⟩) (P p).length c ∧ g < T ∧ IOwns w B (.slice (some ⟨g, 0, none⟩) (P p).length c) (P p)) := by
  obtain ⟨h0, ms, clock, f, h1, h2, h3, h4, h5⟩ := h
  exact ⟨f p, look93 h2 h1 hp, h3 p hp, h4 p hp⟩
end Go.Proofs.Ytaebbfilgfkckaa
