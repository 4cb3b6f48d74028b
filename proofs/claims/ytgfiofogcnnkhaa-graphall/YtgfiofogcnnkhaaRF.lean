/- A run: both graphs and the marks that were given. -/
import Derived.Test.YtgfiofogcnnkhaaRE
namespace Go.Proofs.Ytgfiofogcnnkhaa
open Go.RowKit Go.Sort
open Go

theorem GAt.blt {w : World} {b : Nat} {s : GV} {G : Gr} (g : GAt w b s G) {k : Nat} (hk : GB b s k) : k < w.heap.size := by
  obtain ⟨fs, o, _⟩ := g.don
  rcases hk with e | e | e | e | e
  · have := g.lt; omega
  · exact own_lt g.nod e
  · exact own_lt g.edg e
  · exact own_lt g.mks e
  · exact own_lt o e
theorem RAt.blt {w : World} {b : Nat} {V : RV} {G : Gr} {M : List (Int × Gr)} {L : Int} (g : RAt w b V G M L) {k : Nat} (hk : RB b V k) : k < w.heap.size := by
  obtain ⟨mv, o, _⟩ := g.mks
  rcases hk with e | e | e | e
  · have := g.lt; omega
  · exact own_lt g.nod e
  · exact own_lt g.edg e
  · exact own_lt o e
/-- The blocks of a run's own. -/
def KB (kr : Nat) (vk : Value) (k : Nat) : Prop := k = kr ∨ vk.ownBlock = some k
structure Run (w0 w : World) (kr b br : Nat) (s : GV) (V : RV) (G R : Gr) (M : List (Int × Gr)) (L : Int) (vk : Value) (mk : List Int) : Prop where
  two : Two w b br s V G R M L
  box : w.ownsRow 0 40 3 (.slice (some ⟨kr, 0, none⟩) 1 1) 1 [ptr b, ptr br, vk]
  mks : IOwns w 0 vk mk
  t1 : ∀ k, KB kr vk k → s.t k
  t2 : ∀ k, KB kr vk k → V.t k
  bel : Below w0.heap.size w0 w
  l1 : ∀ k, KB kr vk k → w0.heap.size ≤ k
  l2 : ∀ k, GB b s k → w0.heap.size ≤ k
  l3 : ∀ k, RB br V k → w0.heap.size ≤ k
theorem frame_below {w0 w w' : World} {p : Nat → Prop} (h : Below w0.heap.size w0 w) (hf : Frame w w' p) (hp : ∀ k, p k → w0.heap.size ≤ k) : Below w0.heap.size w0 w' := by
  have hs := h.size
  exact ⟨hf.os.trans h.os, hf.tape.trans h.tape, hf.output.trans h.output, Nat.le_trans hs hf.size, fun i hi => (hf.block i (by omega) (fun h1 => by have := hp i h1; omega)).trans (h.block i hi)⟩
theorem Run.onA {w0 w w' : World} {kr b br : Nat} {s s' : GV} {V : RV} {G G' R : Gr} {M : List (Int × Gr)} {L : Int} {vk : Value} {mk : List Int} (h : Run w0 w kr b br s V G R M L vk mk) (g : GAt w' b s' G') (r : GFr w w' b s s') : Run w0 w' kr b br s' { V with t := grown V.t w w' } G' R M L vk mk := by
  have hs := h.bel.size
  refine ⟨h.two.onA g r, r.fr.row h.box (fun i e hi => ?_), r.fr.row h.mks (fun i e hi => h.two.e1 i hi (h.t1 i (Or.inr e))), fun k hk => by rw [r.same]; exact h.t1 k hk, fun k hk => Or.inl (h.t2 k hk), frame_below h.bel r.fr h.l2, h.l1, fun k hk => (r.lie k hk).elim (h.l2 k) (fun h1 => by omega), h.l3⟩
  cases e
  exact h.two.e1 _ hi (h.t1 _ (Or.inl rfl))
theorem Run.onB {w0 w w' : World} {kr b br : Nat} {s : GV} {V V' : RV} {G R R' : Gr} {M M' : List (Int × Gr)} {L L' : Int} {vk : Value} {mk : List Int} (h : Run w0 w kr b br s V G R M L vk mk) (g : RAt w' br V' R' M' L') (r : RFr w w' br V V') : Run w0 w' kr b br { s with t := grown s.t w w' } V' G R' M' L' vk mk := by
  have hs := h.bel.size
  refine ⟨h.two.onB g r, r.fr.row h.box (fun i e hi => ?_), r.fr.row h.mks (fun i e hi => h.two.e2 i hi (h.t2 i (Or.inr e))), fun k hk => Or.inl (h.t1 k hk), fun k hk => by rw [r.same]; exact h.t2 k hk, frame_below h.bel r.fr h.l3, h.l1, h.l2, fun k hk => (r.lie k hk).elim (h.l3 k) (fun h1 => by omega)⟩
  cases e
  exact h.two.e2 _ hi (h.t2 _ (Or.inl rfl))
theorem Run.later {w0 w w' : World} {kr b br : Nat} {s : GV} {V : RV} {G R : Gr} {M : List (Int × Gr)} {L : Int} {vk : Value} {mk : List Int} (h : Run w0 w kr b br s V G R M L vk mk) (hb : Below w.heap.size w w') : Run w0 w' kr b br s V G R M L vk mk := by
  have hf : Frame w w' (fun _ => False) := Frame.of_below hb _
  exact ⟨⟨h.two.ga.later hb, h.two.ra.later hb, h.two.d1, h.two.d2, h.two.e1, h.two.e2⟩, hf.row h.box (fun _ _ => id), hf.row h.mks (fun _ _ => id), h.t1, h.t2, below_step h.bel hb, h.l1, h.l2, h.l3⟩
theorem Run.cells {w0 w : World} {kr b br : Nat} {s : GV} {V : RV} {G R : Gr} {M : List (Int × Gr)} {L : Int} {vk : Value} {mk : List Int} (h : Run w0 w kr b br s V G R M L vk mk) : w.cell? ⟨kr, 0, none⟩ = some (ptr b) ∧ w.cell? ⟨kr, 1, none⟩ = some (ptr br) ∧ w.cell? ⟨kr, 2, none⟩ = some vk ∧ w.frozen? ⟨kr, 2, none⟩ = false ∧ w.frozen? ⟨kr, 0, none⟩ = false ∧ kr < w.heap.size :=
  ⟨World.ownsRow.cellAt h.box 0 (by omega), World.ownsRow.cellAt h.box 1 (by omega), World.ownsRow.cellAt h.box 2 (by omega), World.ownsRow.frozenAt h.box 2, World.ownsRow.frozenAt h.box 0, own_lt h.box rfl⟩
/-- The list of marks has been changed and laid into the box. -/
theorem Run.onM {w0 w w1 : World} {kr b br : Nat} {s : GV} {V : RV} {G R : Gr} {M : List (Int × Gr)} {L : Int} {vk vk' : Value} {mk mk' : List Int} (h : Run w0 w kr b br s V G R M L vk mk) (hf : Frame w w1 (fun i => vk.ownBlock = some i)) (o : IOwns w1 0 vk' mk') (hl : ∀ i, vk'.ownBlock = some i → vk.ownBlock = some i ∨ w.heap.size ≤ i) : ∃ s' V', Run w0 (w1.setCell ⟨kr, 2, none⟩ vk') kr b br s' V' G R M L vk' mk' := by
  have hs := h.bel.size
  have x : w1.ownsRow 0 40 3 (.slice (some ⟨kr, 0, none⟩) 1 1) 1 [ptr b, ptr br, vk] := hf.row h.box (fun i e => apart h.box h.mks (by decide) e)
  have x2 := (World.ownsRow.stored x 2 vk').1
  have hne : vk'.ownBlock ≠ some kr := fun k => apart o x (by decide) k rfl
  have o2 : IOwns (w1.setCell ⟨kr, 2, none⟩ vk') 0 vk' mk' := row_set o hne vk'
  have hF : Frame w (w1.setCell ⟨kr, 2, none⟩ vk') (KB kr vk) := (hf.mono (fun k _ e => Or.inr e)).trans (Frame.set _ _ _ (Or.inl rfl))
  obtain ⟨a1, a2⟩ := h.two.ga.across hF h.t1 h.two.e1
  obtain ⟨r1, r2⟩ := h.two.ra.across hF h.t2 h.two.e2
  have hkb : ∀ k, KB kr vk' k → KB kr vk k ∨ (w.heap.size ≤ k ∧ k < (w1.setCell ⟨kr, 2, none⟩ vk').heap.size) := by
    rintro k (e | e)
    · exact Or.inl (Or.inl e)
    · rcases hl k e with h1 | h1
      · exact Or.inl (Or.inr h1)
      · exact Or.inr ⟨h1, own_lt o2 e⟩
  refine ⟨_, _, ⟨⟨a1, r1, fun k hk => Or.inl (h.two.d1 k hk), fun k hk => Or.inl (h.two.d2 k hk), a2, r2⟩, x2, o2, fun k hk => (hkb k hk).imp (h.t1 k) id, fun k hk => (hkb k hk).imp (h.t2 k) id, frame_below h.bel hF h.l1, fun k hk => (hkb k hk).elim (h.l1 k) (fun h1 => by omega), h.l2, h.l3⟩⟩
/-- A graph with nothing to undo may have any territory. -/
theorem GAt.ret {w : World} {b : Nat} {s : GV} {G : Gr} (h : GAt w b s G) (hd : G.dn = []) (t : Nat → Prop) (ht : ∀ k, t k → k < w.heap.size) : GAt w b { s with t := t } G := by
  obtain ⟨fs, o, hu, _⟩ := h.don
  refine ⟨h.box, h.nod, h.edg, h.mks, fs, o, ⟨hu.1, fun j f u _ h2 => ?_⟩, ht⟩
  rw [hd] at h2
  simp at h2
theorem RAt.ret {w : World} {b : Nat} {V : RV} {G : Gr} {L : Int} (h : RAt w b V G [] L) (t : Nat → Prop) (ht : ∀ k, t k → k < w.heap.size) : RAt w b { V with t := t } G [] L := by
  obtain ⟨mv, o, hu, _⟩ := h.mks
  refine ⟨h.box, h.nod, h.edg, mv, o, ⟨hu.1, fun j f u _ h2 => ?_⟩, ht⟩
  simp at h2
theorem Run.start {w0 w : World} {kr b br : Nat} {s : GV} {V : RV} {G R : Gr} {L : Int} {vk : Value} {mk : List Int} (ga : GAt w b s G) (hd : G.dn = []) (ra : RAt w br V R [] L) (box : w.ownsRow 0 40 3 (.slice (some ⟨kr, 0, none⟩) 1 1) 1 [ptr b, ptr br, vk]) (mks : IOwns w 0 vk mk) (bel : Below w0.heap.size w0 w)
    (l1 : ∀ k, KB kr vk k → w0.heap.size ≤ k) (l2 : ∀ k, GB b s k → w0.heap.size ≤ k) (l3 : ∀ k, RB br V k → w0.heap.size ≤ k) (d1 : ∀ k, GB b s k → ¬ RB br V k) (d2 : ∀ k, KB kr vk k → ¬ GB b s k ∧ ¬ RB br V k) : ∃ s' V', Run w0 w kr b br s' V' G R [] L vk mk := by
  have hk : ∀ k, KB kr vk k → k < w.heap.size := by
    rintro k (e | e)
    · have h1 : kr < w.heap.size := own_lt box rfl
      omega
    · exact own_lt mks e
  refine ⟨{ s with t := fun k => RB br V k ∨ KB kr vk k }, { V with t := fun k => GB b s k ∨ KB kr vk k }, ⟨ga.ret hd _ ?_, ra.ret _ ?_, fun k h => Or.inl h, fun k h => Or.inl h, ?_, ?_⟩, box, mks, fun k h => Or.inr h, fun k h => Or.inr h, bel, l1, l2, l3⟩
  · rintro k (h | h)
    · exact ra.blt h
    · exact hk k h
  · rintro k (h | h)
    · exact ga.blt h
    · exact hk k h
  · rintro k h1 (h | h)
    · exact d1 k h1 h
    · exact (d2 k h).1 h1
  · rintro k h1 (h | h)
    · exact d1 k h h1
    · exact (d2 k h).2 h1
/-- A run begins with an empty graph of the document's. -/
theorem Run.begin {w0 w : World} {b : Nat} {s : GV} {G : Gr} (h : Mine w0 w b s G) (hd : G.dn = []) : ∃ s' V', Run w0 ((w.alloc (.cells #[.slice none 0 0, .slice none 0 0, .int .i64 0, .int .i64 0, .slice none 0 0, .int .i64 0] 58)).alloc (.cells #[ptr b, ptr w.heap.size, .slice none 0 0] 40)) (w.heap.size + 1) b w.heap.size s' V' G G0 [] 0 (.slice none 0 0) [] := by
  obtain ⟨Z1, hZ1⟩ : ∃ Z, Z = w.alloc (.cells #[.slice none 0 0, .slice none 0 0, .int .i64 0, .int .i64 0, .slice none 0 0, .int .i64 0] 58) := ⟨_, rfl⟩
  have hb1 : Below w.heap.size w Z1 := by rw [hZ1]; go_grown
  have hs1 : Z1.heap.size = w.heap.size + 1 := by rw [hZ1]; simp
  have hk1 : Z1.heap[w.heap.size]? = some (.cells #[.slice none 0 0, .slice none 0 0, .int .i64 0, .int .i64 0, .slice none 0 0, .int .i64 0] 58 (0, 0)) := by rw [hZ1]; exact heap_alloc_new _ _
  rw [← hZ1]
  obtain ⟨Z, hZ⟩ : ∃ Z, Z = Z1.alloc (.cells #[ptr b, ptr w.heap.size, .slice none 0 0] 40) := ⟨_, rfl⟩
  have hb2 : Below Z1.heap.size Z1 Z := by rw [hZ]; go_grown
  have hk2 : Z.heap[Z1.heap.size]? = some (.cells #[ptr b, ptr w.heap.size, .slice none 0 0] 40 (0, 0)) := by rw [hZ]; exact heap_alloc_new _ _
  rw [← hZ]
  have hk3 : Z.heap[w.heap.size]? = some (.cells #[.slice none 0 0, .slice none 0 0, .int .i64 0, .int .i64 0, .slice none 0 0, .int .i64 0] 58 (0, 0)) := by rw [hb2.block _ (by omega)]; exact hk1
  have ob : Z.ownsRow 0 58 6 (.slice (some ⟨w.heap.size, 0, none⟩) 1 1) 1 (rcells ⟨.slice none 0 0, .slice none 0 0, .slice none 0 0, fun _ => False⟩ G0 0) := ⟨rfl, Or.inr ⟨_, 1, _, rfl, by omega, hk3, by omega, by unfold maxLen; omega, rfl, rfl⟩⟩
  rw [hs1] at hk2
  have ok : Z.ownsRow 0 40 3 (.slice (some ⟨w.heap.size + 1, 0, none⟩) 1 1) 1 [ptr b, ptr w.heap.size, .slice none 0 0] := ⟨rfl, Or.inr ⟨_, 1, _, rfl, by omega, hk2, by omega, by unfold maxLen; omega, rfl, rfl⟩⟩
  have hM := h.later (below_step hb1 hb2)
  have hsz := h.below.size
  refine Run.start (L := 0) (R := G0) (V := ⟨.slice none 0 0, .slice none 0 0, .slice none 0 0, fun _ => False⟩) hM.at_ hd ⟨ob, World.ownsRow_nil _ _ _ _, World.ownsRow_nil _ _ _ _, [], World.ownsRow_nil _ _ _ _, ⟨rfl, fun j f u h1 _ => by simp at h1⟩, fun _ h => h.elim⟩ ok (IOwns.nil _ _) hM.below ?_ h.lie ?_ ?_ ?_
  · rintro k (e | e)
    · omega
    · simp [Value.ownBlock] at e
  · rintro k (e | e | e | e)
    · omega
    all_goals simp [Value.ownBlock] at e
  · rintro k hk (e | e | e | e)
    · have := h.at_.blt hk; omega
    all_goals simp [Value.ownBlock] at e
  · rintro k (e | e)
    · refine ⟨fun hk => by have := h.at_.blt hk; omega, ?_⟩
      rintro (e | e | e | e)
      · omega
      all_goals simp [Value.ownBlock] at e
    · simp [Value.ownBlock] at e
end Go.Proofs.Ytgfiofogcnnkhaa
