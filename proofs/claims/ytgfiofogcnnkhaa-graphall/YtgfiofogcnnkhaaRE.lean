/- Two graphs side by side: what the one does leaves the other as it was. -/
import Derived.Test.YtgfiofogcnnkhaaR1
namespace Go.Proofs.Ytgfiofogcnnkhaa
open Go.RowKit Go.Sort
open Go

/-- A territory that has grown by all that was laid since. -/
def grown (t : Nat → Prop) (w w' : World) (k : Nat) : Prop := t k ∨ (w.heap.size ≤ k ∧ k < w'.heap.size)
theorem GAt.across {w w' : World} {b : Nat} {s : GV} {G : Gr} {p : Nat → Prop} (h : GAt w b s G) (hf : Frame w w' p) (hp : ∀ k, p k → s.t k) (hd : ∀ k, GB b s k → ¬ s.t k) : GAt w' b { s with t := grown s.t w w' } G ∧ ∀ k, GB b { s with t := grown s.t w w' } k → ¬ grown s.t w w' k := by
  obtain ⟨fs, h1, h2, tb⟩ := h.don
  have hlt : ∀ k, GB b s k → k < w.heap.size := by
    rintro k (e | e | e | e | e)
    · have := h.lt; omega
    · exact own_lt h.nod e
    · exact own_lt h.edg e
    · exact own_lt h.mks e
    · exact own_lt h1 e
  refine ⟨⟨hf.row h.box (fun i e hi => ?_), hf.row h.nod (fun i e hi => hd i (Or.inr (Or.inl e)) (hp i hi)), hf.row h.edg (fun i e hi => hd i (Or.inr (Or.inr (Or.inl e))) (hp i hi)), hf.row h.mks (fun i e hi => hd i (Or.inr (Or.inr (Or.inr (Or.inl e)))) (hp i hi)), fs, hf.row h1 (fun i e hi => hd i (Or.inr (Or.inr (Or.inr (Or.inr e)))) (hp i hi)), h2.keep hf (fun k _ hk => Or.inr (hp k hk)) ?_, ?_⟩, ?_⟩
  · cases e
    exact hd _ (Or.inl rfl) (hp _ hi)
  · rintro k (hk | hk | hk)
    · exact Or.inl (Or.inl hk)
    · exact Or.inl (Or.inr hk)
    · exact Or.inr hk.1
  · rintro k (hk | hk)
    · exact Nat.lt_of_lt_of_le (tb k hk) hf.size
    · exact hk.2
  · rintro k hk (h3 | h3)
    · exact hd k hk h3
    · have := hlt k hk
      omega
theorem RAt.across {w w' : World} {b : Nat} {V : RV} {G : Gr} {M : List (Int × Gr)} {L : Int} {p : Nat → Prop} (h : RAt w b V G M L) (hf : Frame w w' p) (hp : ∀ k, p k → V.t k) (hd : ∀ k, RB b V k → ¬ V.t k) : RAt w' b { V with t := grown V.t w w' } G M L ∧ ∀ k, RB b { V with t := grown V.t w w' } k → ¬ grown V.t w w' k := by
  obtain ⟨mv, h1, h2, tb⟩ := h.mks
  have hlt : ∀ k, RB b V k → k < w.heap.size := by
    rintro k (e | e | e | e)
    · have := h.lt; omega
    · exact own_lt h.nod e
    · exact own_lt h.edg e
    · exact own_lt h1 e
  refine ⟨⟨hf.row h.box (fun i e hi => ?_), hf.row h.nod (fun i e hi => hd i (Or.inr (Or.inl e)) (hp i hi)), hf.row h.edg (fun i e hi => hd i (Or.inr (Or.inr (Or.inl e))) (hp i hi)), mv, hf.row h1 (fun i e hi => hd i (Or.inr (Or.inr (Or.inr e))) (hp i hi)), h2.keep hf (fun k _ hk => Or.inr (hp k hk)) ?_, ?_⟩, ?_⟩
  · cases e
    exact hd _ (Or.inl rfl) (hp _ hi)
  · rintro k (hk | hk | hk)
    · exact Or.inl (Or.inl hk)
    · exact Or.inl (Or.inr hk)
    · exact Or.inr hk.1
  · rintro k (hk | hk)
    · exact Nat.lt_of_lt_of_le (tb k hk) hf.size
    · exact hk.2
  · rintro k hk (h3 | h3)
    · exact hd k hk h3
    · have := hlt k hk
      omega
/-- The two graphs of a run: each one's blocks are the other's territory. -/
structure Two (w : World) (b br : Nat) (s : GV) (V : RV) (G R : Gr) (M : List (Int × Gr)) (L : Int) : Prop where
  ga : GAt w b s G
  ra : RAt w br V R M L
  d1 : ∀ k, GB b s k → V.t k
  d2 : ∀ k, RB br V k → s.t k
  e1 : ∀ k, GB b s k → ¬ s.t k
  e2 : ∀ k, RB br V k → ¬ V.t k
/-- The program's graph has been called. -/
theorem Two.onA {w w' : World} {b br : Nat} {s s' : GV} {V : RV} {G G' R : Gr} {M : List (Int × Gr)} {L : Int} (h : Two w b br s V G R M L) (g : GAt w' b s' G') (r : GFr w w' b s s') : Two w' b br s' { V with t := grown V.t w w' } G' R M L := by
  obtain ⟨r1, r2⟩ := h.ra.across r.fr h.d1 h.e2
  obtain ⟨fs, o, _⟩ := g.don
  have hlt : ∀ k, GB b s' k → k < w'.heap.size := by
    rintro k (e | e | e | e | e)
    · have := g.lt; omega
    · exact own_lt g.nod e
    · exact own_lt g.edg e
    · exact own_lt g.mks e
    · exact own_lt o e
  refine ⟨g, r1, fun k hk => ?_, fun k hk => ?_, fun k hk hk2 => ?_, r2⟩
  · rcases r.lie k hk with h1 | h1
    · exact Or.inl (h.d1 k h1)
    · exact Or.inr ⟨h1, hlt k hk⟩
  · rw [r.same]
    exact h.d2 k hk
  · rw [r.same] at hk2
    rcases r.lie k hk with h1 | h1
    · exact h.e1 k h1 hk2
    · obtain ⟨_, _, _, tb⟩ := h.ga.don
      have := tb k hk2
      omega
/-- The document's graph has been called. -/
theorem Two.onB {w w' : World} {b br : Nat} {s : GV} {V V' : RV} {G R R' : Gr} {M M' : List (Int × Gr)} {L L' : Int} (h : Two w b br s V G R M L) (g : RAt w' br V' R' M' L') (r : RFr w w' br V V') : Two w' b br { s with t := grown s.t w w' } V' G R' M' L' := by
  obtain ⟨r1, r2⟩ := h.ga.across r.fr h.d2 h.e1
  obtain ⟨mv, o, _⟩ := g.mks
  have hlt : ∀ k, RB br V' k → k < w'.heap.size := by
    rintro k (e | e | e | e)
    · have := g.lt; omega
    · exact own_lt g.nod e
    · exact own_lt g.edg e
    · exact own_lt o e
  refine ⟨r1, g, fun k hk => ?_, fun k hk => ?_, r2, fun k hk hk2 => ?_⟩
  · rw [r.same]
    exact h.d1 k hk
  · rcases r.lie k hk with h1 | h1
    · exact Or.inl (h.d2 k h1)
    · exact Or.inr ⟨h1, hlt k hk⟩
  · rw [r.same] at hk2
    rcases r.lie k hk with h1 | h1
    · exact h.e2 k h1 hk2
    · have := h.ra.tb hk2
      omega
end Go.Proofs.Ytgfiofogcnnkhaa
