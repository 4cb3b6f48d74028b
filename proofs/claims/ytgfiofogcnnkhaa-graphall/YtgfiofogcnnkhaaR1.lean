/- The document's graph in memory: its box, its lists, its marks. -/
import Derived.Test.YtgfiofogcnnkhaaH9
namespace Go.Proofs.Ytgfiofogcnnkhaa
open Go.RowKit Go.Sort
open Go

structure RV where
  vn : Value
  ve : Value
  vm : Value
  t : Nat → Prop
/-- The blocks of a graph of the document's that may change. -/
def RB (b : Nat) (V : RV) (i : Nat) : Prop := i = b ∨ V.vn.ownBlock = some i ∨ V.ve.ownBlock = some i ∨ V.vm.ownBlock = some i
/-- Where the states of marks must not lie. -/
def RN (b : Nat) (V : RV) (i : Nat) : Prop := RB b V i ∨ V.t i
/-- A list that lies apart from N. -/
def KI (w : World) (N : Nat → Prop) (v : Value) (l : List Int) : Prop := ∃ p c, v = .slice p l.length c ∧ (p = none → c = 0) ∧ IHas w p l ∧ ∀ a, p = some a → ¬ N a.block ∧ a.block < w.heap.size
def KE (w : World) (N : Nat → Prop) (v : Value) (l : List Ed) : Prop := ∃ p c, v = .slice p l.length c ∧ (p = none → c = 0) ∧ EHas w p l ∧ ∀ a, p = some a → ¬ N a.block ∧ a.block < w.heap.size
/-- A mark, as it lies. -/
structure MV where
  n : Int
  vn : Value
  ve : Value
  a : Int
  b : Int
def mvcells : List MV → List Value
  | [] => []
  | x :: r => .int .i64 x.n :: x.vn :: x.ve :: .int .i64 x.a :: .int .i64 x.b :: mvcells r
theorem mvcells_length : ∀ l : List MV, (mvcells l).length = l.length * 5
  | [] => rfl
  | x :: r => by simp only [mvcells, List.length_cons, mvcells_length r]; omega
theorem mvcells_append : ∀ l m : List MV, mvcells (l ++ m) = mvcells l ++ mvcells m
  | [], _ => rfl
  | x :: r, m => by simp only [List.cons_append, mvcells, mvcells_append r m]
def MAt (w : World) (N : Nat → Prop) (x : MV) (m : Int × Gr) : Prop := x.n = m.1 ∧ x.a = m.2.nn - 1 ∧ x.b = m.2.ne - 1 ∧ KI w N x.vn m.2.ns ∧ KE w N x.ve m.2.es
theorem KI.keep {w w' : World} {N N' p : Nat → Prop} {v : Value} {l : List Int} (h : KI w N v l) (hf : Frame w w' p) (hp : ∀ k, k < w.heap.size → p k → N k) (hN : ∀ k, N' k → N k ∨ w.heap.size ≤ k) : KI w' N' v l := by
  obtain ⟨q, c, h1, h2, h3, h4⟩ := h
  refine ⟨q, c, h1, h2, ?_, fun a ha => ?_⟩
  · rcases h3 with h3 | ⟨g, off, h5, h6⟩
    · exact Or.inl h3
    · obtain ⟨h7, h8⟩ := h4 _ h5
      exact Or.inr ⟨g, off, h5, fun j hj => hf.cell (h6 j hj) (fun h9 => h7 (hp _ h8 h9))⟩
  · obtain ⟨h7, h8⟩ := h4 a ha
    exact ⟨fun h9 => (hN _ h9).elim h7 (fun h => by omega), Nat.lt_of_lt_of_le h8 hf.size⟩
theorem KE.keep {w w' : World} {N N' p : Nat → Prop} {v : Value} {l : List Ed} (h : KE w N v l) (hf : Frame w w' p) (hp : ∀ k, k < w.heap.size → p k → N k) (hN : ∀ k, N' k → N k ∨ w.heap.size ≤ k) : KE w' N' v l := by
  obtain ⟨q, c, h1, h2, h3, h4⟩ := h
  refine ⟨q, c, h1, h2, ?_, fun a ha => ?_⟩
  · rcases h3 with h3 | ⟨g, h5, h6⟩
    · exact Or.inl h3
    · obtain ⟨h7, h8⟩ := h4 _ h5
      exact Or.inr ⟨g, h5, fun j hj => ⟨hf.cell (h6 j hj).1 (fun h9 => h7 (hp _ h8 h9)), hf.cell (h6 j hj).2.1 (fun h9 => h7 (hp _ h8 h9)), hf.cell (h6 j hj).2.2 (fun h9 => h7 (hp _ h8 h9))⟩⟩
  · obtain ⟨h7, h8⟩ := h4 a ha
    exact ⟨fun h9 => (hN _ h9).elim h7 (fun h => by omega), Nat.lt_of_lt_of_le h8 hf.size⟩
theorem MAt.keep {w w' : World} {N N' p : Nat → Prop} {x : MV} {m : Int × Gr} (h : MAt w N x m) (hf : Frame w w' p) (hp : ∀ k, k < w.heap.size → p k → N k) (hN : ∀ k, N' k → N k ∨ w.heap.size ≤ k) : MAt w' N' x m :=
  ⟨h.1, h.2.1, h.2.2.1, h.2.2.2.1.keep hf hp hN, h.2.2.2.2.keep hf hp hN⟩
/-- Marks. -/
def MAll (w : World) (N : Nat → Prop) (mv : List MV) (M : List (Int × Gr)) : Prop := mv.length = M.length ∧ ∀ (j : Nat) (x : MV) (m : Int × Gr), mv[j]? = some x → M[j]? = some m → MAt w N x m
theorem MAll.keep {w w' : World} {N N' p : Nat → Prop} {mv : List MV} {M : List (Int × Gr)} (h : MAll w N mv M) (hf : Frame w w' p) (hp : ∀ k, k < w.heap.size → p k → N k) (hN : ∀ k, N' k → N k ∨ w.heap.size ≤ k) : MAll w' N' mv M :=
  ⟨h.1, fun j x m h1 h2 => (h.2 j x m h1 h2).keep hf hp hN⟩
def rcells (V : RV) (G : Gr) (L : Int) : List Value := [V.vn, V.ve, .int .i64 (G.nn - 1), .int .i64 (G.ne - 1), V.vm, .int .i64 L]
/-- The document's graph: the same nodes, edges and next numbers as G's; marks; the last mark's number. -/
structure RAt (w : World) (b : Nat) (V : RV) (G : Gr) (M : List (Int × Gr)) (L : Int) : Prop where
  box : w.ownsRow 0 58 6 (.slice (some ⟨b, 0, none⟩) 1 1) 1 (rcells V G L)
  nod : IOwns w 0 V.vn G.ns
  edg : w.ownsRow 0 102 3 V.ve G.es.length (ecells G.es)
  mks : ∃ mv, w.ownsRow 0 106 5 V.vm M.length (mvcells mv) ∧ MAll w (RN b V) mv M ∧ ∀ k, V.t k → k < w.heap.size
structure RFr (w w' : World) (b : Nat) (V V' : RV) : Prop where
  fr : Frame w w' (RB b V)
  lie : ∀ k, RB b V' k → RB b V k ∨ w.heap.size ≤ k
  same : V'.t = V.t
theorem rn_lie {w : World} {b : Nat} {s s' : RV} (h : ∀ k, RB b s' k → RB b s k ∨ w.heap.size ≤ k) (ht : s'.t = s.t := by rfl) : ∀ k, RN b s' k → RN b s k ∨ w.heap.size ≤ k := fun k hk => hk.elim (fun h1 => (h k h1).imp Or.inl id) (fun h1 => Or.inl (Or.inr (by rw [← ht]; exact h1)))
theorem RFr.trans {w w' w'' : World} {b : Nat} {s s' s'' : RV} (h : RFr w w' b s s') (k : RFr w' w'' b s' s'') : RFr w w'' b s s'' := by
  have hs := h.fr.size
  refine ⟨⟨k.fr.os.trans h.fr.os, k.fr.tape.trans h.fr.tape, k.fr.output.trans h.fr.output, Nat.le_trans hs k.fr.size, fun i hi hp => ?_⟩, fun i hi => ?_, k.same.trans h.same⟩
  · rw [k.fr.block i (by omega) (fun h1 => (h.lie i h1).elim hp (fun h2 => by omega)), h.fr.block i hi hp]
  · rcases k.lie i hi with h1 | h1
    · exact h.lie i h1
    · exact Or.inr (by omega)
theorem RFr.of_below {w w' : World} {b : Nat} {s : RV} (h : Below w.heap.size w w') : RFr w w' b s s := ⟨Frame.of_below h _, fun _ h => Or.inl h, rfl⟩
theorem RAt.later {w w' : World} {b : Nat} {V : RV} {G : Gr} {M : List (Int × Gr)} {L : Int} (h : RAt w b V G M L) (hb : Below w.heap.size w w') : RAt w' b V G M L := by
  have hf : Frame w w' (fun _ => False) := Frame.of_below hb _
  obtain ⟨mv, h1, h2, tb⟩ := h.mks
  exact ⟨hf.row h.box (fun _ _ => id), hf.row h.nod (fun _ _ => id), hf.row h.edg (fun _ _ => id), mv, hf.row h1 (fun _ _ => id), h2.keep hf (fun _ _ => False.elim) (fun _ h => Or.inl h), fun i hi => Nat.lt_of_lt_of_le (tb i hi) hf.size⟩
theorem RAt.lt {w : World} {b : Nat} {V : RV} {G : Gr} {M : List (Int × Gr)} {L : Int} (h : RAt w b V G M L) : b < w.heap.size := own_lt h.box rfl
theorem RAt.cells {w : World} {b : Nat} {V : RV} {G : Gr} {M : List (Int × Gr)} {L : Int} (h : RAt w b V G M L) : w.cell? ⟨b, 0, none⟩ = some V.vn ∧ w.cell? ⟨b, 1, none⟩ = some V.ve ∧ w.cell? ⟨b, 2, none⟩ = some (.int .i64 (G.nn - 1)) ∧ w.cell? ⟨b, 3, none⟩ = some (.int .i64 (G.ne - 1)) ∧ w.cell? ⟨b, 4, none⟩ = some V.vm ∧ w.cell? ⟨b, 5, none⟩ = some (.int .i64 L) :=
  ⟨World.ownsRow.cellAt h.box 0 (by omega), World.ownsRow.cellAt h.box 1 (by omega), World.ownsRow.cellAt h.box 2 (by omega), World.ownsRow.cellAt h.box 3 (by omega), World.ownsRow.cellAt h.box 4 (by omega), World.ownsRow.cellAt h.box 5 (by omega)⟩
theorem RAt.free {w : World} {b : Nat} {V : RV} {G : Gr} {M : List (Int × Gr)} {L : Int} (h : RAt w b V G M L) (i : Nat) : w.frozen? ⟨b, i, none⟩ = false := World.ownsRow.frozenAt h.box i
theorem RAt.form {w : World} {b : Nat} {V : RV} {G : Gr} {M : List (Int × Gr)} {L : Int} (h : RAt w b V G M L) : ∃ pn cn pe ce pm cm t, V = ⟨.slice pn G.ns.length cn, .slice pe G.es.length ce, .slice pm M.length cm, t⟩ ∧ G.ns.length ≤ cn ∧ cn ≤ maxLen ∧ G.es.length ≤ ce ∧ ce ≤ maxLen ∧ M.length ≤ cm ∧ cm ≤ maxLen ∧ (pn = none → cn = 0) ∧ (pe = none → ce = 0) := by
  obtain ⟨vn, ve, vm, t⟩ := V
  obtain ⟨pn, cn, h1, h2, h3⟩ := row_form h.nod
  obtain ⟨pe, ce, h4, h5, h6⟩ := row_form h.edg
  obtain ⟨mv, o, _⟩ := h.mks
  obtain ⟨pm, cm, h7, h8, h9⟩ := row_form o
  simp only at h1 h4 h7
  subst h1 h4 h7
  refine ⟨pn, cn, pe, ce, pm, cm, t, rfl, h2, h3, h5, h6, h8, h9, fun hp => ?_, fun hp => ?_⟩
  · subst hp
    obtain ⟨_, ⟨k1, _⟩ | ⟨g2, c2, cur2, k1, _⟩⟩ := h.nod
    · simp only [Value.slice.injEq] at k1; exact k1.2.2
    · simp at k1
  · subst hp
    obtain ⟨_, ⟨k1, _⟩ | ⟨g2, c2, cur2, k1, _⟩⟩ := h.edg
    · simp only [Value.slice.injEq] at k1; exact k1.2.2
    · simp at k1
theorem rbox_ne {w : World} {b : Nat} {xs ys : List Value} {B e size n : Nat} {v : Value} (h : w.ownsRow 0 58 6 (.slice (some ⟨b, 0, none⟩) 1 1) 1 xs) (o : w.ownsRow B e size v n ys) (hne : e ≠ 58) : v.ownBlock ≠ some b := fun k => apart o h hne k rfl
theorem RAt.ne {w : World} {b : Nat} {V : RV} {G : Gr} {M : List (Int × Gr)} {L : Int} (h : RAt w b V G M L) : V.vn.ownBlock ≠ some b ∧ V.ve.ownBlock ≠ some b ∧ V.vm.ownBlock ≠ some b := by
  obtain ⟨mv, o, _⟩ := h.mks
  exact ⟨rbox_ne h.box h.nod (by decide), rbox_ne h.box h.edg (by decide), rbox_ne h.box o (by decide)⟩
theorem RAt.fresh {w : World} {b : Nat} {V : RV} {G : Gr} {M : List (Int × Gr)} {L : Int} (h : RAt w b V G M L) {k : Nat} (hk : w.heap.size ≤ k) : ¬ RB b V k := fun hgb => by
  obtain ⟨mv, o, _⟩ := h.mks
  rcases hgb with e | e | e | e
  · have := h.lt; omega
  · have := own_lt h.nod e; omega
  · have := own_lt h.edg e; omega
  · have := own_lt o e; omega
theorem RAt.tb {w : World} {b : Nat} {V : RV} {G : Gr} {M : List (Int × Gr)} {L : Int} (h : RAt w b V G M L) {k : Nat} (hk : V.t k) : k < w.heap.size := by
  obtain ⟨_, _, _, tb⟩ := h.mks
  exact tb k hk
theorem RAt.setC {w : World} {b : Nat} {V : RV} {G : Gr} {M : List (Int × Gr)} {L : Int} (h : RAt w b V G M L) (i : Nat) (u : Value) (G' : Gr) (L' : Int) (hc : (rcells V G L).set i u = rcells V G' L') (h1 : G'.ns = G.ns) (h2 : G'.es = G.es) : RAt (w.setCell ⟨b, i, none⟩ u) b V G' M L' ∧ RFr w (w.setCell ⟨b, i, none⟩ u) b V V := by
  obtain ⟨mv, o, k, tb⟩ := h.mks
  have hf : Frame w (w.setCell ⟨b, i, none⟩ u) (fun k => k = b) := Frame.set _ _ _ rfl
  refine ⟨⟨by rw [← hc]; exact (World.ownsRow.stored h.box i u).1, by rw [h1]; exact row_set h.nod (rbox_ne h.box h.nod (by decide)) u, by rw [h2]; exact row_set h.edg (rbox_ne h.box h.edg (by decide)) u, mv, row_set o (rbox_ne h.box o (by decide)) u, k.keep hf (fun k _ e => Or.inl (Or.inl e)) (fun _ h => Or.inl h), fun i hi => Nat.lt_of_lt_of_le (tb i hi) hf.size⟩, hf.mono (fun k _ e => Or.inl e), fun _ h => Or.inl h, rfl⟩
theorem RAt.setN {w w' : World} {b : Nat} {V : RV} {G : Gr} {M : List (Int × Gr)} {L : Int} (h : RAt w b V G M L) {v : Value} {l : List Int} (hf : Frame w w' (fun i => V.vn.ownBlock = some i)) (o : IOwns w' 0 v l) (hl : ∀ i, v.ownBlock = some i → V.vn.ownBlock = some i ∨ w.heap.size ≤ i) : RAt (w'.setCell ⟨b, 0, none⟩ v) b { V with vn := v } { G with ns := l } M L ∧ RFr w (w'.setCell ⟨b, 0, none⟩ v) b V { V with vn := v } := by
  obtain ⟨mv, om, k, tb⟩ := h.mks
  have x : w'.ownsRow 0 58 6 (.slice (some ⟨b, 0, none⟩) 1 1) 1 (rcells V G L) := hf.row h.box (fun i e => apart h.box h.nod (by decide) e)
  have xe := hf.row h.edg (fun i e => apart h.edg h.nod (by decide) e)
  have xm := hf.row om (fun i e => apart om h.nod (by decide) e)
  have hF : Frame w (w'.setCell ⟨b, 0, none⟩ v) (RB b V) := (hf.mono (fun k _ e => Or.inr (Or.inl e))).trans (Frame.set _ _ _ (Or.inl rfl))
  have hL : ∀ k, RB b { V with vn := v } k → RB b V k ∨ w.heap.size ≤ k := by
    rintro k (e | e | e)
    · exact Or.inl (Or.inl e)
    · exact (hl k e).imp (fun e => Or.inr (Or.inl e)) id
    · exact Or.inl (Or.inr (Or.inr e))
  exact ⟨⟨(World.ownsRow.stored x 0 v).1, row_set o (rbox_ne x o (by decide)) v, row_set xe (rbox_ne x xe (by decide)) v, mv, row_set xm (rbox_ne x xm (by decide)) v, k.keep hF (fun _ _ h => Or.inl h) (rn_lie hL), fun i hi => Nat.lt_of_lt_of_le (tb i hi) hF.size⟩, hF, hL, rfl⟩
theorem RAt.setEs {w w' : World} {b : Nat} {V : RV} {G : Gr} {M : List (Int × Gr)} {L : Int} (h : RAt w b V G M L) {v : Value} {l : List Ed} (hf : Frame w w' (fun i => V.ve.ownBlock = some i)) (o : w'.ownsRow 0 102 3 v l.length (ecells l)) (hl : ∀ i, v.ownBlock = some i → V.ve.ownBlock = some i ∨ w.heap.size ≤ i) : RAt (w'.setCell ⟨b, 1, none⟩ v) b { V with ve := v } { G with es := l } M L ∧ RFr w (w'.setCell ⟨b, 1, none⟩ v) b V { V with ve := v } := by
  obtain ⟨mv, om, k, tb⟩ := h.mks
  have x : w'.ownsRow 0 58 6 (.slice (some ⟨b, 0, none⟩) 1 1) 1 (rcells V G L) := hf.row h.box (fun i e => apart h.box h.edg (by decide) e)
  have xe := hf.row h.nod (fun i e => apart h.nod h.edg (by decide) e)
  have xm := hf.row om (fun i e => apart om h.edg (by decide) e)
  have hF : Frame w (w'.setCell ⟨b, 1, none⟩ v) (RB b V) := (hf.mono (fun k _ e => Or.inr (Or.inr (Or.inl e)))).trans (Frame.set _ _ _ (Or.inl rfl))
  have hL : ∀ k, RB b { V with ve := v } k → RB b V k ∨ w.heap.size ≤ k := by
    rintro k (e | e | e | e)
    · exact Or.inl (Or.inl e)
    · exact Or.inl (Or.inr (Or.inl e))
    · exact (hl k e).imp (fun e => Or.inr (Or.inr (Or.inl e))) id
    · exact Or.inl (Or.inr (Or.inr (Or.inr e)))
  exact ⟨⟨(World.ownsRow.stored x 1 v).1, row_set xe (rbox_ne x xe (by decide)) v, row_set o (rbox_ne x o (by decide)) v, mv, row_set xm (rbox_ne x xm (by decide)) v, k.keep hF (fun _ _ h => Or.inl h) (rn_lie hL), fun i hi => Nat.lt_of_lt_of_le (tb i hi) hF.size⟩, hF, hL, rfl⟩
theorem RAt.setMs {w w' : World} {b : Nat} {V : RV} {G : Gr} {M M' : List (Int × Gr)} {L : Int} (h : RAt w b V G M L) {v : Value} {mv' : List MV} (hf : Frame w w' (fun i => V.vm.ownBlock = some i)) (o : w'.ownsRow 0 106 5 v M'.length (mvcells mv')) (hl : ∀ i, v.ownBlock = some i → V.vm.ownBlock = some i ∨ w.heap.size ≤ i) (hu : MAll w (RN b V) mv' M') : RAt (w'.setCell ⟨b, 4, none⟩ v) b { V with vm := v } G M' L ∧ RFr w (w'.setCell ⟨b, 4, none⟩ v) b V { V with vm := v } := by
  obtain ⟨mv, om, k, tb⟩ := h.mks
  have x : w'.ownsRow 0 58 6 (.slice (some ⟨b, 0, none⟩) 1 1) 1 (rcells V G L) := hf.row h.box (fun i e => apart h.box om (by decide) e)
  have xe := hf.row h.nod (fun i e => apart h.nod om (by decide) e)
  have xm := hf.row h.edg (fun i e => apart h.edg om (by decide) e)
  have hF : Frame w (w'.setCell ⟨b, 4, none⟩ v) (RB b V) := (hf.mono (fun k _ e => Or.inr (Or.inr (Or.inr e)))).trans (Frame.set _ _ _ (Or.inl rfl))
  have hL : ∀ k, RB b { V with vm := v } k → RB b V k ∨ w.heap.size ≤ k := by
    rintro k (e | e | e | e)
    · exact Or.inl (Or.inl e)
    · exact Or.inl (Or.inr (Or.inl e))
    · exact Or.inl (Or.inr (Or.inr (Or.inl e)))
    · exact (hl k e).imp (fun e => Or.inr (Or.inr (Or.inr e))) id
  exact ⟨⟨(World.ownsRow.stored x 4 v).1, row_set xe (rbox_ne x xe (by decide)) v, row_set xm (rbox_ne x xm (by decide)) v, mv', row_set o (rbox_ne x o (by decide)) v, hu.keep hF (fun _ _ h => Or.inl h) (rn_lie hL), fun i hi => Nat.lt_of_lt_of_le (tb i hi) hF.size⟩, hF, hL, rfl⟩
/-- A call of the document's graph that answers v and leaves it as G'. -/
def RTurns (w : World) (b : Nat) (V : RV) (v : Value) (G' : Gr) (M' : List (Int × Gr)) (L' : Int) (e : Ending) (w' : World) : Prop := e = .returned v ∧ ∃ V', RAt w' b V' G' M' L' ∧ RFr w w' b V V'
theorem info102 : (Try.prog.info? 102).map (fun i => (i.zero, i.size, i.bytes)) = some (some (.agg #[.int .i64 0, .int .i64 0, .int .i64 0]), 3, 24) := by kernel_rfl
theorem info106 : (Try.prog.info? 106).map (fun i => (i.zero, i.size, i.bytes)) = some (some (.agg #[.int .i64 0, .slice none 0 0, .slice none 0 0, .int .i64 0, .int .i64 0]), 5, 72) := by kernel_rfl
/-- Where x stands, or -1. -/
def ixI (l : List Int) (x : Int) : Int := if x ∈ l then pl l x else -1
theorem own_e102 {w : World} {B : Nat} {p : Option Addr} {n c : Nat} {l : List Ed} (o : w.ownsRow B 102 3 (.slice p n c) l.length (ecells l)) : EHas w p l := by
  by_cases h0 : l.length = 0
  · exact Or.inl (List.length_eq_zero_iff.1 h0)
  · obtain ⟨g, rfl, rfl, _⟩ := own_some o (by omega)
    refine Or.inr ⟨g, rfl, fun j hj => ?_⟩
    obtain ⟨k0, k1, k2⟩ := ecells_at l j hj
    exact ⟨by rw [World.ownsRow.cellAt o (j * 3) (by omega)]; exact k0, by rw [World.ownsRow.cellAt o (j * 3 + 1) (by omega)]; exact k1, by rw [World.ownsRow.cellAt o (j * 3 + 2) (by omega)]; exact k2⟩
set_option maxRecDepth 100000 in
set_option maxHeartbeats 8000000 in
theorem node76 (b : Nat) (V : RV) (G : Gr) (M : List (Int × Gr)) (L x : Int) (w : World) (h : RAt w b V G M L) (hl : G.ns.length ≤ 5000) (hu : Up G.ns) : Calls Try.prog 76 #[ptr b, .int .i64 x] w fun e w' => e = .returned (.int .i64 (ixI G.ns x)) ∧ w' = w := by
  obtain ⟨q0, _⟩ := h.cells
  obtain ⟨pn, cn, pe, ce, pm, cm, _, hV, _⟩ := h.form
  have hn := h.nod
  rw [hV] at q0 hn
  have HI := hide (own_ihas hn)
  have HU := hide hu
  simp only at q0
  clear h hV hn hu
  go_enter Try.func76, Try.ntmps76
  go_wp2
  go_loopw [5] (fun t5 wr => ∃ k : Nat, k ≤ G.ns.length ∧ t5 = .int .i64 k ∧ wr = w ∧ Hid (∀ j, j < k → iat G.ns j ≠ x)) (fun t5 _ => G.ns.length - (intOf t5).toNat)
  case atStart => exact ⟨0, by omega, rfl, rfl, fun j hj => absurd hj (Nat.not_lt_zero _)⟩
  case round =>
    obtain ⟨k, hk, rfl, hw, HN⟩ := hrel
    have hw2 := hw.symm
    subst hw2
    by_cases hlt : k < G.ns.length
    · rcases HI.out with h | ⟨g, off, rfl, hc⟩
      · rw [h] at hlt; simp at hlt
      have c0 := hc k hlt
      obtain ⟨y, hy⟩ : ∃ y, iat G.ns k = y := ⟨_, rfl⟩
      rw [hy] at c0
      have HY := hide hy
      clear hc hy
      have e1 : (k : Int) < G.ns.length := by omega
      have e0 : (0 : Int) ≤ k := by omega
      by_cases hyx : y = x
      · have d1 : (y == x) = true := by simpa using hyx
        have HX := hide hyx
        clear hyx
        go_wp2_with fail
        go_ret
        refine ⟨?_, rfl⟩
        have hm : x ∈ G.ns := by rw [← HX.out, ← HY.out]; exact iat_mem hlt
        have hp : pl G.ns x = k := by rw [← HX.out, ← HY.out]; exact pl_of HU.out hlt
        unfold ixI
        rw [if_pos hm, hp]
        rfl
      · have d1 : (y == x) = false := by simpa using hyx
        have HX := hide hyx
        clear hyx
        go_wp2_with fail
        go_roundw
        case rel =>
          refine ⟨k + 1, by omega, by go_num, by first | rfl | trivial, fun j hj => ?_⟩
          by_cases hjk : j = k
          · rw [hjk, HY.out]; exact HX.out
          · exact HN.out j (by omega)
        case measure => simp [intOf]; omega
    · have e1 : ¬ (k : Int) < G.ns.length := by omega
      have HM : Hid (ixI G.ns x = -1) := by
        show _ = _
        unfold ixI
        exact if_neg (fun hm => by
          obtain ⟨j, hj, e⟩ := mem_iat hm
          exact HN.out j (by omega) e)
      go_wp2_with fail
      go_ret
      exact ⟨by rw [HM.out]; rfl, rfl⟩
set_option maxRecDepth 100000 in
set_option maxHeartbeats 8000000 in
theorem edge78 (b : Nat) (V : RV) (G : Gr) (M : List (Int × Gr)) (L x : Int) (w : World) (h : RAt w b V G M L) (hl : G.es.length ≤ 5000) (hu : Up (eids G.es)) : Calls Try.prog 78 #[ptr b, .int .i64 x] w fun e w' => e = .returned (.int .i64 (ixI (eids G.es) x)) ∧ w' = w := by
  obtain ⟨_, q1, _⟩ := h.cells
  obtain ⟨pn, cn, pe, ce, pm, cm, _, hV, _⟩ := h.form
  have hn := h.edg
  rw [hV] at q1 hn
  have HI := hide (own_e102 hn)
  have HU := hide hu
  simp only at q1
  clear h hV hn hu
  go_enter Try.func78, Try.ntmps78
  go_wp2
  go_loopw [5] (fun t5 wr => ∃ k : Nat, k ≤ G.es.length ∧ t5 = .int .i64 k ∧ wr = w ∧ Hid (∀ j, j < k → iat (eids G.es) j ≠ x)) (fun t5 _ => G.es.length - (intOf t5).toNat)
  case atStart => exact ⟨0, by omega, rfl, rfl, fun j hj => absurd hj (Nat.not_lt_zero _)⟩
  case round =>
    obtain ⟨k, hk, rfl, hw, HN⟩ := hrel
    have hw2 := hw.symm
    subst hw2
    by_cases hlt : k < G.es.length
    · rcases HI.out with h | ⟨g, rfl, hc⟩
      · rw [h] at hlt; simp at hlt
      have c0 := (hc k hlt).1
      obtain ⟨y, hy⟩ : ∃ y, (eat G.es k).id = y := ⟨_, rfl⟩
      have HY : Hid (iat (eids G.es) k = y) := by show _ = _; rw [eids_at hlt]; exact hy
      rw [hy] at c0
      clear hc hy
      have e1 : (k : Int) < G.es.length := by omega
      have e0 : (0 : Int) ≤ k := by omega
      by_cases hyx : y = x
      · have d1 : (y == x) = true := by simpa using hyx
        have HX := hide hyx
        clear hyx
        go_wp2_with fail
        go_ret
        refine ⟨?_, rfl⟩
        have hm : x ∈ eids G.es := by rw [← HX.out, ← HY.out]; exact iat_mem (by rw [eids_length]; exact hlt)
        have hp : pl (eids G.es) x = k := by rw [← HX.out, ← HY.out]; exact pl_of HU.out (by rw [eids_length]; exact hlt)
        unfold ixI
        rw [if_pos hm, hp]
        rfl
      · have d1 : (y == x) = false := by simpa using hyx
        have HX := hide hyx
        clear hyx
        go_wp2_with fail
        go_roundw
        case rel =>
          refine ⟨k + 1, by omega, by go_num, by first | rfl | trivial, fun j hj => ?_⟩
          by_cases hjk : j = k
          · rw [hjk, HY.out]; exact HX.out
          · exact HN.out j (by omega)
        case measure => simp [intOf]; omega
    · have e1 : ¬ (k : Int) < G.es.length := by omega
      have HM : Hid (ixI (eids G.es) x = -1) := by
        show _ = _
        unfold ixI
        exact if_neg (fun hm => by
          obtain ⟨j, hj, e⟩ := mem_iat hm
          rw [eids_length] at hj
          exact HN.out j (by omega) e)
      go_wp2_with fail
      go_ret
      exact ⟨by rw [HM.out]; rfl, rfl⟩
end Go.Proofs.Ytgfiofogcnnkhaa
