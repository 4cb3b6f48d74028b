/- The document's DropNode. -/
import Derived.Test.YtgfiofogcnnkhaaR7
namespace Go.Proofs.Ytgfiofogcnnkhaa
open Go.RowKit Go.Sort
open Go

theorem append_cellsI {w : World} {base : Nat} {v : Value} {l : List Int} (ho : IOwns w base v l) (a : Addr) (n cap : Nat) (qs : List Int) (hn : n = qs.length) (hnews : ∀ j u, (icells qs)[j]? = some u → w.cell? (a.add j) = some u) (hb : base ≤ w.heap.size) (hl : l.length + qs.length ≤ 90000) :
    ∃ p c w', (Builtin.append_ #[38, 38] 38 #[v, .slice (some a) n cap]).run Try.prog w = .ok (.slice p (l ++ qs).length c) w' ∧ IOwns w' base (.slice p (l ++ qs).length c) (l ++ qs) ∧ w.grownBy w' v.ownBlock := by
  obtain ⟨i0, hi0, hz0, hz1, hz2⟩ := info_parts info3
  subst hn
  obtain ⟨v', w', h1, h2, h3, _⟩ := run_append_own (P := Try.prog) w base 38 38 3 i0 (.int .i64 0) 1 8 Try.underlying38 hi0 hz0 hz1 hz2 rfl (by decide) v l.length (icells l) ho a qs.length cap (icells qs) (icells_length qs) hnews (icells_one qs) (by unfold maxLen; omega) (by omega) hb
  have h4 : IOwns w' base v' (l ++ qs) := by unfold IOwns; rw [List.length_append, icells_append]; exact h2
  obtain ⟨p, c, rfl, _⟩ := row_form h4
  exact ⟨p, c, w', h1, h4, h3⟩
/-- A state in a box of its own. -/
structure SAt (w : World) (B k : Nat) (vn ve : Value) (nd ei : Int) (ns : List Int) (es : List Ed) : Prop where
  box : w.ownsRow B 55 4 (.slice (some ⟨k, 0, none⟩) 1 1) 1 [vn, ve, .int .i64 nd, .int .i64 ei]
  nod : IOwns w B vn ns
  edg : w.ownsRow B 102 3 ve es.length (ecells es)
theorem SAt.c0 {w : World} {B k : Nat} {vn ve : Value} {nd ei : Int} {ns : List Int} {es : List Ed} (h : SAt w B k vn ve nd ei ns es) : w.cell? ⟨k, 0, none⟩ = some vn := World.ownsRow.cellAt h.box 0 (by omega)
theorem SAt.c1 {w : World} {B k : Nat} {vn ve : Value} {nd ei : Int} {ns : List Int} {es : List Ed} (h : SAt w B k vn ve nd ei ns es) : w.cell? ⟨k, 1, none⟩ = some ve := World.ownsRow.cellAt h.box 1 (by omega)
theorem SAt.c2 {w : World} {B k : Nat} {vn ve : Value} {nd ei : Int} {ns : List Int} {es : List Ed} (h : SAt w B k vn ve nd ei ns es) : w.cell? ⟨k, 2, none⟩ = some (.int .i64 nd) := World.ownsRow.cellAt h.box 2 (by omega)
theorem SAt.c3 {w : World} {B k : Nat} {vn ve : Value} {nd ei : Int} {ns : List Int} {es : List Ed} (h : SAt w B k vn ve nd ei ns es) : w.cell? ⟨k, 3, none⟩ = some (.int .i64 ei) := World.ownsRow.cellAt h.box 3 (by omega)
theorem SAt.free {w : World} {B k : Nat} {vn ve : Value} {nd ei : Int} {ns : List Int} {es : List Ed} (h : SAt w B k vn ve nd ei ns es) (i : Nat) : w.frozen? ⟨k, i, none⟩ = false := World.ownsRow.frozenAt h.box i
theorem SAt.lt {w : World} {B k : Nat} {vn ve : Value} {nd ei : Int} {ns : List Int} {es : List Ed} (h : SAt w B k vn ve nd ei ns es) : B ≤ k ∧ k < w.heap.size := World.ownsRow.lt h.box k rfl
theorem SAt.later {w w' : World} {B k : Nat} {vn ve : Value} {nd ei : Int} {ns : List Int} {es : List Ed} (h : SAt w B k vn ve nd ei ns es) (hb : Below w.heap.size w w') : SAt w' B k vn ve nd ei ns es := by
  have hf : Frame w w' (fun _ => False) := Frame.of_below hb _
  exact ⟨hf.row h.box (fun _ _ => id), hf.row h.nod (fun _ _ => id), hf.row h.edg (fun _ _ => id)⟩
theorem SAt.setN {w w' : World} {B k : Nat} {vn ve v : Value} {nd ei : Int} {ns l : List Int} {es : List Ed} (h : SAt w B k vn ve nd ei ns es) (hb : Below w.heap.size w w') (o : IOwns w' B v l) : SAt (w'.setCell ⟨k, 0, none⟩ v) B k v ve nd ei l es := by
  have h2 := h.later hb
  have hne : ∀ {B2 e size n : Nat} {u : Value} {xs : List Value}, w'.ownsRow B2 e size u n xs → e ≠ 55 → u.ownBlock ≠ some k := fun o2 hne e => apart o2 h2.box hne e rfl
  exact ⟨(World.ownsRow.stored h2.box 0 v).1, row_set o (hne o (by decide)) v, row_set h2.edg (hne h2.edg (by decide)) v⟩
theorem SAt.setE {w w' : World} {B k : Nat} {vn ve v : Value} {nd ei : Int} {ns : List Int} {es l : List Ed} (h : SAt w B k vn ve nd ei ns es) (hf : Frame w w' (fun i => ve.ownBlock = some i)) (o : w'.ownsRow B 102 3 v l.length (ecells l)) : SAt (w'.setCell ⟨k, 1, none⟩ v) B k vn v nd ei ns l := by
  have xb := hf.row h.box (fun i e => apart h.box h.edg (by decide) e)
  have xn := hf.row h.nod (fun i e => apart h.nod h.edg (by decide) e)
  have hne : ∀ {B2 e size n : Nat} {u : Value} {xs : List Value}, w'.ownsRow B2 e size u n xs → e ≠ 55 → u.ownBlock ≠ some k := fun o2 hne e => apart o2 xb hne e rfl
  exact ⟨(World.ownsRow.stored xb 1 v).1, row_set xn (hne xn (by decide)) v, row_set o (hne o (by decide)) v⟩
/-- The whole state is laid into the graph. -/
theorem RAt.setS {w w' : World} {b : Nat} {V : RV} {G : Gr} {M : List (Int × Gr)} {L : Int} (h : RAt w b V G M L) (hb : Below w.heap.size w w') {vn ve : Value} {ns : List Int} {es : List Ed} (on : IOwns w' w.heap.size vn ns) (oe : w'.ownsRow w.heap.size 102 3 ve es.length (ecells es)) : RAt ((((w'.setCell ⟨b, 0, none⟩ vn).setCell ⟨b, 1, none⟩ ve).setCell ⟨b, 2, none⟩ (.int .i64 (G.nn - 1))).setCell ⟨b, 3, none⟩ (.int .i64 (G.ne - 1))) b ⟨vn, ve, V.vm, V.t⟩ { G with ns := ns, es := es } M L ∧ RFr w ((((w'.setCell ⟨b, 0, none⟩ vn).setCell ⟨b, 1, none⟩ ve).setCell ⟨b, 2, none⟩ (.int .i64 (G.nn - 1))).setCell ⟨b, 3, none⟩ (.int .i64 (G.ne - 1))) b V ⟨vn, ve, V.vm, V.t⟩ := by
  have hlt := h.lt
  obtain ⟨g1, r1⟩ := h.setN (w' := w') (v := vn) (l := ns) (Frame.of_below hb _) (owns_base on (Nat.zero_le _)) (fun i hi => Or.inr (World.ownsRow.lt on i hi).1)
  have oe2 : (w'.setCell ⟨b, 0, none⟩ vn).ownsRow 0 102 3 ve es.length (ecells es) := owns_base (row_set oe (fun e => by have h' : w.heap.size ≤ b := (World.ownsRow.lt oe _ e).1; omega) vn) (Nat.zero_le _)
  have hge : ∀ i, ve.ownBlock = some i → w.heap.size ≤ i := fun i hi => (World.ownsRow.lt oe i hi).1
  have hd : ∀ i, V.ve.ownBlock = some i → ve.ownBlock = some i → False := fun i h1 h2 => by
    have := hge i h2
    have := own_lt h.edg h1
    omega
  have hF : Frame w ((w'.setCell ⟨b, 0, none⟩ vn).setCell ⟨b, 1, none⟩ ve) (RB b V) := r1.fr.trans (Frame.set _ _ _ (Or.inl rfl))
  have hL : ∀ k, RB b ⟨vn, ve, V.vm, V.t⟩ k → RB b V k ∨ w.heap.size ≤ k := by
    rintro k (e | e | e | e)
    · exact Or.inl (Or.inl e)
    · exact Or.inr ((World.ownsRow.lt on k e).1)
    · exact Or.inr (hge k e)
    · exact Or.inl (Or.inr (Or.inr (Or.inr e)))
  have g2 : RAt ((w'.setCell ⟨b, 0, none⟩ vn).setCell ⟨b, 1, none⟩ ve) b ⟨vn, ve, V.vm, V.t⟩ { G with ns := ns, es := es } M L := by
    obtain ⟨mv0, om0, hma0, tb⟩ := h.mks
    refine ⟨(World.ownsRow.stored g1.box 1 ve).1, row_set g1.nod (rbox_ne g1.box g1.nod (by decide)) ve, row_set oe2 (rbox_ne g1.box oe2 (by decide)) ve, mv0, ?_, hma0.keep hF (fun _ _ h => Or.inl h) (rn_lie hL), fun i hi => Nat.lt_of_lt_of_le (tb i hi) hF.size⟩
    have omw := (Frame.of_below hb (fun _ => False)).row om0 (fun _ _ => id)
    have x1 := row_set omw (i := 0) (b := b) (h.ne.2.2) vn
    exact row_set x1 (i := 1) (b := b) (h.ne.2.2) ve
  obtain ⟨g3, r3⟩ := g2.setC 2 (.int .i64 (G.nn - 1)) { G with ns := ns, es := es } L rfl rfl rfl
  obtain ⟨g4, r4⟩ := g3.setC 3 (.int .i64 (G.ne - 1)) { G with ns := ns, es := es } L rfl rfl rfl
  exact ⟨g4, (RFr.mk hF hL rfl).trans (r3.trans r4)⟩
def fl (l : List Ed) (v : Int) (k : Nat) : List Ed := (l.take k).filter (fun e => !touB v e)
theorem fl_more {l : List Ed} {v : Int} {k : Nat} (h : k < l.length) : fl l v (k + 1) = fl l v k ++ (if touB v (eat l k) then [] else [eat l k]) := by
  unfold fl
  have htk : l.take (k + 1) = l.take k ++ [eat l k] := by
    rw [List.take_add_one, List.getElem?_eq_getElem h]
    unfold eat
    rw [List.getD_eq_getElem?_getD, List.getElem?_eq_getElem h]
    rfl
  rw [htk, List.filter_append]
  congr 1
  cases ht : touB v (eat l k) <;> simp [ht]
theorem fl_length (l : List Ed) (v : Int) (k : Nat) : (fl l v k).length ≤ l.length := Nat.le_trans (List.length_filter_le _ _) (List.length_take_le' _ _)
theorem fl_all (G : Gr) (v : Int) : fl G.es v G.es.length = (dpE G (plAt G v)).es ∧ G.es.length = (fl G.es v G.es.length).length + (plAt G v).length := by
  have h1 : fl G.es v G.es.length = (dpE G (plAt G v)).es := by unfold fl; rw [List.take_length, dpE_all]
  have h2 := dpE_len G v (plAt G v).length (Nat.le_refl _)
  rw [Nat.sub_self, List.drop_zero] at h2
  have h3 := atN_length G.es v G.es.length
  have h4 : (plAt G v).length ≤ G.es.length := h3
  exact ⟨h1, by rw [h1, h2]; omega⟩
end Go.Proofs.Ytgfiofogcnnkhaa
