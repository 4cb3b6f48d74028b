/- A tour in its box: a number set in it, a node put behind it. -/
import Derived.Test.YtghffodjffkijaaC4
namespace Go.Proofs.Ytghffodjffkijaa
open Go.RowKit Go.Sort
open Go

theorem TB.setFar {w : World} {B k n : Nat} {vo : Value} {gb gf : Nat} {vl : Value} {O By Fa : List Int} (t : TB w B k n vo gb gf vl O By Fa) (v : Nat) (x : Int) : TB (w.setCell ⟨gf, v, none⟩ (.int .i64 x)) B k n vo gb gf vl O By (Fa.set v x) := by
  obtain ⟨n1, n2, n3⟩ := t.kne
  exact ⟨ownsRow_setCell_other (a := ⟨gf, v, none⟩) t.box (by simp [Value.ownBlock]; omega) _, ownsRow_setCell_other (a := ⟨gf, v, none⟩) t.ord t.ne3 _, irow_other t.by_ (Ne.symm t.ne1) _, t.far.set v x, t.ne1, t.ne2, t.ne3⟩
theorem TB.setBy {w : World} {B k n : Nat} {vo : Value} {gb gf : Nat} {vl : Value} {O By Fa : List Int} (t : TB w B k n vo gb gf vl O By Fa) (v : Nat) (x : Int) : TB (w.setCell ⟨gb, v, none⟩ (.int .i64 x)) B k n vo gb gf vl O (By.set v x) Fa := by
  obtain ⟨n1, n2, n3⟩ := t.kne
  exact ⟨ownsRow_setCell_other (a := ⟨gb, v, none⟩) t.box (by simp [Value.ownBlock]; omega) _, ownsRow_setCell_other (a := ⟨gb, v, none⟩) t.ord t.ne2 _, t.by_.set v x, irow_other t.far t.ne1 _, t.ne1, t.ne2, t.ne3⟩
theorem TB.push {w : World} {B k n : Nat} {vo : Value} {gb gf : Nat} {vl : Value} {O By Fa : List Int} (t : TB w B k n vo gb gf vl O By Fa) (v : Nat) (hB : B ≤ w.heap.size) (hl : O.length ≤ 90000) :
    ∃ p1 l1 c1 D, (Builtin.append_ #[33, 33] 33 #[vo, .slice (some ⟨w.heap.size, 0, none⟩) 1 1]).run Try.prog (w.alloc (.cells #[.int .i64 v] 3)) = .ok (.slice p1 l1 c1) D ∧ D.cell? ⟨k, 0, none⟩ = some vo ∧ D.frozen? ⟨k, 0, none⟩ = false ∧
      TB (D.setCell ⟨k, 0, none⟩ (.slice p1 l1 c1)) B k n (.slice p1 l1 c1) gb gf vl (O ++ [(v : Int)]) By Fa ∧ Frame w (D.setCell ⟨k, 0, none⟩ (.slice p1 l1 c1)) (TBk k gb gf vo) ∧ ((Value.slice p1 l1 c1).ownBlock = vo.ownBlock ∨ ∃ i, (Value.slice p1 l1 c1).ownBlock = some i ∧ w.heap.size ≤ i) := by
  obtain ⟨n1, n2, n3⟩ := t.kne
  obtain ⟨U, hU⟩ : ∃ U, U = w.alloc (.cells #[.int .i64 v] 3) := ⟨_, rfl⟩
  have hbU : Below w.heap.size w U := by rw [hU]; go_grown
  have hsU : U.heap.size = w.heap.size + 1 := by rw [hU]; simp
  have hlit : U.cell? ⟨w.heap.size, 0, none⟩ = some (.int .i64 v) := by rw [hU]; exact one_int _ _
  have tU := t.later hbU
  obtain ⟨v1, D, e1, o1, gr, at1⟩ := append_int tU.ord hlit (by omega) hl
  obtain ⟨p1, l1, c1, rfl⟩ : ∃ p1 l1 c1, v1 = .slice p1 l1 c1 := by obtain ⟨p1, c1, h1, _⟩ := o1.form; exact ⟨_, _, _, h1⟩
  obtain ⟨p0, l0, c0, rfl⟩ : ∃ p0 l0 c0, vo = .slice p0 l0 c0 := by obtain ⟨p1, c1, h1, _⟩ := t.ord.form; exact ⟨_, _, _, h1⟩
  have dbox := World.ownsRow.kept tU.box gr (Or.inr (fun e => n3 (by rw [← e]; rfl)))
  have dby : IRow D B gb n By := ⟨tU.by_.1, World.ownsRow.kept tU.by_.2 gr (Or.inr (fun e => tU.ne2 (by rw [← e]; rfl)))⟩
  have dfa : IRow D B gf n Fa := ⟨tU.far.1, World.ownsRow.kept tU.far.2 gr (Or.inr (fun e => tU.ne3 (by rw [← e]; rfl)))⟩
  have hk1 : (Value.slice p1 l1 c1).ownBlock ≠ some k := by obtain ⟨cur, hk⟩ := row_kind dbox; exact row_apart hk o1 (by decide)
  have hg1 : (Value.slice p1 l1 c1).ownBlock ≠ some gb := by
    rcases at1 with e | e
    · rw [e]; exact t.ne2
    · rw [e, hsU]; have := t.by_.lt; intro e'; injection e' with e'; omega
  have hf1 : (Value.slice p1 l1 c1).ownBlock ≠ some gf := by
    rcases at1 with e | e
    · rw [e]; exact t.ne3
    · rw [e, hsU]; have := t.far.lt; intro e'; injection e' with e'; omega
  rw [hU] at e1
  refine ⟨p1, l1, c1, D, e1, World.ownsRow.cellAt dbox 0 (by omega), World.ownsRow.frozenAt dbox 0, ⟨(World.ownsRow.stored dbox 0 _).1, ownsRow_setCell_other o1 hk1 _, irow_other dby (Ne.symm n1) _, irow_other dfa (Ne.symm n2) _, t.ne1, hg1, hf1⟩, ?_, at1.imp id (fun e => ⟨_, e, by omega⟩)⟩
  exact ((Frame.of_below hbU _).trans (Frame.grown gr (fun i e => Or.inr (Or.inr (Or.inr e))))).trans (Frame.set _ _ _ (Or.inl rfl))
theorem SM.setFar {W wr : World} {B k n gb gf : Nat} {vo vl : Value} {st : St} (h : SM W wr B k n gb gf vo vl st) (v : Nat) (x : Int) : SM W (wr.setCell ⟨gf, v, none⟩ (.int .i64 x)) B k n gb gf vo vl ⟨st.O, st.By, st.Fa.set v x⟩ := by
  obtain ⟨vo', t, f, a⟩ := h
  exact ⟨vo', t.setFar v x, f.trans (Frame.set _ _ _ (Or.inr (Or.inr (Or.inl rfl)))), a⟩
theorem SM.setBy {W wr : World} {B k n gb gf : Nat} {vo vl : Value} {st : St} (h : SM W wr B k n gb gf vo vl st) (v : Nat) (x : Int) : SM W (wr.setCell ⟨gb, v, none⟩ (.int .i64 x)) B k n gb gf vo vl ⟨st.O, st.By.set v x, st.Fa⟩ := by
  obtain ⟨vo', t, f, a⟩ := h
  exact ⟨vo', t.setBy v x, f.trans (Frame.set _ _ _ (Or.inr (Or.inl rfl))), a⟩
end Go.Proofs.Ytghffodjffkijaa
