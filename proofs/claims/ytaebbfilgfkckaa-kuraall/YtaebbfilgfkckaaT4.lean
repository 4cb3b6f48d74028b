/- Join, in every world. -/
import Derived.Test.YtaebbfilgfkckaaT1
import Derived.Test.YtaebbfilgfkckaaT2
namespace Go.Proofs.Ytaebbfilgfkckaa
open Go.RowKit Go.Sort
open Go


theorem three_nets (w : World) (n m : Int) (p q : Option Addr) (l k c d : Nat) : ∃ W, W = ((w.alloc (nbx n p l c)).alloc (nbx m q k d)).alloc (nbx 0 none 0 0) ∧ Below w.heap.size w W ∧ NOwn W w.heap.size n p l c ∧ NOwn W (w.heap.size + 1) m q k d ∧ NOwn W (w.heap.size + 1 + 1) 0 none 0 0 := by
  refine ⟨_, rfl, by go_grown, ?_, ?_, ?_⟩
  · exact ⟨by unfold nbx; go_cell, by unfold nbx; go_cell, by unfold nbx; go_cell, by unfold nbx; go_cell⟩
  · exact ⟨by unfold nbx; go_cell, by unfold nbx; go_cell, by unfold nbx; go_cell, by unfold nbx; go_cell⟩
  · exact ⟨by unfold nbx; go_cell, by unfold nbx; go_cell, by unfold nbx; go_cell, by unfold nbx; go_cell⟩
def joinL (n : Int) (a b : List Pt) : List Pt := a ++ b.map fun e => ⟨n + e.x, n + e.y⟩
theorem joinL_length (n : Int) (a b : List Pt) : (joinL n a b).length = a.length + b.length := by simp [joinL]
theorem joinL_more (n : Int) (a b : List Pt) {i : Nat} (hi : i < b.length) : joinL n a (b.take (i + 1)) = joinL n a (b.take i) ++ [⟨n + (at' b i).x, n + (at' b i).y⟩] := by
  unfold joinL
  have e : at' b i = b[i] := by unfold at'; rw [List.getD_eq_getElem?_getD, List.getElem?_eq_getElem hi]; rfl
  rw [List.take_add_one, List.getElem?_eq_getElem hi, e, List.map_append, ← List.append_assoc]
  rfl
theorem wpList_run_append {P : Program} {w : World} {ops : Array Oper} {rest : List Oper} {o : Oper} {a : Act} {Q : Exit → Act → World → Prop} (hgd : o.guard = none) (s x : Operand) (t : TypeId)
    (ho : o.op = .call { callee := .builtin .append, args := #[s, x], argTypes := #[t, t] }) (ty : TypeId) (hty : o.type = ty) (vs vx v' : Value) (w' : World) (hs : a.eval s = vs) (hx : a.eval x = vx)
    (hr : (Builtin.append_ #[t, t] ty #[vs, vx]).run P w = .ok v' w') (h : wpList P ops Q rest (a.put o.dst v') w') : wpList P ops Q (o :: rest) a w := by
  subst hty
  refine wpList_plain hgd fun K hK => ?_
  unfold Oper.wp execOp
  simp only [ho, resolve, invoke, builtin, Sem.run_bind, Sem.run_pure, Result.andThen_ok, List.map_toArray, List.map_cons, List.map_nil, hs, hx, hr]
  exact hK _ _ h
def joinE (n m : Int) (a b : List Pt) : Int := if netB n a && netB m b then (if fitsB (n + m) (a.length + b.length) then 0 else 3) else 1
def JoinPost (n m : Int) (a b : List Pt) (w : World) (e : Ending) (w' : World) : Prop :=
  (joinE n m a b = 0 ∧ ∃ q c, e = .returned (.tuple #[nv (n + m) q (joinL n a b).length c, .int .i64 0]) ∧ Owns w' w.heap.size (.slice q (joinL n a b).length c) (joinL n a b)) ∨ (joinE n m a b ≠ 0 ∧ e = .returned (.tuple #[nv 0 none 0 0, .int .i64 (joinE n m a b)]))
end Go.Proofs.Ytaebbfilgfkckaa
