/- slices.Repeat of one number. -/
import Derived.Test.YtllkadgpkbaghaaA3
import Derived.WalkSmall
namespace Go.Proofs.Ytllkadgpkbaghaa
open Go.RowKit Go.Sort
open Go


theorem and_mask (n : Nat) (h : n ≤ 100000) : bits BinOp.and IntKind.u64 (n : Int) 4294967295 = n := by
  have h1 := bits_and_u64_nat n 4294967295 (by omega) (by omega)
  have h2 : n &&& 4294967295 = n := by
    rw [show (4294967295 : Nat) = 2 ^ 32 - 1 by decide, Nat.and_two_pow_sub_one_eq_mod, Nat.mod_eq_of_lt (by omega)]
  rw [h2] at h1
  exact h1
set_option maxRecDepth 100000 in
set_option maxHeartbeats 4000000 in
theorem mul63 (n : Nat) (hn : n ≤ 100000) (w : World) : Calls Try.prog 90 #[.int .u64 1, .int .u64 n] w fun e w' => e = .returned (.tuple #[.int .u64 0, .int .u64 n]) ∧ w' = w := by
  have hA := and_mask n hn
  have h1 : bits BinOp.and IntKind.u64 1 4294967295 = 1 := by decide
  have h0 : bits BinOp.and IntKind.u64 0 4294967295 = 0 := by decide
  have hw : IntKind.u64.wrap (n : Int) = n := by rw [IntKind.wrap_u64]; omega
  have hd : (n : Int) / 4294967296 = 0 := by omega
  go_enter Try.func90, Try.ntmps90
  go_wp2
  go_ret2
  exact ⟨rfl, rfl⟩
set_option maxHeartbeats 1000000 in
theorem mul60 (n : Nat) (hn : n ≤ 100000) (w : World) : Calls Try.prog 85 #[.int .u64 1, .int .u64 n] w fun e w' => e = .returned (.tuple #[.int .u64 0, .int .u64 n]) ∧ w' = w := by
  have M := hide (mul63 n hn w)
  go_enter Try.func85, Try.ntmps85
  go_wp2_with fail
  refine M.out.mono ?_
  rintro e w' ⟨rfl, hw⟩
  subst hw
  go_wp2
  go_ret2
  exact ⟨rfl, rfl⟩
theorem fill_split (n k c : Nat) (x : Int) (h : k + c ≤ n) : (icells (fillL n k x)).take k ++ List.replicate c (.int .i64 x) ++ (icells (fillL n k x)).drop (k + c) = icells (fillL n (k + c) x) := by
  unfold fillL icells
  rw [List.map_append, List.map_append, List.map_replicate, List.map_replicate, List.map_replicate, List.map_replicate]
  rw [List.take_append_of_le_length (by simp), List.take_of_length_le (by simp), List.drop_append, List.drop_of_length_le (by simp), List.nil_append, List.length_replicate, List.drop_replicate, List.replicate_append_replicate]
  congr 2
  omega
/-- More of the same number, copied behind what is there. -/
theorem fill_copy {w : World} {B g n k c : Nat} {x : Int} (ty : TypeId) (h : IRow w B g n (fillL n k x)) (hk : k ≤ n) (a : Addr) (sLen sCap dCap : Nat) (hc : c = Nat.min sLen (n - k)) (hsrc : ∀ j, j < c → w.cell? (a.add j) = some (.int .i64 x)) :
    ∃ W, (Builtin.copy_ #[27, 27] ty #[.slice (some ⟨g, k, none⟩) (n - k) dCap, .slice (some a) sLen sCap]).run Try.prog w = .ok (.int .i64 c) W ∧ IRow W B g n (fillL n (k + c) x) ∧ Below B w W := by
  have hcn : c ≤ n - k := by rw [hc]; exact Nat.min_le_right _ _
  have ho := h.owns
  obtain ⟨hxs, ⟨h1, _⟩ | ⟨g1, cap, cur, h1, hb, hg, h4, h5, h6, h7⟩⟩ := ho
  · cases h1
  simp only [Value.slice.injEq, Option.some.injEq, Addr.mk.injEq, and_true] at h1
  obtain ⟨rfl, _, rfl⟩ := h1
  have hlen : (fillL n k x).length = n := h.1
  have hcur : cur.toList = icells (fillL n k x) := by
    rw [← h7, hlen]
    rw [List.take_of_length_le (by simp; omega)]
  have e := run_copy_row (P := Try.prog) w 27 27 ty 3 g k (n - k) dCap a sLen sCap cur 3 (List.replicate c (.int .i64 x)) Try.underlying27 (by kernel_rfl) hg (by rw [List.length_replicate]; exact hc) (by
    intro j v hj
    rw [List.getElem?_replicate] at hj
    split at hj
    · rename_i hj2; cases hj; exact hsrc j hj2
    · cases hj) (by rw [List.length_replicate, h6]; omega) (by intro v hv; rw [List.mem_replicate] at hv; rw [hv.2]; rfl)
  rw [List.length_replicate, hcur, fill_split n k c x (by omega)] at e
  refine ⟨_, e, ⟨fillL_length n (k + c) x (by omega), ?_⟩, ?_⟩
  · unfold IOwns
    rw [fillL_length n (k + c) x (by omega)]
    refine ⟨by simp [icells, fillL_length n (k + c) x (by omega)], Or.inr ⟨g, n, _, rfl, hb, setRow_heap w g cur _ 3 _ hg, Nat.le_refl _, h5, by simp [icells, fillL_length n (k + c) x (by omega)], ?_⟩⟩
    rw [List.take_of_length_le (by simp [icells, fillL_length n (k + c) x (by omega)])]
  · exact ⟨rfl, rfl, rfl, by simp, fun i hi => setRow_other w g i _ (by omega)⟩
theorem step_run_copy {P : Program} {w : World} {ops : Array Oper} {o : Oper} {a : Act} {K : Act → World → Prop} {Q : Exit → Act → World → Prop} {E : Prop} (hgd : o.guard = none) (s x : Operand) (t : TypeId)
    (ho : o.op = .call { callee := .builtin .copy, args := #[s, x], argTypes := #[t, t] }) (ty : TypeId) (hty : o.type = ty) (vs vx v' : Value) (w' : World) (hs : a.eval s = vs) (hx : a.eval x = vx)
    (hr : (Builtin.copy_ #[t, t] ty #[vs, vx]).run P w = .ok v' w') (h : K (a.put o.dst v') w') :
    if Region.wanted o (yielded ops a.tmps) = true then Oper.wp P o a w K Q else E := by
  subst hty
  rw [if_pos (by unfold Region.wanted; rw [hgd])]
  unfold Oper.wp execOp
  simp only [ho, resolve, invoke, builtin, Sem.run_bind, Sem.run_pure, Result.andThen_ok, List.map_toArray, List.map_cons, List.map_nil, hs, hx, hr]
  exact h
theorem wpList_run_copy {P : Program} {w : World} {ops : Array Oper} {rest : List Oper} {o : Oper} {a : Act} {Q : Exit → Act → World → Prop} (hgd : o.guard = none) (s x : Operand) (t : TypeId)
    (ho : o.op = .call { callee := .builtin .copy, args := #[s, x], argTypes := #[t, t] }) (ty : TypeId) (hty : o.type = ty) (vs vx v' : Value) (w' : World) (hs : a.eval s = vs) (hx : a.eval x = vx)
    (hr : (Builtin.copy_ #[t, t] ty #[vs, vx]).run P w = .ok v' w') (h : wpList P ops Q rest (a.put o.dst v') w') : wpList P ops Q (o :: rest) a w := by
  subst hty
  refine wpList_plain hgd fun K hK => ?_
  unfold Oper.wp execOp
  simp only [ho, resolve, invoke, builtin, Sem.run_bind, Sem.run_pure, Result.andThen_ok, List.map_toArray, List.map_cons, List.map_nil, hs, hx, hr]
  exact hK _ _ h
end Go.Proofs.Ytllkadgpkbaghaa
