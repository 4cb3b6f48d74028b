/- slices.Repeat of one number (carried). -/
import Derived.Test.YtobkejnlkjieoaaZC02
import Derived.Test.YtobkejnlkjieoaaZC12
import Derived.WalkSmall
import Derived.Deep.RegionHeld3
namespace Go.Proofs.Ytobkejnlkjieoaa
open Go.RowKit Go.Sort
open Go

theorem and_mask (n : Nat) (h : n ≤ 100000) : bits BinOp.and IntKind.u64 (n : Int) 4294967295 = n := by
  have h1 := bits_and_u64_nat n 4294967295 (by omega) (by omega)
  have h2 : n &&& 4294967295 = n := by
    rw [show (4294967295 : Nat) = 2 ^ 32 - 1 by decide, Nat.and_two_pow_sub_one_eq_mod, Nat.mod_eq_of_lt (by omega)]
  rw [h2] at h1
  exact h1
set_option maxRecDepth 100000 in
set_option maxHeartbeats 4000000 in
theorem mul63 (n : Nat) (hn : n ≤ 100000) (w : World) : Calls Try.prog 87 #[.int .u64 1, .int .u64 n] w fun e w' => e = .returned (.tuple #[.int .u64 0, .int .u64 n]) ∧ w' = w := by
  have hA := and_mask n hn
  have h1 : bits BinOp.and IntKind.u64 1 4294967295 = 1 := by decide
  have h0 : bits BinOp.and IntKind.u64 0 4294967295 = 0 := by decide
  have hw : IntKind.u64.wrap (n : Int) = n := by rw [IntKind.wrap_u64]; omega
  have hd : (n : Int) / 4294967296 = 0 := by omega
  go_enter Try.func87, Try.ntmps87
  go_wp2
  go_ret2
  exact ⟨rfl, rfl⟩
set_option maxHeartbeats 1000000 in
theorem mul60 (n : Nat) (hn : n ≤ 100000) (w : World) : Calls Try.prog 77 #[.int .u64 1, .int .u64 n] w fun e w' => e = .returned (.tuple #[.int .u64 0, .int .u64 n]) ∧ w' = w := by
  have M := hide (mul63 n hn w)
  go_enter Try.func77, Try.ntmps77
  go_wp2_with fail
  refine M.out.mono ?_
  rintro e w' ⟨rfl, hw⟩
  subst hw
  go_wp2
  go_ret2
  exact ⟨rfl, rfl⟩
theorem fill_split (n k c : Nat) (x : Int) (h : k + c ≤ n) : (icells (fillL n k x)).take k ++ List.replicate c (.int .i64 x) ++ (icells (fillL n k x)).drop (k + c) = icells (fillL n (k + c) x) := by
  unfold fillL icells
  rw [List.map_append, List.map_append, List.map_replicate, List.map_replicate, List.map_replicate, List.map_replicate]
  rw [List.take_append_of_le_length (by simp), List.take_of_length_le (by simp), List.drop_append, List.drop_of_length_le (by simp), List.nil_append, List.length_replicate, List.drop_replicate, List.replicate_append_replicate]
  congr 2
  omega
/-- More of the same number, copied behind what is there. -/
theorem fill_copy {w : World} {B g n k c : Nat} {x : Int} (ty : TypeId) (h : IRow w B g n (fillL n k x)) (hk : k ≤ n) (a : Addr) (sLen sCap dCap : Nat) (hc : c = Nat.min sLen (n - k)) (hsrc : ∀ j, j < c → w.cell? (a.add j) = some (.int .i64 x)) :
    ∃ W, (Builtin.copy_ #[32, 32] ty #[.slice (some ⟨g, k, none⟩) (n - k) dCap, .slice (some a) sLen sCap]).run Try.prog w = .ok (.int .i64 c) W ∧ IRow W B g n (fillL n (k + c) x) ∧ Below B w W := by
  have hcn : c ≤ n - k := by rw [hc]; exact Nat.min_le_right _ _
  have ho := h.owns
  obtain ⟨hxs, ⟨h1, _⟩ | ⟨g1, cap, cur, h1, hb, hg, h4, h5, h6, h7⟩⟩ := ho
  · cases h1
  simp only [Value.slice.injEq, Option.some.injEq, Addr.mk.injEq, and_true] at h1
  obtain ⟨rfl, _, rfl⟩ := h1
  have hlen : (fillL n k x).length = n := h.1
  have hcur : cur.toList = icells (fillL n k x) := by
    rw [← h7, hlen]
    rw [List.take_of_length_le (by simp; omega)]
  have e := run_copy_row (P := Try.prog) w 32 32 ty 3 g k (n - k) dCap a sLen sCap cur 3 (List.replicate c (.int .i64 x)) Try.underlying32 (by kernel_rfl) hg (by rw [List.length_replicate]; exact hc) (by
    intro j v hj
    rw [List.getElem?_replicate] at hj
    split at hj
    · rename_i hj2; cases hj; exact hsrc j hj2
    · cases hj) (by rw [List.length_replicate, h6]; omega) (by intro v hv; rw [List.mem_replicate] at hv; rw [hv.2]; rfl)
  rw [List.length_replicate, hcur, fill_split n k c x (by omega)] at e
  refine ⟨_, e, ⟨fillL_length n (k + c) x (by omega), ?_⟩, ?_⟩
  · unfold IOwns
    rw [fillL_length n (k + c) x (by omega)]
    refine ⟨by simp [icells, fillL_length n (k + c) x (by omega)], Or.inr ⟨g, n, _, rfl, hb, setRow_heap w g cur _ 3 _ hg, Nat.le_refl _, h5, by simp [icells, fillL_length n (k + c) x (by omega)], ?_⟩⟩
    rw [List.take_of_length_le (by simp [icells, fillL_length n (k + c) x (by omega)])]
  · exact ⟨rfl, rfl, rfl, by simp, fun i hi => setRow_other w g i _ (by omega)⟩
theorem step_run_copy {P : Program} {w : World} {ops : Array Oper} {o : Oper} {a : Act} {K : Act → World → Prop} {Q : Exit → Act → World → Prop} {E : Prop} (hgd : o.guard = none) (s x : Operand) (t : TypeId)
    (ho : o.op = .call { callee := .builtin .copy, args := #[s, x], argTypes := #[t, t] }) (ty : TypeId) (hty : o.type = ty) (vs vx v' : Value) (w' : World) (hs : a.eval s = vs) (hx : a.eval x = vx)
    (hr : (Builtin.copy_ #[t, t] ty #[vs, vx]).run P w = .ok v' w') (h : K (a.put o.dst v') w') :
    if Region.wanted o (yielded ops a.tmps) = true then Oper.wp P o a w K Q else E := by
  subst hty
  rw [if_pos (by unfold Region.wanted; rw [hgd])]
  unfold Oper.wp execOp
  simp only [ho, resolve, invoke, builtin, Sem.run_bind, Sem.run_pure, Result.andThen_ok, List.map_toArray, List.map_cons, List.map_nil, hs, hx, hr]
  exact h
theorem wpList_run_copy {P : Program} {w : World} {ops : Array Oper} {rest : List Oper} {o : Oper} {a : Act} {Q : Exit → Act → World → Prop} (hgd : o.guard = none) (s x : Operand) (t : TypeId)
    (ho : o.op = .call { callee := .builtin .copy, args := #[s, x], argTypes := #[t, t] }) (ty : TypeId) (hty : o.type = ty) (vs vx v' : Value) (w' : World) (hs : a.eval s = vs) (hx : a.eval x = vx)
    (hr : (Builtin.copy_ #[t, t] ty #[vs, vx]).run P w = .ok v' w') (h : wpList P ops Q rest (a.put o.dst v') w') : wpList P ops Q (o :: rest) a w := by
  subst hty
  refine wpList_plain hgd fun K hK => ?_
  unfold Oper.wp execOp
  simp only [ho, resolve, invoke, builtin, Sem.run_bind, Sem.run_pure, Result.andThen_ok, List.map_toArray, List.map_cons, List.map_nil, hs, hx, hr]
  exact hK _ _ h
set_option maxRecDepth 100000 in
set_option maxHeartbeats 8000000 in
theorem repeat52 (k n : Nat) (x : Int) (w : World) (hn : n ≤ 100000) (hk : w.cell? ⟨k, 0, none⟩ = some (.int .i64 x)) : Calls Try.prog 60 #[.slice (some ⟨k, 0, none⟩) 1 1, .int .i64 n] w fun e w' => ∃ g, e = .returned (.slice (some ⟨g, 0, none⟩) n n) ∧ IRow w' w.heap.size g n (List.replicate n x) ∧ Below w.heap.size w w' := by
  obtain ⟨i0, hi0, hz0, hz1, hz2⟩ := info_parts info3
  have M := hide (mul60 n hn w)
  have HK := hide hk
  have i1 : ¬ (n : Int) < 0 := by omega
  have hw : IntKind.u64.wrap (n : Int) = n := by rw [IntKind.wrap_u64]; omega
  have hw2 : IntKind.i64.wrap (n : Int) = n := by rw [IntKind.wrap_i64]; omega
  have i2 : ¬ (9223372036854775807 : Int) < n := by omega
  clear hk
  go_enter Try.func60, Try.ntmps60
  go_wp2_with fail
  refine M.out.mono ?_
  rintro e w0 ⟨rfl, h0⟩
  have h0' := h0.symm
  subst h0'
  clear h0 M
  go_wp2_with (refine wpList_make_full _ rfl (.tmp 29) (.tmp 29) 32 rfl w.heap.size 3 i0 (.int .i64 0) 1 Try.underlying32 hi0 hz0 hz1 .i64 .i64 _ _ n rfl rfl rfl rfl ?c1 ?c2 ?c3 ?_)
  case c1 => rw [hz2]; omega
  case c2 => unfold maxLen; omega
  case c3 => exact Nat.le_refl _
  intro w2 hown hgrow
  have hR2 : IRow w2 w.heap.size w.heap.size n (fillL n 0 x) := by
    have := irow_made hown
    rw [show fillL n 0 x = List.replicate n 0 by simp [fillL]]
    exact this
  have HB2 := hide (below_made hgrow)
  clear hown hgrow
  obtain ⟨g, hg⟩ : ∃ g, w.heap.size = g := ⟨_, rfl⟩
  have HG := hide hg
  rw [hg] at hR2 ⊢
  obtain ⟨W, e1, hR3, hb3⟩ := fill_copy (c := Nat.min 1 (n - 0)) 3 hR2 (by omega) ⟨k, 0, none⟩ 1 1 n rfl (by
    intro j hj
    have : j = 0 := by have h1 : Nat.min 1 (n - 0) ≤ 1 := Nat.min_le_left _ _; omega
    subst this
    exact later HB2.out HK.out)
  rw [Nat.sub_zero, Nat.zero_add] at hR3
  rw [Nat.sub_zero] at e1
  have HB3 : Hid (Below w.heap.size w W) := Below.trans HB2.out (by rw [HG.out]; exact hb3)
  have HR3 := hide hR3
  clear hR2 hR3 hb3 hg
  go_wp2_with (at_builtin; refine wpList_run_copy rfl (.tmp 31) (.tmp 32) 32 rfl 3 rfl _ _ _ W rfl rfl e1 ?_)
  clear e1
  go_wp2_with fail
  go_loopw [8] (fun t wr => ∃ j : Nat, j ≤ n ∧ (n = 0 ∨ 0 < j) ∧ t = .int .i64 j ∧ Hid (IRow wr g g n (fillL n j x)) ∧ Hid (Below w.heap.size w wr)) (fun t _ => n - (intOf t).toNat)
  case atStart => exact ⟨Nat.min 1 n, Nat.min_le_right _ _, by rcases Nat.eq_zero_or_pos n with h | h; exact Or.inl h; right; exact Nat.lt_min.2 ⟨by omega, h⟩, by rfl, HR3.out, HB3.out⟩
  case round =>
    obtain ⟨j, hj, hj0, rfl, HR, HBr⟩ := hrel
    by_cases hlt : j < n
    · have hjp : 0 < j := by omega
      have k1 : (j : Int) < n := by omega
      have k2 : (0 : Int) ≤ j := by omega
      have k3 : (j : Int) ≤ n := by omega
      have k4 : ¬ n = j := by omega
      have k5 : ¬ j = n := by omega
      have hsz : g < wr.heap.size := HR.out.lt.2
      have hRd : IRow wr.drew g g n (fillL n j x) := HR.out.later (below_drew _)
      obtain ⟨W2, e2, hR2, hb2⟩ := fill_copy (c := Nat.min j (n - j)) 3 hRd hj ⟨g, 0, none⟩ j n (n - j) rfl (by
        intro i hi
        have hi2 : i < j := Nat.lt_of_lt_of_le hi (Nat.min_le_left _ _)
        rw [Go.WideShapes.add_plain, Nat.zero_add, (hRd.cell (j := i) (by omega)).1]
        congr 2
        unfold fillL iat
        rw [List.getD_eq_getElem?_getD, List.getElem?_append_left (by simpa using hi2), List.getElem?_replicate, if_pos hi2]
        rfl)
      have hmin : Nat.min j (n - j) ≤ n - j := Nat.min_le_right _ _
      have hmin2 : 0 < Nat.min j (n - j) := Nat.lt_min.2 ⟨hjp, by omega⟩
      obtain ⟨c, hc⟩ : ∃ c, Nat.min j (n - j) = c := ⟨_, rfl⟩
      rw [hc] at e2 hR2 hmin hmin2
      have HRW := hide hR2
      have HBW : Hid (Below w.heap.size w W2) := Below.trans HBr.out (by rw [HG.out]; exact Below.trans (by exact (below_drew wr).mono (Nat.le_of_lt hsz)) hb2)
      have hadd : IntKind.i64.wrap ((j : Int) + c) = (j : Int) + c := by rw [IntKind.wrap_i64]; omega
      clear hRd hb2 hR2 hc
      go_wp2_with fail
      go_region_held3 (fun _ => True) (trivial) (first | (refine step_run_copy (by rfl) (.tmp 41) (.tmp 44) 32 (by rfl) 3 (by rfl) (.slice (some ⟨g, j, none⟩) (n - j) (n - j)) (.slice (some ⟨g, 0, none⟩) j n) (.int .i64 c) W2 (by rfl) (by rfl) ?_ ?_; with_reducible exact e2))
      go_wp2
      go_roundw
      case rel => exact ⟨j + c, by omega, by omega, by go_num, HRW.out, HBW.out⟩
      case measure => simp [intOf]; omega
    · have hjn : j = n := by omega
      have k1 : ¬ (j : Int) < n := by omega
      rw [hjn, show fillL n n x = List.replicate n x by simp [fillL]] at HR
      clear hjn
      go_wp2
      go_ret
      exact ⟨g, rfl, HR.out.base (by rw [HG.out]; exact Nat.le_refl _), HBr.out⟩
end Go.Proofs.Ytobkejnlkjieoaa
