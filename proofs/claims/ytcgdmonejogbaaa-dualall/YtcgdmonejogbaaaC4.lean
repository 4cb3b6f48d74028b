/- Breadth, in every world. -/
import Derived.Test.YtcgdmonejogbaaaA3
import Derived.WalkSmall
import Derived.Test.YtcgdmonejogbaaaA4
import Derived.Deep.RegionHeld3
/- Tours as values; a tour of which nothing is found; Breadth. -/
/- slices.Repeat of one number; a tour of which nothing is found. -/
/- slices.Repeat of one number. -/
namespace Go.Proofs.Ytcgdmonejogbaaa
open Go.RowKit Go.Sort
open Go
theorem and_mask (n : Nat) (h : n ≤ 100000) : bits BinOp.and IntKind.u64 (n : Int) 4294967295 = n := by
  have h1 := bits_and_u64_nat n 4294967295 (by omega) (by omega)
  have h2 : n &&& 4294967295 = n := by
    rw [show (4294967295 : Nat) = 2 ^ 32 - 1 by decide, Nat.and_two_pow_sub_one_eq_mod, Nat.mod_eq_of_lt (by omega)]
  rw [h2] at h1
  exact h1
set_option maxRecDepth 100000 in
set_option maxHeartbeats 4000000 in
theorem mul63 (n : Nat) (hn : n ≤ 100000) (w : World) : Calls Try.prog 107 #[.int .u64 1, .int .u64 n] w fun e w' => e = .returned (.tuple #[.int .u64 0, .int .u64 n]) ∧ w' = w := by
  have hA := and_mask n hn
  have h1 : bits BinOp.and IntKind.u64 1 4294967295 = 1 := by decide
  have h0 : bits BinOp.and IntKind.u64 0 4294967295 = 0 := by decide
  have hw : IntKind.u64.wrap (n : Int) = n := by rw [IntKind.wrap_u64]; omega
  have hd : (n : Int) / 4294967296 = 0 := by omega
  go_enter Try.func107, Try.ntmps107
  go_wp2
  go_ret2
  exact ⟨rfl, rfl⟩
set_option maxHeartbeats 1000000 in
theorem mul60 (n : Nat) (hn : n ≤ 100000) (w : World) : Calls Try.prog 99 #[.int .u64 1, .int .u64 n] w fun e w' => e = .returned (.tuple #[.int .u64 0, .int .u64 n]) ∧ w' = w := by
  have M := hide (mul63 n hn w)
  go_enter Try.func99, Try.ntmps99
  go_wp2_with fail
  refine M.out.mono ?_
  rintro e w' ⟨rfl, hw⟩
  subst hw
  go_wp2
  go_ret2
  exact ⟨rfl, rfl⟩
theorem fill_split (n k c : Nat) (x : Int) (h : k + c ≤ n) : (icells (fillL n k x)).take k ++ List.replicate c (.int .i64 x) ++ (icells (fillL n k x)).drop (k + c) = icells (fillL n (k + c) x) := by
  unfold fillL icells
  rw [List.map_append, List.map_append, List.map_replicate, List.map_replicate, List.map_replicate, List.map_replicate]
  rw [List.take_append_of_le_length (by simp), List.take_of_length_le (by simp), List.drop_append, List.drop_of_length_le (by simp), List.nil_append, List.length_replicate, List.drop_replicate, List.replicate_append_replicate]
  congr 2
  omega
/-- More of the same number, copied behind what is there. -/
theorem fill_copy {w : World} {B g n k c : Nat} {x : Int} (ty : TypeId) (h : IRow w B g n (fillL n k x)) (hk : k ≤ n) (a : Addr) (sLen sCap dCap : Nat) (hc : c = Nat.min sLen (n - k)) (hsrc : ∀ j, j < c → w.cell? (a.add j) = some (.int .i64 x)) :
    ∃ W, (Builtin.copy_ #[44, 44] ty #[.slice (some ⟨g, k, none⟩) (n - k) dCap, .slice (some a) sLen sCap]).run Try.prog w = .ok (.int .i64 c) W ∧ IRow W B g n (fillL n (k + c) x) ∧ Below B w W := by
  have hcn : c ≤ n - k := by rw [hc]; exact Nat.min_le_right _ _
  have ho := h.owns
  obtain ⟨hxs, ⟨h1, _⟩ | ⟨g1, cap, cur, h1, hb, hg, h4, h5, h6, h7⟩⟩ := ho
  · cases h1
  simp only [Value.slice.injEq, Option.some.injEq, Addr.mk.injEq, and_true] at h1
  obtain ⟨rfl, _, rfl⟩ := h1
  have hlen : (fillL n k x).length = n := h.1
  have hcur : cur.toList = icells (fillL n k x) := by
    rw [← h7, hlen]
    rw [List.take_of_length_le (by simp; omega)]
  have e := run_copy_row (P := Try.prog) w 44 44 ty 3 g k (n - k) dCap a sLen sCap cur 3 (List.replicate c (.int .i64 x)) Try.underlying44 (by kernel_rfl) hg (by rw [List.length_replicate]; exact hc) (by
    intro j v hj
    rw [List.getElem?_replicate] at hj
    split at hj
    · rename_i hj2; cases hj; exact hsrc j hj2
    · cases hj) (by rw [List.length_replicate, h6]; omega) (by intro v hv; rw [List.mem_replicate] at hv; rw [hv.2]; rfl)
  rw [List.length_replicate, hcur, fill_split n k c x (by omega)] at e
  refine ⟨_, e, ⟨fillL_length n (k + c) x (by omega), ?_⟩, ?_⟩
  · unfold IOwns
    rw [fillL_length n (k + c) x (by omega)]
    refine ⟨by simp [icells, fillL_length n (k + c) x (by omega)], Or.inr ⟨g, n, _, rfl, hb, setRow_heap w g cur _ 3 _ hg, Nat.le_refl _, h5, by simp [icells, fillL_length n (k + c) x (by omega)], ?_⟩⟩
    rw [List.take_of_length_le (by simp [icells, fillL_length n (k + c) x (by omega)])]
  · exact ⟨rfl, rfl, rfl, by simp, fun i hi => setRow_other w g i _ (by omega)⟩
theorem step_run_copy {P : Program} {w : World} {ops : Array Oper} {o : Oper} {a : Act} {K : Act → World → Prop} {Q : Exit → Act → World → Prop} {E : Prop} (hgd : o.guard = none) (s x : Operand) (t : TypeId)
    (ho : o.op = .call { callee := .builtin .copy, args := #[s, x], argTypes := #[t, t] }) (ty : TypeId) (hty : o.type = ty) (vs vx v' : Value) (w' : World) (hs : a.eval s = vs) (hx : a.eval x = vx)
    (hr : (Builtin.copy_ #[t, t] ty #[vs, vx]).run P w = .ok v' w') (h : K (a.put o.dst v') w') :
    if Region.wanted o (yielded ops a.tmps) = true then Oper.wp P o a w K Q else E := by
  subst hty
  rw [if_pos (by unfold Region.wanted; rw [hgd])]
  unfold Oper.wp execOp
  simp only [ho, resolve, invoke, builtin, Sem.run_bind, Sem.run_pure, Result.andThen_ok, List.map_toArray, List.map_cons, List.map_nil, hs, hx, hr]
  exact h
end Go.Proofs.Ytcgdmonejogbaaa
namespace Go.Proofs.Ytcgdmonejogbaaa
open Go.RowKit Go.Sort
open Go
set_option maxRecDepth 100000 in
set_option maxHeartbeats 8000000 in
theorem repeat52 (k n : Nat) (x : Int) (w : World) (hn : n ≤ 100000) (hk : w.cell? ⟨k, 0, none⟩ = some (.int .i64 x)) : Calls Try.prog 88 #[.slice (some ⟨k, 0, none⟩) 1 1, .int .i64 n] w fun e w' => ∃ g, e = .returned (.slice (some ⟨g, 0, none⟩) n n) ∧ IRow w' w.heap.size g n (List.replicate n x) ∧ Below w.heap.size w w' := by
  obtain ⟨i0, hi0, hz0, hz1, hz2⟩ := info_parts info3
  have M := hide (mul60 n hn w)
  have HK := hide hk
  have i1 : ¬ (n : Int) < 0 := by omega
  have hw : IntKind.u64.wrap (n : Int) = n := by rw [IntKind.wrap_u64]; omega
  have hw2 : IntKind.i64.wrap (n : Int) = n := by rw [IntKind.wrap_i64]; omega
  have i2 : ¬ (9223372036854775807 : Int) < n := by omega
  clear hk
  go_enter Try.func88, Try.ntmps88
  go_wp2_with fail
  refine M.out.mono ?_
  rintro e w0 ⟨rfl, h0⟩
  have h0' := h0.symm
  subst h0'
  clear h0 M
  go_wp2_with (refine wpList_make_full _ rfl (.tmp 29) (.tmp 29) 44 rfl w.heap.size 3 i0 (.int .i64 0) 1 Try.underlying44 hi0 hz0 hz1 .i64 .i64 _ _ n rfl rfl rfl rfl ?c1 ?c2 ?c3 ?_)
  case c1 => rw [hz2]; omega
  case c2 => unfold maxLen; omega
  case c3 => exact Nat.le_refl _
  intro w2 hown hgrow
  have hR2 : IRow w2 w.heap.size w.heap.size n (fillL n 0 x) := by
    have := irow_made hown
    rw [show fillL n 0 x = List.replicate n 0 by simp [fillL]]
    exact this
  have HB2 := hide (below_made hgrow)
  clear hown hgrow
  obtain ⟨g, hg⟩ : ∃ g, w.heap.size = g := ⟨_, rfl⟩
  have HG := hide hg
  rw [hg] at hR2 ⊢
  obtain ⟨W, e1, hR3, hb3⟩ := fill_copy (c := Nat.min 1 (n - 0)) 3 hR2 (by omega) ⟨k, 0, none⟩ 1 1 n rfl (by
    intro j hj
    have : j = 0 := by have h1 : Nat.min 1 (n - 0) ≤ 1 := Nat.min_le_left _ _; omega
    subst this
    exact later HB2.out HK.out)
  rw [Nat.sub_zero, Nat.zero_add] at hR3
  rw [Nat.sub_zero] at e1
  have HB3 : Hid (Below w.heap.size w W) := Below.trans HB2.out (by rw [HG.out]; exact hb3)
  have HR3 := hide hR3
  clear hR2 hR3 hb3 hg
  go_wp2_with (at_builtin; refine wpList_run_copy rfl (.tmp 31) (.tmp 32) 44 rfl 3 rfl _ _ _ W rfl rfl e1 ?_)
  clear e1
  go_wp2_with fail
  go_loopw [8] (fun t wr => ∃ j : Nat, j ≤ n ∧ (n = 0 ∨ 0 < j) ∧ t = .int .i64 j ∧ Hid (IRow wr g g n (fillL n j x)) ∧ Hid (Below w.heap.size w wr)) (fun t _ => n - (intOf t).toNat)
  case atStart => exact ⟨Nat.min 1 n, Nat.min_le_right _ _, by rcases Nat.eq_zero_or_pos n with h | h; exact Or.inl h; right; exact Nat.lt_min.2 ⟨by omega, h⟩, by rfl, HR3.out, HB3.out⟩
  case round =>
    obtain ⟨j, hj, hj0, rfl, HR, HBr⟩ := hrel
    by_cases hlt : j < n
    · have hjp : 0 < j := by omega
      have k1 : (j : Int) < n := by omega
      have k2 : (0 : Int) ≤ j := by omega
      have k3 : (j : Int) ≤ n := by omega
      have k4 : ¬ n = j := by omega
      have k5 : ¬ j = n := by omega
      have hsz : g < wr.heap.size := HR.out.lt.2
      have hRd : IRow wr.drew g g n (fillL n j x) := HR.out.later (below_drew _)
      obtain ⟨W2, e2, hR2, hb2⟩ := fill_copy (c := Nat.min j (n - j)) 3 hRd hj ⟨g, 0, none⟩ j n (n - j) rfl (by
        intro i hi
        have hi2 : i < j := Nat.lt_of_lt_of_le hi (Nat.min_le_left _ _)
        rw [Go.WideShapes.add_plain, Nat.zero_add, (hRd.cell (j := i) (by omega)).1]
        congr 2
        unfold fillL iat
        rw [List.getD_eq_getElem?_getD, List.getElem?_append_left (by simpa using hi2), List.getElem?_replicate, if_pos hi2]
        rfl)
      have hmin : Nat.min j (n - j) ≤ n - j := Nat.min_le_right _ _
      have hmin2 : 0 < Nat.min j (n - j) := Nat.lt_min.2 ⟨hjp, by omega⟩
      obtain ⟨c, hc⟩ : ∃ c, Nat.min j (n - j) = c := ⟨_, rfl⟩
      rw [hc] at e2 hR2 hmin hmin2
      have HRW := hide hR2
      have HBW : Hid (Below w.heap.size w W2) := Below.trans HBr.out (by rw [HG.out]; exact Below.trans (by exact (below_drew wr).mono (Nat.le_of_lt hsz)) hb2)
      have hadd : IntKind.i64.wrap ((j : Int) + c) = (j : Int) + c := by rw [IntKind.wrap_i64]; omega
      clear hRd hb2 hR2 hc
      go_wp2_with fail
      go_region_held3 (fun _ => True) (trivial) (first | (refine step_run_copy (by rfl) (.tmp 41) (.tmp 44) 44 (by rfl) 3 (by rfl) (.slice (some ⟨g, j, none⟩) (n - j) (n - j)) (.slice (some ⟨g, 0, none⟩) j n) (.int .i64 c) W2 (by rfl) (by rfl) ?_ ?_; with_reducible exact e2))
      go_wp2
      go_roundw
      case rel => exact ⟨j + c, by omega, by omega, by go_num, HRW.out, HBW.out⟩
      case measure => simp [intOf]; omega
    · have hjn : j = n := by omega
      have k1 : ¬ (j : Int) < n := by omega
      rw [hjn, show fillL n n x = List.replicate n x by simp [fillL]] at HR
      clear hjn
      go_wp2
      go_ret
      exact ⟨g, rfl, HR.out.base (by rw [HG.out]; exact Nat.le_refl _), HBr.out⟩
end Go.Proofs.Ytcgdmonejogbaaa
namespace Go.Proofs.Ytcgdmonejogbaaa
open Go.RowKit Go.Sort
open Go
abbrev tv (a b c d : Value) : Value := .agg #[a, b, c, d]
/-- A tour that is answered: its lists are memory of its own, each in a block of its own. -/
def TR (w : World) (B n : Nat) (v : Value) (st : St) (vl : Value) : Prop :=
  ∃ vo gb gf, v = tv vo (.slice (some ⟨gb, 0, none⟩) n n) (.slice (some ⟨gf, 0, none⟩) n n) vl ∧ IOwns w B vo st.O ∧ IRow w B gb n st.By ∧ IRow w B gf n st.Fa ∧ gb ≠ gf ∧ vo.ownBlock ≠ some gb ∧ vo.ownBlock ≠ some gf
theorem box35 (w : World) (a b c d : Value) : (w.alloc (.cells #[a, b, c, d] 101)).ownsRow 0 101 4 (.slice (some ⟨w.heap.size, 0, none⟩) 1 1) 1 [a, b, c, d] :=
  World.ownsRow_lit w #[a, b, c, d] 1 (Nat.zero_le _) (by unfold maxLen; omega) rfl
theorem ret_tour {V : World} {k : Nat} {a b c d : Value} (h : V.ownsRow 0 101 4 (.slice (some ⟨k, 0, none⟩) 1 1) 1 [a, b, c, d]) : (loadVar 101 ⟨k, 0, none⟩).run Try.prog V = .ok (tv a b c d) V := by
  have m0 : V.cell? ⟨k, 0, none⟩ = some a := World.ownsRow.cellAt h 0 (by omega)
  have m1 : V.cell? ⟨k, 1, none⟩ = some b := World.ownsRow.cellAt h 1 (by omega)
  have m2 : V.cell? ⟨k, 2, none⟩ = some c := World.ownsRow.cellAt h 2 (by omega)
  have m3 : V.cell? ⟨k, 3, none⟩ = some d := World.ownsRow.cellAt h 3 (by omega)
  have l0 : (load ⟨k, 0, none⟩).run Try.prog V = .ok a V := by simp [go_sem, m0]
  have l1 : (load ⟨k, 1, none⟩).run Try.prog V = .ok b V := by simp [go_sem, m1]
  have l2 : (load ⟨k, 2, none⟩).run Try.prog V = .ok c V := by simp [go_sem, m2]
  have l3 : (load ⟨k, 3, none⟩).run Try.prog V = .ok d V := by simp [go_sem, m3]
  simp only [loadVar, Sem.run_bind, Try.isAgg101, Result.andThen_ok, if_true, Try.sizeOf101]
  simp only [loadCells, go_sem]
  simp only [Sem.run_bind, Nat.zero_add, l0, l1, l2, l3, Result.andThen_ok, Sem.run_pure]
  rfl
theorem ret_tour1 {fn : Func} {t : Tmp} (hr : fn.results = #[.cell t 101]) {tmps : Array Value} {V : World} {k : Nat} {a b c d : Value} (h2 : tmps.getD t undef = .pointer (some ⟨k, 0, none⟩)) (h : V.ownsRow 0 101 4 (.slice (some ⟨k, 0, none⟩) 1 1) 1 [a, b, c, d]) :
    (results fn tmps).run Try.prog V = .ok (tv a b c d) V := by
  rw [results_c hr, h2, asA, Result.andThen_ok, ret_tour h]
/-- A tour through n nodes of which none is found. -/
def st0 (n : Nat) : St := ⟨[], List.replicate n (-1), List.replicate n (-1)⟩
theorem st0_ok (n : Nat) : Ok n (st0 n) where
  lb := by simp [st0]
  lf := by simp [st0]
  mem j hj := by simp [st0] at hj
  cnt := by have := unl_le (List.replicate n (-1)); simp [st0] at this ⊢; exact this
  val v hv := by show -1 ≤ iat (List.replicate n (-1)) v ∧ _; rw [show (st0 n).Fa = List.replicate n (-1) from rfl, iat_fill hv]; simp [st0]
  fnd j hj := by simp [st0] at hj
theorem set_box35 {V : World} {k : Nat} {a b c d a' b' c' d' : Value} (h : V.ownsRow 0 101 4 (.slice (some ⟨k, 0, none⟩) 1 1) 1 [a, b, c, d]) :
    ((((V.setCell ⟨k, 0, none⟩ a').setCell ⟨k, 1, none⟩ b').setCell ⟨k, 2, none⟩ c').setCell ⟨k, 3, none⟩ d').ownsRow 0 101 4 (.slice (some ⟨k, 0, none⟩) 1 1) 1 [a', b', c', d'] :=
  (World.ownsRow.stored (World.ownsRow.stored (World.ownsRow.stored (World.ownsRow.stored h 0 a').1 1 b').1 2 c').1 3 d').1
abbrev set4 (V : World) (k : Nat) (a b c d : Value) : World := (((V.setCell ⟨k, 0, none⟩ a).setCell ⟨k, 1, none⟩ b).setCell ⟨k, 2, none⟩ c).setCell ⟨k, 3, none⟩ d
theorem row_set4 {V : World} {k base e size n : Nat} {v : Value} {xs : List Value} (h : V.ownsRow base e size v n xs) (hk : v.ownBlock ≠ some k) (a b c d : Value) : (set4 V k a b c d).ownsRow base e size v n xs :=
  ownsRow_setCell_other (a := ⟨k, 3, none⟩) (ownsRow_setCell_other (a := ⟨k, 2, none⟩) (ownsRow_setCell_other (a := ⟨k, 1, none⟩) (ownsRow_setCell_other (a := ⟨k, 0, none⟩) h hk _) hk _) hk _) hk _
theorem irow_set4 {V : World} {k B g n : Nat} {l : List Int} (h : IRow V B g n l) (hk : k ≠ g) (a b c d : Value) : IRow (set4 V k a b c d) B g n l :=
  ⟨h.1, row_set4 h.2 (by simp [Value.ownBlock]; omega) a b c d⟩
theorem below_set4 {B : Nat} {w V : World} {k : Nat} (h : Below B w V) (hk : B ≤ k) (a b c d : Value) : Below B w (set4 V k a b c d) :=
  (((h.setCell hk a).setCell hk b).setCell hk c).setCell hk d
set_option maxRecDepth 100000 in
set_option maxHeartbeats 8000000 in
theorem unfound37 (n : Nat) (w : World) (hn : n ≤ 100000) : Calls Try.prog 91 #[.int .i64 n] w fun e w' => ∃ v, e = .returned v ∧ TR w' w.heap.size n v (st0 n) (.slice none 0 0) ∧ Below w.heap.size w w' := by
  obtain ⟨W, hW⟩ : ∃ W, W = (w.alloc (.cells #[.slice none 0 0, .slice none 0 0, .slice none 0 0, .slice none 0 0] 101)).alloc (.cells #[.int .i64 (-1)] 3) := ⟨_, rfl⟩
  have hb : Below w.heap.size w W := by rw [hW]; go_grown
  have hx : W.ownsRow 0 101 4 (.slice (some ⟨w.heap.size, 0, none⟩) 1 1) 1 [.slice none 0 0, .slice none 0 0, .slice none 0 0, .slice none 0 0] := by rw [hW]; exact World.ownsRow.alloc (box35 w _ _ _ _) _
  have hl : W.cell? ⟨w.heap.size + 1, 0, none⟩ = some (.int .i64 (-1)) := by rw [hW]; go_cell
  have hs : w.heap.size + 1 < W.heap.size := block_lt_of_cell hl
  have R1 := hide (repeat52 (w.heap.size + 1) n (-1) W hn hl)
  have HB := hide hb
  have HX := hide hx
  have HL := hide hl
  clear hb hx hl
  go_enter Try.func91, Try.ntmps91
  go_wp2_with fail
  rw [← hW]
  clear hW
  refine R1.out.mono ?_
  rintro e w1 ⟨gb, rfl, hr1, hb1⟩
  have R2 := hide (repeat52 (w.heap.size + 1) n (-1) w1 hn (later hb1 HL.out))
  have HR1 := hide hr1
  have HB1 := hide hb1
  clear hr1 hb1 R1
  go_wp2_with fail
  refine R2.out.mono ?_
  rintro e w2 ⟨gf, rfl, hr2, hb2⟩
  have hlt1 := HR1.out.lt
  have hlt2 := hr2.lt
  have HR1' := hide (HR1.out.later hb2)
  have HR2 := hide hr2
  have hb12 := below_step HB1.out hb2
  have HX2 : Hid (w2.ownsRow 0 101 4 (.slice (some ⟨w.heap.size, 0, none⟩) 1 1) 1 [.slice none 0 0, .slice none 0 0, .slice none 0 0, .slice none 0 0]) := World.ownsRow.kept HX.out (grown_below hb12) (Or.inr (by simp [Value.ownBlock]))
  have HB2 := hide (below_step HB.out hb12)
  have x0 : w2.cell? ⟨w.heap.size, 0, none⟩ = some (.slice none 0 0) := World.ownsRow.cellAt HX2.out 0 (by omega)
  have x1 : w2.cell? ⟨w.heap.size, 1, none⟩ = some (.slice none 0 0) := World.ownsRow.cellAt HX2.out 1 (by omega)
  have x2 : w2.cell? ⟨w.heap.size, 2, none⟩ = some (.slice none 0 0) := World.ownsRow.cellAt HX2.out 2 (by omega)
  have x3 : w2.cell? ⟨w.heap.size, 3, none⟩ = some (.slice none 0 0) := World.ownsRow.cellAt HX2.out 3 (by omega)
  have z0 : w2.frozen? ⟨w.heap.size, 0, none⟩ = false := World.ownsRow.frozenAt HX2.out 0
  have z1 : w2.frozen? ⟨w.heap.size, 1, none⟩ = false := World.ownsRow.frozenAt HX2.out 1
  have z2 : w2.frozen? ⟨w.heap.size, 2, none⟩ = false := World.ownsRow.frozenAt HX2.out 2
  have z3 : w2.frozen? ⟨w.heap.size, 3, none⟩ = false := World.ownsRow.frozenAt HX2.out 3
  have hs1 : W.heap.size ≤ w1.heap.size := HB1.out.size
  have HLT := hide (And.intro hlt1 hlt2)
  clear hr2 hb2 hb12 R2 HR1 hlt1 hlt2
  go_wp2
  have hL := HLT.out
  refine bodyPost_ret (ret_tour1 Try.results91 rfl (set_box35 HX2.out)) rfl ⟨_, rfl, ⟨.slice none 0 0, gb, gf, rfl, IOwns.nil _ _, ?_, ?_, ?_, by simp [Value.ownBlock], by simp [Value.ownBlock]⟩, ?_⟩
  · exact (irow_set4 HR1'.out (by omega) _ _ _ _).base (by have := HB.out.size; omega)
  · exact (irow_set4 HR2.out (by omega) _ _ _ _).base (by have := HB.out.size; omega)
  · omega
  · exact below_set4 HB2.out (Nat.le_refl _) _ _ _ _
end Go.Proofs.Ytcgdmonejogbaaa
namespace Go.Proofs.Ytcgdmonejogbaaa
open Go.RowKit Go.Sort
open Go
abbrev nilS : Value := .slice none 0 0
/-- The net's box and the answer's. -/
theorem two_boxes35 (w : World) (n : Int) (p : Option Addr) (l c : Nat) : ∃ W, W = (w.alloc (nbx n p l c)).alloc (.cells #[nilS, nilS, nilS, nilS] 101) ∧ Below w.heap.size w W ∧ NOwn W w.heap.size n p l c ∧ W.ownsRow 0 101 4 (.slice (some ⟨w.heap.size + 1, 0, none⟩) 1 1) 1 [nilS, nilS, nilS, nilS] ∧ W.heap.size = w.heap.size + 2 := by
  refine ⟨_, rfl, by go_grown, ⟨by unfold nbx; go_cell, by unfold nbx; go_cell, by unfold nbx; go_cell, by unfold nbx; go_cell⟩, ?_, by simp⟩
  have := box35 (w.alloc (nbx n p l c)) nilS nilS nilS nilS
  rw [show (w.alloc (nbx n p l c)).heap.size = w.heap.size + 1 by simp] at this
  exact this
theorem box_later {w w' : World} {k : Nat} {a b c d : Value} (h : w.ownsRow 0 101 4 (.slice (some ⟨k, 0, none⟩) 1 1) 1 [a, b, c, d]) (hb : Below w.heap.size w w') : w'.ownsRow 0 101 4 (.slice (some ⟨k, 0, none⟩) 1 1) 1 [a, b, c, d] := World.ownsRow.kept h (grown_below hb) (Or.inr (by simp [Value.ownBlock]))
theorem box_cells {w : World} {k : Nat} {a b c d : Value} (h : w.ownsRow 0 101 4 (.slice (some ⟨k, 0, none⟩) 1 1) 1 [a, b, c, d]) : w.cell? ⟨k, 0, none⟩ = some a ∧ w.cell? ⟨k, 1, none⟩ = some b ∧ w.cell? ⟨k, 2, none⟩ = some c ∧ w.cell? ⟨k, 3, none⟩ = some d ∧ w.frozen? ⟨k, 0, none⟩ = false ∧ w.frozen? ⟨k, 1, none⟩ = false ∧ w.frozen? ⟨k, 2, none⟩ = false ∧ w.frozen? ⟨k, 3, none⟩ = false :=
  ⟨World.ownsRow.cellAt h 0 (by omega), World.ownsRow.cellAt h 1 (by omega), World.ownsRow.cellAt h 2 (by omega), World.ownsRow.cellAt h 3 (by omega), World.ownsRow.frozenAt h 0, World.ownsRow.frozenAt h 1, World.ownsRow.frozenAt h 2, World.ownsRow.frozenAt h 3⟩
end Go.Proofs.Ytcgdmonejogbaaa
