/- MakerStacks' walk. -/
import Derived.Test.YtncnghbkdbhpbaaV5
import Derived.Test.YtncnghbkdbhpbaaV6
import Derived.Test.YtncnghbkdbhpbaaH2
import Derived.Deep.DeepCutAuto
namespace Go.Proofs.Ytncnghbkdbhpbaa
open Go.RowKit Go.Sort
open Go

def put (f : Nat → Nat → Bool) (a b : Nat) : Nat → Nat → Bool := fun x => if x = a then fun i => f a i || decide (i = b) else f x
theorem put_keep {f : Nat → Nat → Bool} (a b : Nat) {u v : Nat} (h : f u v = true) : put f a b u v = true := by
  unfold put
  by_cases hu : u = a
  · subst hu; simp [h]
  · simp [hu, h]
theorem put_new (f : Nat → Nat → Bool) (a b : Nat) : put f a b a b = true := by simp [put]
theorem Mat.put {w : World} {B g n k a b : Nat} {rs : Nat → Nat} {f : Nat → Nat → Bool} (h : Mat w B g n k rs f) (ha : a < k) : Mat (w.setCell ⟨rs a, b, none⟩ (.bool true)) B g n k rs (put f a b) := h.set ha
theorem info47 : (Try.prog.info? 47).map (fun i => (i.zero, i.size, i.bytes)) = some (some (.slice none 0 0), 1, 24) := by kernel_rfl
theorem stk_net (n : Nat) (seed : Int) (h : 3 ≤ n) (h1 : n ≤ 1024) : netB n (stk seed (n - 3)).es = true := by
  refine may_is (by omega) (by omega) (by rw [(stk_length seed (n - 3)).2]; omega) fun p hp => ?_
  have := (stk_in seed (n - 3)).2 p hp
  omega
set_option maxRecDepth 100000 in
set_option maxHeartbeats 4000000 in
theorem stacks_out (n seed : Int) (w : World) (h : n < 3 ∨ 60 < n) : Calls Try.prog 5 #[.int .i64 n, .int .u64 seed] w fun e w' => e = .returned (.bool true) ∧ Below w.heap.size w w' := by
  have BG := hide (begun6 w)
  rcases h with h | h
  all_goals
    go_enter Try.func5, Try.ntmps5
    go_wp2_with fail
    refine BG.out.mono ?_
    rintro e w0 ⟨rfl, hb0⟩
    have HB0 := hide hb0
    clear hb0
    go_wp2
    go_ret
    exact ⟨rfl, HB0.out⟩
theorem brow_made {w : World} {base r n : Nat} (h : w.ownsRow base 4 1 (.slice (some ⟨r, 0, none⟩) n n) n (madeCells #[.bool false] n).toList) : BRow w base r n fun _ => false := by
  rw [toList_madeCells_one] at h
  unfold BRow
  rw [show ((List.range n).map fun _ => Value.bool false) = List.replicate n (.bool false) from by apply List.ext_getElem <;> simp]
  exact h
theorem srow_made {w : World} {base g n : Nat} (h : w.ownsRow base 47 1 (.slice (some ⟨g, 0, none⟩) n n) n (madeCells #[.slice none 0 0] n).toList) : SRow w base g n 0 fun _ => 0 := by
  rw [toList_madeCells_one] at h
  unfold SRow
  rw [show ((List.range n).map (rowV (fun _ => 0) n 0)) = List.replicate n (.slice none 0 0) from by apply List.ext_getElem <;> simp [rowV]]
  exact h
set_option maxRecDepth 100000 in
set_option maxHeartbeats 8000000 in
theorem stacks_in (n : Nat) (seed : Int) (w : World) (h0 : 3 ≤ n) (h1 : n ≤ 60) : Calls Try.prog 5 #[.int .i64 n, .int .u64 seed] w fun e w' => e = .returned (.bool true) ∧ Below w.heap.size w w' := by
  have BG := hide (begun6 w)
  have ST := hide (stack20ok n seed)
  have HNB := hide (stk_net n seed h0 (by omega))
  have HLE := hide (stk_length seed (n - 3)).2
  have HIN := hide (stk_in seed (n - 3)).2
  have HGD := hide (stk_good seed (n - 3)).2.1
  have H3 := hide (stk_three seed (n - 3))
  obtain ⟨hs1, hs2⟩ := stk_simple seed (n - 3)
  have HLV : Hid (lookV (stk seed (n - 3)).es n = .agg #[.int .i64 0, .int .i64 0, .int .i64 (leN (degN (stk seed (n - 3)).es n (stk seed (n - 3)).es.length) n), .int .i64 (grN (degN (stk seed (n - 3)).es n (stk seed (n - 3)).es.length) n), .bool true]) := by
    show _ = _
    unfold lookV
    rw [hs1, hs2]
    rfl
  clear hs1 hs2
  obtain ⟨es, hes⟩ : ∃ es, (stk seed (n - 3)).es = es := ⟨_, rfl⟩
  have ST2 : Hid (∀ W, Calls Try.prog 20 #[.int .i64 n, .int .u64 seed] W fun e w' => Made W n es 0 e w') := by
    intro W
    rw [← hes]
    exact ST.out W h0 (by omega)
  rw [hes] at HNB HLE HIN HGD H3 HLV
  clear hes ST
  obtain ⟨le, hle⟩ : ∃ le, leN (degN es n es.length) n = le := ⟨_, rfl⟩
  obtain ⟨gr, hgr⟩ : ∃ gr, grN (degN es n es.length) n = gr := ⟨_, rfl⟩
  rw [hle, hgr] at HLV
  clear hle hgr
  obtain ⟨i7, hi7, y0, y1, y2⟩ := info_parts info47
  obtain ⟨i4, hi4, x0, x1, x2⟩ := info_parts info4
  have hcase : Hid ((¬ (3 : Int) < n ∧ ((n : Int) == 3) = true ∧ (es.length : Int) = 3) ∨ ((3 : Int) < n ∧ ((n : Int) == 3) = false ∧ (es.length : Int) = 3 * n - 6)) := by
    have := HLE.out
    by_cases h3 : n = 3
    · exact Or.inl ⟨by omega, by simp; omega, by omega⟩
    · exact Or.inr ⟨by omega, by simp; omega, by omega⟩
  go_enter Try.func5, Try.ntmps5
  go_wp2_with fail
  refine BG.out.mono ?_
  rintro e w0 ⟨rfl, hb0⟩
  have HB0 := hide hb0
  clear hb0 BG
  go_wp2_with fail
  refine (ST2.out w0).mono ?_
  rintro e w1 ⟨hb1, p, c, rfl, ho⟩
  obtain ⟨b, c', hv, _, hbB, hbl⟩ := owns_block ho (by rw [HLE.out]; omega)
  simp only [Value.slice.injEq, true_and] at hv
  obtain ⟨rfl, rfl⟩ := hv
  obtain ⟨X, hX⟩ : ∃ X, X = w1.alloc (.cells #[.int .i64 n, .slice (some ⟨b, 0, none⟩) es.length c] 28) := ⟨_, rfl⟩
  have hbX : Below w1.heap.size w1 X := by rw [hX]; go_grown
  have HBX := hide (below_step HB0.out (below_step hb1 hbX))
  have HNX : Hid (NOwn X w1.heap.size n (some ⟨b, 0, none⟩) es.length c) := by show NOwn _ _ _ _ _ _; rw [hX]; exact ⟨by go_cell, by go_cell, by go_cell, by go_cell⟩
  have HLX := hide (ho.lies.later hbX)
  have LK := hide (look18 n (some ⟨b, 0, none⟩) es c X (Or.inr ⟨b, 0, rfl, HLX.out⟩) HNB.out)
  rw [HLV.out] at LK
  clear ho hb1 hbX hbB hbl
  have FL : ∀ V, Sem.run Try.prog (Instr.field 38 (.agg #[.int .i64 0, .int .i64 0, .int .i64 le, .int .i64 gr, .bool true]) 4) V = .ok (.bool true) V := fun V => by kernel_rfl
  rcases hcase.out with ⟨e1, e2, e3⟩ | ⟨e1, e2, e3⟩
  all_goals
    go_wp2_with fail
    rw [← hX]
    refine LK.out.mono ?_
    rintro e w2 ⟨rfl, hb2⟩
    have HB2 := hide (below_step HBX.out hb2)
    have HN2 := hide (HNX.out.later hb2)
    have HL2 := hide (HLX.out.later hb2)
    clear hb2 hX LK HNX HLX HBX e1 e2 e3
    go_wp2_with (refine wpList_make_full _ rfl (.tmp 67) (.tmp 67) 46 rfl w2.heap.size 47 i7 (.slice none 0 0) 1 Try.underlying46 hi7 y0 y1 .i64 .i64 _ _ n rfl rfl rfl rfl ?c1 ?c2 ?c3 ?_)
    case c1 => rw [y2]; omega
    case c2 => unfold maxLen; omega
    case c3 => exact Nat.le_refl _
    intro w3 hown hgrow
    have HM3 : Hid (Mat w3 w2.heap.size w2.heap.size n 0 (fun _ => 0) (fun _ _ => false)) := ⟨srow_made hown, fun u v hu => by omega, fun v hv => by omega⟩
    have HB3 := hide (below_made hgrow)
    clear hown hgrow
    go_wp2_with fail
    obtain ⟨B, hB⟩ : ∃ B, w2.heap.size = B := ⟨_, rfl⟩
    obtain ⟨kx, hkx⟩ : ∃ kx, w1.heap.size = kx := ⟨_, rfl⟩
    rw [hB] at HM3 ⊢
    rw [hkx] at HN2 ⊢
    clear hkx
    have HBE := hide hB
    clear hB
    go_loopw [8] (fun t wr => ∃ k : Nat, k ≤ n ∧ t = .int .i64 k ∧ Hid (Below w2.heap.size w2 wr) ∧ Hid (∃ rs f, Mat wr B B n k rs f)) (fun t _ => n - (intOf t).toNat)
    case atStart => exact ⟨0, by omega, rfl, HB3.out, _, _, HM3.out⟩
    case round =>
      obtain ⟨k, hk, rfl, HBr, HMr⟩ := hrel
      obtain ⟨rs, f, hM⟩ := HMr.out
      by_cases hlt : k < n
      · have i1 : (k : Int) < n := by omega
        have i2 : (0 : Int) ≤ k := by omega
        go_wp2_with (refine wpList_make_full _ rfl (.tmp 76) (.tmp 76) 47 rfl wr.heap.size 4 i4 (.bool false) 1 Try.underlying47 hi4 x0 x1 .i64 .i64 _ _ n rfl rfl rfl rfl ?c1 ?c2 ?c3 ?_)
        case c1 => rw [x2]; omega
        case c2 => unfold maxLen; omega
        case c3 => exact Nat.le_refl _
        intro w5 hown hgrow
        have hb5 := below_made hgrow
        have hBsz : B ≤ wr.heap.size := by have := HBr.out.size; rw [HBE.out] at this; exact this
        have hrow : BRow w5 B wr.heap.size n fun _ => false := owns_base (brow_made hown) hBsz
        have hM5 := hM.later hb5
        have hne : ∀ v, v < k → rs v ≠ wr.heap.size := fun v hv e => by have := (hM.2.2 v hv).block.2.1; omega
        have HN5 := hide (hM5.next hlt hrow hne)
        obtain ⟨d0, f0⟩ := hM5.1.cell hlt
        have HB5 : Hid (Below w2.heap.size w2 (w5.setCell ⟨B, k, none⟩ (.slice (some ⟨wr.heap.size, 0, none⟩) n n))) := by show Below _ _ _; exact (below_step HBr.out hb5).setCell (by rw [HBE.out]; exact Nat.le_refl _) _
        clear hown hgrow hb5 hrow hM5 hM hne hBsz
        go_wp2
        go_roundw
        case rel => exact ⟨k + 1, by omega, by go_num, HB5.out, _, _, HN5.out⟩
        case measure => simp [intOf]; omega
      · have hin : k = n := by omega
        rw [hin] at hM
        have i1 : ¬ (k : Int) < n := by omega
        clear hin
        have HMK := hide hM
        clear hM HMr
        go_wp2_with fail
        have hel : es.length ≤ 200 := by have := HLE.out; omega
        obtain ⟨w4, hw4⟩ : ∃ w4, w4 = wr := ⟨_, rfl⟩
        rw [← hw4] at HBr HMK ⊢
        clear hw4
        go_loopw [9] (fun t wr => ∃ i : Nat, i ≤ es.length ∧ t = .int .i64 i ∧ Hid (Below w2.heap.size w2 wr) ∧ Hid (∃ f, Mat wr B B n n rs f ∧ ∀ j, j < i → ∀ u v : Nat, at' es j = ⟨u, v⟩ → f u v = true ∧ f v u = true)) (fun t _ => es.length - (intOf t).toNat)
        case atStart => exact ⟨0, by omega, rfl, HBr.out, f, HMK.out, fun j hj => by omega⟩
        case round =>
          obtain ⟨i, hi, rfl, HBi, HMi⟩ := hrel
          obtain ⟨f2, hM, hF⟩ := HMi.out
          obtain ⟨q0, q1, _, _⟩ := HN2.out.later HBi.out
          by_cases hlt2 : i < es.length
          · obtain ⟨c0, c1⟩ := HL2.out.later HBi.out i hlt2
            have hin := HIN.out _ (at_mem hlt2)
            have hgd := HGD.out _ (at_mem hlt2)
            obtain ⟨x, hx⟩ : ∃ x, at' es i = x := ⟨_, rfl⟩
            rw [hx] at c0 c1 hin hgd
            obtain ⟨xx, xy⟩ := x
            simp only at c0 c1 hin hgd
            obtain ⟨u, rfl⟩ : ∃ u : Nat, xx = u := ⟨xx.toNat, by omega⟩
            obtain ⟨v, rfl⟩ : ∃ v : Nat, xy = v := ⟨xy.toNat, by omega⟩
            have hu : u < n := by omega
            have hv : v < n := by omega
            have huv : u ≠ v := by omega
            have HX := hide hx
            have HF := hide hF
            have HMi1 := hide hM
            rw [Nat.zero_add] at c0 c1
            have j1 : (i : Int) < es.length := by omega
            have j2 : (0 : Int) ≤ i := by omega
            clear hx hin hgd hF hM HMi
            go_wp2_with fail
            go_quiet (fail)
            clear c0 c1 q0 q1
            obtain ⟨Z1, hZ1⟩ : ∃ Z1, Z1 = wr.drewN nq := ⟨_, rfl⟩
            have hbZ : Below wr.heap.size wr Z1 := by rw [hZ1]; exact below_drewN (Below.refl _ _)
            have hM1 := HMi1.out.later hbZ
            have HBZ := hide (below_step HBi.out hbZ)
            rw [← hZ1]
            clear hZ1 hbZ
            have du := (hM1.1.cell hu).1
            have dv := (hM1.1.cell hv).1
            unfold rowV at du dv
            rw [if_pos hu] at du
            rw [if_pos hv] at dv
            obtain ⟨bu, fu⟩ := (hM1.2.2 u hu).cell hv
            obtain ⟨bv, fv⟩ := (hM1.2.2 v hv).cell hu
            have huB : rs u ≠ B := fun e => by
              obtain ⟨_, _, cu, g1⟩ := (hM1.2.2 u hu).block
              obtain ⟨_, _, cb, g2⟩ := hM1.1.block
              rw [e, g2] at g1
              cases g1
            have hne : rs u ≠ rs v := fun e => huv (hM1.2.1 u v hu hv e)
            have hru := (hM1.2.2 u hu).block.1
            have hrv := (hM1.2.2 v hv).block.1
            obtain ⟨Z2, hZ2⟩ : ∃ Z2, Z2 = (Z1.setCell ⟨rs u, v, none⟩ (.bool true)).setCell ⟨rs v, u, none⟩ (.bool true) := ⟨_, rfl⟩
            have HM2 := hide ((hM1.put (b := v) hu).put (b := u) hv)
            have HB2' : Hid (Below w2.heap.size w2 Z2) := by show Below _ _ _; rw [hZ2]; exact (HBZ.out.setCell (by rw [HBE.out]; exact hru) _).setCell (by rw [HBE.out]; exact hrv) _
            rw [← hZ2] at HM2
            have u1 : (u : Int) < n := by omega
            have u2 : (0 : Int) ≤ u := by omega
            have v1 : (v : Int) < n := by omega
            have v2 : (0 : Int) ≤ v := by omega
            clear hM1 hru hrv
            go_wp2
            rw [← hZ2]
            clear hZ2
            go_roundw
            case rel =>
              have key : ∀ j, j < i + 1 → ∀ a b : Nat, at' es j = ⟨a, b⟩ → put (put f2 u v) v u a b = true ∧ put (put f2 u v) v u b a = true := by
                intro j hj a b hab
                rcases Nat.lt_succ_iff_lt_or_eq.1 hj with h | h
                · obtain ⟨r1, r2⟩ := HF.out j h a b hab
                  exact ⟨put_keep _ _ (put_keep _ _ r1), put_keep _ _ (put_keep _ _ r2)⟩
                · subst h
                  rw [HX.out] at hab
                  injection hab with e5 e6
                  have e5 : u = a := by omega
                  have e6 : v = b := by omega
                  subst e5 e6
                  exact ⟨put_keep _ _ (put_new _ _ _), put_new _ _ _⟩
              exact ⟨i + 1, by omega, by go_num, HB2'.out, put (put f2 u v) v u, HM2.out, key⟩
            case measure => simp [intOf]; omega
          · have hin : i = es.length := by omega
            rw [hin] at hF
            have HF := hide hF
            have HM6 := hide hM
            have j1 : ¬ (i : Int) < es.length := by omega
            clear hin hF hM HMi
            go_wp2_with fail
            clear q0 q1
            obtain ⟨w6, hw6⟩ : ∃ w6, w6 = wr := ⟨_, rfl⟩
            rw [← hw6] at HBi HM6 ⊢
            clear hw6
            go_loopw [12] (fun t wr => ∃ v : Nat, 3 ≤ v ∧ v ≤ n ∧ t = .int .i64 v ∧ Hid (Below w6.heap.size w6 wr)) (fun t _ => n - (intOf t).toNat)
            case atStart => exact ⟨3, by omega, by omega, by go_num, Below.refl _ _⟩
            case round =>
              obtain ⟨v, hv3, hvn, rfl, HBv⟩ := hrel
              by_cases hlt3 : v < n
              · first
                | (exfalso; omega)
                | (have hn4 : 3 < n := by omega
                   obtain ⟨a, b1, c1, ha, hb, hc, t1, t2, t3, m1, m2, m3⟩ := H3.out v hv3 (by omega)
                   have fab : f2 a b1 = true := by
                     rcases m1 with h | h
                     · obtain ⟨j, hj, e⟩ := mem_at h; exact (HF.out j hj a b1 e).1
                     · obtain ⟨j, hj, e⟩ := mem_at h; exact (HF.out j hj b1 a e).2
                   have fbc : f2 b1 c1 = true := by
                     rcases m2 with h | h
                     · obtain ⟨j, hj, e⟩ := mem_at h; exact (HF.out j hj b1 c1 e).1
                     · obtain ⟨j, hj, e⟩ := mem_at h; exact (HF.out j hj c1 b1 e).2
                   have fca : f2 c1 a = true := by
                     rcases m3 with h | h
                     · obtain ⟨j, hj, e⟩ := mem_at h; exact (HF.out j hj c1 a e).1
                     · obtain ⟨j, hj, e⟩ := mem_at h; exact (HF.out j hj a c1 e).2
                   have hb6 := below_step HBi.out HBv.out
                   obtain ⟨q0, q1, _, _⟩ := HN2.out.later hb6
                   have hLv := HL2.out.later hb6
                   obtain ⟨c0, c0'⟩ := hLv (3 * v - 6) (by have := HLE.out; omega)
                   obtain ⟨d0, d0'⟩ := hLv (3 * v - 5) (by have := HLE.out; omega)
                   obtain ⟨g0, g0'⟩ := hLv (3 * v - 4) (by have := HLE.out; omega)
                   rw [t1, Nat.zero_add] at c0 c0'
                   rw [t2, Nat.zero_add] at d0 d0'
                   rw [t3, Nat.zero_add] at g0 g0'
                   simp only at c0 c0' d0 d0' g0 g0'
                   have p1e : 3 * (v : Int) - 6 = ((3 * v - 6 : Nat) : Int) := by omega
                   have p2e : 3 * (v : Int) - 5 = ((3 * v - 5 : Nat) : Int) := by omega
                   have p3e : 3 * (v : Int) - 4 = ((3 * v - 4 : Nat) : Int) := by omega
                   have p1l : 3 * v - 6 < es.length := by have := HLE.out; omega
                   have p2l : 3 * v - 5 < es.length := by have := HLE.out; omega
                   have p3l : 3 * v - 4 < es.length := by have := HLE.out; omega
                   obtain ⟨p1, hp1⟩ : ∃ p1, 3 * v - 6 = p1 := ⟨_, rfl⟩
                   obtain ⟨p2, hp2⟩ : ∃ p2, 3 * v - 5 = p2 := ⟨_, rfl⟩
                   obtain ⟨p3, hp3⟩ : ∃ p3, 3 * v - 4 = p3 := ⟨_, rfl⟩
                   rw [hp1] at c0 c0' p1e p1l
                   rw [hp2] at d0 d0' p2e p2l
                   rw [hp3] at g0 g0' p3e p3l
                   have l1 : (p1 : Int) < es.length := by omega
                   have l2 : (p2 : Int) < es.length := by omega
                   have l3 : (p3 : Int) < es.length := by omega
                   have l4 : (0 : Int) ≤ p1 := by omega
                   have l5 : (0 : Int) ≤ p2 := by omega
                   have l6 : (0 : Int) ≤ p3 := by omega
                   have zk : kx < wr.heap.size := block_lt_of_cell q0
                   have zb : b < wr.heap.size := block_lt_of_cell c0
                   have zkn : kx ≠ wr.heap.size := by omega
                   have zbn : b ≠ wr.heap.size := by omega
                   have zk1 : kx ≠ wr.heap.size + 1 := by omega
                   have zb1 : b ≠ wr.heap.size + 1 := by omega
                   clear hp1 hp2 hp3 hLv t1 t2 t3 m1 m2 m3
                   go_upto_region 25 with fail
                   obtain ⟨Y, hY⟩ : ∃ Y, Y = ((wr.alloc (.cells #[.int .i64 v, .int .i64 a] 48)).alloc (.cells #[.int .i64 v, .int .i64 b1] 48)).alloc (.cells #[.int .i64 v, .int .i64 c1] 48) := ⟨_, rfl⟩
                   have hbY : Below wr.heap.size wr Y := by rw [hY]; go_grown
                   have o0 : Y.cell? ⟨wr.heap.size, 0, none⟩ = some (.int .i64 v) := by rw [hY]; go_cell
                   have o1 : Y.cell? ⟨wr.heap.size, 1, none⟩ = some (.int .i64 a) := by rw [hY]; go_cell
                   have o2 : Y.cell? ⟨wr.heap.size + 1, 0, none⟩ = some (.int .i64 v) := by rw [hY]; go_cell
                   have o3 : Y.cell? ⟨wr.heap.size + 1, 1, none⟩ = some (.int .i64 b1) := by rw [hY]; go_cell
                   have o4 : Y.cell? ⟨wr.heap.size + 1 + 1, 0, none⟩ = some (.int .i64 v) := by rw [hY]; go_cell
                   have o5 : Y.cell? ⟨wr.heap.size + 1 + 1, 1, none⟩ = some (.int .i64 c1) := by rw [hY]; go_cell
                   rw [← hY]
                   have hMY := (HM6.out.later HBv.out).later hbY
                   have HBY := hide (below_step HBv.out hbY)
                   have sa := (hMY.1.cell (v := a) (by omega)).1
                   have sb := (hMY.1.cell (v := b1) (by omega)).1
                   have sc := (hMY.1.cell (v := c1) (by omega)).1
                   unfold rowV at sa sb sc
                   rw [if_pos (by omega)] at sa sb sc
                   have rab := ((hMY.2.2 a (by omega)).cell (j := b1) (by omega)).1
                   have rbc := ((hMY.2.2 b1 (by omega)).cell (j := c1) (by omega)).1
                   have rca := ((hMY.2.2 c1 (by omega)).cell (j := a) (by omega)).1
                   rw [fab] at rab
                   rw [fbc] at rbc
                   rw [fca] at rca
                   have O0 := cell_regrown o0
                   have O1 := cell_regrown o1
                   have O2 := cell_regrown o2
                   have O3 := cell_regrown o3
                   have O4 := cell_regrown o4
                   have O5 := cell_regrown o5
                   have SA := cell_regrown sa
                   have SB := cell_regrown sb
                   have SC := cell_regrown sc
                   have RA := cell_regrown rab
                   have RB := cell_regrown rbc
                   have RC := cell_regrown rca
                   have k1 : (a : Int) < n := by omega
                   have k2 : (b1 : Int) < n := by omega
                   have k3 : (c1 : Int) < n := by omega
                   have k4 : (0 : Int) ≤ a := by omega
                   have k5 : (0 : Int) ≤ b1 := by omega
                   have k6 : (0 : Int) ≤ c1 := by omega
                   have w1' : decide ((v : Int) ≤ a) = false := by simp; omega
                   have w1a : (a : Int) < v := by omega
                   have w2a : (b1 : Int) < v := by omega
                   have w3a : (c1 : Int) < v := by omega
                   have w1b : decide ((a : Int) < v) = true := by simp; omega
                   have w2b : decide ((b1 : Int) < v) = true := by simp; omega
                   have w3b : decide ((c1 : Int) < v) = true := by simp; omega
                   have w1c : ¬ (v : Int) ≤ a := by omega
                   have w2c : ¬ (v : Int) ≤ b1 := by omega
                   have w3c : ¬ (v : Int) ≤ c1 := by omega
                   have w2' : decide ((v : Int) ≤ b1) = false := by simp; omega
                   have w3' : decide ((v : Int) ≤ c1) = false := by simp; omega
                   clear hMY hY hbY o0 o1 o2 o3 o4 o5 sa sb sc rab rbc rca q0 q1 c0 c0' d0 d0' g0 g0' p1e p2e p3e
                   refine wp_region_quiet_below (by kernel_rfl) (by kernel_rfl) ?_
                   repeat (go_big_quiet_step (fail))
                   refine wpQuiet_nil ?_
                   intro x9 hw'
                   have HB9 : Hid (Below w6.heap.size w6 x9) := by
                     obtain ⟨⟨dq, osq⟩, hw''⟩ := hw'
                     show Below _ _ _
                     rw [hw'']
                     exact below_step HBY.out (below_regrown Y dq osq)
                   clear hw'
                   go_wp2
                   go_roundw
                   case rel =>
                     first
                     | exact ⟨v + 1, by omega, by omega, by go_num, HB9.out⟩
                     | (repeat apply Exists.intro
                        exact ⟨⟨v + 1, by omega, by omega, by go_num, HB9.out⟩, rfl⟩)
                   case measure => simp [intOf]; omega)
              · have hin : v = n := by omega
                have hvx : ¬ (v : Int) < n := by omega
                go_wp2
                go_ret
                exact ⟨rfl, below_step HB2.out (below_step HBi.out HBv.out)⟩
theorem stacks_walk (n seed : Int) (w : World) : Calls Try.prog 5 #[.int .i64 n, .int .u64 seed] w fun e w' => e = .returned (.bool true) ∧ Below w.heap.size w w' := by
  by_cases h : n < 3 ∨ 60 < n
  · exact stacks_out n seed w h
  · obtain ⟨k, rfl⟩ : ∃ k : Nat, n = k := ⟨n.toNat, by omega⟩
    exact stacks_in k seed w (by omega) (by omega)
end Go.Proofs.Ytncnghbkdbhpbaa
