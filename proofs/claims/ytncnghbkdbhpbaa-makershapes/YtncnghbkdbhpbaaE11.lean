/- Stack, in every world. -/
import Derived.Test.YtncnghbkdbhpbaaE10
namespace Go.Proofs.Ytncnghbkdbhpbaa
open Go.RowKit Go.Sort
open Go

theorem TOwns.set' {w : World} {base g cap : Nat} {ts : List Tr} (h : TOwns w base (.slice (some ⟨g, 0, none⟩) ts.length cap) ts) (j : Nat) (a b c : Int) : (((w.setCell ⟨g, j * 3, none⟩ (.int .i64 a)).setCell ⟨g, j * 3 + 1, none⟩ (.int .i64 b)).setCell ⟨g, j * 3 + 2, none⟩ (.int .i64 c)).ownsRow base 67 3 (.slice (some ⟨g, 0, none⟩) ts.length cap) ts.length (tcells (ts.set j ⟨a, b, c⟩)) := by
  have k := h.set j ⟨a, b, c⟩
  unfold TOwns at k
  rw [List.length_set] at k
  exact k
theorem lit_cell (Y : World) (arr : Array Value) (ty : TypeId) (i n : Nat) (hn : n = Y.heap.size) : (Y.alloc (.cells arr ty)).cell? ⟨n, i, none⟩ = arr[i]? := by
  subst hn
  unfold World.cell?
  rw [heap_alloc_new]
  simp
theorem tri_alloc {X : World} {B : Nat} {v : Value} {ts ts' : List Tr} (hl : ts'.length = ts.length) (h : X.ownsRow B 67 3 v ts.length (tcells ts')) (o : Obj) : TOwns (X.alloc o) B v ts' := by
  unfold TOwns
  rw [hl]
  exact World.ownsRow.alloc h o
theorem three_sets {W w : World} {g B k sb : Nat} {n s : Int} {es : List Pt} {i1 i2 i3 : Nat} {u1 u2 u3 : Value} {cur : Array Value} (hg : w.heap[g]? = some (.cells cur 67 (0, 0))) (hB : Below B W w) (hgB : B ≤ g) (hG : GB w k B n es) (hS : SrcBox w sb s) :
    Below B W (((w.setCell ⟨g, i1, none⟩ u1).setCell ⟨g, i2, none⟩ u2).setCell ⟨g, i3, none⟩ u3) ∧ GB (((w.setCell ⟨g, i1, none⟩ u1).setCell ⟨g, i2, none⟩ u2).setCell ⟨g, i3, none⟩ u3) k B n es ∧ SrcBox (((w.setCell ⟨g, i1, none⟩ u1).setCell ⟨g, i2, none⟩ u2).setCell ⟨g, i3, none⟩ u3) sb s := by
  obtain ⟨c1, h1⟩ := tri_set (i := i1) hg u1
  obtain ⟨c2, h2⟩ := tri_set (i := i2) h1 u2
  exact ⟨((hB.setCell hgB _).setCell hgB _).setCell hgB _, ((hG.tri hg u1).tri h1 u2).tri h2 u3, ((hS.tri hg u1).tri h1 u2).tri h2 u3⟩
set_option maxRecDepth 100000 in
set_option maxHeartbeats 4000000 in
theorem stack20small (n seed : Int) (w : World) (h : n < 3) : Calls Try.prog 20 #[.int .i64 n, .int .u64 seed] w fun e w' => Made w 0 [] 1 e w' := by
  go_enter Try.func20, Try.ntmps20
  go_wp2
  refine bodyPost_ret (ret_net Try.results20 rfl rfl ?kk1) rfl ⟨?bb1, none, 0, rfl, Owns.nil _ _⟩
  · exact ⟨by go_cell, by go_cell, by go_cell, by go_cell⟩
  · go_grown
set_option maxRecDepth 100000 in
set_option maxHeartbeats 4000000 in
theorem stack20huge (n seed : Int) (w : World) (h : 1024 < n) : Calls Try.prog 20 #[.int .i64 n, .int .u64 seed] w fun e w' => Made w 0 [] 3 e w' := by
  have F := huge35 n
  rw [show hugeB n = true by simp [hugeB]; omega] at F
  go_enter Try.func20, Try.ntmps20
  go_wp2_with (go_at_call 35; with_reducible refine (F _).mono ?_; rintro e w' ⟨rfl, hw⟩; have hw := hw.symm; subst hw)
  refine bodyPost_ret (ret_net Try.results20 rfl rfl ?kk1) rfl ⟨?bb1, none, 0, rfl, Owns.nil _ _⟩
  · exact ⟨by go_cell, by go_cell, by go_cell, by go_cell⟩
  · go_grown
set_option maxRecDepth 100000 in
set_option maxHeartbeats 8000000 in
theorem stack20ok (n : Nat) (seed : Int) (w : World) (h0 : 3 ≤ n) (h1 : n ≤ 1024) : Calls Try.prog 20 #[.int .i64 n, .int .u64 seed] w fun e w' => Made w n (stk seed (n - 3)).es 0 e w' := by
  obtain ⟨m, hm, hm2⟩ : ∃ m : Nat, 3 * (n : Int) - 6 = m ∧ m ≤ 3072 := ⟨3 * n - 6, by omega, by omega⟩
  have F := huge35 n
  rw [show hugeB n = false by simp [hugeB]; omega] at F
  have J := mfits36 n m
  rw [show fitsB n m = true by simp [fitsB]; omega] at J
  obtain ⟨W, hW, hb, hN, hsz⟩ := one_box w
  have R := hide (room37 n m W (by omega))
  have HB := hide hb
  have HN := hide hN
  have HSZ := hide hsz
  clear hb hN hsz
  go_enter Try.func20, Try.ntmps20
  go_wp2_with (first | (go_at_call 35; with_reducible refine (F _).mono ?_; rintro e w' ⟨rfl, hw⟩; have hw := hw.symm; subst hw) | (go_at_call 36; with_reducible refine (J _).mono ?_; rintro e w' ⟨rfl, hw⟩; have hw := hw.symm; subst hw))
  rw [← hW]
  clear hW
  refine R.out.mono ?_
  rintro e w1 ⟨kk, rfl, ho, hb1⟩
  obtain ⟨U, hU⟩ : ∃ U, U = w1.alloc (.cells #[.int .i64 n, .slice (some ⟨kk, 0, none⟩) 0 m] 28) := ⟨_, rfl⟩
  have HG : Hid (GB U w1.heap.size W.heap.size n []) := by show GB _ _ _ _ _; rw [hU]; exact GB.made hb1.size ho
  have HBU : Hid (Below W.heap.size W U) := by show Below _ _ _; rw [hU]; exact hb1.alloc hb1.size _
  clear ho hb1
  go_wp2_with fail
  rw [← hU]
  obtain ⟨k, hk⟩ : ∃ k, w1.heap.size = k := ⟨_, rfl⟩
  rw [hk] at HG ⊢
  clear hU hk F J hm
  go_loopw [34] (fun t wr => ∃ i : Nat, i ≤ 3 ∧ t = .int .i64 i ∧ Hid (Below W.heap.size W wr) ∧ Hid (GB wr k W.heap.size n ((stk seed 0).es.take i))) (fun t _ => 3 - (intOf t).toNat)
  case atStart => exact ⟨0, by omega, rfl, HBU.out, HG.out⟩
  case round =>
    obtain ⟨i, hi, rfl, HBr, HGr⟩ := hrel
    by_cases hlt : i < 3
    · have h3 : i = 0 ∨ i = 1 ∨ i = 2 := by omega
      rcases h3 with rfl | rfl | rfl
      · have C := hide (tie33 k W.heap.size n 0 1 [] wr HGr.out (by simp))
        go_wp2_with (go_at_call 33; refine C.out.mono ?_; rintro e w2 ⟨rfl, hg, hb2, hk⟩; have HG2 := hide hg; have HB2 := hide hb2; clear hg hb2 hk)
        go_roundw
        case rel => exact ⟨1, by omega, by go_num, Below.trans HBr.out HB2.out, HG2.out⟩
        case measure => simp [intOf]
      · have C := hide (tie33 k W.heap.size n 1 2 [⟨0, 1⟩] wr HGr.out (by simp))
        go_wp2_with (go_at_call 33; refine C.out.mono ?_; rintro e w2 ⟨rfl, hg, hb2, hk⟩; have HG2 := hide hg; have HB2 := hide hb2; clear hg hb2 hk)
        go_roundw
        case rel => exact ⟨2, by omega, by go_num, Below.trans HBr.out HB2.out, HG2.out⟩
        case measure => simp [intOf]
      · have C := hide (tie33 k W.heap.size n 2 0 [⟨0, 1⟩, ⟨1, 2⟩] wr HGr.out (by simp))
        go_wp2_with (go_at_call 33; refine C.out.mono ?_; rintro e w2 ⟨rfl, hg, hb2, hk⟩; have HG2 := hide hg; have HB2 := hide hb2; clear hg hb2 hk)
        go_roundw
        case rel => exact ⟨3, by omega, by go_num, Below.trans HBr.out HB2.out, HG2.out⟩
        case measure => simp [intOf]
    · have hin : i = 3 := by omega
      subst hin
      obtain ⟨Y, hY⟩ : ∃ Y, Y = (wr.alloc (.cells #[.int .u64 seed] 66)).alloc (.cells #[.int .i64 0, .int .i64 1, .int .i64 2, .int .i64 0, .int .i64 2, .int .i64 1] 67) := ⟨_, rfl⟩
      have hbY : Below wr.heap.size wr Y := by rw [hY]; go_grown
      have HGY : Hid (GB Y k W.heap.size n (stk seed 0).es) := HGr.out.later hbY
      have HBY : Hid (Below W.heap.size W Y) := Below.trans HBr.out (hbY.mono HBr.out.size)
      have HSY : Hid (SrcBox Y wr.heap.size seed) := by show _ = _; rw [hY]; exact heap_alloc2_old _ _ _
      have HTY : Hid (TOwns Y W.heap.size (.slice (some ⟨wr.heap.size + 1, 0, none⟩) 2 2) (stk seed 0).ts) := by
        show World.ownsRow _ _ _ _ _ _ _
        rw [hY]
        have := World.ownsRow_lit (base := W.heap.size) (e := 67) (size := 3) (wr.alloc (.cells #[.int .u64 seed] 66)) #[.int .i64 0, .int .i64 1, .int .i64 2, .int .i64 0, .int .i64 2, .int .i64 1] 2 (by simp; have := HBr.out.size; omega) (by unfold maxLen; omega) rfl
        simp at this
        exact this
      have HSBL := hide HBr.out.size
      go_wp2_with fail
      rw [← hY]
      obtain ⟨sb, hsb⟩ : ∃ sb, wr.heap.size = sb := ⟨_, rfl⟩
      rw [hsb] at HSY HTY HSBL ⊢
      clear hY hsb hbY
      go_loopw [9, 10] (fun s t wr => ∃ j : Nat, j ≤ n - 3 ∧ t = .int .i64 (3 + j) ∧ Hid (Below W.heap.size W wr) ∧ Hid (GB wr k W.heap.size n (stk seed j).es) ∧ Hid (SrcBox wr sb (stk seed j).st) ∧ Hid (TOwns wr W.heap.size s (stk seed j).ts)) (fun _ t _ => n - (intOf t).toNat)
      case atStart => exact ⟨0, by omega, by go_num, HBY.out, HGY.out, HSY.out, HTY.out⟩
      case round =>
        obtain ⟨j, hj, rfl, HBr, HGr, HSr, HTr⟩ := hrel
        by_cases hlt : j < n - 3
        · obtain ⟨HL1, HL2⟩ := stk_length seed j
          obtain ⟨S, hS⟩ : ∃ S, stk seed j = S := ⟨_, rfl⟩
          rw [hS] at HGr HSr HTr HL1 HL2
          have L1 := hide HL1
          have L2 := hide HL2
          clear HL1 HL2
          obtain ⟨g, c, rfl, hgB, _⟩ := HTr.out.form (by rw [L1.out]; omega)
          have D := hide (draw44 sb S.ts.length S.st wr HSr.out (by rw [L1.out]; omega) (by rw [L1.out]; omega))
          obtain ⟨d, hd⟩ : ∃ d, drawS (nextS S.st) S.ts.length = d := ⟨_, rfl⟩
          have hdl : d < S.ts.length := by rw [← hd]; exact drawS_lt _ _ (by rw [L1.out]; omega)
          obtain ⟨x, hx⟩ : ∃ x, tat S.ts d = x := ⟨_, rfl⟩
          have HE : Hid (stk seed (j + 1) = ⟨nextS S.st, S.ts.set d ⟨x.a, x.b, 3 + j⟩ ++ [⟨x.b, x.c, 3 + j⟩, ⟨x.c, x.a, 3 + j⟩], S.es ++ [⟨3 + j, x.a⟩] ++ [⟨3 + j, x.b⟩] ++ [⟨3 + j, x.c⟩]⟩) := by
            show _ = _
            rw [← hx, ← hd, ← hS]
            rfl
          rw [hd] at D
          have HX := hide hx
          clear hS hd hx
          go_wp2_with fail
          refine D.out.mono ?_
          rintro e X1 ⟨rfl, hX1⟩
          have HS1 : Hid (SrcBox X1 sb (nextS S.st)) := by show SrcBox _ _ _; rw [hX1]; exact HSr.out.set _
          have HG1 : Hid (GB X1 k W.heap.size n S.es) := by show GB _ _ _ _ _; rw [hX1]; exact HGr.out.src HSr.out _
          have HT1 : Hid (TOwns X1 W.heap.size (.slice (some ⟨g, 0, none⟩) S.ts.length c) S.ts) := by show TOwns _ _ _ _; rw [hX1]; exact HTr.out.src HSr.out _
          have HB1 : Hid (Below W.heap.size W X1) := by show Below _ _ _; rw [hX1]; exact HBr.out.setCell HSBL.out _
          clear hX1 D
          obtain ⟨c0, c1, c2, _, _, _⟩ := HT1.out.at d hdl
          rw [HX.out] at c0 c1 c2
          have i1 : (d : Int) < S.ts.length := by omega
          have i2 : (0 : Int) ≤ d := by omega
          go_wp2_with fail
          go_quiet (fail)
          clear c0 c1 c2
          obtain ⟨Z1, hZ1⟩ : ∃ Z1, Z1 = X1.drewN nq := ⟨_, rfl⟩
          have hbZ : Below X1.heap.size X1 Z1 := by rw [hZ1]; exact below_drewN (Below.refl _ _)
          have HG2 := hide (HG1.out.later hbZ)
          have HS2 := hide (HS1.out.later hbZ)
          have HT2 := hide (HT1.out.later hbZ)
          have HB2 := hide (below_step HB1.out hbZ)
          rw [← hZ1]
          clear hZ1 hbZ HG1 HS1 HT1 HB1
          have C := hide (tie33 k W.heap.size n (3 + j) x.a (S.es) Z1 HG2.out (by have hh := L2.out; first | omega | (simp; omega)))
          go_wp2_with fail
          refine C.out.mono ?_
          rintro e Z2 ⟨rfl, hg, hb2, hk⟩
          have HG3 := hide hg
          have HB3 := hide (Below.trans HB2.out hb2)
          have HS3 := hide (HS2.out.keeps hk)
          have HT3 : Hid (TOwns Z2 W.heap.size (.slice (some ⟨g, 0, none⟩) S.ts.length c) S.ts) := Keeps.row hk HT2.out (by decide) (by decide)
          clear hg hb2 hk C
          have C := hide (tie33 k W.heap.size n (3 + j) x.b (S.es ++ [⟨3 + j, x.a⟩]) Z2 HG3.out (by have hh := L2.out; first | omega | (simp; omega)))
          go_wp2_with fail
          refine C.out.mono ?_
          rintro e Z3 ⟨rfl, hg, hb2, hk⟩
          have HG4 := hide hg
          have HB4 := hide (Below.trans HB3.out hb2)
          have HS4 := hide (HS3.out.keeps hk)
          have HT4 : Hid (TOwns Z3 W.heap.size (.slice (some ⟨g, 0, none⟩) S.ts.length c) S.ts) := Keeps.row hk HT3.out (by decide) (by decide)
          clear hg hb2 hk C
          have C := hide (tie33 k W.heap.size n (3 + j) x.c (S.es ++ [⟨3 + j, x.a⟩] ++ [⟨3 + j, x.b⟩]) Z3 HG4.out (by have hh := L2.out; first | omega | (simp; omega)))
          go_wp2_with fail
          refine C.out.mono ?_
          rintro e Z4 ⟨rfl, hg, hb2, hk⟩
          have HG5 := hide hg
          have HB5 := hide (Below.trans HB4.out hb2)
          have HS5 := hide (HS4.out.keeps hk)
          have HT5 : Hid (TOwns Z4 W.heap.size (.slice (some ⟨g, 0, none⟩) S.ts.length c) S.ts) := Keeps.row hk HT4.out (by decide) (by decide)
          clear hg hb2 hk C
          clear HG2 HG3 HG4 HB2 HB3 HB4 HS2 HS3 HS4 HT2 HT3 HT4
          obtain ⟨c0, c1, c2, f0, f1, f2⟩ := HT5.out.at d hdl
          obtain ⟨g', c', hgc, _, cur, hcur⟩ := HT5.out.form (by rw [L1.out]; omega)
          simp only [Value.slice.injEq, Option.some.injEq, Addr.mk.injEq, true_and, and_true] at hgc
          obtain ⟨rfl, rfl⟩ := hgc
          have hrow := HT5.out.set' d x.a x.b (3 + j)
          obtain ⟨tB, tG, tS⟩ := three_sets (i1 := d * 3) (i2 := d * 3 + 1) (i3 := d * 3 + 2) (u1 := .int .i64 x.a) (u2 := .int .i64 x.b) (u3 := .int .i64 (3 + j)) hcur HB5.out hgB HG5.out HS5.out
          have HROW := hide hrow
          have HTB := hide tB
          have HTG := hide tG
          have HTS := hide tS
          obtain ⟨i0, hi0, hz0, hz1, hz2⟩ := info_parts info67
          clear hrow tB tG tS hcur
          go_wp2_with (at_builtin; refine wpList_append_own _ rfl _ _ 68 rfl W.heap.size 67 i0 (.agg #[.int .i64 0, .int .i64 0, .int .i64 0]) 3 24 Try.underlying68 hi0 hz0 hz1 hz2 rfl (by decide) _ _ _ rfl (World.ownsRow.alloc HROW.out _) ⟨Z4.heap.size, 0, none⟩ 2 2 [.int .i64 x.b, .int .i64 x.c, .int .i64 (3 + j), .int .i64 x.c, .int .i64 x.a, .int .i64 (3 + j)] rfl rfl ?d1 ?d2 ?d3 ?d4 ?d5 ?_)
          case d1 =>
            intro q u hq
            rw [Go.WideShapes.add_plain, lit_cell _ _ _ _ _ (by simp)]
            simpa using hq
          case d2 => intro u hu; simp at hu; rcases hu with rfl | rfl | rfl | rfl | rfl | rfl <;> rfl
          case d3 => have := L1.out; unfold maxLen; omega
          case d4 => have := L1.out; omega
          case d5 => have := HB5.out.size; simp; omega
          intro v' w5 hown' hgrow _
          have HT6 : Hid (TOwns w5 W.heap.size v' (S.ts.set d ⟨x.a, x.b, 3 + j⟩ ++ [⟨x.b, x.c, 3 + j⟩, ⟨x.c, x.a, 3 + j⟩])) := towns_more (by rw [List.length_set]; exact hown')
          have HG6 : Hid (GB w5 k W.heap.size n (S.es ++ [⟨3 + j, x.a⟩] ++ [⟨3 + j, x.b⟩] ++ [⟨3 + j, x.c⟩])) := GB.grown (HTG.out.later (by go_grown)) (tri_alloc List.length_set HROW.out _) hgrow
          have HS6 : Hid (SrcBox w5 sb (nextS S.st)) := SrcBox.grown (HTS.out.later (by go_grown)) (tri_alloc List.length_set HROW.out _) hgrow
          have HB6 : Hid (Below W.heap.size W w5) := below_grown (HTB.out.alloc HTB.out.size _) (World.ownsRow.alloc HROW.out _) (Nat.le_refl _) (by have := HB5.out.size; simp; omega) hgrow
          clear hown' hgrow c0 c1 c2 f0 f1 f2 HROW
          go_wp2
          go_roundw
          case rel =>
            repeat apply Exists.intro
            exact ⟨⟨j + 1, by omega, by go_num, HB6.out, by show GB _ _ _ _ _; rw [HE.out]; exact HG6.out, by show SrcBox _ _ _; rw [HE.out]; exact HS6.out, by show TOwns _ _ _ _; rw [HE.out]; exact HT6.out⟩, rfl⟩
          case measure => simp [intOf]; omega
        · have hin : j = n - 3 := by omega
          subst hin
          obtain ⟨_, p, c, hS, hO⟩ := HGr.out
          obtain ⟨q0, q1, _, _⟩ := hS.cell
          obtain ⟨r0, r1, r2, r3⟩ := HN.out.later HBr.out
          have hlt2 : w.heap.size < W.heap.size := by rw [HSZ.out]; omega
          obtain ⟨V, hV, kV, mV⟩ := finish (n := n) hlt2 (HN.out.later HBr.out) hO (below_step HB.out HBr.out)
          have HV := hide hV
          have KV := hide kV
          have MV := hide mV
          clear hV kV mV hS hO
          go_wp2
          rw [← HV.out]
          exact bodyPost_ret (ret_net Try.results20 rfl rfl KV.out) rfl (MV.out 0)
def stackO (n seed : Int) : Out := if n < 3 then ⟨0, [], 1⟩ else if 1024 < n then ⟨0, [], 3⟩ else ⟨n, (stk seed (n.toNat - 3)).es, 0⟩
theorem stack20 (n seed : Int) (w : World) : Calls Try.prog 20 #[.int .i64 n, .int .u64 seed] w fun e w' => (stackO n seed).made w e w' := by
  unfold stackO Out.made
  by_cases h1 : n < 3
  · rw [if_pos h1]; exact stack20small n seed w h1
  by_cases h2 : 1024 < n
  · rw [if_neg h1, if_pos h2]; exact stack20huge n seed w h2
  · rw [if_neg h1, if_neg h2]
    obtain ⟨x, rfl⟩ : ∃ x : Nat, n = x := ⟨n.toNat, by omega⟩
    exact stack20ok x seed w (by omega) (by omega)
end Go.Proofs.Ytncnghbkdbhpbaa
