/- The document's Join (carried from the net seat). -/
import Derived.Test.YtaebbfilgfkckaaMK
import Derived.Test.YtaebbfilgfkckaaT4
import Derived.Test.YtaebbfilgfkckaaR1
namespace Go.Proofs.Ytaebbfilgfkckaa
open Go.RowKit Go.Sort
open Go

theorem joinL_net {n m : Int} {a b : List Pt} (ha : netB n a = true) (hb : netB m b = true) : netB (n + m) (joinL n a b) = fitsB (n + m) (a.length + b.length) := by
  obtain ⟨n0, n1, la, ea⟩ := netB_is ha
  obtain ⟨m0, m1, lb, eb⟩ := netB_is hb
  have hall : (joinL n a b).all (edB (n + m)) = true := by
    rw [List.all_eq_true]
    intro e he
    unfold joinL at he
    rw [List.mem_append] at he
    rcases he with he | he
    · obtain ⟨j, hj, rfl⟩ := mem_at he
      obtain ⟨h1, h2, h3, h4⟩ := ea j hj
      unfold edB belowB
      simp
      omega
    · rw [List.mem_map] at he
      obtain ⟨f, hf, rfl⟩ := he
      obtain ⟨j, hj, rfl⟩ := mem_at hf
      obtain ⟨h1, h2, h3, h4⟩ := eb j hj
      unfold edB belowB
      simp
      omega
  unfold netB
  rw [hall, joinL_length, decide_eq_true (show 0 ≤ n + m by omega), Int.natCast_add]
  simp
theorem SBox.ne {w : World} {k g B c : Nat} {n : Int} {v : Value} {ps : List Pt} (h : SBox w k n v) (o : Owns w B (.slice (some ⟨g, 0, none⟩) ps.length c) ps) : g ≠ k := by
  rintro rfl
  obtain ⟨_, ⟨h1, _⟩ | ⟨g1, c1, cur1, h1, _, h2, _⟩⟩ := h
  · cases h1
  obtain ⟨_, ⟨k1, _⟩ | ⟨g2, c2, cur2, k1, _, k2, _⟩⟩ := o
  · cases k1
  simp only [Value.slice.injEq, Option.some.injEq, Addr.mk.injEq] at h1 k1
  rw [← h1.1.1] at h2
  rw [← k1.1.1, h2] at k2
  simp at k2
theorem other1 {U : World} {g j : Nat} {b v : Value} {A : Addr} (h : U.cell? A = some v) (hne : A.block ≠ g) : (U.setCell ⟨g, j, none⟩ b).drew.cell? A = some v := by
  have n2 : (⟨g, j, none⟩ : Addr) ≠ A := fun e => hne (by rw [← e])
  show (U.setCell ⟨g, j, none⟩ b).cell? A = some v
  rw [World.cell?_setCell_other _ _ _ _ n2]; exact h
theorem one_lies (W : World) (z : Pt) (n : Nat) (hn : n = W.heap.size) : Lies (W.alloc (.cells #[.int .i64 z.x, .int .i64 z.y] 57)) n 0 [z] := by
  subst hn
  intro j hj
  simp at hj
  subst hj
  exact ⟨by simp only [at', List.getD_cons_zero]; go_cell, by simp only [at', List.getD_cons_zero]; go_cell⟩
set_option maxRecDepth 100000 in
set_option maxHeartbeats 8000000 in
theorem join24 (n m : Int) (p q : Option Addr) (a b : List Pt) (cp cq : Nat) (w : World) (hm : netB n a = true) (hk : netB m b = true) (hnil : p = none → cp = 0) (h : Has w p a) (k : Has w q b) : Calls Try.prog 28 #[nv n p a.length cp, nv m q b.length cq] w fun e w' => JoinPost n m a b w e w' ∧ Below w.heap.size w w' := by
  obtain ⟨W, hW, hb, a0, b0, c0⟩ := three_nets w n m p q a.length b.length cp cq
  have CO := hide (copy53 n p a cp W hnil (by have := (netB_is hm).2.2.1; omega) (h.later hb))
  have HK := hide (k.later hb)
  have HB := hide hb
  have HA := hide a0
  have HC := hide b0
  have HN := hide c0
  obtain ⟨n0, n1, hla, _⟩ := netB_is hm
  obtain ⟨m0, m1, hlb, heb⟩ := netB_is hk
  have HEB := hide heb
  obtain ⟨q0, q1, _, _⟩ := a0
  obtain ⟨x0, x1, _, _⟩ := b0
  clear h k hb c0 heb
  go_enter Try.func28, Try.ntmps28
  go_wp2_with fail
  rw [← hW]
  clear hW
  go_wp2_with fail
  refine CO.out.mono ?_
  rintro e w1 ⟨p1, c1, rfl, o1, hb1⟩
  have HB1 := hide hb1
  have HO1 := hide o1
  have HA1 := hide (HA.out.later hb1)
  have HC1 := hide (HC.out.later hb1)
  have HN1 := hide (HN.out.later hb1)
  have HK1 := hide (HK.out.later hb1)
  have hw1 : w.heap.size + 1 + 1 < W.heap.size := block_lt_of_cell HN.out.1
  have hz1 : W.heap.size ≤ w1.heap.size := hb1.size
  clear q0 q1 x0 x1 hb1 o1 CO
  obtain ⟨q0, q1, _, _⟩ := HA1.out
  obtain ⟨x0, x1, _, _⟩ := HC1.out
  have hs0 : w.heap.size ≠ w1.heap.size := by omega
  have hs1 : w.heap.size + 1 ≠ w1.heap.size := by omega
  have hs2 : w.heap.size < w1.heap.size := by omega
  have hs3 : w.heap.size + 1 < w1.heap.size := by omega
  go_wp2_with fail
  clear q0 q1 x0 x1
  obtain ⟨U, hU⟩ : ∃ U, U = w1.alloc (.cells #[.int .i64 (n + m), .slice p1 a.length c1] 24) := ⟨_, rfl⟩
  have hbU : Below w1.heap.size w1 U := by rw [hU]; go_grown
  have HSU : Hid (SBox U w1.heap.size (n + m) (.slice p1 a.length c1)) := by show SBox _ _ _ _; rw [hU]; exact SBox.made _ _ _
  have HOU := hide (HO1.out.later hbU)
  have HBU := hide (below_step HB1.out hbU)
  rw [← hU]
  clear hU hbU
  go_loopw [7] (fun t wr => ∃ i : Nat, i ≤ b.length ∧ t = .int .i64 i ∧ Hid (Below W.heap.size W wr) ∧ Hid (∃ p' c', SBox wr w1.heap.size (n + m) (.slice p' (joinL n a (b.take i)).length c') ∧ Owns wr W.heap.size (.slice p' (joinL n a (b.take i)).length c') (joinL n a (b.take i)))) (fun t _ => b.length - (intOf t).toNat)
  case atStart =>
    refine ⟨0, by omega, rfl, HBU.out, p1, c1, ?_⟩
    rw [show joinL n a (b.take 0) = a by simp [joinL]]
    exact ⟨HSU.out, HOU.out⟩
  case round =>
    obtain ⟨i, hi, rfl, HBr, HR⟩ := hrel
    have hTl : (joinL n a (b.take i)).length = a.length + i := by rw [joinL_length, List.length_take]; omega
    have HTL := hide hTl
    clear hTl
    obtain ⟨p', c', hs, ho⟩ := HR.out
    have HS := hide hs
    have HO := hide ho
    clear HR hs ho
    have HAr := hide (HA.out.later HBr.out)
    have HCr := hide (HC.out.later HBr.out)
    obtain ⟨q0, q1, _, _⟩ := HAr.out
    obtain ⟨x0, x1, _, _⟩ := HCr.out
    obtain ⟨s0, s1, s2, s3⟩ := HS.out.cell
    by_cases hlt : i < b.length
    · have hT : Hid (joinL n a (b.take (i + 1)) = joinL n a (b.take i) ++ [⟨(at' b i).x + n, (at' b i).y + n⟩]) := by
        show _ = _
        rw [joinL_more n a b hlt, Int.add_comm n, Int.add_comm n]
      obtain ⟨e0, e1, e2, e3⟩ := HEB.out i hlt
      rcases HK.out with h | ⟨be, oe, rfl, hE0⟩
      · subst h; simp at hlt
      obtain ⟨d0, d1⟩ := hE0.later HBr.out i hlt
      have nE : be ≠ w1.heap.size := by have := block_lt_of_cell (hE0 i hlt).1; simp at this; omega
      have HE0 := hide (hE0 i hlt)
      obtain ⟨y, hy⟩ : ∃ y, at' b i = y := ⟨_, rfl⟩
      rw [hy] at d0 d1 hT e0 e1 e2 e3 HE0
      obtain ⟨T, hTT⟩ : ∃ T, joinL n a (b.take i) = T := ⟨_, rfl⟩
      rw [hTT] at HO HS hT HTL s1
      clear hE0 hy hTT
      have zW : w1.heap.size < wr.heap.size := by have := block_lt_of_cell s0; simpa using this
      have zE : be < wr.heap.size := by have := block_lt_of_cell d0; simpa using this
      have hszr := HBr.out.size
      obtain ⟨Y, hY⟩ : ∃ Y : Pt, Y = ⟨y.x + n, y.y + n⟩ := ⟨_, rfl⟩
      have hbD : Below wr.heap.size wr (wr.alloc (.cells #[.int .i64 (y.x + n), .int .i64 (y.y + n)] 57)).drew := by go_grown
      have oD := HO.out.later hbD
      have sD : SBox (wr.alloc (.cells #[.int .i64 (y.x + n), .int .i64 (y.y + n)] 57)).drew w1.heap.size (n + m) (.slice p' T.length c') := World.ownsRow.alloc HS.out _
      obtain ⟨v1, D1, e4, o4, gr4⟩ := append_prs oD (some ⟨wr.heap.size, 0, none⟩) 1 [⟨y.x + n, y.y + n⟩] (fun h => by cases h) (Or.inr ⟨_, _, rfl, (one_lies wr ⟨y.x + n, y.y + n⟩ _ rfl).later (below_drew _)⟩) (Nat.le_trans HBr.out.size hbD.size) (by have := HTL.out; simp; omega)
      have sD1 : SBox D1 w1.heap.size (n + m) (.slice p' T.length c') := World.ownsRow.kept sD gr4 (Or.inr fun hc => sD.apart oD hc.symm)
      have hb4 : Below W.heap.size W D1 := below_grown (Below.trans HBr.out (hbD.mono HBr.out.size)) oD (Nat.le_refl _) (Nat.le_trans HBr.out.size hbD.size) gr4
      obtain ⟨p2, c2, hv1, _, _, _, _⟩ := o4.form
      subst hv1
      rw [show (T ++ [(⟨y.x + n, y.y + n⟩ : Pt)]).length = T.length + 1 by simp] at e4 o4
      simp only [List.length_cons, List.length_nil, Nat.zero_add] at e4
      have HO4 := hide o4
      have HS4 := hide sD1
      have HB4 := hide hb4
      have CC : Hid (wr.cell? ⟨w.heap.size, 0, none⟩ = some (.int .i64 n) ∧ wr.cell? ⟨w.heap.size + 1, 1, none⟩ = some (.slice (some ⟨be, oe, none⟩) b.length cq) ∧ wr.cell? ⟨be, oe + i * 2, none⟩ = some (.int .i64 y.x) ∧ wr.cell? ⟨be, oe + i * 2 + 1, none⟩ = some (.int .i64 y.y)) := ⟨q0, x1, d0, d1⟩
      have CD : Hid ((wr.alloc (.cells #[.int .i64 (y.x + n), .int .i64 (y.y + n)] 57)).drew.cell? ⟨w.heap.size, 0, none⟩ = some (.int .i64 n) ∧ (wr.alloc (.cells #[.int .i64 (y.x + n), .int .i64 (y.y + n)] 57)).drew.cell? ⟨w.heap.size + 1, 1, none⟩ = some (.slice (some ⟨be, oe, none⟩) b.length cq) ∧ (wr.alloc (.cells #[.int .i64 (y.x + n), .int .i64 (y.y + n)] 57)).drew.cell? ⟨be, oe + i * 2, none⟩ = some (.int .i64 y.x) ∧ (wr.alloc (.cells #[.int .i64 (y.x + n), .int .i64 (y.y + n)] 57)).drew.cell? ⟨be, oe + i * 2 + 1, none⟩ = some (.int .i64 y.y)) := ⟨later hbD q0, later hbD x1, later hbD d0, later hbD d1⟩
      have hbk : ∀ {ad : Addr} {v : Value}, W.cell? ad = some v → D1.cell? ad = some v := fun h => later hb4 h
      have CE : Hid (D1.cell? ⟨w.heap.size, 0, none⟩ = some (.int .i64 n) ∧ D1.cell? ⟨w.heap.size + 1, 1, none⟩ = some (.slice (some ⟨be, oe, none⟩) b.length cq) ∧ D1.cell? ⟨be, oe + i * 2, none⟩ = some (.int .i64 y.x) ∧ D1.cell? ⟨be, oe + i * 2 + 1, none⟩ = some (.int .i64 y.y)) := ⟨hbk HA.out.1, hbk HC.out.2.1, hbk HE0.out.1, hbk HE0.out.2⟩
      obtain ⟨t0, t1, t2, t3⟩ := HS4.out.cell
      have i1 : (i : Int) < b.length := by omega
      have i2 : (0 : Int) ≤ i := by omega
      have wx : IntKind.i64.wrap (y.x + n) = y.x + n := by rw [IntKind.wrap_i64]; omega
      have wy : IntKind.i64.wrap (y.y + n) = y.y + n := by rw [IntKind.wrap_i64]; omega
      clear o4 sD1 hb4 sD oD gr4 hbD hbk hY
      go_wp2_with fail
      refine wp_region_held_drew (S := (fun W => W.cell? ⟨w.heap.size, 0, none⟩ = some (.int .i64 n) ∧ W.cell? ⟨w.heap.size + 1, 1, none⟩ = some (.slice (some ⟨be, oe, none⟩) b.length cq) ∧ W.cell? ⟨be, oe + i * 2, none⟩ = some (.int .i64 y.x) ∧ W.cell? ⟨be, oe + i * 2 + 1, none⟩ = some (.int .i64 y.y))) (by kernel_rfl) (by exact CC.out) (fun hHeld => ?_)
      refine wpAnyH_take (i := 0) (v := ?v1) rfl (by kernel_rfl) (by kernel_rfl) (by kernel_rfl) (fun _ _ _ h => h) (Or.inl ⟨by rfl, ?hy1⟩) (by assumption) ?rest1
      case hy1 => (intro w hSw; (try dsimp only at hSw); go_simp; try with_reducible rfl)
      try simp only [Act.put, List.setIfInBounds_toArray]
      refine wpAnyH_take (i := 2) (v := ?v2) rfl (by kernel_rfl) (by kernel_rfl) (by kernel_rfl) (fun _ _ _ h => h) (Or.inl ⟨by rfl, ?hy2⟩) (by assumption) ?rest2
      case hy2 => (intro w hSw; (try dsimp only at hSw); go_simp; try with_reducible rfl)
      try simp only [Act.put]
      refine wpAnyH_take (i := 3) (v := ?v3) rfl (by kernel_rfl) (by kernel_rfl) (by kernel_rfl) (fun _ _ _ h => h) (Or.inl ⟨by rfl, ?hy3⟩) (by assumption) ?rest3
      case hy3 => (intro w hSw; (try dsimp only at hSw); go_simp; try with_reducible rfl)
      try simp only [Act.put]
      refine wpAnyH_take (i := 4) (v := ?v4) rfl (by kernel_rfl) (by kernel_rfl) (by kernel_rfl) (fun _ _ _ h => h) (Or.inl ⟨by rfl, ?hy4⟩) (by assumption) ?rest4
      case hy4 => (intro w hSw; (try dsimp only at hSw); go_simp; try with_reducible rfl)
      try simp only [Act.put]
      refine wpAnyH_take (i := 5) (v := ?v5) rfl (by kernel_rfl) (by kernel_rfl) (by kernel_rfl) (fun _ _ _ h => h) (Or.inl ⟨by rfl, ?hy5⟩) (by assumption) ?rest5
      case hy5 => (intro w hSw; (try dsimp only at hSw); go_simp; try with_reducible rfl)
      try simp only [Act.put]
      refine wpAnyH_take (i := 6) (v := ?v6) rfl (by kernel_rfl) (by kernel_rfl) (by kernel_rfl) (fun _ _ _ h => h) (Or.inl ⟨by rfl, ?hy6⟩) (by assumption) ?rest6
      case hy6 => (intro w hSw; (try dsimp only at hSw); go_simp; try with_reducible rfl)
      try simp only [Act.put]
      refine wpAnyH_take (i := 7) (v := ?v7) rfl (by kernel_rfl) (by kernel_rfl) (by kernel_rfl) (fun _ _ _ h => h) (Or.inl ⟨by rfl, ?hy7⟩) (by assumption) ?rest7
      case hy7 => (intro w hSw; (try dsimp only at hSw); go_simp; try with_reducible rfl)
      try simp only [Act.put]
      refine wpAnyH_take (i := 8) (v := ?v8) rfl (by kernel_rfl) (by kernel_rfl) (by kernel_rfl) (fun _ _ _ h => h) (Or.inl ⟨by rfl, ?hy8⟩) (by assumption) ?rest8
      case hy8 => (intro w hSw; (try dsimp only at hSw); go_simp; try with_reducible rfl)
      try simp only [Act.put]
      refine wpAnyH_take (i := 9) (v := ?v9) rfl (by kernel_rfl) (by kernel_rfl) (by kernel_rfl) (fun _ _ _ h => h) (Or.inl ⟨by rfl, ?hy9⟩) (by assumption) ?rest9
      case hy9 => (intro w hSw; (try dsimp only at hSw); go_simp; try with_reducible rfl)
      try simp only [Act.put]
      refine wpAnyH_take (i := 10) (v := ?v10) rfl (by kernel_rfl) (by kernel_rfl) (by kernel_rfl) (fun _ _ _ h => h) (Or.inl ⟨by rfl, ?hy10⟩) (by assumption) ?rest10
      case hy10 => (intro w hSw; (try dsimp only at hSw); go_simp; try with_reducible rfl)
      try simp only [Act.put]
      refine wpAnyH_take (i := 11) (v := ?v11) rfl (by kernel_rfl) (by kernel_rfl) (by kernel_rfl) (fun _ _ _ h => h) (Or.inl ⟨by rfl, ?hy11⟩) (by assumption) ?rest11
      case hy11 => (intro w hSw; (try dsimp only at hSw); go_simp; try with_reducible rfl)
      try simp only [Act.put]
      refine wpAnyH_take (i := 12) (v := ?v12) rfl (by kernel_rfl) (by kernel_rfl) (by kernel_rfl) (fun _ _ _ h => h) (Or.inl ⟨by rfl, ?hy12⟩) (by assumption) ?rest12
      case hy12 => (intro w hSw; (try dsimp only at hSw); go_simp; try with_reducible rfl)
      try simp only [Act.put]
      refine wpAnyH_take (i := 13) (v := ?v13) rfl (by kernel_rfl) (by kernel_rfl) (by kernel_rfl) (fun _ _ _ h => h) (Or.inl ⟨by rfl, ?hy13⟩) (by assumption) ?rest13
      case hy13 => (intro w hSw; (try dsimp only at hSw); go_simp; try with_reducible rfl)
      try simp only [Act.put]
      refine wpAnyH_take (i := 14) (v := ?v14) rfl (by kernel_rfl) (by kernel_rfl) (by kernel_rfl) (fun _ _ _ h => h) (Or.inl ⟨by rfl, ?hy14⟩) (by assumption) ?rest14
      case hy14 => (intro w hSw; (try dsimp only at hSw); go_simp; try with_reducible rfl)
      try simp only [Act.put]
      refine wpAnyH_take (i := 15) (v := ?v15) rfl (by kernel_rfl) (by kernel_rfl) (by kernel_rfl) (fun _ _ _ h => h) (Or.inl ⟨by rfl, ?hy15⟩) (by assumption) ?rest15
      case hy15 => (intro w hSw; (try dsimp only at hSw); go_simp; try with_reducible rfl)
      try simp only [Act.put]
      refine wpAnyH_take (i := 16) (v := ?v16) rfl (by kernel_rfl) (by kernel_rfl) (by kernel_rfl) (fun _ _ _ h => h) (Or.inl ⟨by rfl, ?hy16⟩) (by assumption) ?rest16
      case hy16 => (intro w hSw; (try dsimp only at hSw); go_simp; try with_reducible rfl)
      try simp only [Act.put]
      refine wpAnyH_take (i := 17) (v := ?v17) rfl (by kernel_rfl) (by kernel_rfl) (by kernel_rfl) (fun _ _ _ h => h) (Or.inl ⟨by rfl, ?hy17⟩) (by assumption) ?rest17
      case hy17 => (intro w hSw; (try dsimp only at hSw); go_simp; try with_reducible rfl)
      try simp only [Act.put]
      refine wpAnyH_take (i := 18) (v := ?v18) rfl (by kernel_rfl) (by kernel_rfl) (by kernel_rfl) (fun _ _ _ h => h) (Or.inl ⟨by rfl, ?hy18⟩) (by assumption) ?rest18
      case hy18 => (intro w hSw; (try dsimp only at hSw); go_simp; try with_reducible rfl)
      try simp only [Act.put]
      refine wpAnyH_take (i := 19) (v := ?v19) rfl (by kernel_rfl) (by kernel_rfl) (by kernel_rfl) (fun _ _ _ h => h) (Or.inl ⟨by rfl, ?hy19⟩) (by assumption) ?rest19
      case hy19 => (intro w hSw; (try dsimp only at hSw); go_simp; try with_reducible rfl)
      try simp only [Act.put]
      refine wpAnyH_take (i := 20) (v := ?v20) rfl (by kernel_rfl) (by kernel_rfl) (by kernel_rfl) (fun _ _ _ h => h) (Or.inl ⟨by rfl, ?hy20⟩) (by assumption) ?rest20
      case hy20 => (intro w hSw; (try dsimp only at hSw); go_simp; try with_reducible rfl)
      try simp only [Act.put]
      refine wpAnyH_ready (rs := [1, 21]) (by kernel_rfl) (by simp) ?_
      refine AllReadyH.cons rfl (fun K hK => ?_) ?_
      · go_simp
        refine hK.out _ _ (by first | (dsimp only; first | exact CC.out | exact CD.out | exact CE.out | exact ⟨other1 CE.out.1 hs0, other1 CE.out.2.1 hs1, other1 CE.out.2.2.1 nE, other1 CE.out.2.2.2 nE⟩) | (first | exact CC.out | exact CD.out | exact CE.out | exact ⟨other1 CE.out.1 hs0, other1 CE.out.2.1 hs1, other1 CE.out.2.2.1 nE, other1 CE.out.2.2.2 nE⟩)) (fun hHeld => ?_)
        clear hK K
        try simp only [Act.put, List.setIfInBounds_toArray, List.set_cons_zero, List.set_cons_succ]
        refine wpAnyH_ready (rs := [21]) (by kernel_rfl) (by simp) ?_
        refine AllReadyH.cons rfl (fun K hK => ?_) ?_
        · go_simp
          refine hK.out _ _ (by first | (dsimp only; first | exact CC.out | exact CD.out | exact CE.out | exact ⟨other1 CE.out.1 hs0, other1 CE.out.2.1 hs1, other1 CE.out.2.2.1 nE, other1 CE.out.2.2.2 nE⟩) | (first | exact CC.out | exact CD.out | exact CE.out | exact ⟨other1 CE.out.1 hs0, other1 CE.out.2.1 hs1, other1 CE.out.2.2.1 nE, other1 CE.out.2.2.2 nE⟩)) (fun hHeld => ?_)
          clear hK K
          try simp only [Act.put, List.setIfInBounds_toArray, List.set_cons_zero, List.set_cons_succ]
          refine wpAnyH_ready (rs := [22]) (by kernel_rfl) (by simp) ?_
          refine AllReadyH.cons rfl (fun K hK => ?_) ?_
          · (refine step_run_append (by rfl) (.tmp 24) (.tmp 44) 22 (by rfl) 22 (by rfl) (.slice p' T.length c') (.slice (some ⟨wr.heap.size, 0, none⟩) 1 1) (.slice p2 (T.length + 1) c2) D1 (by rfl) (by rfl) ?_ ?_; with_reducible exact e4)
            refine hK.out _ _ (by first | (dsimp only; first | exact CC.out | exact CD.out | exact CE.out | exact ⟨other1 CE.out.1 hs0, other1 CE.out.2.1 hs1, other1 CE.out.2.2.1 nE, other1 CE.out.2.2.2 nE⟩) | (first | exact CC.out | exact CD.out | exact CE.out | exact ⟨other1 CE.out.1 hs0, other1 CE.out.2.1 hs1, other1 CE.out.2.2.1 nE, other1 CE.out.2.2.2 nE⟩)) (fun hHeld => ?_)
            clear hK K
            try simp only [Act.put, List.setIfInBounds_toArray]
            refine wpAnyH_take (i := 23) (v := ?v21) rfl (by kernel_rfl) (by kernel_rfl) (by kernel_rfl) (fun _ _ _ h => h) (Or.inl ⟨by rfl, ?hy21⟩) (by assumption) ?rest21
            case hy21 => (intro w hSw; (try dsimp only at hSw); go_simp; try with_reducible rfl)
            try simp only [Act.put]
            refine wpAnyH_ready (rs := [24]) (by kernel_rfl) (by simp) ?_
            refine AllReadyH.cons rfl (fun K hK => ?_) ?_
            · go_simp
              refine hK.out _ _ (by first | (dsimp only; first | exact CC.out | exact CD.out | exact CE.out | exact ⟨other1 CE.out.1 hs0, other1 CE.out.2.1 hs1, other1 CE.out.2.2.1 nE, other1 CE.out.2.2.2 nE⟩) | (first | exact CC.out | exact CD.out | exact CE.out | exact ⟨other1 CE.out.1 hs0, other1 CE.out.2.1 hs1, other1 CE.out.2.2.1 nE, other1 CE.out.2.2.2 nE⟩)) (fun hHeld => ?_)
              clear hK K
              try simp only [Act.put, List.setIfInBounds_toArray, List.set_cons_zero, List.set_cons_succ]
              refine wpAnyH_done (by kernel_rfl) ?_ _
              clear hHeld
              obtain ⟨V, hV⟩ : ∃ V, V = D1.setCell ⟨w1.heap.size, 1, none⟩ (.slice p2 (T.length + 1) c2) := ⟨_, rfl⟩
              have HSV : Hid (SBox V w1.heap.size (n + m) (.slice p2 (T.length + 1) c2)) := by show SBox _ _ _ _; rw [hV]; exact HS4.out.set _
              have HOV : Hid (Owns V W.heap.size (.slice p2 (T.length + 1) c2) (T ++ [⟨y.x + n, y.y + n⟩])) := by show Owns _ _ _ _; rw [hV]; exact ownsRow_setCell_other HO4.out (HS4.out.apart HO4.out) _
              have HBV : Hid (Below W.heap.size W V) := by show Below _ _ _; rw [hV]; exact HB4.out.setCell hz1 _
              rw [← hV]
              clear hV q0 q1 x0 x1 s0 s1 s2 s3 t0 t1 t2 t3 d0 d1 CC CD CE e4
              go_wp2
              go_roundw
              case rel =>
                refine ⟨i + 1, by omega, by go_num, HBV.out, p2, c2, ?_⟩
                rw [hT.out, show (T ++ [(⟨y.x + n, y.y + n⟩ : Pt)]).length = T.length + 1 by simp]
                exact ⟨HSV.out, HOV.out⟩
              case measure => simp [intOf]; omega
            exact AllReadyH.nil
          exact AllReadyH.nil
        exact AllReadyH.nil
      refine AllReadyH.cons rfl (fun K hK => ?_) ?_
      · go_simp
        refine hK.out _ _ (by first | (dsimp only; first | exact CC.out | exact CD.out | exact CE.out | exact ⟨other1 CE.out.1 hs0, other1 CE.out.2.1 hs1, other1 CE.out.2.2.1 nE, other1 CE.out.2.2.2 nE⟩) | (first | exact CC.out | exact CD.out | exact CE.out | exact ⟨other1 CE.out.1 hs0, other1 CE.out.2.1 hs1, other1 CE.out.2.2.1 nE, other1 CE.out.2.2.2 nE⟩)) (fun hHeld => ?_)
        clear hK K
        try simp only [Act.put, List.setIfInBounds_toArray, List.set_cons_zero, List.set_cons_succ]
        refine wpAnyH_ready (rs := [1]) (by kernel_rfl) (by simp) ?_
        refine AllReadyH.cons rfl (fun K hK => ?_) ?_
        · go_simp
          refine hK.out _ _ (by first | (dsimp only; first | exact CC.out | exact CD.out | exact CE.out | exact ⟨other1 CE.out.1 hs0, other1 CE.out.2.1 hs1, other1 CE.out.2.2.1 nE, other1 CE.out.2.2.2 nE⟩) | (first | exact CC.out | exact CD.out | exact CE.out | exact ⟨other1 CE.out.1 hs0, other1 CE.out.2.1 hs1, other1 CE.out.2.2.1 nE, other1 CE.out.2.2.2 nE⟩)) (fun hHeld => ?_)
          clear hK K
          try simp only [Act.put, List.setIfInBounds_toArray, List.set_cons_zero, List.set_cons_succ]
          refine wpAnyH_ready (rs := [22]) (by kernel_rfl) (by simp) ?_
          refine AllReadyH.cons rfl (fun K hK => ?_) ?_
          · (refine step_run_append (by rfl) (.tmp 24) (.tmp 44) 22 (by rfl) 22 (by rfl) (.slice p' T.length c') (.slice (some ⟨wr.heap.size, 0, none⟩) 1 1) (.slice p2 (T.length + 1) c2) D1 (by rfl) (by rfl) ?_ ?_; with_reducible exact e4)
            refine hK.out _ _ (by first | (dsimp only; first | exact CC.out | exact CD.out | exact CE.out | exact ⟨other1 CE.out.1 hs0, other1 CE.out.2.1 hs1, other1 CE.out.2.2.1 nE, other1 CE.out.2.2.2 nE⟩) | (first | exact CC.out | exact CD.out | exact CE.out | exact ⟨other1 CE.out.1 hs0, other1 CE.out.2.1 hs1, other1 CE.out.2.2.1 nE, other1 CE.out.2.2.2 nE⟩)) (fun hHeld => ?_)
            clear hK K
            try simp only [Act.put, List.setIfInBounds_toArray]
            refine wpAnyH_take (i := 23) (v := ?v22) rfl (by kernel_rfl) (by kernel_rfl) (by kernel_rfl) (fun _ _ _ h => h) (Or.inl ⟨by rfl, ?hy22⟩) (by assumption) ?rest22
            case hy22 => (intro w hSw; (try dsimp only at hSw); go_simp; try with_reducible rfl)
            try simp only [Act.put]
            refine wpAnyH_ready (rs := [24]) (by kernel_rfl) (by simp) ?_
            refine AllReadyH.cons rfl (fun K hK => ?_) ?_
            · go_simp
              refine hK.out _ _ (by first | (dsimp only; first | exact CC.out | exact CD.out | exact CE.out | exact ⟨other1 CE.out.1 hs0, other1 CE.out.2.1 hs1, other1 CE.out.2.2.1 nE, other1 CE.out.2.2.2 nE⟩) | (first | exact CC.out | exact CD.out | exact CE.out | exact ⟨other1 CE.out.1 hs0, other1 CE.out.2.1 hs1, other1 CE.out.2.2.1 nE, other1 CE.out.2.2.2 nE⟩)) (fun hHeld => ?_)
              clear hK K
              try simp only [Act.put, List.setIfInBounds_toArray, List.set_cons_zero, List.set_cons_succ]
              refine wpAnyH_done (by kernel_rfl) ?_ _
              clear hHeld
              obtain ⟨V, hV⟩ : ∃ V, V = D1.setCell ⟨w1.heap.size, 1, none⟩ (.slice p2 (T.length + 1) c2) := ⟨_, rfl⟩
              have HSV : Hid (SBox V w1.heap.size (n + m) (.slice p2 (T.length + 1) c2)) := by show SBox _ _ _ _; rw [hV]; exact HS4.out.set _
              have HOV : Hid (Owns V W.heap.size (.slice p2 (T.length + 1) c2) (T ++ [⟨y.x + n, y.y + n⟩])) := by show Owns _ _ _ _; rw [hV]; exact ownsRow_setCell_other HO4.out (HS4.out.apart HO4.out) _
              have HBV : Hid (Below W.heap.size W V) := by show Below _ _ _; rw [hV]; exact HB4.out.setCell hz1 _
              rw [← hV]
              clear hV q0 q1 x0 x1 s0 s1 s2 s3 t0 t1 t2 t3 d0 d1 CC CD CE e4
              go_wp2
              go_roundw
              case rel =>
                refine ⟨i + 1, by omega, by go_num, HBV.out, p2, c2, ?_⟩
                rw [hT.out, show (T ++ [(⟨y.x + n, y.y + n⟩ : Pt)]).length = T.length + 1 by simp]
                exact ⟨HSV.out, HOV.out⟩
              case measure => simp [intOf]; omega
            exact AllReadyH.nil
          exact AllReadyH.nil
        exact AllReadyH.nil
      exact AllReadyH.nil
    · have hin : i = b.length := by omega
      subst hin
      rw [List.take_length] at HO HS HTL s1
      have hJ := joinL_net hm hk
      have hJE : Hid (joinE n m a b = if fitsB (n + m) (a.length + b.length) then 0 else 3) := by show _ = _; unfold joinE; rw [hm, hk]; rfl
      rw [← hJ] at hJE
      have HNr := hide (HN.out.later HBr.out)
      have HB5 := hide (below_step HB.out HBr.out)
      obtain ⟨T, hTT⟩ : ∃ T, joinL n a b = T := ⟨_, rfl⟩
      have HTT := hide hTT
      rw [hTT] at HO HS HTL s1 hJE
      have MY := hide (may12 (n + m) p' T c' wr (by obtain ⟨p3, c3, h1, h2, _, _, _⟩ := HO.out.form; simp only [Value.slice.injEq] at h1; rw [h1.1]; exact h2))
      clear hTT hJ q0 q1 x0
      cases hf : netB (n + m) T
      · rw [hf] at MY hJE
        go_wp2_with fail
        refine MY.out.mono ?_
        rintro e w3 ⟨rfl, hb3⟩
        have HN3 := hide (HNr.out.later hb3)
        have HB3 := hide (below_step HB5.out hb3)
        clear s0 s1 s2 s3 hb3 MY
        obtain ⟨r0, r1, r2, r3⟩ := HN3.out
        go_wp2
        exact bodyPost_ret (ret_net Try.results28 rfl rfl (HN3.out.set 0 none 0 0)) rfl ⟨Or.inr ⟨by rw [hJE.out]; simp, by rw [hJE.out]; rfl⟩, (HB3.out.setCell (by simp; omega) _).setCell (by simp; omega) _⟩
      · rw [hf] at MY hJE
        go_wp2_with fail
        refine MY.out.mono ?_
        rintro e w3 ⟨rfl, hb3⟩
        have HN3 := hide (HNr.out.later hb3)
        have HB3 := hide (below_step HB5.out hb3)
        have HO3 := hide (HO.out.later hb3)
        have s0' := later hb3 s0
        have s1' := later hb3 s1
        clear s0 s1 s2 s3 hb3 MY
        obtain ⟨r0, r1, r2, r3⟩ := HN3.out
        go_wp2
        obtain ⟨V, hV⟩ : ∃ V, V = (w3.setCell ⟨w.heap.size + 1 + 1, 0, none⟩ (.int .i64 (n + m))).setCell ⟨w.heap.size + 1 + 1, 1, none⟩ (.slice p' T.length c') := ⟨_, rfl⟩
        have kV : NOwn V (w.heap.size + 1 + 1) (n + m) p' T.length c' := by rw [hV]; exact HN3.out.set _ _ _ _
        have bV : Below w.heap.size w V := by rw [hV]; exact (HB3.out.setCell (by simp; omega) _).setCell (by simp; omega) _
        have oV : Owns V w.heap.size (.slice p' T.length c') T := by rw [hV]; exact (owns_other (owns_other HO3.out hw1 _) hw1 _).base HB.out.size
        rw [← hV]
        exact bodyPost_ret (ret_net Try.results28 rfl rfl kV) rfl ⟨Or.inl ⟨by rw [hJE.out]; rfl, p', c', by rw [HTT.out]; rfl, by rw [HTT.out]; exact oV⟩, bV⟩
end Go.Proofs.Ytaebbfilgfkckaa
