/- The document's Merge. -/
import Derived.Test.YtmmbbfmkhbengaaY3
import Derived.Test.YtmmbbfmkhbengaaM7
import Derived.Test.YtmmbbfmkhbengaaK00
namespace Go.Proofs.Ytmmbbfmkhbengaa
open Go.RowKit Go.Sort
open Go

/-- The first i new names. -/
def mgN (m u v : Nat) : Nat → List Int
  | 0 => List.replicate m 0
  | i + 1 => (mgN m u v i).set i (iat (mergeL m u v) i)
theorem mgN_length (m u v : Nat) : ∀ i, (mgN m u v i).length = m
  | 0 => by simp [mgN]
  | i + 1 => by simp [mgN, mgN_length m u v i]
theorem mgN_at (m u v : Nat) {j : Nat} (hj : j < m) : ∀ i, i ≤ m → iat (mgN m u v i) j = if j < i then iat (mergeL m u v) j else 0
  | 0, _ => by simp only [mgN]; rw [iat_replicate m j 0 hj]; simp
  | i + 1, hi => by
    simp only [mgN]
    by_cases e : j = i
    · subst e; rw [iat_put (by rw [mgN_length]; exact hj), if_pos (by omega)]
    · rw [iat_put_ne e, mgN_at m u v hj i (by omega)]
      by_cases h : j < i
      · rw [if_pos h, if_pos (by omega)]
      · rw [if_neg h, if_neg (by omega)]
theorem mgN_all (m u v : Nat) : mgN m u v m = mergeL m u v := by
  apply List.ext_getElem
  · rw [mgN_length, mergeL_length]
  intro j h1 h2
  have := mgN_at m u v (j := j) (by rw [mgN_length] at h1; exact h1) m (Nat.le_refl _)
  rw [if_pos (by rw [mgN_length] at h1; exact h1)] at this
  unfold iat at this
  rw [List.getD_eq_getElem?_getD, List.getElem?_eq_getElem h1, List.getD_eq_getElem?_getD, List.getElem?_eq_getElem h2] at this
  exact this
theorem rename_more (es : List Pt) (t : List Int) {i : Nat} (hi : i < es.length) : rename (es.take (i + 1)) t = rename (es.take i) t ++ [⟨iat t (at' es i).x.toNat, iat t (at' es i).y.toNat⟩] := by
  unfold rename at'
  rw [List.take_add_one, List.map_append, List.getElem?_eq_getElem hi, List.getD_eq_getElem?_getD, List.getElem?_eq_getElem hi]
  rfl
def RMergePost (m : Nat) (es : List Pt) (u v : Int) (w : World) (e : Ending) (w' : World) : Prop :=
  (mergE m es u v = 0 ∧ ∃ q c s, e = .returned (.tuple #[nv ((m : Int) - 1) q es.length c, s, .int .i64 0]) ∧ Owns w' w.heap.size (.slice q es.length c) (rename es (mergeL m u.toNat v.toNat)) ∧ IOwns w' w.heap.size s (mergeL m u.toNat v.toNat)) ∨ (mergE m es u v ≠ 0 ∧ e = .returned (.tuple #[nv 0 none 0 0, .slice none 0 0, .int .i64 (mergE m es u v)]))
set_option maxRecDepth 100000 in
set_option maxHeartbeats 8000000 in
theorem merge46no (m : Nat) (p : Option Addr) (es : List Pt) (cp : Nat) (u v : Int) (w : World) (hm : netB m es = true) (hno : mergE m es u v ≠ 0) : Calls Try.prog 46 #[nv m p es.length cp, .int .i64 u, .int .i64 v] w fun e w' => e = .returned (.tuple #[nv 0 none 0 0, .slice none 0 0, .int .i64 (mergE m es u v)]) ∧ Below w.heap.size w w' := by
  obtain ⟨W, hW, hb, a0, b0⟩ := two_nets w m p es.length cp
  obtain ⟨n0, n1, hes, hE⟩ := netB_is hm
  have HB := hide hb
  have HN := hide b0
  obtain ⟨q0, q1, _, _⟩ := a0
  obtain ⟨z0, z1, z2, z3⟩ := b0
  have hcase : (¬ ((0 ≤ u ∧ u < m) ∧ 0 ≤ v ∧ v < m) ∧ mergE m es u v = 2) ∨ ((0 ≤ u ∧ u < m) ∧ (0 ≤ v ∧ v < m) ∧ u = v ∧ mergE m es u v = 1) := by
    unfold mergE at hno ⊢
    rw [if_pos hm] at hno ⊢
    by_cases k2 : (belowB u m && belowB v m) = true
    · rw [if_pos k2] at hno ⊢
      simp only [Bool.and_eq_true] at k2
      by_cases k3 : u = v
      · right; exact ⟨belowB_is k2.1, belowB_is k2.2, k3, by rw [if_pos k3]⟩
      · rw [if_neg k3] at hno; exact absurd rfl hno
    · left
      rw [if_neg k2]
      refine ⟨fun hh => k2 ?_, rfl⟩
      simp [belowB, hh]
  have HMN : Hid (W.heap.size = w.heap.size + 1 + 1) := by show _ = _; rw [hW]; simp
  clear hb hm hno hE
  go_enter Try.func46, Try.ntmps46
  rcases hcase with ⟨hc, hv⟩ | ⟨hu, hv0, huv, hv⟩
  · rw [hv]
    have key : u < 0 ∨ (¬ u < 0 ∧ v < 0) ∨ (¬ u < 0 ∧ ¬ v < 0 ∧ u ≥ m) ∨ (¬ u < 0 ∧ ¬ v < 0 ∧ ¬ u ≥ m ∧ v ≥ m) := by omega
    rcases key with h1 | ⟨h1, h2⟩ | ⟨h1, h2, h3⟩ | ⟨h1, h2, h3, h4⟩
    all_goals
      go_wp2_with fail
      rw [← hW]
      clear hW
      go_wp2_with fail
      refine bodyPost_ret (ret_net3 Try.results46 rfl rfl rfl (by first | exact HN.out | exact HN.out.set _ _ _ _)) rfl ⟨rfl, ?_⟩
      first | exact HB.out | exact (HB.out.setCell (p := ⟨w.heap.size + 1, 0, none⟩) (by simp) _).setCell (p := ⟨w.heap.size + 1, 1, none⟩) (by simp) _
  · rw [hv]
    subst huv
    have h1 : ¬ u < 0 := by omega
    have h3 : ¬ u ≥ m := by omega
    go_wp2_with fail
    rw [← hW]
    clear hW
    go_wp2_with fail
    refine bodyPost_ret (ret_net3 Try.results46 rfl rfl rfl (by first | exact HN.out | exact HN.out.set _ _ _ _)) rfl ⟨rfl, ?_⟩
    first | exact HB.out | exact (HB.out.setCell (p := ⟨w.heap.size + 1, 0, none⟩) (by simp) _).setCell (p := ⟨w.heap.size + 1, 1, none⟩) (by simp) _
set_option maxRecDepth 100000 in
set_option maxHeartbeats 8000000 in
theorem merge46yes (m u v : Nat) (p : Option Addr) (es : List Pt) (cp : Nat) (w : World) (h : Has w p es) (hm : netB m es = true) (hu : u < m) (hv : v < m) (huv : u ≠ v) : Calls Try.prog 46 #[nv m p es.length cp, .int .i64 u, .int .i64 v] w fun e w' => (∃ q c s, e = .returned (.tuple #[nv ((m : Int) - 1) q es.length c, s, .int .i64 0]) ∧ Owns w' w.heap.size (.slice q es.length c) (rename es (mergeL m u v)) ∧ IOwns w' w.heap.size s (mergeL m u v)) ∧ Below w.heap.size w w' := by
  obtain ⟨W, hW, hb, a0, b0⟩ := two_nets w m p es.length cp
  obtain ⟨n0, n1, hes, hE⟩ := netB_is hm
  have HH := hide (h.later hb)
  have HB := hide hb
  have HA := hide a0
  have HN := hide b0
  have HE := hide hE
  have hWs : W.heap.size = w.heap.size + 1 + 1 := by rw [hW]; simp
  have HWS := hide hWs
  obtain ⟨i0, hi0, hz0, hz1, hz2⟩ := info_parts info3
  obtain ⟨q0, q1, _, _⟩ := a0
  clear h hb b0 hWs hm hE
  have t1 : ¬ (u : Int) < 0 := by omega
  have t2 : ¬ (v : Int) < 0 := by omega
  have t3 : ¬ (u : Int) ≥ m := by omega
  have t4 : ¬ (v : Int) ≥ m := by omega
  have t5 : ((u : Int) == v) = false := by simp; omega
  have t6 : ¬ (u : Int) = v := by omega
  go_enter Try.func46, Try.ntmps46
  go_upto_region 1 with fail
  rw [← hW]
  clear hW
  obtain ⟨kb, hkb⟩ : ∃ kb, w.heap.size = kb := ⟨_, rfl⟩
  have HKB := hide hkb
  rw [hkb] at HA HN HWS q0 q1 ⊢
  clear hkb
  go_wp2_with (refine wpList_make_full _ rfl (.tmp 38) (.tmp 38) 25 rfl W.heap.size 3 i0 (.int .i64 0) 1 Try.underlying25 hi0 hz0 hz1 .i64 .i64 _ _ m rfl rfl rfl rfl ?c1 ?c2 ?c3 ?_)
  case c1 => first | omega | (rw [hz2]; omega)
  case c2 => unfold maxLen; omega
  try (case c3 => exact Nat.le_refl _)
  intro Y hown hgrow
  have HR0 := hide (irow_made hown)
  have HBY := hide (below_made hgrow)
  clear hown hgrow q0 q1
  obtain ⟨ga, hga⟩ : ∃ g, W.heap.size = g := ⟨_, rfl⟩
  have HGA := hide hga
  rw [hga] at HR0 ⊢
  clear hga t1 t2 t3 t4 t5 t6
  go_wp2_with fail
  go_loopw [10] (fun t wr => ∃ i : Nat, i ≤ m ∧ t = .int .i64 i ∧ Hid (Below W.heap.size W wr ∧ IRow wr ga ga m (mgN m u v i))) (fun t _ => m - (intOf t).toNat)
  case atStart => exact ⟨0, by omega, rfl, HBY.out, HR0.out⟩
  case round =>
    obtain ⟨i, hi, rfl, HR⟩ := hrel
    obtain ⟨q0, q1, _, _⟩ := HA.out.later HR.out.1
    by_cases hlt : i < m
    · have i1 : (i : Int) < m := by omega
      have i2 : (0 : Int) ≤ i := by omega
      obtain ⟨d0, f0⟩ := HR.out.2.cell hlt
      obtain ⟨y, hy⟩ : ∃ y, iat (mgN m u v i) i = y := ⟨_, rfl⟩
      rw [hy] at d0
      have HST : Hid (mgN m u v (i + 1) = (mgN m u v i).set i (iat (mergeL m u v) i)) := rfl
      have hval : iat (mergeL m u v) i = if v = i then mrg v u else mrg v i := mergeL_at hlt
      have HVL := hide hval
      have HSE : Hid (∀ x : Int, x = iat (mergeL m u v) i → Below W.heap.size W (wr.setCell ⟨ga, i, none⟩ (.int .i64 x)) ∧ IRow (wr.setCell ⟨ga, i, none⟩ (.int .i64 x)) ga ga m (mgN m u v (i + 1))) := fun x hx => ⟨HR.out.1.setCell (p := ⟨ga, i, none⟩) (by rw [HGA.out]; exact Nat.le_refl _) _, by rw [HST.out, hx]; exact HR.out.2.set i _⟩
      clear hy hval HST
      by_cases hvi : i = v
      · subst hvi
        have e1 : ((i : Int) == (i : Int)) = true := by simp
        by_cases hgt : u > i
        · have g1 : (u : Int) > i := by omega
          go_wp2
          go_roundw
          case rel => exact ⟨i + 1, by omega, by go_num, HSE.out _ (by rw [HVL.out, if_pos rfl]; unfold mrg; rw [if_pos hgt])⟩
          case measure => simp [intOf]; omega
        · have g1 : ¬ (u : Int) > i := by omega
          go_wp2
          go_roundw
          case rel => exact ⟨i + 1, by omega, by go_num, HSE.out _ (by rw [HVL.out, if_pos rfl]; unfold mrg; rw [if_neg hgt])⟩
          case measure => simp [intOf]; omega
      · have e1 : ((i : Int) == (v : Int)) = false := by simp; omega
        have e2 : ¬ (i : Int) = v := by omega
        by_cases hgt : i > v
        · have g1 : (i : Int) > v := by omega
          go_wp2
          go_roundw
          case rel => exact ⟨i + 1, by omega, by go_num, HSE.out _ (by rw [HVL.out, if_neg (fun h => hvi h.symm)]; unfold mrg; rw [if_pos hgt])⟩
          case measure => simp [intOf]; omega
        · have g1 : ¬ (i : Int) > v := by omega
          go_wp2
          go_roundw
          case rel => exact ⟨i + 1, by omega, by go_num, HSE.out _ (by rw [HVL.out, if_neg (fun h => hvi h.symm)]; unfold mrg; rw [if_neg hgt])⟩
          case measure => simp [intOf]; omega
    · have hie : m = i := by omega
      subst hie
      have i1 : ¬ (m : Int) < m := by omega
      go_wp2_with fail
      obtain ⟨kx, hkx⟩ : ∃ k, wr.heap.size = k := ⟨_, rfl⟩
      obtain ⟨X, hX⟩ : ∃ X, X = wr.alloc (nbx ((m : Int) - 1) none 0 0) := ⟨_, rfl⟩
      have bX : Below wr.heap.size wr X := by rw [hX]; go_grown
      have hga2 := HR.out.2.lt
      have hRI := HR.out.2
      rw [mgN_all] at hRI
      have HP0 : Hid (PJ W X kx ga m ((m : Int) - 1) (mergeL m u v) none 0 0 (.slice none 0 0) (rename (es.take 0) (mergeL m u v)) []) := by
        refine ⟨below_step HR.out.1 bX, (hRI.later bX).base (by have := HGA.out; omega), ?_, Owns.nil _ _, IOwns.nil _ _, ?_⟩
        · rw [hX, ← hkx]; exact ⟨by go_cell, by go_cell, by simp [go_sem], by simp [go_sem]⟩
        · rw [hX, ← hkx]; simp
      have hgk : ga < kx := by omega
      have hWk : W.heap.size ≤ kx := by have := HR.out.1.size; omega
      rw [← hX, hkx]
      clear hX hkx bX HR HR0 HBY i1 hga2 hRI q0 q1
      go_loopw [13] (fun t wq => ∃ i : Nat, i ≤ es.length ∧ t = .int .i64 i ∧ ∃ q' c', Hid (PJ W wq kx ga m ((m : Int) - 1) (mergeL m u v) q' i c' (.slice none 0 0) (rename (es.take i) (mergeL m u v)) [])) (fun t _ => es.length - (intOf t).toNat)
      case atStart => exact ⟨0, by omega, rfl, none, 0, HP0.out⟩
      case round =>
        obtain ⟨i, hi, rfl, q', c', HR⟩ := hrel
        obtain ⟨w0, w1, _, _⟩ := HA.out.later HR.out.below
        by_cases hlt : i < es.length
        · have i1 : (i : Int) < es.length := by omega
          have i2 : (0 : Int) ≤ i := by omega
          rcases HH.out with hz | ⟨b, off, rfl, hL⟩
          · subst hz; simp at hlt
          obtain ⟨c3, c4⟩ := hL i hlt
          obtain ⟨x0, x1, y0, y1⟩ := HE.out i hlt
          have HPK := hide (rename_more es (mergeL m u v) hlt)
          obtain ⟨x, hx⟩ : ∃ x : Nat, (at' es i).x = x := ⟨(at' es i).x.toNat, by omega⟩
          obtain ⟨y, hy⟩ : ∃ y : Nat, (at' es i).y = y := ⟨(at' es i).y.toNat, by omega⟩
          rw [hx, hy, Int.toNat_natCast, Int.toNat_natCast] at HPK
          rw [hx] at c3 x0 x1
          rw [hy] at c4 y0 y1
          have hxm : x < m := by omega
          have hym : y < m := by omega
          obtain ⟨ax, hax⟩ : ∃ a, iat (mergeL m u v) x = a := ⟨_, rfl⟩
          obtain ⟨ay, hay⟩ : ∃ a, iat (mergeL m u v) y = a := ⟨_, rfl⟩
          rw [hax, hay] at HPK
          obtain ⟨V0, hV0⟩ : ∃ V, V = wr.drew := ⟨_, rfl⟩
          have bd : Below wr.heap.size wr V0 := by rw [hV0]; exact below_drew _
          have J0 := HR.out.later bd
          have hlen : (rename (es.take i) (mergeL m u v)).length = i := by rw [rename_length, List.length_take]; omega
          obtain ⟨q1, c1, D, e1, pD, z1, z2⟩ := J0.edge hgk hWk hlen (by omega) ax ay
          obtain ⟨V1, hV1⟩ : ∃ V, V = V0.alloc (.cells #[.int .i64 ax, .int .i64 ay] 60) := ⟨_, rfl⟩
          have b1 : Below V0.heap.size V0 V1 := by rw [hV1]; go_grown
          have J1 := J0.later b1
          have HPD := hide pD
          have HBK0 : Hid (V0.cell? ⟨kx, 1, none⟩ = some (.slice q' i c')) := J0.box.2.1
          have HBK1 : Hid (V1.cell? ⟨kx, 1, none⟩ = some (.slice q' i c')) := J1.box.2.1
          have HDK : Hid (D.cell? ⟨kx, 1, none⟩ = some (.slice q' i c') ∧ D.frozen? ⟨kx, 1, none⟩ = false) := ⟨z1, z2⟩
          have HS : ∀ V, Below W.heap.size W V → IRow V W.heap.size ga m (mergeL m u v) → (V.cell? ⟨kb, 1, none⟩ = some (.slice (some ⟨b, off, none⟩) es.length cp) ∧ V.cell? ⟨b, off + i * 2, none⟩ = some (.int .i64 x) ∧ V.cell? ⟨b, off + i * 2 + 1, none⟩ = some (.int .i64 y) ∧ V.cell? ⟨ga, x, none⟩ = some (.int .i64 ax) ∧ V.cell? ⟨ga, y, none⟩ = some (.int .i64 ay)) := fun V hV hI => ⟨(HA.out.later hV).2.1, later hV c3, later hV c4, by rw [← hax]; exact (hI.cell hxm).1, by rw [← hay]; exact (hI.cell hym).1⟩
          have HS1 := hide (HS V1 J1.below J1.pl)
          obtain ⟨hDb, hDi⟩ : Below W.heap.size W D ∧ IRow D W.heap.size ga m (mergeL m u v) := by
            have o0 : Owns V0 (kx + 1) (.slice q' (rename (es.take i) (mergeL m u v)).length c') (rename (es.take i) (mergeL m u v)) := by rw [hlen]; exact J0.edges
            obtain ⟨v9, D9, e9, _, _, hb9⟩ := app1 o0 ax ay J0.size (by omega)
            rw [hlen, e1] at e9
            cases e9
            exact ⟨Below.trans J0.below (hb9.mono (by omega)), irow_below J0.pl hb9 (by omega)⟩
          have HS2 := hide (HS D hDb hDi)
          obtain ⟨s0, s1, s2, s3, s4⟩ := HS V0 J0.below J0.pl
          have nk0 : kb ≠ kx := by have := HWS.out; omega
          have nk1 : ga ≠ kx := by omega
          have nk2 : b ≠ kx := by have : b < W.heap.size := block_lt_of_cell c3; omega
          have HV1 := hide hV1
          rw [← hV1] at e1
          have j1 : (x : Int) < m := by omega
          have j2 : (y : Int) < m := by omega
          have j3 : (0 : Int) ≤ x := by omega
          have j4 : (0 : Int) ≤ y := by omega
          clear hL c3 c4 bd J0 J1 pD z1 z2 b1 HS hV1 hDb hDi hx hy hax hay hlen
          go_upto_region 19 with fail
          clear w0 w1
          refine wp_region_held_drew (S := (fun W' => W'.cell? ⟨kb, 1, none⟩ = some (.slice (some ⟨b, off, none⟩) es.length cp) ∧ W'.cell? ⟨b, off + i * 2, none⟩ = some (.int .i64 x) ∧ W'.cell? ⟨b, off + i * 2 + 1, none⟩ = some (.int .i64 y) ∧ W'.cell? ⟨ga, x, none⟩ = some (.int .i64 ax) ∧ W'.cell? ⟨ga, y, none⟩ = some (.int .i64 ay))) (by kernel_rfl) (by rw [← hV0]; exact ⟨s0, s1, s2, s3, s4⟩) (fun hHeld => ?_)
          rw [← hV0] at hHeld ⊢
          clear hV0
          refine wpAnyH_take (i := 0) (v := ?v1) rfl (by kernel_rfl) (by kernel_rfl) (by kernel_rfl) (fun _ _ _ h => h) (Or.inl ⟨by rfl, ?hy1⟩) (by assumption) ?rest1
          case hy1 => (intro w hSw; (try dsimp only at hSw); go_simp; try with_reducible rfl)
          try simp only [Act.put, List.setIfInBounds_toArray]
          refine wpAnyH_take (i := 2) (v := ?v2) rfl (by kernel_rfl) (by kernel_rfl) (by kernel_rfl) (fun _ _ _ h => h) (Or.inl ⟨by rfl, ?hy2⟩) (by assumption) ?rest2
          case hy2 => (intro w hSw; (try dsimp only at hSw); go_simp; try with_reducible rfl)
          try simp only [Act.put]
          refine wpAnyH_take (i := 3) (v := ?v3) rfl (by kernel_rfl) (by kernel_rfl) (by kernel_rfl) (fun _ _ _ h => h) (Or.inl ⟨by rfl, ?hy3⟩) (by assumption) ?rest3
          case hy3 => (intro w hSw; (try dsimp only at hSw); go_simp; try with_reducible rfl)
          try simp only [Act.put]
          refine wpAnyH_take (i := 4) (v := ?v4) rfl (by kernel_rfl) (by kernel_rfl) (by kernel_rfl) (fun _ _ _ h => h) (Or.inl ⟨by rfl, ?hy4⟩) (by assumption) ?rest4
          case hy4 => (intro w hSw; (try dsimp only at hSw); go_simp; try with_reducible rfl)
          try simp only [Act.put]
          refine wpAnyH_take (i := 5) (v := ?v5) rfl (by kernel_rfl) (by kernel_rfl) (by kernel_rfl) (fun _ _ _ h => h) (Or.inl ⟨by rfl, ?hy5⟩) (by assumption) ?rest5
          case hy5 => (intro w hSw; (try dsimp only at hSw); go_simp; try with_reducible rfl)
          try simp only [Act.put]
          refine wpAnyH_take (i := 6) (v := ?v6) rfl (by kernel_rfl) (by kernel_rfl) (by kernel_rfl) (fun _ _ _ h => h) (Or.inl ⟨by rfl, ?hy6⟩) (by assumption) ?rest6
          case hy6 => (intro w hSw; (try dsimp only at hSw); go_simp; try with_reducible rfl)
          try simp only [Act.put]
          refine wpAnyH_take (i := 7) (v := ?v7) rfl (by kernel_rfl) (by kernel_rfl) (by kernel_rfl) (fun _ _ _ h => h) (Or.inl ⟨by rfl, ?hy7⟩) (by assumption) ?rest7
          case hy7 => (intro w hSw; (try dsimp only at hSw); go_simp; try with_reducible rfl)
          try simp only [Act.put]
          refine wpAnyH_take (i := 8) (v := ?v8) rfl (by kernel_rfl) (by kernel_rfl) (by kernel_rfl) (fun _ _ _ h => h) (Or.inl ⟨by rfl, ?hy8⟩) (by assumption) ?rest8
          case hy8 => (intro w hSw; (try dsimp only at hSw); go_simp; try with_reducible rfl)
          try simp only [Act.put]
          refine wpAnyH_take (i := 9) (v := ?v9) rfl (by kernel_rfl) (by kernel_rfl) (by kernel_rfl) (fun _ _ _ h => h) (Or.inl ⟨by rfl, ?hy9⟩) (by assumption) ?rest9
          case hy9 => (intro w hSw; (try dsimp only at hSw); go_simp; try with_reducible rfl)
          try simp only [Act.put]
          refine wpAnyH_take (i := 10) (v := ?v10) rfl (by kernel_rfl) (by kernel_rfl) (by kernel_rfl) (fun _ _ _ h => h) (Or.inl ⟨by rfl, ?hy10⟩) (by assumption) ?rest10
          case hy10 => (intro w hSw; (try dsimp only at hSw); go_simp; try with_reducible rfl)
          try simp only [Act.put]
          refine wpAnyH_take (i := 11) (v := ?v11) rfl (by kernel_rfl) (by kernel_rfl) (by kernel_rfl) (fun _ _ _ h => h) (Or.inl ⟨by rfl, ?hy11⟩) (by assumption) ?rest11
          case hy11 => (intro w hSw; (try dsimp only at hSw); go_simp; try with_reducible rfl)
          try simp only [Act.put]
          refine wpAnyH_take (i := 12) (v := ?v12) rfl (by kernel_rfl) (by kernel_rfl) (by kernel_rfl) (fun _ _ _ h => h) (Or.inl ⟨by rfl, ?hy12⟩) (by assumption) ?rest12
          case hy12 => (intro w hSw; (try dsimp only at hSw); go_simp; try with_reducible rfl)
          try simp only [Act.put]
          refine wpAnyH_take (i := 13) (v := ?v13) rfl (by kernel_rfl) (by kernel_rfl) (by kernel_rfl) (fun _ _ _ h => h) (Or.inl ⟨by rfl, ?hy13⟩) (by assumption) ?rest13
          case hy13 => (intro w hSw; (try dsimp only at hSw); go_simp; try with_reducible rfl)
          try simp only [Act.put]
          refine wpAnyH_take (i := 14) (v := ?v14) rfl (by kernel_rfl) (by kernel_rfl) (by kernel_rfl) (fun _ _ _ h => h) (Or.inl ⟨by rfl, ?hy14⟩) (by assumption) ?rest14
          case hy14 => (intro w hSw; (try dsimp only at hSw); go_simp; try with_reducible rfl)
          try simp only [Act.put]
          refine wpAnyH_take (i := 15) (v := ?v15) rfl (by kernel_rfl) (by kernel_rfl) (by kernel_rfl) (fun _ _ _ h => h) (Or.inl ⟨by rfl, ?hy15⟩) (by assumption) ?rest15
          case hy15 => (intro w hSw; (try dsimp only at hSw); go_simp; try with_reducible rfl)
          try simp only [Act.put]
          refine wpAnyH_take (i := 16) (v := ?v16) rfl (by kernel_rfl) (by kernel_rfl) (by kernel_rfl) (fun _ _ _ h => h) (Or.inl ⟨by rfl, ?hy16⟩) (by assumption) ?rest16
          case hy16 => (intro w hSw; (try dsimp only at hSw); go_simp; try with_reducible rfl)
          try simp only [Act.put]
          refine wpAnyH_take (i := 17) (v := ?v17) rfl (by kernel_rfl) (by kernel_rfl) (by kernel_rfl) (fun _ _ _ h => h) (Or.inl ⟨by rfl, ?hy17⟩) (by assumption) ?rest17
          case hy17 => (intro w hSw; (try dsimp only at hSw); go_simp; try with_reducible rfl)
          try simp only [Act.put]
          refine wpAnyH_take (i := 18) (v := ?v18) rfl (by kernel_rfl) (by kernel_rfl) (by kernel_rfl) (fun _ _ _ h => h) (Or.inl ⟨by rfl, ?hy18⟩) (by assumption) ?rest18
          case hy18 => (intro w hSw; (try dsimp only at hSw); go_simp; try with_reducible rfl)
          try simp only [Act.put]
          refine wpAnyH_take (i := 19) (v := ?v19) rfl (by kernel_rfl) (by kernel_rfl) (by kernel_rfl) (fun _ _ _ h => h) (Or.inl ⟨by rfl, ?hy19⟩) (by assumption) ?rest19
          case hy19 => (intro w hSw; (try dsimp only at hSw); go_simp; try with_reducible rfl)
          try simp only [Act.put]
          refine wpAnyH_take (i := 20) (v := ?v20) rfl (by kernel_rfl) (by kernel_rfl) (by kernel_rfl) (fun _ _ _ h => h) (Or.inl ⟨by rfl, ?hy20⟩) (by assumption) ?rest20
          case hy20 => (intro w hSw; (try dsimp only at hSw); go_simp; try with_reducible rfl)
          try simp only [Act.put]
          refine wpAnyH_ready (rs := [1, 21]) (by kernel_rfl) (by simp) ?_
          refine ready_cons ({ dst := some 72, op := Op.load 22 (Operand.tmp 71), type := 22, pos := "ref.go:237", after := #[{ on := 0, ground := Ground.data }], guard := none }) rfl rfl (fun K hK => ?_) ?_
          · clear hHeld
            have d0 := HBK0.out
            refine wp_val (v := ?vl1) (w2 := V0) ?hl1 ?_
            case hl1 => (go_simp; try with_reducible rfl)
            clear d0
            refine hK.out _ _ (by first | exact ⟨s0, s1, s2, s3, s4⟩ | exact ⟨cell_other s0 nk0, cell_other s1 nk2, cell_other s2 nk2, cell_other s3 nk1, cell_other s4 nk1⟩) (fun hHeld => ?_)
            clear hK K
            try simp only [Act.put]
            refine wpAnyH_ready (rs := [21]) (by kernel_rfl) (by simp) ?_
            refine ready_cons ({ dst := some 92, op := Op.buildSlice 22 1 #[(0, Operand.tmp 91)], type := 22, pos := "ref.go:237", after := #[{ on := 20, ground := Ground.data }], guard := none }) rfl rfl (fun K hK => ?_) ?_
            · clear hHeld
              go_simp
              rw [← HV1.out]
              clear s0 s1 s2 s3 s4
              obtain ⟨s0, s1, s2, s3, s4⟩ := HS1.out
              refine hK.out _ _ (by first | exact ⟨s0, s1, s2, s3, s4⟩ | exact ⟨cell_other s0 nk0, cell_other s1 nk2, cell_other s2 nk2, cell_other s3 nk1, cell_other s4 nk1⟩) (fun hHeld => ?_)
              clear hK K
              try simp only [Act.put, List.setIfInBounds_toArray, List.set_cons_zero, List.set_cons_succ]
              refine wpAnyH_ready (rs := [22]) (by kernel_rfl) (by simp) ?_
              refine ready_cons ({ dst := some 93, op := Op.call { callee := Callee.builtin Builtin.append, args := #[Operand.tmp 72, Operand.tmp 92], argTypes := #[22, 22] }, type := 22, pos := "ref.go:237", after := #[{ on := 1, ground := Ground.data }, { on := 21, ground := Ground.data }], guard := none }) rfl rfl (fun K hK => ?_) ?_
              · clear hHeld
                clear s0 s1 s2 s3 s4
                obtain ⟨s0, s1, s2, s3, s4⟩ := HS2.out
                refine wp_append (.tmp 72) (.tmp 92) 22 (by rfl) 22 (by rfl) (.slice q' i c') (.slice (some ⟨V0.heap.size, 0, none⟩) 1 1) (.slice q1 (i + 1) c1) D (by rfl) (by rfl) ?_ ?_
                with_reducible exact e1
                refine hK.out _ _ (by first | exact ⟨s0, s1, s2, s3, s4⟩ | exact ⟨cell_other s0 nk0, cell_other s1 nk2, cell_other s2 nk2, cell_other s3 nk1, cell_other s4 nk1⟩) (fun hHeld => ?_)
                clear hK K
                try simp only [Act.put, List.setIfInBounds_toArray, List.set_cons_zero, List.set_cons_succ]
                refine wpAnyH_take (i := 23) (v := ?v21) rfl (by kernel_rfl) (by kernel_rfl) (by kernel_rfl) (fun _ _ _ h => h) (Or.inl ⟨by rfl, ?hy21⟩) (by assumption) ?rest21
                case hy21 => (intro w hSw; (try dsimp only at hSw); go_simp; try with_reducible rfl)
                try simp only [Act.put, List.setIfInBounds_toArray]
                refine wpAnyH_ready (rs := [24]) (by kernel_rfl) (by simp) ?_
                refine ready_cons ({ dst := none, op := Op.store 22 (Operand.tmp 94) (Operand.tmp 93), type := 0, pos := "ref.go:237", after := #[{ on := 23, ground := Ground.data }, { on := 22, ground := Ground.data }, { on := 22, ground := Ground.chain }, { on := 0, ground := Ground.phase }, { on := 1, ground := Ground.phase }, { on := 2, ground := Ground.phase }, { on := 3, ground := Ground.phase }, { on := 4, ground := Ground.phase }, { on := 5, ground := Ground.phase }, { on := 6, ground := Ground.phase }, { on := 7, ground := Ground.phase }, { on := 8, ground := Ground.phase }, { on := 9, ground := Ground.phase }, { on := 10, ground := Ground.phase }, { on := 11, ground := Ground.phase }, { on := 12, ground := Ground.phase }, { on := 13, ground := Ground.phase }, { on := 14, ground := Ground.phase }, { on := 15, ground := Ground.phase }, { on := 16, ground := Ground.phase }, { on := 17, ground := Ground.phase }, { on := 18, ground := Ground.phase }, { on := 19, ground := Ground.phase }, { on := 20, ground := Ground.phase }, { on := 21, ground := Ground.phase }, { on := 22, ground := Ground.phase }], guard := none }) rfl rfl (fun K hK => ?_) ?_
                · clear hHeld
                  have d0 := HDK.out.1
                  have d1 := HDK.out.2
                  go_simp
                  clear d0 d1
                  refine hK.out _ _ (by first | exact ⟨s0, s1, s2, s3, s4⟩ | exact ⟨cell_other s0 nk0, cell_other s1 nk2, cell_other s2 nk2, cell_other s3 nk1, cell_other s4 nk1⟩) (fun hHeld => ?_)
                  clear hK K
                  try simp only [Act.put, List.setIfInBounds_toArray, List.set_cons_zero, List.set_cons_succ]
                  refine wpAnyH_done (by kernel_rfl) ?_ _
                  clear hHeld
                  have HREL : Hid (PJ W (D.setCell ⟨kx, 1, none⟩ (.slice q1 (i + 1) c1)) kx ga m ((m : Int) - 1) (mergeL m u v) q1 (i + 1) c1 (.slice none 0 0) (rename (es.take (i + 1)) (mergeL m u v)) []) := by show PJ _ _ _ _ _ _ _ _ _ _ _ _ _; rw [HPK.out]; exact HPD.out
                  obtain ⟨E, hE⟩ : ∃ E, E = D.setCell ⟨kx, 1, none⟩ (.slice q1 (i + 1) c1) := ⟨_, rfl⟩
                  rw [← hE] at HREL ⊢
                  clear hE s0 s1 s2 s3 s4
                  go_wp2
                  go_roundw
                  case rel => exact ⟨i + 1, by omega, by go_num, q1, c1, HREL.out⟩
                  case measure => simp [intOf]; omega
                exact AllReadyH.nil
              exact AllReadyH.nil
            exact AllReadyH.nil
          refine ready_cons ({ dst := some 92, op := Op.buildSlice 22 1 #[(0, Operand.tmp 91)], type := 22, pos := "ref.go:237", after := #[{ on := 20, ground := Ground.data }], guard := none }) rfl rfl (fun K hK => ?_) ?_
          · clear hHeld
            go_simp
            rw [← HV1.out]
            clear s0 s1 s2 s3 s4
            obtain ⟨s0, s1, s2, s3, s4⟩ := HS1.out
            refine hK.out _ _ (by first | exact ⟨s0, s1, s2, s3, s4⟩ | exact ⟨cell_other s0 nk0, cell_other s1 nk2, cell_other s2 nk2, cell_other s3 nk1, cell_other s4 nk1⟩) (fun hHeld => ?_)
            clear hK K
            try simp only [Act.put, List.setIfInBounds_toArray, List.set_cons_zero, List.set_cons_succ]
            refine wpAnyH_ready (rs := [1]) (by kernel_rfl) (by simp) ?_
            refine ready_cons ({ dst := some 72, op := Op.load 22 (Operand.tmp 71), type := 22, pos := "ref.go:237", after := #[{ on := 0, ground := Ground.data }], guard := none }) rfl rfl (fun K hK => ?_) ?_
            · clear hHeld
              have d0 := HBK1.out
              refine wp_val (v := ?vl2) (w2 := V1) ?hl2 ?_
              case hl2 => (go_simp; try with_reducible rfl)
              clear d0
              refine hK.out _ _ (by first | exact ⟨s0, s1, s2, s3, s4⟩ | exact ⟨cell_other s0 nk0, cell_other s1 nk2, cell_other s2 nk2, cell_other s3 nk1, cell_other s4 nk1⟩) (fun hHeld => ?_)
              clear hK K
              try simp only [Act.put, List.setIfInBounds_toArray, List.set_cons_zero, List.set_cons_succ]
              refine wpAnyH_ready (rs := [22]) (by kernel_rfl) (by simp) ?_
              refine ready_cons ({ dst := some 93, op := Op.call { callee := Callee.builtin Builtin.append, args := #[Operand.tmp 72, Operand.tmp 92], argTypes := #[22, 22] }, type := 22, pos := "ref.go:237", after := #[{ on := 1, ground := Ground.data }, { on := 21, ground := Ground.data }], guard := none }) rfl rfl (fun K hK => ?_) ?_
              · clear hHeld
                clear s0 s1 s2 s3 s4
                obtain ⟨s0, s1, s2, s3, s4⟩ := HS2.out
                refine wp_append (.tmp 72) (.tmp 92) 22 (by rfl) 22 (by rfl) (.slice q' i c') (.slice (some ⟨V0.heap.size, 0, none⟩) 1 1) (.slice q1 (i + 1) c1) D (by rfl) (by rfl) ?_ ?_
                with_reducible exact e1
                refine hK.out _ _ (by first | exact ⟨s0, s1, s2, s3, s4⟩ | exact ⟨cell_other s0 nk0, cell_other s1 nk2, cell_other s2 nk2, cell_other s3 nk1, cell_other s4 nk1⟩) (fun hHeld => ?_)
                clear hK K
                try simp only [Act.put, List.setIfInBounds_toArray, List.set_cons_zero, List.set_cons_succ]
                refine wpAnyH_take (i := 23) (v := ?v22) rfl (by kernel_rfl) (by kernel_rfl) (by kernel_rfl) (fun _ _ _ h => h) (Or.inl ⟨by rfl, ?hy22⟩) (by assumption) ?rest22
                case hy22 => (intro w hSw; (try dsimp only at hSw); go_simp; try with_reducible rfl)
                try simp only [Act.put, List.setIfInBounds_toArray]
                refine wpAnyH_ready (rs := [24]) (by kernel_rfl) (by simp) ?_
                refine ready_cons ({ dst := none, op := Op.store 22 (Operand.tmp 94) (Operand.tmp 93), type := 0, pos := "ref.go:237", after := #[{ on := 23, ground := Ground.data }, { on := 22, ground := Ground.data }, { on := 22, ground := Ground.chain }, { on := 0, ground := Ground.phase }, { on := 1, ground := Ground.phase }, { on := 2, ground := Ground.phase }, { on := 3, ground := Ground.phase }, { on := 4, ground := Ground.phase }, { on := 5, ground := Ground.phase }, { on := 6, ground := Ground.phase }, { on := 7, ground := Ground.phase }, { on := 8, ground := Ground.phase }, { on := 9, ground := Ground.phase }, { on := 10, ground := Ground.phase }, { on := 11, ground := Ground.phase }, { on := 12, ground := Ground.phase }, { on := 13, ground := Ground.phase }, { on := 14, ground := Ground.phase }, { on := 15, ground := Ground.phase }, { on := 16, ground := Ground.phase }, { on := 17, ground := Ground.phase }, { on := 18, ground := Ground.phase }, { on := 19, ground := Ground.phase }, { on := 20, ground := Ground.phase }, { on := 21, ground := Ground.phase }, { on := 22, ground := Ground.phase }], guard := none }) rfl rfl (fun K hK => ?_) ?_
                · clear hHeld
                  have d0 := HDK.out.1
                  have d1 := HDK.out.2
                  go_simp
                  clear d0 d1
                  refine hK.out _ _ (by first | exact ⟨s0, s1, s2, s3, s4⟩ | exact ⟨cell_other s0 nk0, cell_other s1 nk2, cell_other s2 nk2, cell_other s3 nk1, cell_other s4 nk1⟩) (fun hHeld => ?_)
                  clear hK K
                  try simp only [Act.put, List.setIfInBounds_toArray, List.set_cons_zero, List.set_cons_succ]
                  refine wpAnyH_done (by kernel_rfl) ?_ _
                  clear hHeld
                  have HREL : Hid (PJ W (D.setCell ⟨kx, 1, none⟩ (.slice q1 (i + 1) c1)) kx ga m ((m : Int) - 1) (mergeL m u v) q1 (i + 1) c1 (.slice none 0 0) (rename (es.take (i + 1)) (mergeL m u v)) []) := by show PJ _ _ _ _ _ _ _ _ _ _ _ _ _; rw [HPK.out]; exact HPD.out
                  obtain ⟨E, hE⟩ : ∃ E, E = D.setCell ⟨kx, 1, none⟩ (.slice q1 (i + 1) c1) := ⟨_, rfl⟩
                  rw [← hE] at HREL ⊢
                  clear hE s0 s1 s2 s3 s4
                  go_wp2
                  go_roundw
                  case rel => exact ⟨i + 1, by omega, by go_num, q1, c1, HREL.out⟩
                  case measure => simp [intOf]; omega
                exact AllReadyH.nil
              exact AllReadyH.nil
            exact AllReadyH.nil
          exact AllReadyH.nil
        · have hie : i = es.length := by omega
          subst hie
          have i1 : ¬ (es.length : Int) < es.length := by omega
          have HJ := hide HR.out
          obtain ⟨n0, n1, n2, n3⟩ := HN.out.later HR.out.below
          obtain ⟨k0, k1, k2, k3⟩ := HR.out.box
          have nk : kb + 1 ≠ kx := by have := HWS.out; omega
          have nga : kb + 1 ≠ ga := by have := HWS.out; have := HGA.out; omega
          have HNN := hide (HN.out.later HR.out.below)
          have hkb1 : kb + 1 < kx + 1 := by have := HWS.out; omega
          clear HR
          go_wp2_with fail
          refine bodyPost_ret (ret_net3 Try.results46 rfl rfl rfl (HNN.out.set _ _ _ _)) rfl ⟨⟨q', c', _, rfl, ?_, ?_⟩, ?_⟩
          · have o := HJ.out.edges
            rw [List.take_length] at o
            exact (owns_other (owns_other o hkb1 _) hkb1 _).base (by rw [HKB.out]; omega)
          · have o := irow_other (irow_other HJ.out.pl nga (.int .i64 ((m : Int) - 1)) (i := 0)) nga (.slice q' es.length c') (i := 1)
            exact o.owns.base (by rw [HKB.out]; have := HWS.out; omega)
          · have := below_step HB.out HJ.out.below
            exact (this.setCell (p := ⟨kb + 1, 0, none⟩) (by rw [HKB.out]; simp) _).setCell (p := ⟨kb + 1, 1, none⟩) (by rw [HKB.out]; simp) _
end Go.Proofs.Ytmmbbfmkhbengaa
