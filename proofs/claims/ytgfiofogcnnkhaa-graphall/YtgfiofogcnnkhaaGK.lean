/- slices.Delete of nodes, edges, undoing steps. -/
import Derived.Test.YtgfiofogcnnkhaaGJ
namespace Go.Proofs.Ytgfiofogcnnkhaa
open Go.RowKit Go.Sort
open Go

theorem int_ne {i j : Nat} (h : i < j) : ((i : Int) == j) = false := by
  rw [beq_eq_false_iff_ne]
  omega
set_option maxRecDepth 100000 in
set_option maxHeartbeats 8000000 in
theorem delete88 (g n cap i j B : Nat) (xs : List Value) (w : World) (o : w.ownsRow B 76 3 (.slice (some ⟨g, 0, none⟩) n cap) n xs) (hx : ∀ u ∈ xs, u.oneCell' = true) (hij : i < j) (hj : j ≤ n) (hn : n ≤ 5000000) : Calls Try.prog 88 #[.slice (some ⟨g, 0, none⟩) n cap, .int .i64 i, .int .i64 j] w fun e w' => e = .returned (.slice (some ⟨g, 0, none⟩) (i + (n - j)) cap) ∧ w'.ownsRow B 76 3 (.slice (some ⟨g, 0, none⟩) (i + (n - j)) cap) (i + (n - j)) (xs.take (i * 3) ++ xs.drop (j * 3)) ∧ w.grownBy w' (some g) := by
  obtain ⟨i0, hi0, hz0, hz1, hz2⟩ := info_parts info76
  obtain ⟨cur, R, hcur, hnc, hBg, hxl⟩ := row_is o
  obtain ⟨A, hA, hA2⟩ : ∃ A : Addr, (if cap = j then some (⟨g, 0, none⟩ : Addr) else some ⟨g, j * 3, none⟩) = some A ∧ (A = ⟨g, j * 3, none⟩ ∨ j = n) := by
    by_cases h : cap = j
    · exact ⟨⟨g, 0, none⟩, by simp [h], Or.inr (by omega)⟩
    · exact ⟨⟨g, j * 3, none⟩, by simp [h], Or.inl rfl⟩
  have hm := R.max
  have R0 : RowIs w.drew g 76 cap 3 cur := ⟨R.row, R.len, R.max⟩
  have e1 := del_append R0 77 Try.underlying77 i0 hi0 hz1 (by rw [hcur]; exact hx) i j (cap - j) (by omega) hj hnc A hA2
  have mj := Nat.sub_mul n j 3
  have k1 : n * 3 ≤ cap * 3 := Nat.mul_le_mul_right _ hnc
  have k2 : j * 3 ≤ n * 3 := Nat.mul_le_mul_right _ hj
  have k3 : i * 3 ≤ j * 3 := Nat.mul_le_mul_right _ (by omega)
  have hRl := R.len
  have hlen : ((cur.take (n * 3)).drop (j * 3)).length = (n - j) * 3 := by rw [List.length_drop, List.length_take]; omega
  obtain ⟨R1, gr1⟩ := R0.store (i * 3) ((cur.take (n * 3)).drop (j * 3)) (by rw [hlen]; omega)
  obtain ⟨cur1, hc1⟩ : ∃ c, c = cur.take (i * 3) ++ (cur.take (n * 3)).drop (j * 3) ++ cur.drop (i * 3 + ((cur.take (n * 3)).drop (j * 3)).length) := ⟨_, rfl⟩
  obtain ⟨W1, hW1⟩ : ∃ W, W = w.drew.setRow g cur1.toArray := ⟨_, rfl⟩
  rw [← hc1, ← hW1] at R1 gr1 e1
  obtain ⟨zs, hzl, e2⟩ := del_clear (n := n) R1 77 0 (.agg #[.int .i64 0, .int .i64 0, .int .i64 0]) Try.underlying77 Try.zeroValue76 rfl (by simp [Value.cells, Value.oneCell']) (i + (n - j)) (cap - (i + (n - j))) (by omega) hnc
  have mk : (i + (n - j)) * 3 = i * 3 + (n - j) * 3 := Nat.add_mul _ _ _
  have mk2 := Nat.sub_mul n (i + (n - j)) 3
  obtain ⟨R2, gr2⟩ := R1.store ((i + (n - j)) * 3) zs (by rw [hzl]; omega)
  obtain ⟨cur2, hc2⟩ : ∃ c, c = cur1.take ((i + (n - j)) * 3) ++ zs ++ cur1.drop ((i + (n - j)) * 3 + zs.length) := ⟨_, rfl⟩
  obtain ⟨W2, hW2⟩ : ∃ W, W = W1.setRow g cur2.toArray := ⟨_, rfl⟩
  rw [← hc2, ← hW2] at R2 gr2 e2
  have hcut : cur2.take ((i + (n - j)) * 3) = xs.take (i * 3) ++ xs.drop (j * 3) := by
    have h1 : cur1.take ((i + (n - j)) * 3) = xs.take (i * 3) ++ xs.drop (j * 3) := by
      have h2 : xs.take (i * 3) = cur.take (i * 3) := by rw [← hcur, List.take_take, Nat.min_eq_left (by omega)]
      rw [hc1, hcur, h2, List.append_assoc, ← List.append_assoc]
      apply List.take_left'
      rw [List.length_append, List.length_take, List.length_drop, hxl]
      omega
    rw [hc2, h1, List.append_assoc]
    apply List.take_left'
    rw [List.length_append, List.length_take, List.length_drop, hxl]
    omega
  have HO : Hid (W2.ownsRow B 76 3 (.slice (some ⟨g, 0, none⟩) (i + (n - j)) cap) (i + (n - j)) (xs.take (i * 3) ++ xs.drop (j * 3))) := by
    have := R2.own (n := i + (n - j)) (by omega) hBg
    rw [hcut] at this
    exact this
  have HG := hide (grown_trans (grown_trans (grown_drew (w := w) (row := some g)) gr1) gr2)
  have eq0 := int_ne hij
  have hic : i ≤ cap := by omega
  have hjc : j ≤ cap := by omega
  have i1 : (0 : Int) ≤ i := by omega
  have i2 : (i : Int) ≤ j := by omega
  have i3 : (j : Int) ≤ n := by omega
  have i4 : (n : Int) ≤ cap := by omega
  have i5 : (cap : Int) ≤ 9223372036854775807 := by unfold maxLen at hm; omega
  clear o hx hz0 hz1 hz2 hi0 R R0 R1 R2 gr1 gr2 hcut hc1 hc2 hW1 hW2 hRl hlen hxl hcur mj k1 k2 k3 mk mk2 hzl hA2
  go_enter Try.func88, Try.ntmps88
  go_upto_region 5 with fail
  refine wp_region_held_drew (S := (fun _ => True)) (by kernel_rfl) trivial (fun hHeld => ?_)
  refine wpAnyH_take (i := 0) (v := ?v1) rfl (by kernel_rfl) (by kernel_rfl) (by kernel_rfl) (fun _ _ _ h => h) (Or.inl ⟨by rfl, ?hy1⟩) (by assumption) ?rest1
  case hy1 => (intro w hSw; (try dsimp only at hSw); go_simp; try with_reducible rfl)
  try simp only [Act.put, List.setIfInBounds_toArray]
  refine wpAnyH_take (i := 1) (v := ?v2) rfl (by kernel_rfl) (by kernel_rfl) (by kernel_rfl) (fun _ _ _ h => h) (Or.inl ⟨by rfl, ?hy2⟩) (by assumption) ?rest2
  case hy2 => (intro w hSw; (try dsimp only at hSw); go_simp; try with_reducible rfl)
  try simp only [Act.put]
  refine wpAnyH_take (i := 2) (v := ?v3) rfl (by kernel_rfl) (by kernel_rfl) (by kernel_rfl) (fun _ _ _ h => h) (Or.inl ⟨by rfl, ?hy3⟩) (by assumption) ?rest3
  case hy3 => (intro w hSw; (try dsimp only at hSw); go_simp; try with_reducible rfl)
  try simp only [Act.put]
  refine wpAnyH_take (i := 3) (v := ?v4) rfl (by kernel_rfl) (by kernel_rfl) (by kernel_rfl) (fun _ _ _ h => h) (Or.inl ⟨by rfl, ?hy4⟩) (by assumption) ?rest4
  case hy4 => (intro w hSw; (try dsimp only at hSw); go_simp; try with_reducible rfl)
  try simp only [Act.put]
  refine wpAnyH_take (i := 4) (v := ?v5) rfl (by kernel_rfl) (by kernel_rfl) (by kernel_rfl) (fun _ _ _ h => h) (Or.inl ⟨by rfl, ?hy5⟩) (by assumption) ?rest5
  case hy5 => (intro w hSw; (try dsimp only at hSw); go_simp; try with_reducible rfl)
  try simp only [Act.put]
  refine wpAnyH_take (i := 5) (v := ?v6) rfl (by kernel_rfl) (by kernel_rfl) (by kernel_rfl) (fun _ _ _ h => h) (Or.inl ⟨by rfl, ?hy6⟩) (by assumption) ?rest6
  case hy6 => (intro w hSw; (try dsimp only at hSw); go_simp; try with_reducible rfl)
  try simp only [Act.put]
  refine wpAnyH_ready (rs := [6]) (by kernel_rfl) (by simp) ?_
  refine AllReadyH.cons rfl (fun K hK => ?_) ?_
  · clear hHeld
    refine step_run_append (by rfl) (.tmp 22) (.tmp 25) 77 (by rfl) 77 (by rfl) (.slice (some ⟨g, 0, none⟩) i cap) (.slice (some A) (n - j) (cap - j)) (.slice (some ⟨g, 0, none⟩) (i + (n - j)) cap) W1 (by rfl) (by rfl) ?_ ?_
    with_reducible exact e1
    refine hK.out _ _ (trivial) (fun hHeld => ?_)
    clear hK K
    try simp only [Act.put]
    refine wpAnyH_take (i := 7) (v := ?v7) rfl (by kernel_rfl) (by kernel_rfl) (by kernel_rfl) (fun _ _ _ h => h) (Or.inl ⟨by rfl, ?hy7⟩) (by assumption) ?rest7
    case hy7 => (intro w hSw; (try dsimp only at hSw); go_simp; try with_reducible rfl)
    try simp only [Act.put]
    refine wpAnyH_done (by kernel_rfl) ?_ _
    clear hHeld
    clear e1 hA
    have hne : ¬ cap = i + (n - j) := by omega
    obtain ⟨m, hm1⟩ : ∃ m, i + (n - j) = m := ⟨_, rfl⟩
    have hm2 : m < n := by omega
    rw [hm1] at e2 HO hne ⊢
    have HM := hide hm1
    clear hm1
    go_wp2_with fail
    go_ret
    rw [HM.out]
    exact ⟨rfl, HO.out, HG.out⟩
  exact AllReadyH.nil
set_option maxRecDepth 100000 in
set_option maxHeartbeats 8000000 in
theorem delete91 (g n cap i j B : Nat) (xs : List Value) (w : World) (o : w.ownsRow B 3 1 (.slice (some ⟨g, 0, none⟩) n cap) n xs) (hx : ∀ u ∈ xs, u.oneCell' = true) (hij : i < j) (hj : j ≤ n) (hn : n ≤ 5000000) : Calls Try.prog 91 #[.slice (some ⟨g, 0, none⟩) n cap, .int .i64 i, .int .i64 j] w fun e w' => e = .returned (.slice (some ⟨g, 0, none⟩) (i + (n - j)) cap) ∧ w'.ownsRow B 3 1 (.slice (some ⟨g, 0, none⟩) (i + (n - j)) cap) (i + (n - j)) (xs.take (i * 1) ++ xs.drop (j * 1)) ∧ w.grownBy w' (some g) := by
  obtain ⟨i0, hi0, hz0, hz1, hz2⟩ := info_parts info3
  obtain ⟨cur, R, hcur, hnc, hBg, hxl⟩ := row_is o
  obtain ⟨A, hA, hA2⟩ : ∃ A : Addr, (if cap = j then some (⟨g, 0, none⟩ : Addr) else some ⟨g, j, none⟩) = some A ∧ (A = ⟨g, j * 1, none⟩ ∨ j = n) := by
    by_cases h : cap = j
    · exact ⟨⟨g, 0, none⟩, by simp [h], Or.inr (by omega)⟩
    · exact ⟨⟨g, j * 1, none⟩, by simp [h], Or.inl rfl⟩
  have hm := R.max
  have R0 : RowIs w.drew g 3 cap 1 cur := ⟨R.row, R.len, R.max⟩
  have e1 := del_append R0 38 Try.underlying38 i0 hi0 hz1 (by rw [hcur]; exact hx) i j (cap - j) (by omega) hj hnc A hA2
  have mj := Nat.sub_mul n j 1
  have k1 : n * 1 ≤ cap * 1 := Nat.mul_le_mul_right _ hnc
  have k2 : j * 1 ≤ n * 1 := Nat.mul_le_mul_right _ hj
  have k3 : i * 1 ≤ j * 1 := Nat.mul_le_mul_right _ (by omega)
  have hRl := R.len
  have hlen : ((cur.take (n * 1)).drop (j * 1)).length = (n - j) * 1 := by rw [List.length_drop, List.length_take]; omega
  obtain ⟨R1, gr1⟩ := R0.store (i * 1) ((cur.take (n * 1)).drop (j * 1)) (by rw [hlen]; omega)
  obtain ⟨cur1, hc1⟩ : ∃ c, c = cur.take (i * 1) ++ (cur.take (n * 1)).drop (j * 1) ++ cur.drop (i * 1 + ((cur.take (n * 1)).drop (j * 1)).length) := ⟨_, rfl⟩
  obtain ⟨W1, hW1⟩ : ∃ W, W = w.drew.setRow g cur1.toArray := ⟨_, rfl⟩
  rw [← hc1, ← hW1] at R1 gr1 e1
  obtain ⟨zs, hzl, e2⟩ := del_clear (n := n) R1 38 0 (.int .i64 0) Try.underlying38 Try.zeroValue3 rfl (by simp [Value.cells, Value.oneCell']) (i + (n - j)) (cap - (i + (n - j))) (by omega) hnc
  have mk : (i + (n - j)) * 1 = i * 1 + (n - j) * 1 := Nat.add_mul _ _ _
  have mk2 := Nat.sub_mul n (i + (n - j)) 1
  obtain ⟨R2, gr2⟩ := R1.store ((i + (n - j)) * 1) zs (by rw [hzl]; omega)
  obtain ⟨cur2, hc2⟩ : ∃ c, c = cur1.take ((i + (n - j)) * 1) ++ zs ++ cur1.drop ((i + (n - j)) * 1 + zs.length) := ⟨_, rfl⟩
  obtain ⟨W2, hW2⟩ : ∃ W, W = W1.setRow g cur2.toArray := ⟨_, rfl⟩
  rw [← hc2, ← hW2] at R2 gr2 e2
  have hcut : cur2.take ((i + (n - j)) * 1) = xs.take (i * 1) ++ xs.drop (j * 1) := by
    have h1 : cur1.take ((i + (n - j)) * 1) = xs.take (i * 1) ++ xs.drop (j * 1) := by
      have h2 : xs.take (i * 1) = cur.take (i * 1) := by rw [← hcur, List.take_take, Nat.min_eq_left (by omega)]
      rw [hc1, hcur, h2, List.append_assoc, ← List.append_assoc]
      apply List.take_left'
      rw [List.length_append, List.length_take, List.length_drop, hxl]
      omega
    rw [hc2, h1, List.append_assoc]
    apply List.take_left'
    rw [List.length_append, List.length_take, List.length_drop, hxl]
    omega
  have HO : Hid (W2.ownsRow B 3 1 (.slice (some ⟨g, 0, none⟩) (i + (n - j)) cap) (i + (n - j)) (xs.take (i * 1) ++ xs.drop (j * 1))) := by
    have := R2.own (n := i + (n - j)) (by omega) hBg
    rw [hcut] at this
    exact this
  have HG := hide (grown_trans (grown_trans (grown_drew (w := w) (row := some g)) gr1) gr2)
  have eq0 := int_ne hij
  have hic : i ≤ cap := by omega
  have hjc : j ≤ cap := by omega
  have i1 : (0 : Int) ≤ i := by omega
  have i2 : (i : Int) ≤ j := by omega
  have i3 : (j : Int) ≤ n := by omega
  have i4 : (n : Int) ≤ cap := by omega
  have i5 : (cap : Int) ≤ 9223372036854775807 := by unfold maxLen at hm; omega
  clear o hx hz0 hz1 hz2 hi0 R R0 R1 R2 gr1 gr2 hcut hc1 hc2 hW1 hW2 hRl hlen hxl hcur mj k1 k2 k3 mk mk2 hzl hA2
  go_enter Try.func91, Try.ntmps91
  go_upto_region 5 with fail
  refine wp_region_held_drew (S := (fun _ => True)) (by kernel_rfl) trivial (fun hHeld => ?_)
  refine wpAnyH_take (i := 0) (v := ?v8) rfl (by kernel_rfl) (by kernel_rfl) (by kernel_rfl) (fun _ _ _ h => h) (Or.inl ⟨by rfl, ?hy8⟩) (by assumption) ?rest8
  case hy8 => (intro w hSw; (try dsimp only at hSw); go_simp; try with_reducible rfl)
  try simp only [Act.put, List.setIfInBounds_toArray]
  refine wpAnyH_take (i := 1) (v := ?v9) rfl (by kernel_rfl) (by kernel_rfl) (by kernel_rfl) (fun _ _ _ h => h) (Or.inl ⟨by rfl, ?hy9⟩) (by assumption) ?rest9
  case hy9 => (intro w hSw; (try dsimp only at hSw); go_simp; try with_reducible rfl)
  try simp only [Act.put]
  refine wpAnyH_take (i := 2) (v := ?v10) rfl (by kernel_rfl) (by kernel_rfl) (by kernel_rfl) (fun _ _ _ h => h) (Or.inl ⟨by rfl, ?hy10⟩) (by assumption) ?rest10
  case hy10 => (intro w hSw; (try dsimp only at hSw); go_simp; try with_reducible rfl)
  try simp only [Act.put]
  refine wpAnyH_take (i := 3) (v := ?v11) rfl (by kernel_rfl) (by kernel_rfl) (by kernel_rfl) (fun _ _ _ h => h) (Or.inl ⟨by rfl, ?hy11⟩) (by assumption) ?rest11
  case hy11 => (intro w hSw; (try dsimp only at hSw); go_simp; try with_reducible rfl)
  try simp only [Act.put]
  refine wpAnyH_take (i := 4) (v := ?v12) rfl (by kernel_rfl) (by kernel_rfl) (by kernel_rfl) (fun _ _ _ h => h) (Or.inl ⟨by rfl, ?hy12⟩) (by assumption) ?rest12
  case hy12 => (intro w hSw; (try dsimp only at hSw); go_simp; try with_reducible rfl)
  try simp only [Act.put]
  refine wpAnyH_take (i := 5) (v := ?v13) rfl (by kernel_rfl) (by kernel_rfl) (by kernel_rfl) (fun _ _ _ h => h) (Or.inl ⟨by rfl, ?hy13⟩) (by assumption) ?rest13
  case hy13 => (intro w hSw; (try dsimp only at hSw); go_simp; try with_reducible rfl)
  try simp only [Act.put]
  refine wpAnyH_ready (rs := [6]) (by kernel_rfl) (by simp) ?_
  refine AllReadyH.cons rfl (fun K hK => ?_) ?_
  · clear hHeld
    refine step_run_append (by rfl) (.tmp 22) (.tmp 25) 38 (by rfl) 38 (by rfl) (.slice (some ⟨g, 0, none⟩) i cap) (.slice (some A) (n - j) (cap - j)) (.slice (some ⟨g, 0, none⟩) (i + (n - j)) cap) W1 (by rfl) (by rfl) ?_ ?_
    with_reducible exact e1
    refine hK.out _ _ (trivial) (fun hHeld => ?_)
    clear hK K
    try simp only [Act.put]
    refine wpAnyH_take (i := 7) (v := ?v14) rfl (by kernel_rfl) (by kernel_rfl) (by kernel_rfl) (fun _ _ _ h => h) (Or.inl ⟨by rfl, ?hy14⟩) (by assumption) ?rest14
    case hy14 => (intro w hSw; (try dsimp only at hSw); go_simp; try with_reducible rfl)
    try simp only [Act.put]
    refine wpAnyH_done (by kernel_rfl) ?_ _
    clear hHeld
    clear e1 hA
    have hne : ¬ cap = i + (n - j) := by omega
    obtain ⟨m, hm1⟩ : ∃ m, i + (n - j) = m := ⟨_, rfl⟩
    have hm2 : m < n := by omega
    rw [hm1] at e2 HO hne ⊢
    have HM := hide hm1
    clear hm1
    simp only [Nat.mul_one] at e2
    go_wp2_with fail
    go_ret
    rw [HM.out]
    exact ⟨rfl, HO.out, HG.out⟩
  exact AllReadyH.nil
set_option maxRecDepth 100000 in
set_option maxHeartbeats 8000000 in
theorem delete65 (g n cap i j B : Nat) (xs : List Value) (w : World) (o : w.ownsRow B 93 1 (.slice (some ⟨g, 0, none⟩) n cap) n xs) (hx : ∀ u ∈ xs, u.oneCell' = true) (hij : i < j) (hj : j ≤ n) (hn : n ≤ 5000000) : Calls Try.prog 65 #[.slice (some ⟨g, 0, none⟩) n cap, .int .i64 i, .int .i64 j] w fun e w' => e = .returned (.slice (some ⟨g, 0, none⟩) (i + (n - j)) cap) ∧ w'.ownsRow B 93 1 (.slice (some ⟨g, 0, none⟩) (i + (n - j)) cap) (i + (n - j)) (xs.take (i * 1) ++ xs.drop (j * 1)) ∧ w.grownBy w' (some g) := by
  obtain ⟨i0, hi0, hz0, hz1, hz2⟩ := info_parts info93
  obtain ⟨cur, R, hcur, hnc, hBg, hxl⟩ := row_is o
  obtain ⟨A, hA, hA2⟩ : ∃ A : Addr, (if cap = j then some (⟨g, 0, none⟩ : Addr) else some ⟨g, j, none⟩) = some A ∧ (A = ⟨g, j * 1, none⟩ ∨ j = n) := by
    by_cases h : cap = j
    · exact ⟨⟨g, 0, none⟩, by simp [h], Or.inr (by omega)⟩
    · exact ⟨⟨g, j * 1, none⟩, by simp [h], Or.inl rfl⟩
  have hm := R.max
  have R0 : RowIs w.drew g 93 cap 1 cur := ⟨R.row, R.len, R.max⟩
  have e1 := del_append R0 79 Try.underlying79 i0 hi0 hz1 (by rw [hcur]; exact hx) i j (cap - j) (by omega) hj hnc A hA2
  have mj := Nat.sub_mul n j 1
  have k1 : n * 1 ≤ cap * 1 := Nat.mul_le_mul_right _ hnc
  have k2 : j * 1 ≤ n * 1 := Nat.mul_le_mul_right _ hj
  have k3 : i * 1 ≤ j * 1 := Nat.mul_le_mul_right _ (by omega)
  have hRl := R.len
  have hlen : ((cur.take (n * 1)).drop (j * 1)).length = (n - j) * 1 := by rw [List.length_drop, List.length_take]; omega
  obtain ⟨R1, gr1⟩ := R0.store (i * 1) ((cur.take (n * 1)).drop (j * 1)) (by rw [hlen]; omega)
  obtain ⟨cur1, hc1⟩ : ∃ c, c = cur.take (i * 1) ++ (cur.take (n * 1)).drop (j * 1) ++ cur.drop (i * 1 + ((cur.take (n * 1)).drop (j * 1)).length) := ⟨_, rfl⟩
  obtain ⟨W1, hW1⟩ : ∃ W, W = w.drew.setRow g cur1.toArray := ⟨_, rfl⟩
  rw [← hc1, ← hW1] at R1 gr1 e1
  obtain ⟨zs, hzl, e2⟩ := del_clear (n := n) R1 79 0 .nilFunc Try.underlying79 Try.zeroValue93 rfl (by simp [Value.cells, Value.oneCell']) (i + (n - j)) (cap - (i + (n - j))) (by omega) hnc
  have mk : (i + (n - j)) * 1 = i * 1 + (n - j) * 1 := Nat.add_mul _ _ _
  have mk2 := Nat.sub_mul n (i + (n - j)) 1
  obtain ⟨R2, gr2⟩ := R1.store ((i + (n - j)) * 1) zs (by rw [hzl]; omega)
  obtain ⟨cur2, hc2⟩ : ∃ c, c = cur1.take ((i + (n - j)) * 1) ++ zs ++ cur1.drop ((i + (n - j)) * 1 + zs.length) := ⟨_, rfl⟩
  obtain ⟨W2, hW2⟩ : ∃ W, W = W1.setRow g cur2.toArray := ⟨_, rfl⟩
  rw [← hc2, ← hW2] at R2 gr2 e2
  have hcut : cur2.take ((i + (n - j)) * 1) = xs.take (i * 1) ++ xs.drop (j * 1) := by
    have h1 : cur1.take ((i + (n - j)) * 1) = xs.take (i * 1) ++ xs.drop (j * 1) := by
      have h2 : xs.take (i * 1) = cur.take (i * 1) := by rw [← hcur, List.take_take, Nat.min_eq_left (by omega)]
      rw [hc1, hcur, h2, List.append_assoc, ← List.append_assoc]
      apply List.take_left'
      rw [List.length_append, List.length_take, List.length_drop, hxl]
      omega
    rw [hc2, h1, List.append_assoc]
    apply List.take_left'
    rw [List.length_append, List.length_take, List.length_drop, hxl]
    omega
  have HO : Hid (W2.ownsRow B 93 1 (.slice (some ⟨g, 0, none⟩) (i + (n - j)) cap) (i + (n - j)) (xs.take (i * 1) ++ xs.drop (j * 1))) := by
    have := R2.own (n := i + (n - j)) (by omega) hBg
    rw [hcut] at this
    exact this
  have HG := hide (grown_trans (grown_trans (grown_drew (w := w) (row := some g)) gr1) gr2)
  have eq0 := int_ne hij
  have hic : i ≤ cap := by omega
  have hjc : j ≤ cap := by omega
  have i1 : (0 : Int) ≤ i := by omega
  have i2 : (i : Int) ≤ j := by omega
  have i3 : (j : Int) ≤ n := by omega
  have i4 : (n : Int) ≤ cap := by omega
  have i5 : (cap : Int) ≤ 9223372036854775807 := by unfold maxLen at hm; omega
  clear o hx hz0 hz1 hz2 hi0 R R0 R1 R2 gr1 gr2 hcut hc1 hc2 hW1 hW2 hRl hlen hxl hcur mj k1 k2 k3 mk mk2 hzl hA2
  go_enter Try.func65, Try.ntmps65
  go_upto_region 5 with fail
  refine wp_region_held_drew (S := (fun _ => True)) (by kernel_rfl) trivial (fun hHeld => ?_)
  refine wpAnyH_take (i := 0) (v := ?v15) rfl (by kernel_rfl) (by kernel_rfl) (by kernel_rfl) (fun _ _ _ h => h) (Or.inl ⟨by rfl, ?hy15⟩) (by assumption) ?rest15
  case hy15 => (intro w hSw; (try dsimp only at hSw); go_simp; try with_reducible rfl)
  try simp only [Act.put, List.setIfInBounds_toArray]
  refine wpAnyH_take (i := 1) (v := ?v16) rfl (by kernel_rfl) (by kernel_rfl) (by kernel_rfl) (fun _ _ _ h => h) (Or.inl ⟨by rfl, ?hy16⟩) (by assumption) ?rest16
  case hy16 => (intro w hSw; (try dsimp only at hSw); go_simp; try with_reducible rfl)
  try simp only [Act.put]
  refine wpAnyH_take (i := 2) (v := ?v17) rfl (by kernel_rfl) (by kernel_rfl) (by kernel_rfl) (fun _ _ _ h => h) (Or.inl ⟨by rfl, ?hy17⟩) (by assumption) ?rest17
  case hy17 => (intro w hSw; (try dsimp only at hSw); go_simp; try with_reducible rfl)
  try simp only [Act.put]
  refine wpAnyH_take (i := 3) (v := ?v18) rfl (by kernel_rfl) (by kernel_rfl) (by kernel_rfl) (fun _ _ _ h => h) (Or.inl ⟨by rfl, ?hy18⟩) (by assumption) ?rest18
  case hy18 => (intro w hSw; (try dsimp only at hSw); go_simp; try with_reducible rfl)
  try simp only [Act.put]
  refine wpAnyH_take (i := 4) (v := ?v19) rfl (by kernel_rfl) (by kernel_rfl) (by kernel_rfl) (fun _ _ _ h => h) (Or.inl ⟨by rfl, ?hy19⟩) (by assumption) ?rest19
  case hy19 => (intro w hSw; (try dsimp only at hSw); go_simp; try with_reducible rfl)
  try simp only [Act.put]
  refine wpAnyH_take (i := 5) (v := ?v20) rfl (by kernel_rfl) (by kernel_rfl) (by kernel_rfl) (fun _ _ _ h => h) (Or.inl ⟨by rfl, ?hy20⟩) (by assumption) ?rest20
  case hy20 => (intro w hSw; (try dsimp only at hSw); go_simp; try with_reducible rfl)
  try simp only [Act.put]
  refine wpAnyH_ready (rs := [6]) (by kernel_rfl) (by simp) ?_
  refine AllReadyH.cons rfl (fun K hK => ?_) ?_
  · clear hHeld
    refine step_run_append (by rfl) (.tmp 22) (.tmp 25) 79 (by rfl) 79 (by rfl) (.slice (some ⟨g, 0, none⟩) i cap) (.slice (some A) (n - j) (cap - j)) (.slice (some ⟨g, 0, none⟩) (i + (n - j)) cap) W1 (by rfl) (by rfl) ?_ ?_
    with_reducible exact e1
    refine hK.out _ _ (trivial) (fun hHeld => ?_)
    clear hK K
    try simp only [Act.put]
    refine wpAnyH_take (i := 7) (v := ?v21) rfl (by kernel_rfl) (by kernel_rfl) (by kernel_rfl) (fun _ _ _ h => h) (Or.inl ⟨by rfl, ?hy21⟩) (by assumption) ?rest21
    case hy21 => (intro w hSw; (try dsimp only at hSw); go_simp; try with_reducible rfl)
    try simp only [Act.put]
    refine wpAnyH_done (by kernel_rfl) ?_ _
    clear hHeld
    clear e1 hA
    have hne : ¬ cap = i + (n - j) := by omega
    obtain ⟨m, hm1⟩ : ∃ m, i + (n - j) = m := ⟨_, rfl⟩
    have hm2 : m < n := by omega
    rw [hm1] at e2 HO hne ⊢
    have HM := hide hm1
    clear hm1
    simp only [Nat.mul_one] at e2
    go_wp2_with fail
    go_ret
    rw [HM.out]
    exact ⟨rfl, HO.out, HG.out⟩
  exact AllReadyH.nil
end Go.Proofs.Ytgfiofogcnnkhaa
