/- slices.Insert of one item in a row of one's own: of edges, of numbers. -/
import Derived.Test.YtgfiofogcnnkhaaGQ
import Derived.Shelf.Spec.SlicesInsertGrow
namespace Go.Proofs.Ytgfiofogcnnkhaa
open Go.RowKit Go.Sort
open Go

/-- copy, of items of any size. -/
theorem copy_row {w : World} {g e cap size : Nat} {cur : List Value} (h : RowIs w g e cap size cur) (t ty : TypeId) (ht : Try.prog.underlying t = some (.slice e)) (i0 : TypeInfo) (hi : Try.prog.info? e = some i0) (hsz : i0.size = size) (o dLen dCap : Nat) (a : Addr) (sLen sCap : Nat) (cs : List Value) (m : Nat) (hm : m = Nat.min sLen dLen) (hn : cs.length = m * size) (hsrc : ∀ j v, cs[j]? = some v → w.cell? (a.add j) = some v) (hfit : o + cs.length ≤ cap * size) (h1 : ∀ v ∈ cs, v.oneCell' = true) :
    (Builtin.copy_ #[t, t] ty #[.slice (some ⟨g, o, none⟩) dLen dCap, .slice (some a) sLen sCap]).run Try.prog w = .ok (goInt m) (w.setRow g (cur.take o ++ cs ++ cur.drop (o + cs.length)).toArray) := by
  have hlen := h.len
  have hl := run_loadCells_list (P := Try.prog) w a cs hsrc
  have hst := run_storeCells_at Try.prog g o e cs 0 cur.toArray w h.row (by simp; omega) h1
  simp only [Nat.add_zero] at hst
  rw [hn] at hl
  simp [Builtin.copy_, run_underlying ht, Builtin.lenOf, Builtin.firstCells, sizeOf, typeInfo, hi, hsz, ← hm, hl, hst]
theorem ins_room {cur xs news : List Value} {n i s : Nat} (hx : cur.take (n * s) = xs) (hxl : xs.length = n * s) (hc : (n + 1) * s ≤ cur.length) (hi : i ≤ n) (hnl : news.length = s) {cur1 : List Value} (h1 : cur1 = cur.take ((i + 1) * s) ++ xs.drop (i * s) ++ cur.drop ((i + 1) * s + (xs.drop (i * s)).length)) : (cur1.take (i * s) ++ news ++ cur1.drop (i * s + news.length)).take ((n + 1) * s) = xs.take (i * s) ++ news ++ xs.drop (i * s) := by
  have m1 : (i + 1) * s = i * s + s := Nat.succ_mul _ _
  have m2 : (n + 1) * s = n * s + s := Nat.succ_mul _ _
  have m3 : i * s ≤ n * s := Nat.mul_le_mul_right _ hi
  have a1 : cur1.take (i * s) = xs.take (i * s) := by
    rw [h1, List.append_assoc, List.take_append_of_le_length (by rw [List.length_take]; omega), List.take_take, Nat.min_eq_left (by omega), ← hx, List.take_take, Nat.min_eq_left (by omega)]
  have a2 : cur1.drop (i * s + news.length) = xs.drop (i * s) ++ cur.drop ((i + 1) * s + (xs.drop (i * s)).length) := by
    rw [h1, List.append_assoc, hnl, ← m1]
    apply List.drop_left'
    rw [List.length_take]; omega
  rw [a1, a2, ← List.append_assoc]
  apply List.take_left'
  simp only [List.length_append, List.length_take, List.length_drop]
  omega
theorem ins_grow {Z xs news : List Value} {n i s : Nat} (hxl : xs.length = n * s) (hz : Z.take (i * s) = xs.take (i * s)) (hi : i ≤ n) (hnl : news.length = s) {cur1 : List Value} (h1 : cur1 = Z.take (i * s) ++ news ++ Z.drop (i * s + news.length)) : (cur1.take ((i + 1) * s) ++ xs.drop (i * s) ++ cur1.drop ((i + 1) * s + (xs.drop (i * s)).length)).take ((n + 1) * s) = xs.take (i * s) ++ news ++ xs.drop (i * s) := by
  have m1 : (i + 1) * s = i * s + s := Nat.succ_mul _ _
  have m2 : (n + 1) * s = n * s + s := Nat.succ_mul _ _
  have m3 : i * s ≤ n * s := Nat.mul_le_mul_right _ hi
  have a1 : cur1.take ((i + 1) * s) = xs.take (i * s) ++ news := by
    rw [h1, hz, m1]
    apply List.take_left'
    simp only [List.length_append, List.length_take]
    omega
  rw [a1, List.append_assoc (xs.take (i * s) ++ news)]
  rw [← List.append_assoc]
  apply List.take_left'
  simp only [List.length_append, List.length_take, List.length_drop]
  omega
theorem rowis_drew {w : World} {g e cap size : Nat} {cur : List Value} (h : RowIs w g e cap size cur) : RowIs w.drew g e cap size cur := ⟨h.row, h.len, h.max⟩
theorem RowIs.cell {w : World} {g e cap size : Nat} {cur : List Value} (h : RowIs w g e cap size cur) (j : Nat) : w.cell? ⟨g, j, none⟩ = cur[j]? := by
  simp [World.cell?, h.row]
set_option maxRecDepth 100000 in
set_option maxHeartbeats 8000000 in
theorem insert90last (v : Value) (n vb B : Nat) (xs news : List Value) (w : World) (o : w.ownsRow B 76 3 v n xs) (hv : w.heap[vb]? = some (.cells news.toArray 76 (0, 0))) (hnl : news.length = 3) (h1 : ∀ u ∈ news, u.oneCell' = true) (hn : n ≤ 5000000) (hB : B ≤ w.heap.size) : Calls Try.prog 90 #[v, .int .i64 n, .slice (some ⟨vb, 0, none⟩) 1 1] w fun e w' => ∃ p c, e = .returned (.slice p (n + 1) c) ∧ w'.ownsRow B 76 3 (.slice p (n + 1) c) (n + 1) (xs ++ news) ∧ w.grownBy w' v.ownBlock ∧ ((Value.slice p (n + 1) c).ownBlock = v.ownBlock ∨ (Value.slice p (n + 1) c).ownBlock = some w.heap.size) := by
  obtain ⟨p1, l1, c1, D, e1, o1, gr, at1⟩ := append_row 77 76 (.agg #[.int .i64 0, .int .i64 0, .int .i64 0]) 3 24 Try.underlying77 info76 rfl (by decide) o vb news _ _ hv hnl h1 hn (by decide) hB
  obtain ⟨p, c, rfl, hnc, hcm⟩ := row_form o
  obtain ⟨p2, c2, e2, _⟩ := row_form o1
  simp only [Value.slice.injEq] at e2
  obtain ⟨rfl, rfl, rfl⟩ := e2
  have H := hide (show D.ownsRow B 76 3 (.slice p1 (n + 1) c1) (n + 1) (xs ++ news) ∧ w.grownBy D (Value.slice p n c).ownBlock ∧ ((Value.slice p1 (n + 1) c1).ownBlock = (Value.slice p n c).ownBlock ∨ (Value.slice p1 (n + 1) c1).ownBlock = some w.heap.size) from ⟨o1, gr, at1⟩)
  have i1 : (0 : Int) ≤ n := by omega
  have i4 : (n : Int) ≤ c := by omega
  have i5 : (c : Int) ≤ 9223372036854775807 := by unfold maxLen at hcm; omega
  clear o o1 gr at1 hv h1 hnl hcm
  cases p with
  | none =>
    go_enter Try.func90, Try.ntmps90
    go_wp2_with (at_builtin; refine wpList_run_append rfl (.tmp 23) (.tmp 24) 77 rfl 77 rfl _ _ _ D rfl rfl e1 ?_)
    go_ret
    exact ⟨_, _, rfl, H.out⟩
  | some ad =>
    obtain ⟨ab, ao, asp⟩ := ad
    go_enter Try.func90, Try.ntmps90
    go_wp2_with (at_builtin; refine wpList_run_append rfl (.tmp 23) (.tmp 24) 77 rfl 77 rfl _ _ _ D rfl rfl e1 ?_)
    all_goals (go_ret; exact ⟨_, _, rfl, H.out⟩)
set_option maxRecDepth 100000 in
set_option maxHeartbeats 8000000 in
theorem insert90room (g n cap i vb B : Nat) (xs news : List Value) (w : World) (o : w.ownsRow B 76 3 (.slice (some ⟨g, 0, none⟩) n cap) n xs) (hv : w.heap[vb]? = some (.cells news.toArray 76 (0, 0))) (hnl : news.length = 3) (h1 : ∀ u ∈ news, u.oneCell' = true) (hx : ∀ u ∈ xs, u.oneCell' = true) (hi : i < n) (hroom : n + 1 ≤ cap) (hne : vb ≠ g) : Calls Try.prog 90 #[.slice (some ⟨g, 0, none⟩) n cap, .int .i64 i, .slice (some ⟨vb, 0, none⟩) 1 1] w fun e w' => e = .returned (.slice (some ⟨g, 0, none⟩) (n + 1) cap) ∧ w'.ownsRow B 76 3 (.slice (some ⟨g, 0, none⟩) (n + 1) cap) (n + 1) (xs.take (i * 3) ++ news ++ xs.drop (i * 3)) ∧ w.grownBy w' (some g) := by
  obtain ⟨i0, hi0, hz0, hz1, hz2⟩ := info_parts info76
  obtain ⟨cur, R, hcur, hnc, hBg, hxl⟩ := row_is o
  have hm := R.max
  have R0 := rowis_drew R
  have hRl := R.len
  have hdl : (xs.drop (i * 3)).length = (n - i) * 3 := by rw [List.length_drop, hxl, Nat.sub_mul]
  have m1 := Nat.sub_mul n i 3
  have m2 : i * 3 ≤ n * 3 := Nat.mul_le_mul_right _ (by omega)
  have m3 : (n + 1) * 3 ≤ cap * 3 := Nat.mul_le_mul_right _ hroom
  have hov : ∀ lb cb, (callFunc 98 #[.slice (some ⟨vb, 0, none⟩) 1 1, .slice (some ⟨g, (i + 1) * 3, none⟩) lb cb]).run Try.prog w = .ok (.value (.bool false)) w := fun lb cb => by
    rw [run_callFunc_extern Try.func98 (by kernel_rfl) (by kernel_rfl) (by kernel_rfl) (e := Extern.SlicesOverlaps.overlaps #[77, 77] #[4]) (by kernel_rfl),
      Lib.run_overlaps_apart w 77 4 76 Try.underlying77 3 Try.sizeOf76 ⟨vb, 0, none⟩ ⟨g, (i + 1) * 3, none⟩ 1 1 lb cb hne 76 76 news.length cur.length (by simp [World.shape?, hv]) (by simp [World.shape?, R.row]) (by omega) (by simp [World.frozen?, hv]) (by simp [World.frozen?, hv])]
    rfl
  have hcp1 : ∀ ty dc sc, (Builtin.copy_ #[77, 77] ty #[.slice (some ⟨g, (i + 1) * 3, none⟩) (n - i) dc, .slice (some ⟨g, i * 3, none⟩) (n + 1 - i) sc]).run Try.prog w.drew = _ := fun ty dc sc =>
    copy_row R0 77 ty Try.underlying77 i0 hi0 hz1 ((i + 1) * 3) (n - i) dc ⟨g, i * 3, none⟩ (n + 1 - i) sc (xs.drop (i * 3)) (n - i) (by simp only [Nat.min_def]; split <;> omega) hdl (fun j u hj => by
      rw [Addr.add_lit, R0.cell]
      rw [List.getElem?_drop, ← hcur, List.getElem?_take] at hj
      split at hj
      · exact hj
      · cases hj) (by omega) (fun u hu => hx u (List.mem_of_mem_drop hu))
  obtain ⟨R1, gr1⟩ := R0.store ((i + 1) * 3) (xs.drop (i * 3)) (by omega)
  obtain ⟨cur1, hc1⟩ : ∃ c, c = cur.take ((i + 1) * 3) ++ xs.drop (i * 3) ++ cur.drop ((i + 1) * 3 + (xs.drop (i * 3)).length) := ⟨_, rfl⟩
  obtain ⟨W1, hW1⟩ : ∃ W, W = w.drew.setRow g cur1.toArray := ⟨_, rfl⟩
  rw [← hc1, ← hW1] at R1 gr1
  simp only [← hc1, ← hW1] at hcp1
  have hv1 : W1.heap[vb]? = some (.cells news.toArray 76 (0, 0)) := by
    rw [gr1.block vb (show vb < w.heap.size from (Array.getElem?_eq_some_iff.1 hv).1) (by simpa using hne)]; exact hv
  have hcp2 : ∀ ty dc, (Builtin.copy_ #[77, 77] ty #[.slice (some ⟨g, i * 3, none⟩) (n + 1 - i) dc, .slice (some ⟨vb, 0, none⟩) 1 1]).run Try.prog W1 = _ := fun ty dc =>
    copy_row R1 77 ty Try.underlying77 i0 hi0 hz1 (i * 3) (n + 1 - i) dc ⟨vb, 0, none⟩ 1 1 news 1 (by simp only [Nat.min_def]; split <;> omega) (by omega) (fun j u hj => by
      rw [Addr.add_lit, Nat.zero_add]
      simp [World.cell?, hv1, hj]) (by omega) h1
  obtain ⟨R2, gr2⟩ := R1.store (i * 3) news (by omega)
  have hcut := ins_room hcur hxl (by omega) (by omega : i ≤ n) hnl hc1
  obtain ⟨cur2, hc2⟩ : ∃ c, c = cur1.take (i * 3) ++ news ++ cur1.drop (i * 3 + news.length) := ⟨_, rfl⟩
  obtain ⟨W2, hW2⟩ : ∃ W, W = W1.setRow g cur2.toArray := ⟨_, rfl⟩
  rw [← hc2, ← hW2] at R2 gr2
  rw [← hc2] at hcut
  simp only [← hc2, ← hW2] at hcp2
  have HO : Hid (W2.ownsRow B 76 3 (.slice (some ⟨g, 0, none⟩) (n + 1) cap) (n + 1) (xs.take (i * 3) ++ news ++ xs.drop (i * 3))) := by
    have := R2.own (n := n + 1) hroom hBg
    rw [hcut] at this
    exact this
  have HG := hide (grown_trans (grown_trans (grown_drew (w := w) (row := some g)) gr1) gr2)
  have eq0 := int_ne hi
  have i1 : (0 : Int) ≤ i := by omega
  have i2 : (i : Int) ≤ n := by omega
  have i4 : (n : Int) ≤ cap := by omega
  have i5 : (cap : Int) ≤ 9223372036854775807 := by unfold maxLen at hm; omega
  have i6 : ¬ (cap : Int) < (n : Int) + 1 := by omega
  have i7 : (n : Int) + 1 ≤ cap := by omega
  have hb2 : ¬ cap = i + 1 := by omega
  have hb4 : ¬ cap = i := by omega
  have htn : ((i : Int) + 1).toNat = i + 1 := by omega
  have htm : ((n : Int) + 1).toNat = n + 1 := by omega
  have i8 : (i : Int) + 1 ≤ (n : Int) + 1 := by omega
  have hw1 : IntKind.i64.wrap ((i : Int) + 1) = (i : Int) + 1 := by rw [IntKind.wrap_i64]; omega
  have hw0 : (0 : Int) ≤ (i : Int) + 1 := by omega
  have i9 : (i : Int) ≤ (n : Int) + 1 := by omega
  clear o hv hv1 h1 hx hz0 hz1 hz2 hi0 R R0 R1 R2 gr1 gr2 hcut hc1 hc2 hW1 hW2 hRl hxl hcur m1 m2 m3 hdl hnl
  skip
  go_enter Try.func90, Try.ntmps90
  go_upto_region 15 with (simp only [hov])
  refine wp_region_held_drew (S := (fun _ => True)) (by kernel_rfl) trivial (fun hHeld => ?_)
  refine wpAnyH_take (i := 0) (v := ?v1) rfl (by kernel_rfl) (by kernel_rfl) (by kernel_rfl) (fun _ _ _ h => h) (Or.inl ⟨by rfl, ?hy1⟩) (by assumption) ?rest1
  case hy1 => (intro w hSw; (try dsimp only at hSw); go_simp; try with_reducible rfl)
  try simp only [Act.put, List.getElem_toArray, List.getElem_cons_zero, List.setIfInBounds_toArray, List.set_cons_zero, List.set_cons_succ]
  refine wpAnyH_take (i := 1) (v := ?v2) rfl (by kernel_rfl) (by kernel_rfl) (by kernel_rfl) (fun _ _ _ h => h) (Or.inl ⟨by rfl, ?hy2⟩) (by assumption) ?rest2
  case hy2 => (intro w hSw; (try dsimp only at hSw); go_simp; try with_reducible rfl)
  try simp only [Act.put, List.getElem_toArray, List.getElem_cons_zero, List.getElem_cons_succ, List.setIfInBounds_toArray, List.set_cons_zero, List.set_cons_succ]
  refine wpAnyH_take (i := 2) (v := ?v3) rfl (by kernel_rfl) (by kernel_rfl) (by kernel_rfl) (fun _ _ _ h => h) (Or.inl ⟨by rfl, ?hy3⟩) (by assumption) ?rest3
  case hy3 => (intro w hSw; (try dsimp only at hSw); go_simp; try with_reducible rfl)
  try simp only [Act.put, List.getElem_toArray, List.getElem_cons_zero, List.getElem_cons_succ, List.setIfInBounds_toArray, List.set_cons_zero, List.set_cons_succ]
  refine wpAnyH_take (i := 3) (v := ?v4) rfl (by kernel_rfl) (by kernel_rfl) (by kernel_rfl) (fun _ _ _ h => h) (Or.inl ⟨by rfl, ?hy4⟩) (by assumption) ?rest4
  case hy4 => (intro w hSw; (try dsimp only at hSw); go_simp; try with_reducible rfl)
  try simp only [Act.put, List.getElem_toArray, List.getElem_cons_zero, List.getElem_cons_succ, List.setIfInBounds_toArray, List.set_cons_zero, List.set_cons_succ]
  refine wpAnyH_take (i := 4) (v := ?v5) rfl (by kernel_rfl) (by kernel_rfl) (by kernel_rfl) (fun _ _ _ h => h) (Or.inl ⟨by rfl, ?hy5⟩) (by assumption) ?rest5
  case hy5 => (intro w hSw; (try dsimp only at hSw); go_simp; try with_reducible rfl)
  try simp only [Act.put, List.getElem_toArray, List.getElem_cons_zero, List.getElem_cons_succ, List.setIfInBounds_toArray, List.set_cons_zero, List.set_cons_succ]
  refine wpAnyH_take (i := 5) (v := ?v6) rfl (by kernel_rfl) (by kernel_rfl) (by kernel_rfl) (fun _ _ _ h => h) (Or.inl ⟨by rfl, ?hy6⟩) (by assumption) ?rest6
  case hy6 => (intro w hSw; (try dsimp only at hSw); go_simp; try with_reducible rfl)
  try simp only [Act.put, List.getElem_toArray, List.getElem_cons_zero, List.getElem_cons_succ, List.setIfInBounds_toArray, List.set_cons_zero, List.set_cons_succ]
  refine wpAnyH_take (i := 6) (v := ?v7) rfl (by kernel_rfl) (by kernel_rfl) (by kernel_rfl) (fun _ _ _ h => h) (Or.inl ⟨by rfl, ?hy7⟩) (by assumption) ?rest7
  case hy7 => (intro w hSw; (try dsimp only at hSw); go_simp; try with_reducible rfl)
  try simp only [Act.put, List.getElem_toArray, List.getElem_cons_zero, List.getElem_cons_succ, List.setIfInBounds_toArray, List.set_cons_zero, List.set_cons_succ]
  refine wpAnyH_take (i := 7) (v := ?v8) rfl (by kernel_rfl) (by kernel_rfl) (by kernel_rfl) (fun _ _ _ h => h) (Or.inl ⟨by rfl, ?hy8⟩) (by assumption) ?rest8
  case hy8 => (intro w hSw; (try dsimp only at hSw); go_simp; try with_reducible rfl)
  try simp only [Act.put, List.getElem_toArray, List.getElem_cons_zero, List.getElem_cons_succ, List.setIfInBounds_toArray, List.set_cons_zero, List.set_cons_succ]
  refine wpAnyH_ready (rs := [8]) (by kernel_rfl) (by simp) ?_
  refine ready_cons ({ dst := some 77, op := Op.call { callee := Callee.builtin Builtin.copy, args := #[.tmp 73, .tmp 76], argTypes := #[77, 77] }, type := 3, pos := "slices.go:178", after := #[{ on := 4, ground := Ground.data }, { on := 7, ground := Ground.data }], guard := none }) rfl rfl (fun K hK => ?_) ?_
  · clear hHeld
    refine wp_copy_runI _ (.tmp 73) (.tmp 76) 77 77 (by rfl) (.slice (some ⟨g, (i + 1) * 3, none⟩) (n - i) (cap - (i + 1))) (.slice (some ⟨g, i * 3, none⟩) (n + 1 - i) (cap - i)) (by rfl) (by rfl) (hcp1 _ _ _) ?_
    refine hK.out _ _ (trivial) (fun hHeld => ?_)
    clear hK K
    try simp only [Act.put, List.setIfInBounds_toArray, List.set_cons_zero, List.set_cons_succ]
    refine wpAnyH_done (by kernel_rfl) ?_ _
    clear hHeld
    go_wp2_with (at_builtin; refine wpList_copy_runI _ rfl _ _ 77 77 rfl _ _ rfl rfl (hcp2 _ _) ?_)
    go_ret
    exact ⟨rfl, by rw [← List.append_assoc]; exact HO.out, HG.out⟩
  exact AllReadyH.nil
set_option maxRecDepth 100000 in
set_option maxHeartbeats 8000000 in
theorem insert90grow (g n cap i vb B : Nat) (xs news : List Value) (w : World) (o : w.ownsRow B 76 3 (.slice (some ⟨g, 0, none⟩) n cap) n xs) (hv : w.heap[vb]? = some (.cells news.toArray 76 (0, 0))) (hnl : news.length = 3) (h1 : ∀ u ∈ news, u.oneCell' = true) (hx : ∀ u ∈ xs, u.oneCell' = true) (hi : i < n) (hroom : cap < n + 1) (hn : n ≤ 5000000) (hB : B ≤ w.heap.size) : Calls Try.prog 90 #[.slice (some ⟨g, 0, none⟩) n cap, .int .i64 i, .slice (some ⟨vb, 0, none⟩) 1 1] w fun e w' => ∃ c, e = .returned (.slice (some ⟨w.heap.size, 0, none⟩) (n + 1) c) ∧ w'.ownsRow B 76 3 (.slice (some ⟨w.heap.size, 0, none⟩) (n + 1) c) (n + 1) (xs.take (i * 3) ++ news ++ xs.drop (i * 3)) ∧ w.grownBy w' none := by
  obtain ⟨i0, hi0, hz0, hz1, hz2⟩ := info_parts info76
  obtain ⟨cur, R, hcur, hnc, hBg, hxl⟩ := row_is o
  have hm := R.max
  have hRl := R.len
  have hgl : g < w.heap.size := (Array.getElem?_eq_some_iff.1 R.row).1
  have hvl : vb < w.heap.size := (Array.getElem?_eq_some_iff.1 hv).1
  have hdl : (xs.drop (i * 3)).length = (n - i) * 3 := by rw [List.length_drop, hxl, Nat.sub_mul]
  have m1 := Nat.sub_mul n i 3
  have m2 : i * 3 ≤ n * 3 := Nat.mul_le_mul_right _ (by omega)
  have htl : (xs.take (i * 3)).length = i * 3 := by rw [List.length_take]; omega
  have hold : (Builtin.firstCells i0.size i (.slice (some ⟨g, 0, none⟩) i cap)).run Try.prog w.drew = .ok (xs.take (i * 3)).toArray w.drew := by
    rw [hz1]
    exact run_firstCells_some w.drew 3 i ⟨g, 0, none⟩ i cap (xs.take (i * 3)) htl (fun j u hj => by
      rw [Addr.add_lit, Nat.zero_add, (rowis_drew R).cell]
      rw [List.getElem?_take] at hj
      split at hj
      · rw [← hcur, List.getElem?_take] at hj
        split at hj
        · exact hj
        · cases hj
      · cases hj)
  have hik : i + (n + 1 - i) = n + 1 := by omega
  have hkk : (n : Int) + 1 - (i : Int) = ((n + 1 - i : Nat) : Int) := by omega
  have hrz : ∀ ty, (Builtin.append_ #[77, 3] ty #[.slice (some ⟨g, 0, none⟩) i cap, .int .i64 ((n : Int) + 1 - (i : Int))]).run Try.prog w = .ok (.slice (some ⟨w.heap.size, 0, none⟩) (n + 1) (grownCap w (n + 1) cap 76)) (w.drew.alloc (.cells ((xs.take (i * 3)).toArray ++ Builtin.zeroCells ((.agg #[.int .i64 0, .int .i64 0, .int .i64 0]) : Value).cells (n + 1 - i) ++ Builtin.zeroCells ((.agg #[.int .i64 0, .int .i64 0, .int .i64 0]) : Value).cells (grownCap w (n + 1) cap 76 - (n + 1))) 76)) := fun ty => by
    have h := Lib.run_append_grow_zeros w 77 3 ty 76 i0 _ .i64 .i64 Try.underlying77 Try.underlying3 hi0 hz0 (some ⟨g, 0, none⟩) i cap (xs.take (i * 3)) hold (n + 1 - i) (by omega) (by omega) (by omega) (by omega) (by rw [hz2]; omega) (by rw [hz2, hik]; exact growslice_fits (by omega) (by omega))
    rw [hik] at h
    rw [hkk]
    exact h
  have hge := grownCap_ge w (n + 1) cap 76
  have hle := grownCap_le_maxLen w (n + 1) cap 76 (by unfold maxLen; omega)
  obtain ⟨G, hG⟩ : ∃ G, grownCap w (n + 1) cap 76 = G := ⟨_, rfl⟩
  simp only [hG] at hrz hge hle
  obtain ⟨Z, hZ⟩ : ∃ Z : List Value, Z = ((xs.take (i * 3)).toArray ++ Builtin.zeroCells ((.agg #[.int .i64 0, .int .i64 0, .int .i64 0]) : Value).cells (n + 1 - i) ++ Builtin.zeroCells ((.agg #[.int .i64 0, .int .i64 0, .int .i64 0]) : Value).cells (G - (n + 1))).toList := ⟨_, rfl⟩
  have hZa : (xs.take (i * 3)).toArray ++ Builtin.zeroCells ((.agg #[.int .i64 0, .int .i64 0, .int .i64 0]) : Value).cells (n + 1 - i) ++ Builtin.zeroCells ((.agg #[.int .i64 0, .int .i64 0, .int .i64 0]) : Value).cells (G - (n + 1)) = Z.toArray := by rw [hZ]
  have hZl : Z.length = G * 3 := by
    rw [hZ, Array.length_toList]
    simp only [Array.size_append, List.size_toArray, htl, size_zeroCells]
    rw [show ((.agg #[.int .i64 0, .int .i64 0, .int .i64 0]) : Value).cells.size = 3 from rfl]
    omega
  have hZt : Z.take (i * 3) = xs.take (i * 3) := by
    rw [hZ]
    simp only [Array.toList_append, List.append_assoc]
    exact List.take_left' htl
  rw [hZa] at hrz
  obtain ⟨W1, hW1⟩ : ∃ W, W = w.drew.alloc (.cells Z.toArray 76) := ⟨_, rfl⟩
  have R1 : RowIs W1 w.heap.size 76 G 3 Z := ⟨by rw [hW1]; exact heap_alloc_new w.drew _, hZl, hle⟩
  have gr0 : w.grownBy W1 none := by rw [hW1]; exact grown_trans (w' := w.drew) grown_drew (World.grownBy_alloc w.drew _ none)
  rw [← hW1] at hrz
  have hv1 : W1.heap[vb]? = some (.cells news.toArray 76 (0, 0)) := by rw [gr0.block vb hvl (by simp)]; exact hv
  have hg1 : W1.heap[g]? = some (.cells cur.toArray 76 (0, 0)) := by rw [gr0.block g hgl (by simp)]; exact R.row
  have m3 : (n + 1) * 3 ≤ G * 3 := Nat.mul_le_mul_right _ hge
  have hcpA : ∀ ty dc, (Builtin.copy_ #[77, 77] ty #[.slice (some ⟨w.heap.size, i * 3, none⟩) (n + 1 - i) dc, .slice (some ⟨vb, 0, none⟩) 1 1]).run Try.prog W1 = _ := fun ty dc =>
    copy_row R1 77 ty Try.underlying77 i0 hi0 hz1 (i * 3) (n + 1 - i) dc ⟨vb, 0, none⟩ 1 1 news 1 (by simp only [Nat.min_def]; split <;> omega) (by omega) (fun j u hj => by
      rw [Addr.add_lit, Nat.zero_add]
      simp [World.cell?, hv1, hj]) (by omega) h1
  obtain ⟨R2, gr2⟩ := R1.store (i * 3) news (by omega)
  obtain ⟨cur2, hc2⟩ : ∃ c, c = Z.take (i * 3) ++ news ++ Z.drop (i * 3 + news.length) := ⟨_, rfl⟩
  obtain ⟨W2, hW2⟩ : ∃ W, W = W1.setRow w.heap.size cur2.toArray := ⟨_, rfl⟩
  have hcut := ins_grow hxl hZt (by omega : i ≤ n) hnl hc2
  rw [← hc2, ← hW2] at R2 gr2
  simp only [← hc2, ← hW2] at hcpA
  have R2d := rowis_drew R2
  have hs1 : w.heap.size < W1.heap.size := (Array.getElem?_eq_some_iff.1 R1.row).1
  have hg2 : W2.heap[g]? = some (.cells cur.toArray 76 (0, 0)) := by rw [gr2.block g (by omega) (by simp; omega)]; exact hg1
  have hcpB : ∀ ty dc sc, (Builtin.copy_ #[77, 77] ty #[.slice (some ⟨w.heap.size, (i + 1) * 3, none⟩) (n - i) dc, .slice (some ⟨g, i * 3, none⟩) (n - i) sc]).run Try.prog W2.drew = _ := fun ty dc sc =>
    copy_row R2d 77 ty Try.underlying77 i0 hi0 hz1 ((i + 1) * 3) (n - i) dc ⟨g, i * 3, none⟩ (n - i) sc (xs.drop (i * 3)) (n - i) (by simp only [Nat.min_def]; split <;> omega) hdl (fun j u hj => by
      rw [Addr.add_lit]
      rw [List.getElem?_drop, ← hcur, List.getElem?_take] at hj
      split at hj
      · have hg3 : W2.drew.heap[g]? = some (.cells cur.toArray 76 (0, 0)) := hg2
        simpa [World.cell?, hg3] using hj
      · cases hj) (by omega) (fun u hu => hx u (List.mem_of_mem_drop hu))
  obtain ⟨R3, gr3⟩ := R2d.store ((i + 1) * 3) (xs.drop (i * 3)) (by omega)
  obtain ⟨cur3, hc3⟩ : ∃ c, c = cur2.take ((i + 1) * 3) ++ xs.drop (i * 3) ++ cur2.drop ((i + 1) * 3 + (xs.drop (i * 3)).length) := ⟨_, rfl⟩
  obtain ⟨W3, hW3⟩ : ∃ W, W = W2.drew.setRow w.heap.size cur3.toArray := ⟨_, rfl⟩
  rw [← hc3, ← hW3] at R3 gr3
  rw [← hc3] at hcut
  simp only [← hc3, ← hW3] at hcpB
  have HO : Hid (W3.ownsRow B 76 3 (.slice (some ⟨w.heap.size, 0, none⟩) (n + 1) G) (n + 1) (xs.take (i * 3) ++ news ++ xs.drop (i * 3))) := by
    have := R3.own (n := n + 1) hge hB
    rw [hcut] at this
    exact this
  have HG : Hid (w.grownBy W3 none) := by
    have g2 := grown_trans (grown_trans gr2 (grown_drew (w := W2))) gr3
    exact ⟨g2.os.trans gr0.os, g2.tape.trans gr0.tape, g2.output.trans gr0.output, Nat.le_trans gr0.size g2.size, fun k hk _ => (g2.block k (by omega) (by simp; omega)).trans (gr0.block k hk (by simp))⟩
  have eq0 := int_ne hi
  have i1 : (0 : Int) ≤ i := by omega
  have i2 : (i : Int) ≤ n := by omega
  have i4 : (n : Int) ≤ cap := by omega
  have i5 : (cap : Int) ≤ 9223372036854775807 := by unfold maxLen at hm; omega
  have i55 : (G : Int) ≤ 9223372036854775807 := by unfold maxLen at hle; omega
  have i6 : (cap : Int) < (n : Int) + 1 := by omega
  have hb1 : ¬ G = i := by omega
  have hb2 : ¬ G = i + 1 := by omega
  have hb4 : ¬ cap = i := by omega
  have hic : (i : Int) ≤ cap := by omega
  have htn : ((i : Int) + 1).toNat = i + 1 := by omega
  have i8 : (i : Int) + 1 ≤ (n : Int) + 1 := by omega
  have i9 : (i : Int) ≤ (n : Int) + 1 := by omega
  have hw1 : IntKind.i64.wrap ((i : Int) + 1) = (i : Int) + 1 := by rw [IntKind.wrap_i64]; omega
  have hw0 : (0 : Int) ≤ (i : Int) + 1 := by omega
  clear o hv hv1 hg1 hg2 h1 hx hz0 hz1 hz2 hi0 R R1 R2 R2d R3 gr0 gr2 gr3 hcut hc2 hc3 hW1 hW2 hW3 hRl hxl hcur m1 m2 m3 hdl hnl hold hik hkk hZ hZa hZl hZt htl hG
  skip
  go_enter Try.func90, Try.ntmps90
  go_upto_region 11 with (first
    | (at_builtin; refine Lib.wpList_append_run _ rfl _ _ _ _ rfl _ _ rfl rfl _ _ (hrz _) ?_)
    | (at_builtin; refine wpList_copy_runI _ rfl _ _ 77 77 rfl _ _ rfl rfl (hcpA _ _) ?_))
  refine wp_region_held_drew (S := (fun _ => True)) (by kernel_rfl) trivial (fun hHeld => ?_)
  refine wpAnyH_take (i := 0) (v := ?v9) rfl (by kernel_rfl) (by kernel_rfl) (by kernel_rfl) (fun _ _ _ h => h) (Or.inl ⟨by rfl, ?hy9⟩) (by assumption) ?rest9
  case hy9 => (intro w hSw; (try dsimp only at hSw); go_simp; try with_reducible rfl)
  try simp only [Act.put, List.getElem_toArray, List.getElem_cons_zero, List.setIfInBounds_toArray, List.set_cons_zero, List.set_cons_succ]
  refine wpAnyH_take (i := 1) (v := ?v10) rfl (by kernel_rfl) (by kernel_rfl) (by kernel_rfl) (fun _ _ _ h => h) (Or.inl ⟨by rfl, ?hy10⟩) (by assumption) ?rest10
  case hy10 => (intro w hSw; (try dsimp only at hSw); go_simp; try with_reducible rfl)
  try simp only [Act.put, List.getElem_toArray, List.getElem_cons_zero, List.getElem_cons_succ, List.setIfInBounds_toArray, List.set_cons_zero, List.set_cons_succ]
  refine wpAnyH_take (i := 2) (v := ?v11) rfl (by kernel_rfl) (by kernel_rfl) (by kernel_rfl) (fun _ _ _ h => h) (Or.inl ⟨by rfl, ?hy11⟩) (by assumption) ?rest11
  case hy11 => (intro w hSw; (try dsimp only at hSw); go_simp; try with_reducible rfl)
  try simp only [Act.put, List.getElem_toArray, List.getElem_cons_zero, List.getElem_cons_succ, List.setIfInBounds_toArray, List.set_cons_zero, List.set_cons_succ]
  refine wpAnyH_take (i := 3) (v := ?v12) rfl (by kernel_rfl) (by kernel_rfl) (by kernel_rfl) (fun _ _ _ h => h) (Or.inl ⟨by rfl, ?hy12⟩) (by assumption) ?rest12
  case hy12 => (intro w hSw; (try dsimp only at hSw); go_simp; try with_reducible rfl)
  try simp only [Act.put, List.getElem_toArray, List.getElem_cons_zero, List.getElem_cons_succ, List.setIfInBounds_toArray, List.set_cons_zero, List.set_cons_succ]
  refine wpAnyH_take (i := 4) (v := ?v13) rfl (by kernel_rfl) (by kernel_rfl) (by kernel_rfl) (fun _ _ _ h => h) (Or.inl ⟨by rfl, ?hy13⟩) (by assumption) ?rest13
  case hy13 => (intro w hSw; (try dsimp only at hSw); go_simp; try with_reducible rfl)
  try simp only [Act.put, List.getElem_toArray, List.getElem_cons_zero, List.getElem_cons_succ, List.setIfInBounds_toArray, List.set_cons_zero, List.set_cons_succ]
  refine wpAnyH_take (i := 5) (v := ?v14) rfl (by kernel_rfl) (by kernel_rfl) (by kernel_rfl) (fun _ _ _ h => h) (Or.inl ⟨by rfl, ?hy14⟩) (by assumption) ?rest14
  case hy14 => (intro w hSw; (try dsimp only at hSw); go_simp; try with_reducible rfl)
  try simp only [Act.put, List.getElem_toArray, List.getElem_cons_zero, List.getElem_cons_succ, List.setIfInBounds_toArray, List.set_cons_zero, List.set_cons_succ]
  refine wpAnyH_take (i := 6) (v := ?v15) rfl (by kernel_rfl) (by kernel_rfl) (by kernel_rfl) (fun _ _ _ h => h) (Or.inl ⟨by rfl, ?hy15⟩) (by assumption) ?rest15
  case hy15 => (intro w hSw; (try dsimp only at hSw); go_simp; try with_reducible rfl)
  try simp only [Act.put, List.getElem_toArray, List.getElem_cons_zero, List.getElem_cons_succ, List.setIfInBounds_toArray, List.set_cons_zero, List.set_cons_succ]
  refine wpAnyH_take (i := 7) (v := ?v16) rfl (by kernel_rfl) (by kernel_rfl) (by kernel_rfl) (fun _ _ _ h => h) (Or.inl ⟨by rfl, ?hy16⟩) (by assumption) ?rest16
  case hy16 => (intro w hSw; (try dsimp only at hSw); go_simp; try with_reducible rfl)
  try simp only [Act.put, List.getElem_toArray, List.getElem_cons_zero, List.getElem_cons_succ, List.setIfInBounds_toArray, List.set_cons_zero, List.set_cons_succ]
  refine wpAnyH_ready (rs := [8]) (by kernel_rfl) (by simp) ?_
  refine ready_cons ({ dst := some 54, op := Op.call { callee := Callee.builtin Builtin.copy, args := #[.tmp 50, .tmp 53], argTypes := #[77, 77] }, type := 3, pos := "slices.go:154", after := #[{ on := 4, ground := Ground.data }, { on := 7, ground := Ground.data }], guard := none }) rfl rfl (fun K hK => ?_) ?_
  · clear hHeld
    refine wp_copy_runI _ (.tmp 50) (.tmp 53) 77 77 (by rfl) (.slice (some ⟨w.heap.size, (i + 1) * 3, none⟩) (n - i) (G - (i + 1))) (.slice (some ⟨g, i * 3, none⟩) (n - i) (cap - i)) (by rfl) (by rfl) (hcpB _ _ _) ?_
    refine hK.out _ _ (trivial) (fun hHeld => ?_)
    clear hK K
    try simp only [Act.put, List.setIfInBounds_toArray, List.set_cons_zero, List.set_cons_succ]
    refine wpAnyH_done (by kernel_rfl) ?_ _
    clear hHeld
    go_wp2_with fail
    go_ret
    exact ⟨_, rfl, HO.out, HG.out⟩
  exact AllReadyH.nil
set_option maxRecDepth 100000 in
set_option maxHeartbeats 8000000 in
theorem insert93last (v : Value) (n vb B : Nat) (xs news : List Value) (w : World) (o : w.ownsRow B 3 1 v n xs) (hv : w.heap[vb]? = some (.cells news.toArray 3 (0, 0))) (hnl : news.length = 1) (h1 : ∀ u ∈ news, u.oneCell' = true) (hn : n ≤ 5000000) (hB : B ≤ w.heap.size) : Calls Try.prog 93 #[v, .int .i64 n, .slice (some ⟨vb, 0, none⟩) 1 1] w fun e w' => ∃ p c, e = .returned (.slice p (n + 1) c) ∧ w'.ownsRow B 3 1 (.slice p (n + 1) c) (n + 1) (xs ++ news) ∧ w.grownBy w' v.ownBlock ∧ ((Value.slice p (n + 1) c).ownBlock = v.ownBlock ∨ (Value.slice p (n + 1) c).ownBlock = some w.heap.size) := by
  obtain ⟨p1, l1, c1, D, e1, o1, gr, at1⟩ := append_row 38 3 (.int .i64 0) 1 8 Try.underlying38 info3 rfl (by decide) o vb news _ _ hv hnl h1 hn (by decide) hB
  obtain ⟨p, c, rfl, hnc, hcm⟩ := row_form o
  obtain ⟨p2, c2, e2, _⟩ := row_form o1
  simp only [Value.slice.injEq] at e2
  obtain ⟨rfl, rfl, rfl⟩ := e2
  have H := hide (show D.ownsRow B 3 1 (.slice p1 (n + 1) c1) (n + 1) (xs ++ news) ∧ w.grownBy D (Value.slice p n c).ownBlock ∧ ((Value.slice p1 (n + 1) c1).ownBlock = (Value.slice p n c).ownBlock ∨ (Value.slice p1 (n + 1) c1).ownBlock = some w.heap.size) from ⟨o1, gr, at1⟩)
  have i1 : (0 : Int) ≤ n := by omega
  have i4 : (n : Int) ≤ c := by omega
  have i5 : (c : Int) ≤ 9223372036854775807 := by unfold maxLen at hcm; omega
  clear o o1 gr at1 hv h1 hnl hcm
  cases p with
  | none =>
    go_enter Try.func93, Try.ntmps93
    go_wp2_with (at_builtin; refine wpList_run_append rfl (.tmp 23) (.tmp 24) 38 rfl 38 rfl _ _ _ D rfl rfl e1 ?_)
    go_ret
    exact ⟨_, _, rfl, H.out⟩
  | some ad =>
    obtain ⟨ab, ao, asp⟩ := ad
    go_enter Try.func93, Try.ntmps93
    go_wp2_with (at_builtin; refine wpList_run_append rfl (.tmp 23) (.tmp 24) 38 rfl 38 rfl _ _ _ D rfl rfl e1 ?_)
    all_goals (go_ret; exact ⟨_, _, rfl, H.out⟩)
set_option maxRecDepth 100000 in
set_option maxHeartbeats 8000000 in
theorem insert93room (g n cap i vb B : Nat) (xs news : List Value) (w : World) (o : w.ownsRow B 3 1 (.slice (some ⟨g, 0, none⟩) n cap) n xs) (hv : w.heap[vb]? = some (.cells news.toArray 3 (0, 0))) (hnl : news.length = 1) (h1 : ∀ u ∈ news, u.oneCell' = true) (hx : ∀ u ∈ xs, u.oneCell' = true) (hi : i < n) (hroom : n + 1 ≤ cap) (hne : vb ≠ g) : Calls Try.prog 93 #[.slice (some ⟨g, 0, none⟩) n cap, .int .i64 i, .slice (some ⟨vb, 0, none⟩) 1 1] w fun e w' => e = .returned (.slice (some ⟨g, 0, none⟩) (n + 1) cap) ∧ w'.ownsRow B 3 1 (.slice (some ⟨g, 0, none⟩) (n + 1) cap) (n + 1) (xs.take (i * 1) ++ news ++ xs.drop (i * 1)) ∧ w.grownBy w' (some g) := by
  obtain ⟨i0, hi0, hz0, hz1, hz2⟩ := info_parts info3
  obtain ⟨cur, R, hcur, hnc, hBg, hxl⟩ := row_is o
  have hm := R.max
  have R0 := rowis_drew R
  have hRl := R.len
  have hdl : (xs.drop (i * 1)).length = (n - i) * 1 := by rw [List.length_drop, hxl, Nat.sub_mul]
  have m1 := Nat.sub_mul n i 1
  have m2 : i * 1 ≤ n * 1 := Nat.mul_le_mul_right _ (by omega)
  have m3 : (n + 1) * 1 ≤ cap * 1 := Nat.mul_le_mul_right _ hroom
  have hov : ∀ lb cb, (callFunc 100 #[.slice (some ⟨vb, 0, none⟩) 1 1, .slice (some ⟨g, i + 1, none⟩) lb cb]).run Try.prog w = .ok (.value (.bool false)) w := fun lb cb => by
    rw [run_callFunc_extern Try.func100 (by kernel_rfl) (by kernel_rfl) (by kernel_rfl) (e := Extern.SlicesOverlaps.overlaps #[38, 38] #[4]) (by kernel_rfl),
      Lib.run_overlaps_apart w 38 4 3 Try.underlying38 1 Try.sizeOf3 ⟨vb, 0, none⟩ ⟨g, i + 1, none⟩ 1 1 lb cb hne 3 3 news.length cur.length (by simp [World.shape?, hv]) (by simp [World.shape?, R.row]) (by omega) (by simp [World.frozen?, hv]) (by simp [World.frozen?, hv])]
    rfl
  have hcp1 : ∀ ty dc sc, (Builtin.copy_ #[38, 38] ty #[.slice (some ⟨g, (i + 1) * 1, none⟩) (n - i) dc, .slice (some ⟨g, i * 1, none⟩) (n + 1 - i) sc]).run Try.prog w.drew = _ := fun ty dc sc =>
    copy_row R0 38 ty Try.underlying38 i0 hi0 hz1 ((i + 1) * 1) (n - i) dc ⟨g, i * 1, none⟩ (n + 1 - i) sc (xs.drop (i * 1)) (n - i) (by simp only [Nat.min_def]; split <;> omega) hdl (fun j u hj => by
      rw [Addr.add_lit, R0.cell]
      rw [List.getElem?_drop, ← hcur, List.getElem?_take] at hj
      split at hj
      · exact hj
      · cases hj) (by omega) (fun u hu => hx u (List.mem_of_mem_drop hu))
  obtain ⟨R1, gr1⟩ := R0.store ((i + 1) * 1) (xs.drop (i * 1)) (by omega)
  obtain ⟨cur1, hc1⟩ : ∃ c, c = cur.take ((i + 1) * 1) ++ xs.drop (i * 1) ++ cur.drop ((i + 1) * 1 + (xs.drop (i * 1)).length) := ⟨_, rfl⟩
  obtain ⟨W1, hW1⟩ : ∃ W, W = w.drew.setRow g cur1.toArray := ⟨_, rfl⟩
  rw [← hc1, ← hW1] at R1 gr1
  simp only [← hc1, ← hW1] at hcp1
  have hv1 : W1.heap[vb]? = some (.cells news.toArray 3 (0, 0)) := by
    rw [gr1.block vb (show vb < w.heap.size from (Array.getElem?_eq_some_iff.1 hv).1) (by simpa using hne)]; exact hv
  have hcp2 : ∀ ty dc, (Builtin.copy_ #[38, 38] ty #[.slice (some ⟨g, i * 1, none⟩) (n + 1 - i) dc, .slice (some ⟨vb, 0, none⟩) 1 1]).run Try.prog W1 = _ := fun ty dc =>
    copy_row R1 38 ty Try.underlying38 i0 hi0 hz1 (i * 1) (n + 1 - i) dc ⟨vb, 0, none⟩ 1 1 news 1 (by simp only [Nat.min_def]; split <;> omega) (by omega) (fun j u hj => by
      rw [Addr.add_lit, Nat.zero_add]
      simp [World.cell?, hv1, hj]) (by omega) h1
  obtain ⟨R2, gr2⟩ := R1.store (i * 1) news (by omega)
  have hcut := ins_room hcur hxl (by omega) (by omega : i ≤ n) hnl hc1
  obtain ⟨cur2, hc2⟩ : ∃ c, c = cur1.take (i * 1) ++ news ++ cur1.drop (i * 1 + news.length) := ⟨_, rfl⟩
  obtain ⟨W2, hW2⟩ : ∃ W, W = W1.setRow g cur2.toArray := ⟨_, rfl⟩
  rw [← hc2, ← hW2] at R2 gr2
  rw [← hc2] at hcut
  simp only [← hc2, ← hW2] at hcp2
  have HO : Hid (W2.ownsRow B 3 1 (.slice (some ⟨g, 0, none⟩) (n + 1) cap) (n + 1) (xs.take (i * 1) ++ news ++ xs.drop (i * 1))) := by
    have := R2.own (n := n + 1) hroom hBg
    rw [hcut] at this
    exact this
  have HG := hide (grown_trans (grown_trans (grown_drew (w := w) (row := some g)) gr1) gr2)
  have eq0 := int_ne hi
  have i1 : (0 : Int) ≤ i := by omega
  have i2 : (i : Int) ≤ n := by omega
  have i4 : (n : Int) ≤ cap := by omega
  have i5 : (cap : Int) ≤ 9223372036854775807 := by unfold maxLen at hm; omega
  have i6 : ¬ (cap : Int) < (n : Int) + 1 := by omega
  have i7 : (n : Int) + 1 ≤ cap := by omega
  have hb2 : ¬ cap = i + 1 := by omega
  have hb4 : ¬ cap = i := by omega
  have htn : ((i : Int) + 1).toNat = i + 1 := by omega
  have htm : ((n : Int) + 1).toNat = n + 1 := by omega
  have i8 : (i : Int) + 1 ≤ (n : Int) + 1 := by omega
  have hw1 : IntKind.i64.wrap ((i : Int) + 1) = (i : Int) + 1 := by rw [IntKind.wrap_i64]; omega
  have hw0 : (0 : Int) ≤ (i : Int) + 1 := by omega
  have i9 : (i : Int) ≤ (n : Int) + 1 := by omega
  clear o hv hv1 h1 hx hz0 hz1 hz2 hi0 R R0 R1 R2 gr1 gr2 hcut hc1 hc2 hW1 hW2 hRl hxl hcur m1 m2 m3 hdl hnl
  simp only [Nat.mul_one] at *
  go_enter Try.func93, Try.ntmps93
  go_upto_region 15 with (simp only [hov])
  refine wp_region_held_drew (S := (fun _ => True)) (by kernel_rfl) trivial (fun hHeld => ?_)
  refine wpAnyH_take (i := 0) (v := ?v17) rfl (by kernel_rfl) (by kernel_rfl) (by kernel_rfl) (fun _ _ _ h => h) (Or.inl ⟨by rfl, ?hy17⟩) (by assumption) ?rest17
  case hy17 => (intro w hSw; (try dsimp only at hSw); go_simp; try with_reducible rfl)
  try simp only [Act.put, List.getElem_toArray, List.getElem_cons_zero, List.setIfInBounds_toArray, List.set_cons_zero, List.set_cons_succ]
  refine wpAnyH_take (i := 1) (v := ?v18) rfl (by kernel_rfl) (by kernel_rfl) (by kernel_rfl) (fun _ _ _ h => h) (Or.inl ⟨by rfl, ?hy18⟩) (by assumption) ?rest18
  case hy18 => (intro w hSw; (try dsimp only at hSw); go_simp; try with_reducible rfl)
  try simp only [Act.put, List.getElem_toArray, List.getElem_cons_zero, List.getElem_cons_succ, List.setIfInBounds_toArray, List.set_cons_zero, List.set_cons_succ]
  refine wpAnyH_take (i := 2) (v := ?v19) rfl (by kernel_rfl) (by kernel_rfl) (by kernel_rfl) (fun _ _ _ h => h) (Or.inl ⟨by rfl, ?hy19⟩) (by assumption) ?rest19
  case hy19 => (intro w hSw; (try dsimp only at hSw); go_simp; try with_reducible rfl)
  try simp only [Act.put, List.getElem_toArray, List.getElem_cons_zero, List.getElem_cons_succ, List.setIfInBounds_toArray, List.set_cons_zero, List.set_cons_succ]
  refine wpAnyH_take (i := 3) (v := ?v20) rfl (by kernel_rfl) (by kernel_rfl) (by kernel_rfl) (fun _ _ _ h => h) (Or.inl ⟨by rfl, ?hy20⟩) (by assumption) ?rest20
  case hy20 => (intro w hSw; (try dsimp only at hSw); go_simp; try with_reducible rfl)
  try simp only [Act.put, List.getElem_toArray, List.getElem_cons_zero, List.getElem_cons_succ, List.setIfInBounds_toArray, List.set_cons_zero, List.set_cons_succ]
  refine wpAnyH_take (i := 4) (v := ?v21) rfl (by kernel_rfl) (by kernel_rfl) (by kernel_rfl) (fun _ _ _ h => h) (Or.inl ⟨by rfl, ?hy21⟩) (by assumption) ?rest21
  case hy21 => (intro w hSw; (try dsimp only at hSw); go_simp; try with_reducible rfl)
  try simp only [Act.put, List.getElem_toArray, List.getElem_cons_zero, List.getElem_cons_succ, List.setIfInBounds_toArray, List.set_cons_zero, List.set_cons_succ]
  refine wpAnyH_take (i := 5) (v := ?v22) rfl (by kernel_rfl) (by kernel_rfl) (by kernel_rfl) (fun _ _ _ h => h) (Or.inl ⟨by rfl, ?hy22⟩) (by assumption) ?rest22
  case hy22 => (intro w hSw; (try dsimp only at hSw); go_simp; try with_reducible rfl)
  try simp only [Act.put, List.getElem_toArray, List.getElem_cons_zero, List.getElem_cons_succ, List.setIfInBounds_toArray, List.set_cons_zero, List.set_cons_succ]
  refine wpAnyH_take (i := 6) (v := ?v23) rfl (by kernel_rfl) (by kernel_rfl) (by kernel_rfl) (fun _ _ _ h => h) (Or.inl ⟨by rfl, ?hy23⟩) (by assumption) ?rest23
  case hy23 => (intro w hSw; (try dsimp only at hSw); go_simp; try with_reducible rfl)
  try simp only [Act.put, List.getElem_toArray, List.getElem_cons_zero, List.getElem_cons_succ, List.setIfInBounds_toArray, List.set_cons_zero, List.set_cons_succ]
  refine wpAnyH_take (i := 7) (v := ?v24) rfl (by kernel_rfl) (by kernel_rfl) (by kernel_rfl) (fun _ _ _ h => h) (Or.inl ⟨by rfl, ?hy24⟩) (by assumption) ?rest24
  case hy24 => (intro w hSw; (try dsimp only at hSw); go_simp; try with_reducible rfl)
  try simp only [Act.put, List.getElem_toArray, List.getElem_cons_zero, List.getElem_cons_succ, List.setIfInBounds_toArray, List.set_cons_zero, List.set_cons_succ]
  refine wpAnyH_ready (rs := [8]) (by kernel_rfl) (by simp) ?_
  refine ready_cons ({ dst := some 77, op := Op.call { callee := Callee.builtin Builtin.copy, args := #[.tmp 73, .tmp 76], argTypes := #[38, 38] }, type := 3, pos := "slices.go:178", after := #[{ on := 4, ground := Ground.data }, { on := 7, ground := Ground.data }], guard := none }) rfl rfl (fun K hK => ?_) ?_
  · clear hHeld
    refine wp_copy_runI _ (.tmp 73) (.tmp 76) 38 38 (by rfl) (.slice (some ⟨g, i + 1, none⟩) (n - i) (cap - (i + 1))) (.slice (some ⟨g, i, none⟩) (n + 1 - i) (cap - i)) (by rfl) (by rfl) (hcp1 _ _ _) ?_
    refine hK.out _ _ (trivial) (fun hHeld => ?_)
    clear hK K
    try simp only [Act.put, List.setIfInBounds_toArray, List.set_cons_zero, List.set_cons_succ]
    refine wpAnyH_done (by kernel_rfl) ?_ _
    clear hHeld
    go_wp2_with (at_builtin; refine wpList_copy_runI _ rfl _ _ 38 38 rfl _ _ rfl rfl (hcp2 _ _) ?_)
    go_ret
    exact ⟨rfl, by rw [← List.append_assoc]; exact HO.out, HG.out⟩
  exact AllReadyH.nil
set_option maxRecDepth 100000 in
set_option maxHeartbeats 8000000 in
theorem insert93grow (g n cap i vb B : Nat) (xs news : List Value) (w : World) (o : w.ownsRow B 3 1 (.slice (some ⟨g, 0, none⟩) n cap) n xs) (hv : w.heap[vb]? = some (.cells news.toArray 3 (0, 0))) (hnl : news.length = 1) (h1 : ∀ u ∈ news, u.oneCell' = true) (hx : ∀ u ∈ xs, u.oneCell' = true) (hi : i < n) (hroom : cap < n + 1) (hn : n ≤ 5000000) (hB : B ≤ w.heap.size) : Calls Try.prog 93 #[.slice (some ⟨g, 0, none⟩) n cap, .int .i64 i, .slice (some ⟨vb, 0, none⟩) 1 1] w fun e w' => ∃ c, e = .returned (.slice (some ⟨w.heap.size, 0, none⟩) (n + 1) c) ∧ w'.ownsRow B 3 1 (.slice (some ⟨w.heap.size, 0, none⟩) (n + 1) c) (n + 1) (xs.take (i * 1) ++ news ++ xs.drop (i * 1)) ∧ w.grownBy w' none := by
  obtain ⟨i0, hi0, hz0, hz1, hz2⟩ := info_parts info3
  obtain ⟨cur, R, hcur, hnc, hBg, hxl⟩ := row_is o
  have hm := R.max
  have hRl := R.len
  have hgl : g < w.heap.size := (Array.getElem?_eq_some_iff.1 R.row).1
  have hvl : vb < w.heap.size := (Array.getElem?_eq_some_iff.1 hv).1
  have hdl : (xs.drop (i * 1)).length = (n - i) * 1 := by rw [List.length_drop, hxl, Nat.sub_mul]
  have m1 := Nat.sub_mul n i 1
  have m2 : i * 1 ≤ n * 1 := Nat.mul_le_mul_right _ (by omega)
  have htl : (xs.take (i * 1)).length = i * 1 := by rw [List.length_take]; omega
  have hold : (Builtin.firstCells i0.size i (.slice (some ⟨g, 0, none⟩) i cap)).run Try.prog w.drew = .ok (xs.take (i * 1)).toArray w.drew := by
    rw [hz1]
    exact run_firstCells_some w.drew 1 i ⟨g, 0, none⟩ i cap (xs.take (i * 1)) htl (fun j u hj => by
      rw [Addr.add_lit, Nat.zero_add, (rowis_drew R).cell]
      rw [List.getElem?_take] at hj
      split at hj
      · rw [← hcur, List.getElem?_take] at hj
        split at hj
        · exact hj
        · cases hj
      · cases hj)
  have hik : i + (n + 1 - i) = n + 1 := by omega
  have hkk : (n : Int) + 1 - (i : Int) = ((n + 1 - i : Nat) : Int) := by omega
  have hrz : ∀ ty, (Builtin.append_ #[38, 3] ty #[.slice (some ⟨g, 0, none⟩) i cap, .int .i64 ((n : Int) + 1 - (i : Int))]).run Try.prog w = .ok (.slice (some ⟨w.heap.size, 0, none⟩) (n + 1) (grownCap w (n + 1) cap 3)) (w.drew.alloc (.cells ((xs.take (i * 1)).toArray ++ Builtin.zeroCells ((.int .i64 0) : Value).cells (n + 1 - i) ++ Builtin.zeroCells ((.int .i64 0) : Value).cells (grownCap w (n + 1) cap 3 - (n + 1))) 3)) := fun ty => by
    have h := Lib.run_append_grow_zeros w 38 3 ty 3 i0 _ .i64 .i64 Try.underlying38 Try.underlying3 hi0 hz0 (some ⟨g, 0, none⟩) i cap (xs.take (i * 1)) hold (n + 1 - i) (by omega) (by omega) (by omega) (by omega) (by rw [hz2]; omega) (by rw [hz2, hik]; exact growslice_fits (by omega) (by omega))
    rw [hik] at h
    rw [hkk]
    exact h
  have hge := grownCap_ge w (n + 1) cap 3
  have hle := grownCap_le_maxLen w (n + 1) cap 3 (by unfold maxLen; omega)
  obtain ⟨G, hG⟩ : ∃ G, grownCap w (n + 1) cap 3 = G := ⟨_, rfl⟩
  simp only [hG] at hrz hge hle
  obtain ⟨Z, hZ⟩ : ∃ Z : List Value, Z = ((xs.take (i * 1)).toArray ++ Builtin.zeroCells ((.int .i64 0) : Value).cells (n + 1 - i) ++ Builtin.zeroCells ((.int .i64 0) : Value).cells (G - (n + 1))).toList := ⟨_, rfl⟩
  have hZa : (xs.take (i * 1)).toArray ++ Builtin.zeroCells ((.int .i64 0) : Value).cells (n + 1 - i) ++ Builtin.zeroCells ((.int .i64 0) : Value).cells (G - (n + 1)) = Z.toArray := by rw [hZ]
  have hZl : Z.length = G * 1 := by
    rw [hZ, Array.length_toList]
    simp only [Array.size_append, List.size_toArray, htl, size_zeroCells]
    rw [show ((.int .i64 0) : Value).cells.size = 1 from rfl]
    omega
  have hZt : Z.take (i * 1) = xs.take (i * 1) := by
    rw [hZ]
    simp only [Array.toList_append, List.append_assoc]
    exact List.take_left' htl
  rw [hZa] at hrz
  obtain ⟨W1, hW1⟩ : ∃ W, W = w.drew.alloc (.cells Z.toArray 3) := ⟨_, rfl⟩
  have R1 : RowIs W1 w.heap.size 3 G 1 Z := ⟨by rw [hW1]; exact heap_alloc_new w.drew _, hZl, hle⟩
  have gr0 : w.grownBy W1 none := by rw [hW1]; exact grown_trans (w' := w.drew) grown_drew (World.grownBy_alloc w.drew _ none)
  rw [← hW1] at hrz
  have hv1 : W1.heap[vb]? = some (.cells news.toArray 3 (0, 0)) := by rw [gr0.block vb hvl (by simp)]; exact hv
  have hg1 : W1.heap[g]? = some (.cells cur.toArray 3 (0, 0)) := by rw [gr0.block g hgl (by simp)]; exact R.row
  have m3 : (n + 1) * 1 ≤ G * 1 := Nat.mul_le_mul_right _ hge
  have hcpA : ∀ ty dc, (Builtin.copy_ #[38, 38] ty #[.slice (some ⟨w.heap.size, i * 1, none⟩) (n + 1 - i) dc, .slice (some ⟨vb, 0, none⟩) 1 1]).run Try.prog W1 = _ := fun ty dc =>
    copy_row R1 38 ty Try.underlying38 i0 hi0 hz1 (i * 1) (n + 1 - i) dc ⟨vb, 0, none⟩ 1 1 news 1 (by simp only [Nat.min_def]; split <;> omega) (by omega) (fun j u hj => by
      rw [Addr.add_lit, Nat.zero_add]
      simp [World.cell?, hv1, hj]) (by omega) h1
  obtain ⟨R2, gr2⟩ := R1.store (i * 1) news (by omega)
  obtain ⟨cur2, hc2⟩ : ∃ c, c = Z.take (i * 1) ++ news ++ Z.drop (i * 1 + news.length) := ⟨_, rfl⟩
  obtain ⟨W2, hW2⟩ : ∃ W, W = W1.setRow w.heap.size cur2.toArray := ⟨_, rfl⟩
  have hcut := ins_grow hxl hZt (by omega : i ≤ n) hnl hc2
  rw [← hc2, ← hW2] at R2 gr2
  simp only [← hc2, ← hW2] at hcpA
  have R2d := rowis_drew R2
  have hs1 : w.heap.size < W1.heap.size := (Array.getElem?_eq_some_iff.1 R1.row).1
  have hg2 : W2.heap[g]? = some (.cells cur.toArray 3 (0, 0)) := by rw [gr2.block g (by omega) (by simp; omega)]; exact hg1
  have hcpB : ∀ ty dc sc, (Builtin.copy_ #[38, 38] ty #[.slice (some ⟨w.heap.size, (i + 1) * 1, none⟩) (n - i) dc, .slice (some ⟨g, i * 1, none⟩) (n - i) sc]).run Try.prog W2.drew = _ := fun ty dc sc =>
    copy_row R2d 38 ty Try.underlying38 i0 hi0 hz1 ((i + 1) * 1) (n - i) dc ⟨g, i * 1, none⟩ (n - i) sc (xs.drop (i * 1)) (n - i) (by simp only [Nat.min_def]; split <;> omega) hdl (fun j u hj => by
      rw [Addr.add_lit]
      rw [List.getElem?_drop, ← hcur, List.getElem?_take] at hj
      split at hj
      · have hg3 : W2.drew.heap[g]? = some (.cells cur.toArray 3 (0, 0)) := hg2
        simpa [World.cell?, hg3] using hj
      · cases hj) (by omega) (fun u hu => hx u (List.mem_of_mem_drop hu))
  obtain ⟨R3, gr3⟩ := R2d.store ((i + 1) * 1) (xs.drop (i * 1)) (by omega)
  obtain ⟨cur3, hc3⟩ : ∃ c, c = cur2.take ((i + 1) * 1) ++ xs.drop (i * 1) ++ cur2.drop ((i + 1) * 1 + (xs.drop (i * 1)).length) := ⟨_, rfl⟩
  obtain ⟨W3, hW3⟩ : ∃ W, W = W2.drew.setRow w.heap.size cur3.toArray := ⟨_, rfl⟩
  rw [← hc3, ← hW3] at R3 gr3
  rw [← hc3] at hcut
  simp only [← hc3, ← hW3] at hcpB
  have HO : Hid (W3.ownsRow B 3 1 (.slice (some ⟨w.heap.size, 0, none⟩) (n + 1) G) (n + 1) (xs.take (i * 1) ++ news ++ xs.drop (i * 1))) := by
    have := R3.own (n := n + 1) hge hB
    rw [hcut] at this
    exact this
  have HG : Hid (w.grownBy W3 none) := by
    have g2 := grown_trans (grown_trans gr2 (grown_drew (w := W2))) gr3
    exact ⟨g2.os.trans gr0.os, g2.tape.trans gr0.tape, g2.output.trans gr0.output, Nat.le_trans gr0.size g2.size, fun k hk _ => (g2.block k (by omega) (by simp; omega)).trans (gr0.block k hk (by simp))⟩
  have eq0 := int_ne hi
  have i1 : (0 : Int) ≤ i := by omega
  have i2 : (i : Int) ≤ n := by omega
  have i4 : (n : Int) ≤ cap := by omega
  have i5 : (cap : Int) ≤ 9223372036854775807 := by unfold maxLen at hm; omega
  have i55 : (G : Int) ≤ 9223372036854775807 := by unfold maxLen at hle; omega
  have i6 : (cap : Int) < (n : Int) + 1 := by omega
  have hb1 : ¬ G = i := by omega
  have hb2 : ¬ G = i + 1 := by omega
  have hb4 : ¬ cap = i := by omega
  have hic : (i : Int) ≤ cap := by omega
  have htn : ((i : Int) + 1).toNat = i + 1 := by omega
  have i8 : (i : Int) + 1 ≤ (n : Int) + 1 := by omega
  have i9 : (i : Int) ≤ (n : Int) + 1 := by omega
  have hw1 : IntKind.i64.wrap ((i : Int) + 1) = (i : Int) + 1 := by rw [IntKind.wrap_i64]; omega
  have hw0 : (0 : Int) ≤ (i : Int) + 1 := by omega
  clear o hv hv1 hg1 hg2 h1 hx hz0 hz1 hz2 hi0 R R1 R2 R2d R3 gr0 gr2 gr3 hcut hc2 hc3 hW1 hW2 hW3 hRl hxl hcur m1 m2 m3 hdl hnl hold hik hkk hZ hZa hZl hZt htl hG
  simp only [Nat.mul_one] at *
  go_enter Try.func93, Try.ntmps93
  go_upto_region 11 with (first
    | (at_builtin; refine Lib.wpList_append_run _ rfl _ _ _ _ rfl _ _ rfl rfl _ _ (hrz _) ?_)
    | (at_builtin; refine wpList_copy_runI _ rfl _ _ 38 38 rfl _ _ rfl rfl (hcpA _ _) ?_))
  refine wp_region_held_drew (S := (fun _ => True)) (by kernel_rfl) trivial (fun hHeld => ?_)
  refine wpAnyH_take (i := 0) (v := ?v25) rfl (by kernel_rfl) (by kernel_rfl) (by kernel_rfl) (fun _ _ _ h => h) (Or.inl ⟨by rfl, ?hy25⟩) (by assumption) ?rest25
  case hy25 => (intro w hSw; (try dsimp only at hSw); go_simp; try with_reducible rfl)
  try simp only [Act.put, List.getElem_toArray, List.getElem_cons_zero, List.setIfInBounds_toArray, List.set_cons_zero, List.set_cons_succ]
  refine wpAnyH_take (i := 1) (v := ?v26) rfl (by kernel_rfl) (by kernel_rfl) (by kernel_rfl) (fun _ _ _ h => h) (Or.inl ⟨by rfl, ?hy26⟩) (by assumption) ?rest26
  case hy26 => (intro w hSw; (try dsimp only at hSw); go_simp; try with_reducible rfl)
  try simp only [Act.put, List.getElem_toArray, List.getElem_cons_zero, List.getElem_cons_succ, List.setIfInBounds_toArray, List.set_cons_zero, List.set_cons_succ]
  refine wpAnyH_take (i := 2) (v := ?v27) rfl (by kernel_rfl) (by kernel_rfl) (by kernel_rfl) (fun _ _ _ h => h) (Or.inl ⟨by rfl, ?hy27⟩) (by assumption) ?rest27
  case hy27 => (intro w hSw; (try dsimp only at hSw); go_simp; try with_reducible rfl)
  try simp only [Act.put, List.getElem_toArray, List.getElem_cons_zero, List.getElem_cons_succ, List.setIfInBounds_toArray, List.set_cons_zero, List.set_cons_succ]
  refine wpAnyH_take (i := 3) (v := ?v28) rfl (by kernel_rfl) (by kernel_rfl) (by kernel_rfl) (fun _ _ _ h => h) (Or.inl ⟨by rfl, ?hy28⟩) (by assumption) ?rest28
  case hy28 => (intro w hSw; (try dsimp only at hSw); go_simp; try with_reducible rfl)
  try simp only [Act.put, List.getElem_toArray, List.getElem_cons_zero, List.getElem_cons_succ, List.setIfInBounds_toArray, List.set_cons_zero, List.set_cons_succ]
  refine wpAnyH_take (i := 4) (v := ?v29) rfl (by kernel_rfl) (by kernel_rfl) (by kernel_rfl) (fun _ _ _ h => h) (Or.inl ⟨by rfl, ?hy29⟩) (by assumption) ?rest29
  case hy29 => (intro w hSw; (try dsimp only at hSw); go_simp; try with_reducible rfl)
  try simp only [Act.put, List.getElem_toArray, List.getElem_cons_zero, List.getElem_cons_succ, List.setIfInBounds_toArray, List.set_cons_zero, List.set_cons_succ]
  refine wpAnyH_take (i := 5) (v := ?v30) rfl (by kernel_rfl) (by kernel_rfl) (by kernel_rfl) (fun _ _ _ h => h) (Or.inl ⟨by rfl, ?hy30⟩) (by assumption) ?rest30
  case hy30 => (intro w hSw; (try dsimp only at hSw); go_simp; try with_reducible rfl)
  try simp only [Act.put, List.getElem_toArray, List.getElem_cons_zero, List.getElem_cons_succ, List.setIfInBounds_toArray, List.set_cons_zero, List.set_cons_succ]
  refine wpAnyH_take (i := 6) (v := ?v31) rfl (by kernel_rfl) (by kernel_rfl) (by kernel_rfl) (fun _ _ _ h => h) (Or.inl ⟨by rfl, ?hy31⟩) (by assumption) ?rest31
  case hy31 => (intro w hSw; (try dsimp only at hSw); go_simp; try with_reducible rfl)
  try simp only [Act.put, List.getElem_toArray, List.getElem_cons_zero, List.getElem_cons_succ, List.setIfInBounds_toArray, List.set_cons_zero, List.set_cons_succ]
  refine wpAnyH_take (i := 7) (v := ?v32) rfl (by kernel_rfl) (by kernel_rfl) (by kernel_rfl) (fun _ _ _ h => h) (Or.inl ⟨by rfl, ?hy32⟩) (by assumption) ?rest32
  case hy32 => (intro w hSw; (try dsimp only at hSw); go_simp; try with_reducible rfl)
  try simp only [Act.put, List.getElem_toArray, List.getElem_cons_zero, List.getElem_cons_succ, List.setIfInBounds_toArray, List.set_cons_zero, List.set_cons_succ]
  refine wpAnyH_ready (rs := [8]) (by kernel_rfl) (by simp) ?_
  refine ready_cons ({ dst := some 54, op := Op.call { callee := Callee.builtin Builtin.copy, args := #[.tmp 50, .tmp 53], argTypes := #[38, 38] }, type := 3, pos := "slices.go:154", after := #[{ on := 4, ground := Ground.data }, { on := 7, ground := Ground.data }], guard := none }) rfl rfl (fun K hK => ?_) ?_
  · clear hHeld
    refine wp_copy_runI _ (.tmp 50) (.tmp 53) 38 38 (by rfl) (.slice (some ⟨w.heap.size, i + 1, none⟩) (n - i) (G - (i + 1))) (.slice (some ⟨g, i, none⟩) (n - i) (cap - i)) (by rfl) (by rfl) (hcpB _ _ _) ?_
    refine hK.out _ _ (trivial) (fun hHeld => ?_)
    clear hK K
    try simp only [Act.put, List.setIfInBounds_toArray, List.set_cons_zero, List.set_cons_succ]
    refine wpAnyH_done (by kernel_rfl) ?_ _
    clear hHeld
    go_wp2_with fail
    go_ret
    exact ⟨_, rfl, HO.out, HG.out⟩
  exact AllReadyH.nil
theorem icells_take (l : List Int) (i : Nat) : (icells l).take (i * 1) = icells (l.take i) := by rw [Nat.mul_one]; simp [icells, List.map_take]
theorem icells_drop (l : List Int) (i : Nat) : (icells l).drop (i * 1) = icells (l.drop i) := by rw [Nat.mul_one]; simp [icells, List.map_drop]
theorem icells_append (l m : List Int) : icells (l ++ m) = icells l ++ icells m := by simp [icells]
theorem icells_length (l : List Int) : (icells l).length = l.length * 1 := by simp [icells]
def insE (l : List Ed) (i : Nat) (x : Ed) : List Ed := l.take i ++ [x] ++ l.drop i
def insI (l : List Int) (i : Nat) (x : Int) : List Int := l.take i ++ [x] ++ l.drop i
theorem insE_length (l : List Ed) {i : Nat} (x : Ed) (hi : i ≤ l.length) : (insE l i x).length = l.length + 1 := by
  unfold insE
  simp
  omega
theorem insI_length (l : List Int) {i : Nat} (x : Int) (hi : i ≤ l.length) : (insI l i x).length = l.length + 1 := by
  unfold insI
  simp
  omega
theorem insert90 (v : Value) (l : List Ed) (i : Nat) (x : Ed) (B vb : Nat) (w : World) (o : w.ownsRow B 76 3 v l.length (ecells l)) (hi : i ≤ l.length) (hl : l.length ≤ 5000000) (hB : B ≤ w.heap.size) (hv : w.heap[vb]? = some (.cells #[.int .i64 x.id, .int .i64 x.a, .int .i64 x.b] 76 (0, 0))) (hne : v.ownBlock ≠ some vb) : Calls Try.prog 90 #[v, .int .i64 i, .slice (some ⟨vb, 0, none⟩) 1 1] w fun e w' => ∃ p c, e = .returned (.slice p (l.length + 1) c) ∧ w'.ownsRow B 76 3 (.slice p (l.length + 1) c) (insE l i x).length (ecells (insE l i x)) ∧ w.grownBy w' v.ownBlock ∧ ((Value.slice p (l.length + 1) c).ownBlock = v.ownBlock ∨ (Value.slice p (l.length + 1) c).ownBlock = some w.heap.size) := by
  have hcx : ecells [x] = [.int .i64 x.id, .int .i64 x.a, .int .i64 x.b] := rfl
  have e1 : ecells (insE l i x) = (ecells l).take (i * 3) ++ [.int .i64 x.id, .int .i64 x.a, .int .i64 x.b] ++ (ecells l).drop (i * 3) := by
    unfold insE
    rw [ecells_append, ecells_append, hcx, ecells_take, ecells_drop]
  have h1 : ∀ u ∈ ([.int .i64 x.id, .int .i64 x.a, .int .i64 x.b] : List Value), u.oneCell' = true := by simp [Value.oneCell']
  rw [insE_length l x hi, e1]
  by_cases hin : i = l.length
  · subst hin
    refine (insert90last v l.length vb B (ecells l) [.int .i64 x.id, .int .i64 x.a, .int .i64 x.b] w o hv rfl h1 hl hB).mono ?_
    rintro e w' ⟨p, c, rfl, k1, k2, k3⟩
    have hcl : (ecells l).length = l.length * 3 := ecells_length l
    rw [List.take_of_length_le (by omega), List.drop_of_length_le (by omega), List.append_nil]
    exact ⟨p, c, rfl, k1, k2, k3⟩
  · obtain ⟨p, c, rfl, hnc, _⟩ := row_form o
    obtain ⟨g, rfl, _, hg⟩ := own_some o (by omega)
    by_cases hroom : l.length + 1 ≤ c
    · refine (insert90room g l.length c i vb B (ecells l) [.int .i64 x.id, .int .i64 x.a, .int .i64 x.b] w o hv rfl h1 (ecells_one l) (by omega) hroom (fun e => hne (by rw [e]; rfl))).mono ?_
      rintro e w' ⟨rfl, k1, k2⟩
      exact ⟨_, _, rfl, k1, k2, Or.inl rfl⟩
    · refine (insert90grow g l.length c i vb B (ecells l) [.int .i64 x.id, .int .i64 x.a, .int .i64 x.b] w o hv rfl h1 (ecells_one l) (by omega) (by omega) hl hB).mono ?_
      rintro e w' ⟨c2, rfl, k1, k2⟩
      exact ⟨_, _, rfl, k1, ⟨k2.os, k2.tape, k2.output, k2.size, fun k hk _ => k2.block k hk (by simp)⟩, Or.inr rfl⟩
theorem insert93 (v : Value) (l : List Int) (i : Nat) (x : Int) (B vb : Nat) (w : World) (o : w.ownsRow B 3 1 v l.length (icells l)) (hi : i ≤ l.length) (hl : l.length ≤ 5000000) (hB : B ≤ w.heap.size) (hv : w.heap[vb]? = some (.cells #[.int .i64 x] 3 (0, 0))) (hne : v.ownBlock ≠ some vb) : Calls Try.prog 93 #[v, .int .i64 i, .slice (some ⟨vb, 0, none⟩) 1 1] w fun e w' => ∃ p c, e = .returned (.slice p (l.length + 1) c) ∧ w'.ownsRow B 3 1 (.slice p (l.length + 1) c) (insI l i x).length (icells (insI l i x)) ∧ w.grownBy w' v.ownBlock ∧ ((Value.slice p (l.length + 1) c).ownBlock = v.ownBlock ∨ (Value.slice p (l.length + 1) c).ownBlock = some w.heap.size) := by
  have hcx : icells [x] = [.int .i64 x] := rfl
  have e1 : icells (insI l i x) = (icells l).take (i * 1) ++ [.int .i64 x] ++ (icells l).drop (i * 1) := by
    unfold insI
    rw [icells_append, icells_append, hcx, icells_take, icells_drop]
  have h1 : ∀ u ∈ ([.int .i64 x] : List Value), u.oneCell' = true := by simp [Value.oneCell']
  rw [insI_length l x hi, e1]
  by_cases hin : i = l.length
  · subst hin
    refine (insert93last v l.length vb B (icells l) [.int .i64 x] w o hv rfl h1 hl hB).mono ?_
    rintro e w' ⟨p, c, rfl, k1, k2, k3⟩
    have hcl : (icells l).length = l.length * 1 := icells_length l
    rw [List.take_of_length_le (by omega), List.drop_of_length_le (by omega), List.append_nil]
    exact ⟨p, c, rfl, k1, k2, k3⟩
  · obtain ⟨p, c, rfl, hnc, _⟩ := row_form o
    obtain ⟨g, rfl, _, hg⟩ := own_some o (by omega)
    by_cases hroom : l.length + 1 ≤ c
    · refine (insert93room g l.length c i vb B (icells l) [.int .i64 x] w o hv rfl h1 (icells_one l) (by omega) hroom (fun e => hne (by rw [e]; rfl))).mono ?_
      rintro e w' ⟨rfl, k1, k2⟩
      exact ⟨_, _, rfl, k1, k2, Or.inl rfl⟩
    · refine (insert93grow g l.length c i vb B (icells l) [.int .i64 x] w o hv rfl h1 (icells_one l) (by omega) (by omega) hl hB).mono ?_
      rintro e w' ⟨c2, rfl, k1, k2⟩
      exact ⟨_, _, rfl, k1, ⟨k2.os, k2.tape, k2.output, k2.size, fun k hk _ => k2.block k hk (by simp)⟩, Or.inr rfl⟩
end Go.Proofs.Ytgfiofogcnnkhaa
