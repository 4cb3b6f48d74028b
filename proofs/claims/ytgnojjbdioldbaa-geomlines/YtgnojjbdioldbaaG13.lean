/- The order in which a hand comes over points: the function that Around sorts by; the count of draws never falls. -/
import Derived.Test.YtgnojjbdioldbaaG9
namespace Go.Proofs.Ytgnojjbdioldbaa
open Go.RowKit Go.Sort
open Go

/-- What was there stays, and the count of draws does not fall. -/
structure Rise (w w' : World) : Prop where
  b : Below w.heap.size w w'
  d : w.drawn ≤ w'.drawn
theorem Rise.refl (w : World) : Rise w w := ⟨Below.refl _ _, Nat.le_refl _⟩
theorem Rise.trans {a b c : World} (h : Rise a b) (k : Rise b c) : Rise a c := ⟨Below.trans h.b (k.b.mono h.b.size), Nat.le_trans h.d k.d⟩
theorem Rise.drew (w : World) : Rise w w.drew := ⟨(Below.refl _ _).drew, Nat.le_succ _⟩
theorem Rise.alloc (w : World) (o : Obj) : Rise w (w.alloc o) := ⟨by go_grown, Nat.le_refl _⟩
theorem half62r (s : Pt) (w : World) : Calls Try.prog 62 #[pv s.x s.y] w fun e w' => e = .returned (.int .i64 (halfI s)) ∧ Rise w w' := by
  by_cases h1 : 0 < s.x
  · go_enter Try.func62, Try.ntmps62
    go_wp2
    all_goals go_ret
    all_goals exact ⟨retI (by simp [halfI, h1]), ⟨by go_grown, Nat.le_refl _⟩⟩
  · by_cases h2 : s.x = 0
    · by_cases h3 : 0 < s.y
      · go_enter Try.func62, Try.ntmps62
        go_wp2
        all_goals go_ret
        all_goals exact ⟨retI (by simp [halfI, h2, h3]), ⟨by go_grown, Nat.le_refl _⟩⟩
      · go_enter Try.func62, Try.ntmps62
        go_wp2
        all_goals go_ret
        all_goals exact ⟨retI (by simp [halfI, h2, h3]), ⟨by go_grown, Nat.le_refl _⟩⟩
    · have h2' : (s.x == 0) = false := by simp [h2]
      go_enter Try.func62, Try.ntmps62
      go_wp2
      all_goals go_ret
      all_goals exact ⟨retI (by simp [halfI, h1, h2]), ⟨by go_grown, Nat.le_refl _⟩⟩
theorem square63r (s : Pt) (w : World) : Calls Try.prog 63 #[pv s.x s.y] w fun e w' => e = .returned (.int .i64 (wrap64 (wrap64 (s.x * s.x) + wrap64 (s.y * s.y)))) ∧ Rise w w' := by
  go_enter Try.func63, Try.ntmps63
  go_wp2
  go_ret
  exact ⟨rfl, ⟨by go_grown, Nat.le_refl _⟩⟩
theorem compare44r (a b : Int) (w : World) : Calls Try.prog 44 #[.int .i64 a, .int .i64 b] w fun e w' => e = .returned (.int .i64 (cmpI a b)) ∧ Rise w w' := by
  go_enter Try.func44, Try.ntmps44
  go_wp2_with (go_at_call 64; refine (isNaN64 _ _).mono ?_; rintro e w' ⟨rfl, rfl⟩)
  all_goals go_ret
  all_goals exact ⟨retI (by simp only [cmpI]; repeat' split <;> omega), Rise.refl _⟩
theorem compare56r (a b : Int) (w : World) : Calls Try.prog 56 #[.int .i64 a, .int .i64 b] w fun e w' => e = .returned (.int .i64 (cmpI a b)) ∧ Rise w w' :=
  (compare56 a b w).mono fun _ _ ⟨h1, h2⟩ => ⟨h1, by rw [h2]; exact Rise.refl _⟩
theorem cross57r (a b : Pt) (w : World) : Calls Try.prog 57 #[pv a.x a.y, pv b.x b.y] w fun e w' => e = .returned (.int .i64 (wrap64 (wrap64 (a.x * b.y) - wrap64 (a.y * b.x)))) ∧ Rise w w' := by
  go_enter Try.func57, Try.ntmps57
  go_wp2
  go_ret
  exact ⟨rfl, ⟨by go_grown, Nat.le_refl _⟩⟩
theorem stepTo43r0 (a b : Pt) (w : World) : Calls Try.prog 43 #[pv a.x a.y, pv b.x b.y] w fun e w' => e = .returned (pv (wrap64 (b.x - a.x)) (wrap64 (b.y - a.y))) ∧ Rise w w' := by
  go_enter Try.func43, Try.ntmps43
  go_wp2
  go_returns
  exact ⟨rfl, ⟨by go_grown, Nat.le_refl _⟩⟩
set_option maxHeartbeats 1000000 in
theorem or41r (b off cap : Nat) (vs : List Int) (w : World) (hn : vs.length ≤ 1000) (h : ∀ j, j < vs.length → w.cell? ⟨b, off + j, none⟩ = some (.int .i64 (vs.getD j 0))) : Calls Try.prog 41 #[.slice (some ⟨b, off, none⟩) vs.length cap] w fun e w' => e = .returned (.int .i64 (orI vs)) ∧ Rise w w' := by
  have H := hide h
  clear h
  go_enter Try.func41, Try.ntmps41
  go_wp2
  go_loopw [8] (fun t wr => ∃ i : Nat, i ≤ vs.length ∧ t = .int .i64 i ∧ Hid (orI (vs.drop i) = orI vs) ∧ wr = w) (fun t _ => vs.length - (intOf t).toNat)
  case atStart => exact ⟨0, by omega, rfl, rfl, rfl⟩
  case round =>
    obtain ⟨i, hi, rfl, HP, rfl⟩ := hrel
    by_cases hlt : i < vs.length
    · have c0 := H.out i hlt
      have E := hide (orI_drop vs i hlt)
      generalize vs.getD i 0 = x at c0 E
      by_cases hx : x = 0
      · have hx' : (x == 0) = true := by simp [hx]
        go_wp2
        go_roundw
        case rel => exact ⟨i + 1, by omega, by go_num, by rw [E.out, if_pos hx] at HP; exact HP, by trivial⟩
        case measure => simp [intOf]; omega
      · have hx' : (x == 0) = false := by simp [hx]
        go_wp2
        go_ret
        exact ⟨retI (by rw [E.out, if_neg hx] at HP; exact HP.out), Rise.refl _⟩
    · go_wp2
      go_ret
      have : i = vs.length := by omega
      subst this
      exact ⟨retI (by have := HP.out; rw [List.drop_length] at this; exact this), Rise.refl _⟩

theorem keep70r {w W W' : World} {g : Nat} {s t : Pt} (h : W.cell? ⟨g, 0, none⟩ = some (.int .i64 s.x) ∧ W.cell? ⟨g, 1, none⟩ = some (.int .i64 s.y) ∧ W.cell? ⟨g + 1, 0, none⟩ = some (.int .i64 t.x) ∧ W.cell? ⟨g + 1, 1, none⟩ = some (.int .i64 t.y) ∧ Hid (Rise w W)) (hr : Rise W W') :
    W'.cell? ⟨g, 0, none⟩ = some (.int .i64 s.x) ∧ W'.cell? ⟨g, 1, none⟩ = some (.int .i64 s.y) ∧ W'.cell? ⟨g + 1, 0, none⟩ = some (.int .i64 t.x) ∧ W'.cell? ⟨g + 1, 1, none⟩ = some (.int .i64 t.y) ∧ Hid (Rise w W') :=
  ⟨later hr.b h.1, later hr.b h.2.1, later hr.b h.2.2.1, later hr.b h.2.2.2.1, Rise.trans h.2.2.2.2.out hr⟩
theorem or41r' (W : World) (n : Nat) (hn : n = W.heap.size) (x y z : Int) : Calls Try.prog 41 #[.slice (some ⟨n, 0, none⟩) 3 3] (W.alloc (.cells #[.int .i64 x, .int .i64 y, .int .i64 z] 3)) fun e w' => e = .returned (.int .i64 (orI [x, y, z])) ∧ Rise (W.alloc (.cells #[.int .i64 x, .int .i64 y, .int .i64 z] 3)) w' := by
  subst hn
  refine or41r _ 0 3 [x, y, z] _ (by simp) fun j hj => ?_
  simp at hj
  rcases (by omega : j = 0 ∨ j = 1 ∨ j = 2) with rfl | rfl | rfl <;> (simp only [List.getD_cons_zero, List.getD_cons_succ]; go_cell)

set_option maxHeartbeats 2000000 in
theorem clockwise42r (s t : Pt) (w : World) : Calls Try.prog 42 #[pv s.x s.y, pv t.x t.y] w fun e w' => e = .returned (.int .i64 (clockI s t)) ∧ Rise w w' := by
  go_enter Try.func42, Try.ntmps42
  obtain ⟨W, hW, hb, q⟩ := two70 w s t
  go_wp2_with fail
  rw [← hW]
  have hd : w.drawn ≤ W.drawn := by rw [hW]; exact Nat.le_refl _
  clear hW
  have S0 : W.cell? ⟨w.heap.size, 0, none⟩ = some (.int .i64 s.x) ∧ W.cell? ⟨w.heap.size, 1, none⟩ = some (.int .i64 s.y) ∧ W.cell? ⟨w.heap.size + 1, 0, none⟩ = some (.int .i64 t.x) ∧ W.cell? ⟨w.heap.size + 1, 1, none⟩ = some (.int .i64 t.y) ∧ Hid (Rise w W) := ⟨q.1, q.2.1, q.2.2.1, q.2.2.2, ⟨hb, hd⟩⟩
  clear hb q hd
  go_region_held3 (fun w' => w'.cell? ⟨w.heap.size, 0, none⟩ = some (.int .i64 s.x) ∧ w'.cell? ⟨w.heap.size, 1, none⟩ = some (.int .i64 s.y) ∧ w'.cell? ⟨w.heap.size + 1, 0, none⟩ = some (.int .i64 t.x) ∧ w'.cell? ⟨w.heap.size + 1, 1, none⟩ = some (.int .i64 t.y) ∧ Hid (Rise w w'))
    (first | exact keep70r S0 (Rise.drew _) | exact keep70r (by assumption) hb | exact keep70r (by assumption) (Rise.alloc _ _))
    (first
      | (go_at_call 62; refine (half62r _ _).mono ?_; rintro e w' ⟨rfl, hb⟩)
      | (go_at_call 44; refine (compare44r _ _ _).mono ?_; rintro e w' ⟨rfl, hb⟩)
      | (go_at_call 57; refine (cross57r _ _ _).mono ?_; rintro e w' ⟨rfl, hb⟩)
      | (go_at_call 56; refine (compare56r _ _ _).mono ?_; rintro e w' ⟨rfl, hb⟩)
      | (go_at_call 63; refine (square63r _ _).mono ?_; rintro e w' ⟨rfl, hb⟩)
      | (go_at_call 41; refine (or41r' _ _ rfl _ _ _).mono ?_; rintro e w' ⟨rfl, hb⟩))
  rename_i hH
  have HB := hide hH.2.2.2.2.out
  clear hH S0
  go_wp2
  go_ret
  exact ⟨retI rfl, HB.out⟩
theorem stepTo43r (o p : Pt) (ho : ptB o = true) (hp : ptB p = true) (w : World) : Calls Try.prog 43 #[pv o.x o.y, pv p.x p.y] w fun e w' => e = .returned (pv (stepP o p).x (stepP o p).y) ∧ Rise w w' := by
  rw [← step_in ho hp]; exact stepTo43r0 o p w
theorem or41r'' (W : World) (n : Nat) (hn : n = W.heap.size) (x y : Int) : Calls Try.prog 41 #[.slice (some ⟨n, 0, none⟩) 2 2] (W.alloc (.cells #[.int .i64 x, .int .i64 y] 3)) fun e w' => e = .returned (.int .i64 (orI [x, y])) ∧ Rise (W.alloc (.cells #[.int .i64 x, .int .i64 y] 3)) w' := by
  subst hn
  refine or41r _ 0 2 [x, y] _ (by simp) fun j hj => ?_
  simp at hj
  rcases (by omega : j = 0 ∨ j = 1) with rfl | rfl <;> (simp only [List.getD_cons_zero, List.getD_cons_succ]; go_cell)

/-- What the closure reads, in a world: the point o, the list's head, the points of the places i and j. -/
def ReadsR (g h b off n cap : Nat) (o p q : Pt) (i j : Nat) (w W : World) : Prop :=
  W.cell? ⟨g, 0, none⟩ = some (.int .i64 o.x) ∧ W.cell? ⟨g, 1, none⟩ = some (.int .i64 o.y) ∧ W.cell? ⟨h, 0, none⟩ = some (.slice (some ⟨b, off, none⟩) n cap)
    ∧ W.cell? ⟨b, off + i * 2, none⟩ = some (.int .i64 p.x) ∧ W.cell? ⟨b, off + i * 2 + 1, none⟩ = some (.int .i64 p.y) ∧ W.cell? ⟨b, off + j * 2, none⟩ = some (.int .i64 q.x) ∧ W.cell? ⟨b, off + j * 2 + 1, none⟩ = some (.int .i64 q.y)
    ∧ Hid (Rise w W)
theorem ReadsR.later {g h b off n cap : Nat} {o p q : Pt} {i j : Nat} {w W W' : World} (r : ReadsR g h b off n cap o p q i j w W) (hr : Rise W W') : ReadsR g h b off n cap o p q i j w W' := by
  obtain ⟨r0, r1, r2, r3, r4, r5, r6, r7⟩ := r
  exact ⟨Ytgnojjbdioldbaa.later hr.b r0, Ytgnojjbdioldbaa.later hr.b r1, Ytgnojjbdioldbaa.later hr.b r2, Ytgnojjbdioldbaa.later hr.b r3, Ytgnojjbdioldbaa.later hr.b r4, Ytgnojjbdioldbaa.later hr.b r5, Ytgnojjbdioldbaa.later hr.b r6, Rise.trans r7.out hr⟩

theorem keep40r {g h b off n cap : Nat} {o p q : Pt} {i j : Nat} {w W W' : World} (r : W.cell? ⟨g, 0, none⟩ = some (.int .i64 o.x) ∧ W.cell? ⟨g, 1, none⟩ = some (.int .i64 o.y) ∧ W.cell? ⟨h, 0, none⟩ = some (.slice (some ⟨b, off, none⟩) n cap)
    ∧ W.cell? ⟨b, off + i * 2, none⟩ = some (.int .i64 p.x) ∧ W.cell? ⟨b, off + i * 2 + 1, none⟩ = some (.int .i64 p.y) ∧ W.cell? ⟨b, off + j * 2, none⟩ = some (.int .i64 q.x) ∧ W.cell? ⟨b, off + j * 2 + 1, none⟩ = some (.int .i64 q.y)
    ∧ Hid (Rise w W)) (hr : Rise W W') : W'.cell? ⟨g, 0, none⟩ = some (.int .i64 o.x) ∧ W'.cell? ⟨g, 1, none⟩ = some (.int .i64 o.y) ∧ W'.cell? ⟨h, 0, none⟩ = some (.slice (some ⟨b, off, none⟩) n cap)
    ∧ W'.cell? ⟨b, off + i * 2, none⟩ = some (.int .i64 p.x) ∧ W'.cell? ⟨b, off + i * 2 + 1, none⟩ = some (.int .i64 p.y) ∧ W'.cell? ⟨b, off + j * 2, none⟩ = some (.int .i64 q.x) ∧ W'.cell? ⟨b, off + j * 2 + 1, none⟩ = some (.int .i64 q.y)
    ∧ Hid (Rise w W') :=
  ReadsR.later (show ReadsR g h b off n cap o p q i j w W from r) hr

set_option maxHeartbeats 4000000 in
theorem closure40r (g h b off cap : Nat) (o : Pt) (ps : List Pt) (i j : Nat) (hi : i < ps.length) (hj : j < ps.length) (_hl : ps.length ≤ 4096) (ho : ptB o = true) (hpi : ptB (at' ps i) = true) (hpj : ptB (at' ps j) = true) (w : World)
    (c0 : w.cell? ⟨g, 0, none⟩ = some (.int .i64 o.x)) (c1 : w.cell? ⟨g, 1, none⟩ = some (.int .i64 o.y)) (c2 : w.cell? ⟨h, 0, none⟩ = some (.slice (some ⟨b, off, none⟩) ps.length cap)) (L : Lies w b off ps) :
    Calls Try.prog 40 #[.int .i64 i, .int .i64 j, .pointer (some ⟨g, 0, none⟩), .pointer (some ⟨h, 0, none⟩)] w fun e w' => e = .returned (.int .i64 (aroundI o ps i j)) ∧ Rise w w' := by
  have T1 := hide (stepTo43r o _ ho hpi)
  have T2 := hide (stepTo43r o _ ho hpj)
  have S0 : ReadsR g h b off ps.length cap o (at' ps i) (at' ps j) i j w w := ⟨c0, c1, c2, (L i hi).1, (L i hi).2, (L j hj).1, (L j hj).2, Rise.refl _⟩
  have S1 := hide S0
  have e1 : (i : Int) < ps.length := by omega
  have e2 : (j : Int) < ps.length := by omega
  unfold aroundI
  obtain ⟨n, hn⟩ : ∃ n, ps.length = n := ⟨_, rfl⟩
  obtain ⟨p, hp⟩ : ∃ p, at' ps i = p := ⟨_, rfl⟩
  obtain ⟨q, hq⟩ : ∃ q, at' ps j = q := ⟨_, rfl⟩
  rw [hn] at S1 hi hj _hl e1 e2
  rw [hp] at S1 T1
  rw [hq] at S1 T2
  rw [hp, hq]
  clear S0 c0 c1 c2 L ho hpi hpj hn hp hq
  go_enter Try.func40, Try.ntmps40
  go_wp2_with fail
  go_region_held3 (fun W => W.cell? ⟨g, 0, none⟩ = some (.int .i64 o.x) ∧ W.cell? ⟨g, 1, none⟩ = some (.int .i64 o.y) ∧ W.cell? ⟨h, 0, none⟩ = some (.slice (some ⟨b, off, none⟩) n cap)
    ∧ W.cell? ⟨b, off + i * 2, none⟩ = some (.int .i64 p.x) ∧ W.cell? ⟨b, off + i * 2 + 1, none⟩ = some (.int .i64 p.y) ∧ W.cell? ⟨b, off + j * 2, none⟩ = some (.int .i64 q.x) ∧ W.cell? ⟨b, off + j * 2 + 1, none⟩ = some (.int .i64 q.y)
    ∧ Hid (Rise w W))
    (first | exact keep40r S1.out (Rise.drew _) | exact keep40r (by assumption) hb | exact keep40r (by assumption) (Rise.alloc _ _))
    (first
      | (go_at_call 43; with_reducible refine (T1.out _).mono ?_; rintro e w' ⟨rfl, hb⟩)
      | (go_at_call 43; with_reducible refine (T2.out _).mono ?_; rintro e w' ⟨rfl, hb⟩)
      | (go_at_call 42; refine (clockwise42r _ _ _).mono ?_; rintro e w' ⟨rfl, hb⟩)
      | (go_at_call 44; refine (compare44r _ _ _).mono ?_; rintro e w' ⟨rfl, hb⟩)
      | (go_at_call 41; refine (or41r'' _ _ rfl _ _).mono ?_; rintro e w' ⟨rfl, hb⟩))
  rename_i hH
  have HB := hide hH.2.2.2.2.2.2.2.out
  clear hH S1
  go_wp2
  go_ret
  exact ⟨retI rfl, HB.out⟩
end Go.Proofs.Ytgnojjbdioldbaa
