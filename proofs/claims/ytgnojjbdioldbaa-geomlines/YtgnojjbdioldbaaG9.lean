/- The order in which a hand comes over points: the function that Around sorts by, in every world. -/
import Derived.Test.YtgnojjbdioldbaaG8
namespace Go.Proofs.Ytgnojjbdioldbaa
open Go.RowKit Go.Sort
open Go

def stepP (o p : Pt) : Pt := ⟨p.x - o.x, p.y - o.y⟩
def aroundI (o : Pt) (ps : List Pt) (i j : Nat) : Int := orI [clockI (stepP o (at' ps i)) (stepP o (at' ps j)), cmpI i j]
theorem step_in {o p : Pt} (ho : ptB o = true) (hp : ptB p = true) : pv (wrap64 (p.x - o.x)) (wrap64 (p.y - o.y)) = pv (stepP o p).x (stepP o p).y := by
  have ho := ptB_is ho
  have hp := ptB_is hp
  rw [w64 (by omega) (by omega), w64 (by omega) (by omega)]; rfl
theorem stepTo43' (o p : Pt) (ho : ptB o = true) (hp : ptB p = true) (w : World) : Calls Try.prog 43 #[pv o.x o.y, pv p.x p.y] w fun e w' => e = .returned (pv (stepP o p).x (stepP o p).y) ∧ Below w.heap.size w w' := by
  rw [← step_in ho hp]; exact stepTo43 o p w
theorem or41'' (W : World) (n : Nat) (hn : n = W.heap.size) (x y : Int) : Calls Try.prog 41 #[.slice (some ⟨n, 0, none⟩) 2 2] (W.alloc (.cells #[.int .i64 x, .int .i64 y] 3)) fun e w' => e = .returned (.int .i64 (orI [x, y])) ∧ Below (W.alloc (.cells #[.int .i64 x, .int .i64 y] 3)).heap.size (W.alloc (.cells #[.int .i64 x, .int .i64 y] 3)) w' := by
  subst hn
  refine or41 _ 0 2 [x, y] _ (by simp) fun j hj => ?_
  simp at hj
  rcases (by omega : j = 0 ∨ j = 1) with rfl | rfl <;> (simp only [List.getD_cons_zero, List.getD_cons_succ]; go_cell)

/-- What the closure reads, in a world: the point o, the list's head, the points of the places i and j. -/
def Reads (g h b off n cap : Nat) (o p q : Pt) (i j : Nat) (w W : World) : Prop :=
  W.cell? ⟨g, 0, none⟩ = some (.int .i64 o.x) ∧ W.cell? ⟨g, 1, none⟩ = some (.int .i64 o.y) ∧ W.cell? ⟨h, 0, none⟩ = some (.slice (some ⟨b, off, none⟩) n cap)
    ∧ W.cell? ⟨b, off + i * 2, none⟩ = some (.int .i64 p.x) ∧ W.cell? ⟨b, off + i * 2 + 1, none⟩ = some (.int .i64 p.y) ∧ W.cell? ⟨b, off + j * 2, none⟩ = some (.int .i64 q.x) ∧ W.cell? ⟨b, off + j * 2 + 1, none⟩ = some (.int .i64 q.y)
    ∧ Hid (Below w.heap.size w W)
theorem Reads.later {g h b off n cap : Nat} {o p q : Pt} {i j : Nat} {w W W' : World} (r : Reads g h b off n cap o p q i j w W) (hb : Below W.heap.size W W') : Reads g h b off n cap o p q i j w W' := by
  obtain ⟨r0, r1, r2, r3, r4, r5, r6, r7⟩ := r
  exact ⟨Ytgnojjbdioldbaa.later hb r0, Ytgnojjbdioldbaa.later hb r1, Ytgnojjbdioldbaa.later hb r2, Ytgnojjbdioldbaa.later hb r3, Ytgnojjbdioldbaa.later hb r4, Ytgnojjbdioldbaa.later hb r5, Ytgnojjbdioldbaa.later hb r6, Below.trans r7.out (hb.mono r7.out.size)⟩

theorem keep40 {g h b off n cap : Nat} {o p q : Pt} {i j : Nat} {w W W' : World} (r : W.cell? ⟨g, 0, none⟩ = some (.int .i64 o.x) ∧ W.cell? ⟨g, 1, none⟩ = some (.int .i64 o.y) ∧ W.cell? ⟨h, 0, none⟩ = some (.slice (some ⟨b, off, none⟩) n cap)
    ∧ W.cell? ⟨b, off + i * 2, none⟩ = some (.int .i64 p.x) ∧ W.cell? ⟨b, off + i * 2 + 1, none⟩ = some (.int .i64 p.y) ∧ W.cell? ⟨b, off + j * 2, none⟩ = some (.int .i64 q.x) ∧ W.cell? ⟨b, off + j * 2 + 1, none⟩ = some (.int .i64 q.y)
    ∧ Hid (Below w.heap.size w W)) (hb : Below W.heap.size W W') : W'.cell? ⟨g, 0, none⟩ = some (.int .i64 o.x) ∧ W'.cell? ⟨g, 1, none⟩ = some (.int .i64 o.y) ∧ W'.cell? ⟨h, 0, none⟩ = some (.slice (some ⟨b, off, none⟩) n cap)
    ∧ W'.cell? ⟨b, off + i * 2, none⟩ = some (.int .i64 p.x) ∧ W'.cell? ⟨b, off + i * 2 + 1, none⟩ = some (.int .i64 p.y) ∧ W'.cell? ⟨b, off + j * 2, none⟩ = some (.int .i64 q.x) ∧ W'.cell? ⟨b, off + j * 2 + 1, none⟩ = some (.int .i64 q.y)
    ∧ Hid (Below w.heap.size w W') :=
  Reads.later (show Reads g h b off n cap o p q i j w W from r) hb

set_option maxHeartbeats 4000000 in
theorem closure40 (g h b off cap : Nat) (o : Pt) (ps : List Pt) (i j : Nat) (hi : i < ps.length) (hj : j < ps.length) (_hl : ps.length ≤ 4096) (ho : ptB o = true) (hpi : ptB (at' ps i) = true) (hpj : ptB (at' ps j) = true) (w : World)
    (c0 : w.cell? ⟨g, 0, none⟩ = some (.int .i64 o.x)) (c1 : w.cell? ⟨g, 1, none⟩ = some (.int .i64 o.y)) (c2 : w.cell? ⟨h, 0, none⟩ = some (.slice (some ⟨b, off, none⟩) ps.length cap)) (L : Lies w b off ps) :
    Calls Try.prog 40 #[.int .i64 i, .int .i64 j, .pointer (some ⟨g, 0, none⟩), .pointer (some ⟨h, 0, none⟩)] w fun e w' => e = .returned (.int .i64 (aroundI o ps i j)) ∧ Below w.heap.size w w' := by
  have T1 := hide (stepTo43' o _ ho hpi)
  have T2 := hide (stepTo43' o _ ho hpj)
  have S0 : Reads g h b off ps.length cap o (at' ps i) (at' ps j) i j w w := ⟨c0, c1, c2, (L i hi).1, (L i hi).2, (L j hj).1, (L j hj).2, Below.refl _ _⟩
  have S1 := hide S0
  have e1 : (i : Int) < ps.length := by omega
  have e2 : (j : Int) < ps.length := by omega
  unfold aroundI
  obtain ⟨n, hn⟩ : ∃ n, ps.length = n := ⟨_, rfl⟩
  obtain ⟨p, hp⟩ : ∃ p, at' ps i = p := ⟨_, rfl⟩
  obtain ⟨q, hq⟩ : ∃ q, at' ps j = q := ⟨_, rfl⟩
  rw [hn] at S1 hi hj _hl e1 e2
  rw [hp] at S1 T1
  rw [hq] at S1 T2
  rw [hp, hq]
  clear S0 c0 c1 c2 L ho hpi hpj hn hp hq
  go_enter Try.func40, Try.ntmps40
  go_wp2_with fail
  go_region_held3 (fun W => W.cell? ⟨g, 0, none⟩ = some (.int .i64 o.x) ∧ W.cell? ⟨g, 1, none⟩ = some (.int .i64 o.y) ∧ W.cell? ⟨h, 0, none⟩ = some (.slice (some ⟨b, off, none⟩) n cap)
    ∧ W.cell? ⟨b, off + i * 2, none⟩ = some (.int .i64 p.x) ∧ W.cell? ⟨b, off + i * 2 + 1, none⟩ = some (.int .i64 p.y) ∧ W.cell? ⟨b, off + j * 2, none⟩ = some (.int .i64 q.x) ∧ W.cell? ⟨b, off + j * 2 + 1, none⟩ = some (.int .i64 q.y)
    ∧ Hid (Below w.heap.size w W))
    (first | exact keep40 S1.out ((Below.refl _ _).drew) | (refine keep40 ?_ ?_ <;> assumption) | (refine keep40 (by assumption) ?_; go_grown))
    (first
      | (go_at_call 43; with_reducible refine (T1.out _).mono ?_; rintro e w' ⟨rfl, hb⟩)
      | (go_at_call 43; with_reducible refine (T2.out _).mono ?_; rintro e w' ⟨rfl, hb⟩)
      | (go_at_call 42; refine (clockwise42 _ _ _).mono ?_; rintro e w' ⟨rfl, hb⟩)
      | (go_at_call 44; refine (compare44 _ _ _).mono ?_; rintro e w' ⟨rfl, hb⟩)
      | (go_at_call 41; refine (or41'' _ _ rfl _ _).mono ?_; rintro e w' ⟨rfl, hb⟩))
  rename_i hH
  have HB := hide hH.2.2.2.2.2.2.2.out
  clear hH S1
  go_wp2
  go_ret
  exact ⟨retI rfl, HB.out⟩
end Go.Proofs.Ytgnojjbdioldbaa
