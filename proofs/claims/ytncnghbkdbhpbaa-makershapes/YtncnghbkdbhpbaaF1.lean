/- The document's own kinds: appends of one edge, made, ring, too, draw, in every world. -/
import Derived.Test.YtncnghbkdbhpbaaE9
namespace Go.Proofs.Ytncnghbkdbhpbaa
open Go.RowKit Go.Sort
open Go

theorem app1 {w : World} {B : Nat} {v : Value} {l : List Pt} (o : Owns w B v l) (x y : Int) (hB : B ≤ w.heap.size) (hl : l.length ≤ 90000) : ∃ v' w', (Builtin.append_ #[26, 26] 26 #[v, .slice (some ⟨w.heap.size, 0, none⟩) 1 1]).run Try.prog (w.alloc (.cells #[.int .i64 x, .int .i64 y] 48)) = .ok v' w' ∧ Owns w' B v' (l ++ [⟨x, y⟩]) ∧ Below B w w' := by
  have o' : Owns (w.alloc (.cells #[.int .i64 x, .int .i64 y] 48)) B v l := o.later (by go_grown)
  have hL : Lies (w.alloc (.cells #[.int .i64 x, .int .i64 y] 48)) w.heap.size 0 [⟨x, y⟩] := by
    intro j hj
    simp at hj
    subst hj
    exact ⟨by simp only [at', List.getD_cons_zero]; go_cell, by simp only [at', List.getD_cons_zero]; go_cell⟩
  obtain ⟨v', w', e1, o1, gr⟩ := append_prs o' (some ⟨w.heap.size, 0, none⟩) 1 [⟨x, y⟩] (fun h => by cases h) (Or.inr ⟨_, _, rfl, hL⟩) (by simp; omega) (by simp; omega)
  exact ⟨v', w', e1, o1, below_grown (w := w.alloc (.cells #[.int .i64 x, .int .i64 y] 48)) (by go_grown) o' (Nat.le_refl _) (by simp; omega) gr⟩
def madeO (n : Int) (es : List Pt) : Out := if netB n es then ⟨n, es, 0⟩ else ⟨0, [], 3⟩
def MadePost (n : Int) (p : Option Addr) (es : List Pt) (cap : Nat) (e : Ending) : Prop :=
  (netB n es = true ∧ e = .returned (.tuple #[nv n p es.length cap, .int .i64 0])) ∨ (netB n es = false ∧ e = .returned (.tuple #[nv 0 none 0 0, .int .i64 3]))
theorem two_boxes (w : World) (n : Int) (p : Option Addr) (l c : Nat) : ∃ W, W = (w.alloc (nbx 0 none 0 0)).alloc (nbx n p l c) ∧ Below w.heap.size w W ∧ NOwn W w.heap.size 0 none 0 0 ∧ NOwn W (w.heap.size + 1) n p l c :=
  ⟨_, rfl, by go_grown, ⟨by unfold nbx; go_cell, by unfold nbx; go_cell, by unfold nbx; go_cell, by unfold nbx; go_cell⟩, by unfold nbx; go_cell, by unfold nbx; go_cell, by unfold nbx; go_cell, by unfold nbx; go_cell⟩
set_option maxRecDepth 100000 in
set_option maxHeartbeats 4000000 in
theorem made22 (n : Int) (p : Option Addr) (es : List Pt) (cap : Nat) (w : World) (h : Has w p es) : Calls Try.prog 22 #[.int .i64 n, .slice p es.length cap] w fun e w' => MadePost n p es cap e ∧ Below w.heap.size w w' := by
  obtain ⟨W, hW, hb, a0, b0⟩ := two_boxes w n p es.length cap
  have M := hide (may12 n p es cap W (h.later hb))
  have HB := hide hb
  have HA := hide a0
  have HN := hide b0
  clear h hb a0 b0
  obtain ⟨q0, q1, _, _⟩ := HN.out
  cases hm : netB n es
  · rw [hm] at M
    go_enter Try.func22, Try.ntmps22
    go_wp2_with fail
    rw [← hW]
    clear hW
    refine M.out.mono ?_
    rintro e w1 ⟨rfl, hb1⟩
    have HA1 := hide (HA.out.later hb1)
    have HB1 := hide (below_step HB.out hb1)
    clear hb1 q0 q1
    obtain ⟨r0, r1, r2, r3⟩ := HA1.out
    go_wp2
    refine bodyPost_ret (ret_net Try.results22 rfl rfl (HA1.out.set 0 none 0 0)) rfl ⟨Or.inr ⟨hm, rfl⟩, ?_⟩
    exact (HB1.out.setCell (by simp) _).setCell (by simp) _
  · rw [hm] at M
    go_enter Try.func22, Try.ntmps22
    go_wp2_with fail
    rw [← hW]
    clear hW
    refine M.out.mono ?_
    rintro e w1 ⟨rfl, hb1⟩
    have HA1 := hide (HA.out.later hb1)
    have HN1 := hide (HN.out.later hb1)
    have HB1 := hide (below_step HB.out hb1)
    clear hb1 q0 q1
    obtain ⟨r0, r1, r2, r3⟩ := HA1.out
    obtain ⟨q0, q1, _, _⟩ := HN1.out
    go_wp2
    refine bodyPost_ret (ret_net Try.results22 rfl rfl (HA1.out.set n p es.length cap)) rfl ⟨Or.inl ⟨hm, rfl⟩, ?_⟩
    exact (HB1.out.setCell (by simp) _).setCell (by simp) _
theorem too21 (k : Nat) (x : Int) (w : World) (h : w.cell? ⟨k, 0, none⟩ = some (.int .i64 x)) : Calls Try.prog 21 #[.slice (some ⟨k, 0, none⟩) 1 1] w fun e w' => e = .returned (.bool (decide (4096 < x))) ∧ w' = w := by
  by_cases hx : 4096 < x
  · go_enter Try.func21, Try.ntmps21
    go_wp2_with fail
    go_loopw [3] (fun t wr => t = .int .i64 0 ∧ wr = w) (fun _ _ => 0)
    case atStart => exact ⟨rfl, rfl⟩
    case round =>
      obtain ⟨rfl, rfl⟩ := hrel
      go_wp2
      go_ret
      exact ⟨retB (by simp [hx]), rfl⟩
  · have hx' : ¬ 4096 < x := hx
    go_enter Try.func21, Try.ntmps21
    go_wp2_with fail
    go_loopw [3] (fun t wr => ∃ i : Nat, i ≤ 1 ∧ t = .int .i64 i ∧ wr = w) (fun t _ => 1 - (intOf t).toNat)
    case atStart => exact ⟨0, by omega, rfl, rfl⟩
    case round =>
      obtain ⟨i, hi, rfl, rfl⟩ := hrel
      have h2 : i = 0 ∨ i = 1 := by omega
      rcases h2 with rfl | rfl
      · go_wp2
        go_roundw
        case rel => exact ⟨1, by omega, by go_num, trivial⟩
        case measure => simp [intOf]
      · go_wp2
        go_ret
        exact ⟨retB (by simp [hx]), rfl⟩
set_option maxRecDepth 100000 in
set_option maxHeartbeats 4000000 in
theorem draw46 (s : Int) (n : Nat) (w : World) (h0 : 1 ≤ n) (h1 : n ≤ 4096) : Calls Try.prog 46 #[.int .u64 s, .int .i64 n] w fun e w' => e = .returned (.tuple #[.int .u64 (nextS s), .int .i64 (drawS (nextS s) n)]) ∧ Below w.heap.size w w' := by
  have hn0 : ¬ (n : Int) = 0 := by omega
  go_enter Try.func46, Try.ntmps46
  go_wp2_with fail
  go_quiet (fail)
  go_wp2
  go_ret2
  have e1 := drawS_eq _ n (nextS_bounds s).1 h0 h1
  exact ⟨by rw [← e1]; rfl, below_drewN (Below.refl _ _)⟩
def ringL (a n : Nat) : List Pt := ((List.range (n - 1)).map fun (i : Nat) => ⟨a + i, a + i + 1⟩) ++ [⟨a + n - 1, a⟩]
def ringP (a i : Nat) : List Pt := (List.range i).map fun (i : Nat) => ⟨a + i, a + i + 1⟩
theorem ringP_length (a n : Nat) : (ringP a n).length = n := by simp [ringP]
theorem ringP_more (a n : Nat) : ringP a (n + 1) = ringP a n ++ [⟨a + n, a + n + 1⟩] := by simp [ringP, List.range_succ]
set_option maxRecDepth 100000 in
set_option maxHeartbeats 4000000 in
theorem ring23 (v : Value) (l : List Pt) (a n B : Nat) (w : World) (o : Owns w B v l) (hB : B ≤ w.heap.size) (hl : l.length ≤ 10000) (h0 : 1 ≤ n) (hn : n ≤ 4096) (ha : a ≤ 4096) : Calls Try.prog 23 #[v, .int .i64 a, .int .i64 n] w fun e w' => ∃ v', e = .returned v' ∧ Owns w' B v' (l ++ ringL a n) ∧ Below B w w' := by
  have HO := hide o
  clear o
  go_enter Try.func23, Try.ntmps23
  go_wp2_with fail
  go_loopw [0, 7] (fun s t wr => ∃ i : Nat, i ≤ n - 1 ∧ t = .int .i64 i ∧ Hid (Below B w wr) ∧ Hid (Owns wr B s (l ++ ringP a i))) (fun _ t _ => n - 1 - (intOf t).toNat)
  case atStart => exact ⟨0, by omega, rfl, Below.refl _ _, by show Owns _ _ _ _; rw [show ringP a 0 = [] from rfl, List.append_nil]; exact HO.out⟩
  case round =>
    obtain ⟨i, hi, rfl, HBr, HOr⟩ := hrel
    have hsz := HBr.out.size
    by_cases hlt : i < n - 1
    · obtain ⟨v1, D, e1, o1, b1⟩ := app1 HOr.out (a + i) (a + i + 1) (by omega) (by rw [List.length_append, ringP_length]; omega)
      have HO1 := hide o1
      have HB1 := hide (Below.trans HBr.out b1)
      clear o1 b1
      go_wp2_with (at_builtin; refine wpList_run_append rfl (.tmp 14) (.tmp 23) 26 rfl 26 rfl _ _ v1 D rfl rfl e1 ?_)
      go_roundw
      case rel => exact ⟨i + 1, by omega, by go_num, HB1.out, by show Owns _ _ _ _; rw [ringP_more, ← List.append_assoc]; exact HO1.out⟩
      case measure => simp [intOf]; omega
    · have hin : i = n - 1 := by omega
      subst hin
      obtain ⟨v1, D, e1, o1, b1⟩ := app1 HOr.out (a + n - 1) a (by omega) (by rw [List.length_append, ringP_length]; omega)
      have HO1 := hide o1
      have HB1 := hide (Below.trans HBr.out b1)
      clear o1 b1
      go_wp2_with (at_builtin; refine wpList_run_append rfl (.tmp 25) (.tmp 32) 26 rfl 26 rfl _ _ v1 D rfl rfl e1 ?_)
      go_ret
      exact ⟨v1, rfl, by show Owns _ _ _ (l ++ (ringP a (n - 1) ++ [⟨a + n - 1, a⟩])); rw [← List.append_assoc]; exact HO1.out, HB1.out⟩
/-- What a net that is made ends in: the result's box takes it. -/
theorem end_made {w wr w1 : World} {B : Nat} {n : Int} {es : List Pt} {p : Option Addr} {c : Nat} {e : Ending} (hB : w.heap.size < B) (HN : NOwn wr w.heap.size 0 none 0 0) (HO : Owns wr B (.slice p es.length c) es) (HB : Below w.heap.size w wr) (hm : MadePost n p es c e) (hb : Below wr.heap.size wr w1) :
    ∃ N q len k err, e = .returned (.tuple #[nv N q len k, .int .i64 err]) ∧ NOwn w1 w.heap.size 0 none 0 0 ∧ NOwn ((w1.setCell ⟨w.heap.size, 0, none⟩ (.int .i64 N)).setCell ⟨w.heap.size, 1, none⟩ (.slice q len k)) w.heap.size N q len k ∧ (madeO n es).made w (.returned (.tuple #[nv N q len k, .int .i64 err])) ((w1.setCell ⟨w.heap.size, 0, none⟩ (.int .i64 N)).setCell ⟨w.heap.size, 1, none⟩ (.slice q len k)) := by
  have hN1 := HN.later hb
  have hB1 := below_step HB hb
  have hO1 := HO.later hb
  rcases hm with ⟨h1, h2⟩ | ⟨h1, h2⟩
  · refine ⟨n, p, es.length, c, 0, h2, hN1, hN1.set _ _ _ _, ?_⟩
    unfold madeO
    rw [if_pos h1]
    exact ⟨(hB1.setCell (by simp) _).setCell (by simp) _, p, c, rfl, (owns_other (owns_other hO1 hB _) hB _).base (by omega)⟩
  · refine ⟨0, none, 0, 0, 3, h2, hN1, hN1.set _ _ _ _, ?_⟩
    unfold madeO
    rw [if_neg (by simp [h1])]
    exact ⟨(hB1.setCell (by simp) _).setCell (by simp) _, none, 0, rfl, Owns.nil _ _⟩
end Go.Proofs.Ytncnghbkdbhpbaa
