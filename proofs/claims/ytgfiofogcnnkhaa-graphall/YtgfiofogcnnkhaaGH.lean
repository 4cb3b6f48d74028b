/- far; placesAt; setEnd. -/
import Derived.Test.YtgfiofogcnnkhaaGG
namespace Go.Proofs.Ytgfiofogcnnkhaa
open Go.RowKit Go.Sort
open Go

theorem far59 (x : Ed) (v : Int) (w : World) : Calls Try.prog 59 #[ev x, .int .i64 v] w fun e w' => e = .returned (.int .i64 (x.far v)) ∧ Below w.heap.size w w' := by
  have SD := side58 x v
  unfold Ed.side at SD
  unfold ev at SD ⊢
  unfold Ed.far
  by_cases h1 : x.a = v
  · rw [if_pos h1] at SD ⊢
    clear h1
    go_enter Try.func59, Try.ntmps59
    go_wp2_with (go_at_call 58; refine (SD _).mono ?_; rintro e w' ⟨rfl, hb⟩; have HB := hide (below_alloc hb); have c2 : w'.cell? ⟨w.heap.size, 2, none⟩ = some (.int .i64 x.b) := later hb (by go_cell); clear hb)
    go_ret
    exact ⟨rfl, HB.out⟩
  · rw [if_neg h1] at SD ⊢
    clear h1
    go_enter Try.func59, Try.ntmps59
    go_wp2_with (go_at_call 58; refine (SD _).mono ?_; rintro e w' ⟨rfl, hb⟩; have HB := hide (below_alloc hb); have c2 : w'.cell? ⟨w.heap.size, 1, none⟩ = some (.int .i64 x.a) := later hb (by go_cell); clear hb)
    go_ret
    exact ⟨rfl, HB.out⟩
/-- Where the edges at v stand. -/
def atN (l : List Ed) (v : Int) : Nat → List Int
  | 0 => []
  | k + 1 => atN l v k ++ (if (eat l k).a = v ∨ (eat l k).b = v then [(k : Int)] else [])
def plAt (G : Gr) (v : Int) : List Int := atN G.es v G.es.length
theorem atN_length (l : List Ed) (v : Int) : ∀ k, (atN l v k).length ≤ k
  | 0 => Nat.le_refl _
  | k + 1 => by
    have := atN_length l v k
    simp only [atN, List.length_append]
    split <;> simp <;> omega
theorem append_int {w : World} {base k : Nat} {v : Value} {l : List Int} {x : Int} (o : IOwns w base v l) (hk : w.cell? ⟨k, 0, none⟩ = some (.int .i64 x)) (hb : base ≤ w.heap.size) (hl : l.length ≤ 90000) :
    ∃ v' w', (Builtin.append_ #[38, 38] 38 #[v, .slice (some ⟨k, 0, none⟩) 1 1]).run Try.prog w = .ok v' w' ∧ IOwns w' base v' (l ++ [x]) ∧ w.grownBy w' v.ownBlock ∧ (v'.ownBlock = v.ownBlock ∨ v'.ownBlock = some w.heap.size) := by
  obtain ⟨i0, hi0, hz0, hz1, hz2⟩ := info_parts info3
  have hnews : ∀ j u, [Value.int .i64 x][j]? = some u → w.cell? ((⟨k, 0, none⟩ : Addr).add j) = some u := by
    intro j u hj
    cases j with
    | zero => simp at hj; subst hj; exact hk
    | succ k => simp at hj
  obtain ⟨v', w', h1, h2, h3, _, h5⟩ := run_append_own_at (P := Try.prog) w base 38 38 3 i0 (.int .i64 0) 1 8 Try.underlying38 hi0 hz0 hz1 hz2 rfl (by decide) v l.length (icells l) o ⟨k, 0, none⟩ 1 1 [.int .i64 x] rfl hnews (by simp [Value.oneCell']) (by unfold maxLen; omega) (by omega) hb
  exact ⟨v', w', h1, iowns_more h2, h3, h5⟩
theorem below_grown {B : Nat} {a w w' : World} {v : Value} {base n : Nat} {xs : List Value} {e : TypeId} {size : Nat} (h : Below B a w) (ho : w.ownsRow base e size v n xs) (hB : B ≤ base) (hw : B ≤ w.heap.size) (hg : w.grownBy w' v.ownBlock) : Below B a w' :=
  h.grown hg hw fun k hk => Nat.le_trans hB (World.ownsRow.lt ho k hk).1
theorem grown_alloc {w w' : World} {o : Obj} {r : Option Nat} (h : (w.alloc o).grownBy w' r) : w.grownBy w' r :=
  ⟨h.os, h.tape, h.output, Nat.le_trans (by simp) h.size, fun k hk hr => by rw [h.block k (by simp; omega) hr]; exact heap_alloc_old w o hk⟩
theorem push_int {w : World} {base : Nat} {v : Value} {l : List Int} {x : Int} (o : IOwns w base v l) (hb : base ≤ w.heap.size) (hl : l.length ≤ 90000) :
    ∃ p c D, (Builtin.append_ #[38, 38] 38 #[v, .slice (some ⟨w.heap.size, 0, none⟩) 1 1]).run Try.prog (w.alloc (.cells #[.int .i64 x] 3)) = .ok (.slice p (l.length + 1) c) D ∧ IOwns D base (.slice p (l.length + 1) c) (l ++ [x]) ∧ w.grownBy D v.ownBlock := by
  have hbU : Below w.heap.size w (w.alloc (.cells #[.int .i64 x] 3)) := by go_grown
  obtain ⟨v1, D, e1, o1, gr, at1⟩ := append_int (o.later hbU) (by go_cell : (w.alloc (.cells #[.int .i64 x] 3)).cell? ⟨w.heap.size, 0, none⟩ = some (.int .i64 x)) (by simp; omega) hl
  obtain ⟨p, c, h1, _⟩ := o1.form
  rw [List.length_append] at h1
  subst h1
  exact ⟨p, c, D, e1, o1, grown_alloc gr⟩
set_option maxRecDepth 100000 in
set_option maxHeartbeats 8000000 in
theorem placesAt56 (b : Nat) (s : GV) (G : Gr) (v : Int) (w : World) (h : GAt w b s G) (hl : G.es.length ≤ 5000) : Calls Try.prog 56 #[ptr b, .int .i64 v] w fun e w' => ∃ p c, e = .returned (.slice p (plAt G v).length c) ∧ IOwns w' w.heap.size (.slice p (plAt G v).length c) (plAt G v) ∧ Below w.heap.size w w' := by
  obtain ⟨_, _, q2, _⟩ := h.cells
  obtain ⟨pn, cn, pe, ce, pm, cm, pd, cd, _, rfl, _⟩ := h.form
  have HE := hide (own_ehas h.edg)
  clear h
  go_enter Try.func56, Try.ntmps56
  go_wp2
  go_loopw [5, 13] (fun t5 t13 wr => ∃ k : Nat, k ≤ G.es.length ∧ t13 = .int .i64 k ∧ Hid (Below w.heap.size w wr) ∧ Hid (IOwns wr w.heap.size t5 (atN G.es v k))) (fun _ t13 _ => G.es.length - (intOf t13).toNat)
  case atStart => exact ⟨0, by omega, rfl, Below.refl _ _, IOwns.nil _ _⟩
  case round =>
    obtain ⟨k, hk, rfl, HBr, HOr⟩ := hrel
    obtain ⟨p5, c5, h5, _⟩ := HOr.out.form
    subst h5
    by_cases hlt : k < G.es.length
    · rcases HE.out.later HBr.out with h | ⟨g, rfl, hc⟩
      · rw [h] at hlt; simp at hlt
      obtain ⟨c0, c1, c2⟩ := hc k hlt
      clear hc
      have z0 : g < wr.heap.size := block_lt_of_cell c0
      have e1 : (k : Int) < G.es.length := by omega
      have e0 : (0 : Int) ≤ k := by omega
      have hak := atN_length G.es v k
      have HST : Hid (∀ m, m = k + 1 → atN G.es v m = atN G.es v k ++ (if (eat G.es k).a = v ∨ (eat G.es k).b = v then [(k : Int)] else [])) := by
        intro m hm; subst hm; rfl
      have T := touches86 (eat G.es k) v
      generalize eat G.es k = x at c0 c1 c2 T HST
      unfold ev at T
      by_cases ht : x.a = v ∨ x.b = v
      · rw [decide_eq_true ht] at T
        have HT : Hid (atN G.es v (k + 1) = atN G.es v k ++ [(k : Int)]) := by show _ = _; rw [HST.out _ rfl, if_pos ht]
        clear HST ht
        go_wp2_with (first | (go_at_call 86; refine (T _).mono ?_; rintro e w1 ⟨rfl, hb1⟩; have hb2 := below_alloc hb1; have HB1 := hide (below_step HBr.out hb2); have HO1 := hide (HOr.out.later hb2); clear hb1 hb2; obtain ⟨p6, c6, D, e6, o6, gr6⟩ := push_int (x := (k : Int)) HO1.out HB1.out.size (by omega); have HO6 := hide o6; have HB6 := hide (below_grown HB1.out HO1.out (Nat.le_refl _) HB1.out.size gr6); clear o6 gr6) | (at_builtin; refine wpList_run_append rfl (.tmp 21) (.tmp 23) 38 rfl 38 rfl _ _ _ D rfl rfl e6 ?_))
        go_roundw
        case rel => exact ⟨k + 1, by omega, by go_num, HB6.out, by show IOwns _ _ _ _; rw [HT.out]; exact HO6.out⟩
        case measure => simp [intOf]; omega
      · rw [decide_eq_false ht] at T
        have HT : Hid (atN G.es v (k + 1) = atN G.es v k) := by show _ = _; rw [HST.out _ rfl, if_neg ht, List.append_nil]
        clear HST ht
        go_wp2_with (go_at_call 86; refine (T _).mono ?_; rintro e w1 ⟨rfl, hb1⟩; have hb2 := below_alloc hb1; have HB1 := hide (below_step HBr.out hb2); have HO1 := hide (HOr.out.later hb2); clear hb1 hb2)
        go_roundw
        case rel => exact ⟨k + 1, by omega, by go_num, HB1.out, by show IOwns _ _ _ _; rw [HT.out]; exact HO1.out⟩
        case measure => simp [intOf]; omega
    · have : k = G.es.length := by omega
      have HK := hide this
      clear this
      go_wp2
      go_ret
      have e7 : plAt G v = atN G.es v k := by unfold plAt; rw [HK.out]
      exact ⟨p5, c5, by rw [e7]; rfl, by rw [e7]; exact HOr.out, HBr.out⟩
end Go.Proofs.Ytgfiofogcnnkhaa
