/- How two segments meet, by the document's own answer, in every world. -/
import Derived.Test.YtgnojjbdioldbaaG11
import Derived.Test.YtgnojjbdioldbaaM3
namespace Go.Proofs.Ytgnojjbdioldbaa
open Go.RowKit Go.Sort
open Go Go.BigFrame

def ddStep (l : List Pt) (p : Pt) : List Pt := if p ∈ l then l else l ++ [p]
def dd (F : List Pt) : List Pt := F.foldl ddStep []
def ddI (l : List Pt) : Int := if l.length = 0 then 0 else if l.length = 1 then 2 else 3
theorem dd_len : ∀ (F l : List Pt), l.length ≤ (F.foldl ddStep l).length
  | [], l => Nat.le_refl _
  | p :: r, l => by
    refine Nat.le_trans ?_ (dd_len r (ddStep l p))
    unfold ddStep
    split
    · exact Nat.le_refl _
    · simp
theorem dd_one : ∀ (F : List Pt) (p : Pt), ddI (F.foldl ddStep [p]) = if F.all (fun q => decide (q = p)) then 2 else 3
  | [], p => by simp [ddI]
  | q :: r, p => by
    by_cases h : q = p
    · have e : ddStep [p] q = [p] := by simp [ddStep, h]
      rw [List.foldl_cons, e, dd_one r p]
      simp [h]
    · have e : ddStep [p] q = [p, q] := by simp [ddStep, h]
      have k := dd_len r [p, q]
      rw [List.foldl_cons, e]
      simp only [List.all_cons, h, decide_false, Bool.false_and, Bool.false_eq_true, if_false]
      unfold ddI
      simp only [List.length_cons, List.length_nil] at k
      rw [if_neg (by omega), if_neg (by omega)]
theorem dd_cnt (F : List Pt) : ddI (dd F) = cnt F := by
  cases F with
  | nil => rfl
  | cons p r => exact dd_one r p
theorem dd_snoc (F : List Pt) (p : Pt) : dd (F ++ [p]) = ddStep (dd F) p := by unfold dd; rw [List.foldl_append]; rfl

theorem take_nth (a b c d : Pt) (i : Nat) (h : i < 4) (f : Pt → Bool) : ([a, b, c, d].take (i + 1)).filter f = ([a, b, c, d].take i).filter f ++ (if f (nth a b c d i) then [nth a b c d i] else []) := by
  rcases (by omega : i = 0 ∨ i = 1 ∨ i = 2 ∨ i = 3) with rfl | rfl | rfl | rfl
  · cases h1 : f a <;> simp [nth, h1]
  · cases h1 : f b <;> simp [nth, h1, List.filter_cons] <;> split <;> simp
  · cases h1 : f c <;> simp [nth, h1, List.filter_cons] <;> (repeat' split) <;> simp
  · cases h1 : f d <;> simp [nth, h1, List.filter_cons] <;> (repeat' split) <;> simp
theorem dd_le (a b c d : Pt) (i : Nat) (f : Pt → Bool) : (dd (([a, b, c, d].take i).filter f)).length ≤ 4 := by
  have h : ∀ (F l : List Pt), (F.foldl ddStep l).length ≤ l.length + F.length := by
    intro F
    induction F with
    | nil => intro l; simp
    | cons p r ih =>
      intro l
      have := ih (ddStep l p)
      have e : (ddStep l p).length ≤ l.length + 1 := by unfold ddStep; split <;> simp
      simp only [List.foldl_cons, List.length_cons]
      omega
  have h1 := h (([a, b, c, d].take i).filter f) []
  have h2 := List.length_filter_le f ([a, b, c, d].take i)
  have h3 : ([a, b, c, d].take i).length ≤ 4 := by simp; omega
  simp only [List.length_nil] at h1
  exact Nat.le_trans h1 (by omega)
theorem at_nth (a b c d : Pt) (i : Nat) : at' [a, b, c, d] i = nth a b c d i := rfl

theorem laterB {B : Nat} {w w' : World} {a : Addr} {v : Value} (hb : Below B w w') (h : w.cell? a = some v) (ha : a.block < B) : w'.cell? a = some v := by
  rw [hb.cell ha]; exact h
theorem Quad.laterB {B : Nat} {W W' : World} {g : Nat} {a b c d : Pt} (h : Quad W g a b c d) (hb : Below B W W') (hB : g + 1 + 1 + 1 < B) : Quad W' g a b c d := by
  obtain ⟨q0, q1, q2, q3, q4, q5, q6, q7⟩ := h
  have h0 : g < B := by omega
  have h1 : g + 1 < B := by omega
  have h2 : g + 1 + 1 < B := by omega
  exact ⟨Ytgnojjbdioldbaa.laterB hb q0 h0, Ytgnojjbdioldbaa.laterB hb q1 h0, Ytgnojjbdioldbaa.laterB hb q2 h1, Ytgnojjbdioldbaa.laterB hb q3 h1, Ytgnojjbdioldbaa.laterB hb q4 h2, Ytgnojjbdioldbaa.laterB hb q5 h2, Ytgnojjbdioldbaa.laterB hb q6 hB, Ytgnojjbdioldbaa.laterB hb q7 hB⟩
theorem Lies.laterB {B : Nat} {w w' : World} {b off : Nat} {ps : List Pt} (h : Lies w b off ps) (hb : Below B w w') (hB : b < B) : Lies w' b off ps :=
  fun j hj => ⟨Ytgnojjbdioldbaa.laterB hb (h j hj).1 hB, Ytgnojjbdioldbaa.laterB hb (h j hj).2 hB⟩
theorem Quad.lt {W : World} {g : Nat} {a b c d : Pt} (h : Quad W g a b c d) : g < W.heap.size ∧ g + 1 < W.heap.size ∧ g + 1 + 1 < W.heap.size ∧ g + 1 + 1 + 1 < W.heap.size :=
  ⟨block_lt_of_cell h.1, block_lt_of_cell h.2.2.1, block_lt_of_cell h.2.2.2.2.1, block_lt_of_cell h.2.2.2.2.2.2.1⟩
theorem take_more {l : List Pt} {k : Nat} (hk : k < l.length) (p : Pt) : (p ∉ l.take (k + 1)) ↔ (p ∉ l.take k ∧ at' l k ≠ p) := by
  rw [List.take_succ_eq_append_getElem hk, List.mem_append, List.mem_singleton]
  have : at' l k = l[k] := by unfold at'; rw [List.getD_eq_getElem?_getD, List.getElem?_eq_getElem hk]; rfl
  rw [this, eq_comm (a := p)]
  constructor
  · intro h; exact ⟨fun k => h (Or.inl k), fun k => h (Or.inr k)⟩
  · rintro ⟨h1, h2⟩ (h | h)
    · exact h1 h
    · exact h2 h

theorem fr_false {p x : Pt} {l : List Pt} {k : Nat} (h : false = decide (p ∉ l.take k)) (hM : (p ∉ l.take (k + 1)) ↔ (p ∉ l.take k ∧ x ≠ p)) : Hid (false = decide (p ∉ l.take (k + 1))) := by
  show false = _
  symm
  rw [decide_eq_false_iff_not, hM]
  intro k
  rw [decide_eq_true k.1] at h
  cases h
theorem fr_true {p x : Pt} {l : List Pt} {k : Nat} (h : true = decide (p ∉ l.take k)) (hM : (p ∉ l.take (k + 1)) ↔ (p ∉ l.take k ∧ x ≠ p)) : Hid ((!decide (x = p)) = decide (p ∉ l.take (k + 1))) := by
  show _ = _
  have h := of_decide_eq_true h.symm
  by_cases e : x = p
  · simp only [e, decide_true, Bool.not_true]
    symm
    rw [decide_eq_false_iff_not, hM]
    exact fun k => k.2 e
  · simp only [e, decide_false, Bool.not_false]
    symm
    rw [decide_eq_true_eq, hM]
    exact ⟨h, e⟩

set_option maxRecDepth 100000 in
set_option maxHeartbeats 4000000 in
theorem meet12 (a b c d : Pt) (ha : ptB a = true) (hb : ptB b = true) (hc : ptB c = true) (hd : ptB d = true) (w : World) : Calls Try.prog 12 #[pv a.x a.y, pv b.x b.y, pv c.x c.y, pv d.x d.y] w fun e w' => e = .returned (.int .i64 (meetI a b c d)) ∧ Below w.heap.size w w' := by
  have P := hide (nth_all a b c d ha hb hc hd)
  have H1 := hide (fun p hp w => on17 a b p ha hb hp w)
  have H2 := hide (fun p hp w => on17 c d p hc hd hp w)
  have T1 := hide (turn16 a b c ha hb hc)
  have T2 := hide (turn16 a b d ha hb hd)
  have T3 := hide (turn16 c d a hc hd ha)
  have T4 := hide (turn16 c d b hc hd hb)
  clear ha hb hc hd
  rw [meetI_is]
  obtain ⟨W, hW, hs, hb, q0, q1, q2, q3, q4, q5, q6, q7⟩ := quad w a b c d
  have HQ : Hid (Quad W w.heap.size a b c d) := ⟨q0, q1, q2, q3, q4, q5, q6, q7⟩
  have k0 := cell_regrown q0
  have k1 := cell_regrown q1
  have k2 := cell_regrown q2
  have k3 := cell_regrown q3
  have k4 := cell_regrown q4
  have k5 := cell_regrown q5
  have k6 := cell_regrown q6
  have k7 := cell_regrown q7
  have HB := hide hb
  clear hb q0 q1 q2 q3 q4 q5 q6 q7
  have c1 : ∀ dd os, Calls Try.prog 16 #[pv a.x a.y, pv b.x b.y, pv c.x c.y] (grow (redrawn W dd) os) fun e w'' => e = .returned (.int .i64 (turnI a b c)) ∧ ∃ p : Regrown, w'' = grow (redrawn W p.d) p.os := fun dd os => Calls.regrown_of (T1.out _)
  have c2 : ∀ dd os, Calls Try.prog 16 #[pv a.x a.y, pv b.x b.y, pv d.x d.y] (grow (redrawn W dd) os) fun e w'' => e = .returned (.int .i64 (turnI a b d)) ∧ ∃ p : Regrown, w'' = grow (redrawn W p.d) p.os := fun dd os => Calls.regrown_of (T2.out _)
  have c3 : ∀ dd os, Calls Try.prog 16 #[pv c.x c.y, pv d.x d.y, pv a.x a.y] (grow (redrawn W dd) os) fun e w'' => e = .returned (.int .i64 (turnI c d a)) ∧ ∃ p : Regrown, w'' = grow (redrawn W p.d) p.os := fun dd os => Calls.regrown_of (T3.out _)
  have c4 : ∀ dd os, Calls Try.prog 16 #[pv c.x c.y, pv d.x d.y, pv b.x b.y] (grow (redrawn W dd) os) fun e w'' => e = .returned (.int .i64 (turnI c d b)) ∧ ∃ p : Regrown, w'' = grow (redrawn W p.d) p.os := fun dd os => Calls.regrown_of (T4.out _)
  have g1 : decide (wrap64 (turnI a b c * turnI a b d) < 0) = partsB a b c d := by rw [turn_mul]; rfl
  have g2 : decide (wrap64 (turnI c d a * turnI c d b) < 0) = partsB c d a b := by rw [turn_mul]; rfl
  clear T1 T2 T3 T4
  cases p1 : partsB a b c d <;> cases p2 : partsB c d a b
  case true.true =>
    rw [p1] at g1
    rw [p2] at g2
    go_enter Try.func12, Try.ntmps12
    go_wp2_with fail
    rw [← hW]
    clear hW hs
    refine wp_region_quiet_below (by kernel_rfl) (by kernel_rfl) ?_
    repeat (go_big_quiet_step (first | with_reducible exact c1 _ _ | with_reducible exact c2 _ _ | with_reducible exact c3 _ _ | with_reducible exact c4 _ _))
    refine wpQuiet_nil ?_
    intro wq hw'
    have HBW : Hid (Below W.heap.size W wq) := by
      obtain ⟨⟨dq, osq⟩, hw''⟩ := hw'
      rw [hw'']
      exact below_regrown W dq osq
    clear hw' c1 c2 c3 c4 k0 k1 k2 k3 k4 k5 k6 k7
    have HB0 := hide (Below.trans HB.out (HBW.out.mono HB.out.size))
    have HQ0 := hide (HQ.out.later HBW.out)
    clear HBW HB HQ
    obtain ⟨q0, q1, q2, q3, q4, q5, q6, q7⟩ := HQ0.out
    go_wp2_with fail
    go_ret
    exact ⟨rfl, HB0.out⟩
  all_goals
    rw [p1] at g1
    rw [p2] at g2
    go_enter Try.func12, Try.ntmps12
    go_wp2_with fail
    rw [← hW]
    clear hW hs
    refine wp_region_quiet_below (by kernel_rfl) (by kernel_rfl) ?_
    repeat (go_big_quiet_step (first | with_reducible exact c1 _ _ | with_reducible exact c2 _ _ | with_reducible exact c3 _ _ | with_reducible exact c4 _ _))
    refine wpQuiet_nil ?_
    intro wq hw'
    have HBW : Hid (Below W.heap.size W wq) := by
      obtain ⟨⟨dq, osq⟩, hw''⟩ := hw'
      rw [hw'']
      exact below_regrown W dq osq
    clear hw' c1 c2 c3 c4 k0 k1 k2 k3 k4 k5 k6 k7
    have HB0 := hide (Below.trans HB.out (HBW.out.mono HB.out.size))
    have HQ0 := hide (HQ.out.later HBW.out)
    clear HBW HB HQ
    obtain ⟨q0, q1, q2, q3, q4, q5, q6, q7⟩ := HQ0.out
    go_wp2_with fail
    obtain ⟨i0, hi0, hz0, hz1, hz2⟩ := info_parts info23
    obtain ⟨V, hV⟩ : ∃ V, V = wq.alloc (row4 a b c d) := ⟨_, rfl⟩
    have hVs : V.heap.size = wq.heap.size + 1 := by rw [hV]; simp
    have HL : Hid (Lies V wq.heap.size 0 [a, b, c, d]) := by
      rcases has4 wq wq.heap.size rfl a b c d with h | ⟨b', off', h, hl⟩
      · cases h
      · cases h; rw [hV]; exact hl
    have HBV : Hid (Below w.heap.size w V) := by rw [hV]; exact Below.trans HB0.out (by have := HB0.out.size; go_grown)
    have HQV : Hid (Quad V w.heap.size a b c d) := by rw [hV]; exact HQ0.out.later (by go_grown)
    rw [← hV]
    have hq3 : w.heap.size + 1 + 1 + 1 < wq.heap.size + 1 := by rw [← hVs]; exact HQV.out.lt.2.2.2
    clear hV HB0 HQ0 q0 q1 q2 q3 q4 q5 q6 q7
    go_loopw [9, 11] (fun v t wr => ∃ (i : Nat) (l : List Pt), i ≤ 4 ∧ t = .int .i64 i ∧ Hid (l = dd (([a, b, c, d].take i).filter (bothB a b c d))) ∧ Hid (Owns wr (wq.heap.size + 1) v l) ∧ Hid (Below w.heap.size w wr) ∧ Hid (Quad wr w.heap.size a b c d) ∧ Hid (Lies wr wq.heap.size 0 [a, b, c, d]) ∧ Hid (wq.heap.size + 1 ≤ wr.heap.size)) (fun _ t _ => 4 - (intOf t).toNat)
    case atStart => exact ⟨0, [], by omega, rfl, rfl, Owns.nil _ _, HBV.out, HQV.out, HL.out, by show _ ≤ _; omega⟩
    case round =>
      obtain ⟨i, l, hi, rfl, HE, HO, HB, HQ, HLr, HVr⟩ := hrel
      obtain ⟨p0, cap, rfl, hHas, hcap, hnone, hsome⟩ := HO.out.form
      have hl4 : l.length ≤ 4 := by rw [HE.out]; exact dd_le a b c d i _
      by_cases h4 : i < 4
      · obtain ⟨c0, c1⟩ := HLr.out i h4
        rw [at_nth, Nat.zero_add] at c0 c1
        have hp := P.out i h4
        have hT := hide (take_nth a b c d i h4 (bothB a b c d))
        obtain ⟨p, hpd⟩ : ∃ p, nth a b c d i = p := ⟨_, rfl⟩
        rw [hpd] at c0 c1 hp hT
        clear hpd
        have C1 := H1.out p hp
        have C2 := H2.out p hp
        obtain ⟨q0, q1, q2, q3, q4, q5, q6, q7⟩ := HQ.out
        obtain ⟨z0, z1, z2, z3⟩ := HQ.out.lt
        cases h1 : hasB a b p
        · rw [h1] at C1
          have C1' := hide C1
          clear C1 C2
          go_wp2_with fail
          refine (C1'.out _).mono ?_
          rintro e w' ⟨rfl, hb0⟩
          have hb := hide (below_alloc hb0)
          clear hb0
          go_wp2
          go_roundw
          case rel => exact ⟨i + 1, l, by omega, by go_num, by rw [hT.out, if_neg (by simp [bothB, h1]), List.append_nil]; exact HE, HO.out.later hb.out, Below.trans HB.out (hb.out.mono HB.out.size), HQ.out.later hb.out, HLr.out.later hb.out, Nat.le_trans HVr.out hb.out.size⟩
          case measure => simp [intOf]; omega
        · rw [h1] at C1
          cases h2 : hasB c d p
          · rw [h2] at C2
            have C1' := hide C1
            have C2' := hide C2
            clear C1 C2
            go_wp2_with fail
            refine (C1'.out _).mono ?_
            rintro e w' ⟨rfl, hb0⟩
            obtain ⟨f0, f1⟩ := fresh hb0
            have hb := hide (below_alloc hb0)
            obtain ⟨r0, r1, r2, r3, r4, r5, r6, r7⟩ := HQ.out.later hb.out
            clear hb0
            go_wp2_with fail
            refine (C2'.out _).mono ?_
            rintro e w'' ⟨rfl, hb2⟩
            have hb' := hide (Below.trans hb.out (hb2.mono hb.out.size))
            clear hb2
            go_wp2
            go_roundw
            case rel => exact ⟨i + 1, l, by omega, by go_num, by rw [hT.out, if_neg (by simp [bothB, h2]), List.append_nil]; exact HE, HO.out.later hb'.out, Below.trans HB.out (hb'.out.mono HB.out.size), HQ.out.later hb'.out, HLr.out.later hb'.out, Nat.le_trans HVr.out hb'.out.size⟩
            case measure => simp [intOf]; omega
          · rw [h2] at C2
            have C1' := hide C1
            have C2' := hide C2
            clear C1 C2
            go_wp2_with fail
            refine (C1'.out _).mono ?_
            rintro e w' ⟨rfl, hb0⟩
            obtain ⟨f0, f1⟩ := fresh hb0
            have hb := hide (below_alloc hb0)
            obtain ⟨r0, r1, r2, r3, r4, r5, r6, r7⟩ := HQ.out.later hb.out
            clear hb0
            go_wp2_with fail
            refine (C2'.out _).mono ?_
            rintro e w'' ⟨rfl, hb2⟩
            have hb' := hide (Below.trans hb.out (hb2.mono hb.out.size))
            have HF : Hid (w''.cell? ⟨wr.heap.size, 0, none⟩ = some (.int .i64 p.x) ∧ w''.cell? ⟨wr.heap.size, 1, none⟩ = some (.int .i64 p.y)) := ⟨later hb2 f0, later hb2 f1⟩
            have HH : Hid (Has w'' p0 l) := hHas.later hb'.out
            clear hb2 f0 f1 r0 r1 r2 r3 r4 r5 r6 r7 q0 q1 q2 q3 q4 q5 q6 q7 c0 c1 hHas
            go_wp2_with fail
            go_loopw [13, 14] (fun f t wk => ∃ (k : Nat) (fr : Bool), k ≤ l.length ∧ t = .int .i64 k ∧ f = .bool fr ∧ Hid (fr = decide (p ∉ l.take k)) ∧ Hid (Below w''.heap.size w'' wk)) (fun _ t _ => l.length - (intOf t).toNat)
            case atStart => exact ⟨0, true, by omega, rfl, rfl, by show true = _; simp, Below.refl _ _⟩
            case round =>
              obtain ⟨k, fr, hk, rfl, rfl, HF2, HBk⟩ := hrel
              by_cases hkl : k < l.length
              · rcases HH.out with h | ⟨b', off', rfl, hl⟩
                · subst h; simp at hkl
                obtain ⟨rfl, _, hg1, hg2⟩ := hsome _ rfl
                obtain ⟨c0, c1⟩ := hl.later HBk.out k hkl
                rw [Nat.zero_add] at c0 c1
                obtain ⟨x, hx⟩ : ∃ x, at' l k = x := ⟨_, rfl⟩
                rw [hx] at c0 c1
                have f0 := later HBk.out HF.out.1
                have f1 := later HBk.out HF.out.2
                have heq := eq23 x p
                have e1 : (k : Int) < l.length := by omega
                have hM := hide (take_more hkl p)
                rw [hx] at hM
                clear hl
                cases fr
                · go_wp2_with fail
                  go_quiet (fail)
                  go_wp2
                  go_roundw
                  case rel => exact ⟨k + 1, false, by omega, by go_num, rfl, fr_false HF2.out hM.out, below_drewN HBk.out⟩
                  case measure => simp [intOf]; omega
                · go_wp2_with fail
                  go_quiet (fail)
                  go_wp2
                  go_roundw
                  case rel => exact ⟨k + 1, !decide (x = p), by omega, by go_num, rfl, fr_true HF2.out hM.out, below_drewN HBk.out⟩
                  case measure => simp [intOf]; omega
              · have hkl' : k = l.length := by omega
                subst hkl'
                have HF3 : Hid (fr = decide (p ∉ l)) := by have := HF2.out; rw [List.take_length] at this; exact this
                clear HF2
                have HOk := hide (HO.out.later (Below.trans hb'.out (HBk.out.mono hb'.out.size)))
                have f0 := later HBk.out HF.out.1
                have f1 := later HBk.out HF.out.2
                have hwq : wq.heap.size + 1 ≤ wr.heap.size := Nat.le_trans HVr.out (Nat.le_trans hb'.out.size HBk.out.size)
                have hsz := hide (HBk.out.size)
                have hsz2 := hide (hb'.out.size)
                cases fr
                · have hm : p ∈ l := by have := HF3.out; simpa using this.symm
                  have HBall := hide (Below.trans hb'.out (HBk.out.mono hb'.out.size))
                  go_wp2
                  go_roundw
                  case rel =>
                    exact ⟨i + 1, l, by omega, by go_num, by show l = _; rw [hT.out, if_pos (by simp [bothB, h1, h2]), dd_snoc, ← HE.out, ddStep, if_pos hm], HOk.out, Below.trans HB.out (HBall.out.mono HB.out.size), HQ.out.later HBall.out, HLr.out.later HBall.out, by have := HBall.out.size; show _ ≤ _; omega⟩
                  case measure => simp [intOf]; omega
                · have hm : p ∉ l := by have := HF3.out; simpa using this.symm
                  have HBall := hide (Below.trans hb'.out (HBk.out.mono hb'.out.size))
                  have hOW : wr.ownsRow (wq.heap.size + 1) 23 2 (.slice p0 l.length cap) l.length (cells l) := HOk.out
                  go_wp2_with (at_builtin; refine wpList_append_own _ rfl _ _ 27 rfl (wq.heap.size + 1) 23 i0 (.agg #[.int .i64 0, .int .i64 0]) 2 16 Try.underlying27 hi0 hz0 hz1 hz2 rfl (by decide) _ _ _ rfl (World.ownsRow.alloc hOW _) ⟨wr.heap.size, 0, none⟩ 1 1 [.int .i64 p.x, .int .i64 p.y] rfl rfl ?c1 ?c2 ?c3 ?c4 ?c5 ?_)
                  case c1 =>
                    intro j u hj
                    match j, hj with
                    | 0, hj => simp at hj; subst hj; simp [Addr.add]
                    | 1, hj => simp at hj; subst hj; simp [Addr.add]
                  case c2 => intro u hu; simp at hu; rcases hu with rfl | rfl <;> rfl
                  case c3 => unfold maxLen; omega
                  case c4 => omega
                  case c5 => simp; omega
                  intro v' w1 hown' hgrow _
                  have ho := hide (owns_more hown')
                  have hbg : Below (wq.heap.size + 1) wr w1 := below_grown (w := wr.alloc (bx p)) (by go_grown) (World.ownsRow.alloc hOW _) (Nat.le_refl _) (by simp; omega) hgrow
                  have HBg := hide hbg
                  clear hown' hgrow hbg hOW
                  go_wp2
                  go_roundw
                  case rel =>
                    have hs1 := HBall.out.size
                    have hs2 := HBg.out.size
                    exact ⟨i + 1, l ++ [p], by omega, by go_num, by show l ++ [p] = _; rw [hT.out, if_pos (by simp [bothB, h1, h2]), dd_snoc, ← HE.out, ddStep, if_neg hm], ho.out, Below.trans (Below.trans HB.out (HBall.out.mono HB.out.size)) (HBg.out.mono (by omega)), (HQ.out.later HBall.out).laterB HBg.out (by omega), (HLr.out.later HBall.out).laterB HBg.out (by omega), by show _ ≤ _; omega⟩
                  case measure => simp [intOf]; omega
      · have hi4 : i = 4 := by omega
        subst hi4
        have HR : Hid (ddI l = cnt ([a, b, c, d].filter (bothB a b c d))) := by show _ = _; rw [HE.out, dd_cnt]; rfl
        clear HE
        by_cases l0 : l.length = 0
        · have l0' : ((l.length : Int) == 0) = true := by simp [l0]
          go_wp2
          go_ret
          exact ⟨retI (by rw [← HR.out, ddI, if_pos l0]), HB.out⟩
        · have l0' : ((l.length : Int) == 0) = false := by rw [beq_eq_false_iff_ne]; omega
          by_cases l1 : l.length = 1
          · have l1' : ((l.length : Int) == 1) = true := by simp [l1]
            go_wp2
            go_ret
            exact ⟨retI (by rw [← HR.out, ddI, if_neg l0, if_pos l1]), HB.out⟩
          · have l1' : ((l.length : Int) == 1) = false := by rw [beq_eq_false_iff_ne]; omega
            go_wp2
            go_ret
            exact ⟨retI (by rw [← HR.out, ddI, if_neg l0, if_neg l1]), HB.out⟩
end Go.Proofs.Ytgnojjbdioldbaa
