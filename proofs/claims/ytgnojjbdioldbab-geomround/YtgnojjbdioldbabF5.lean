/- GeomRound answers true to every point and list of points, in every world. -/
import Derived.Test.YtgnojjbdioldbabG18
namespace Go.Proofs.Ytgnojjbdioldbab
open Go.RowKit Go.Sort Go.Proofs
open Go Go.BigFrame

def halfO (o p : Pt) : Int := halfI (stepP o p)
theorem half12 (o p : Pt) (w : World) : Calls Try.prog 12 #[pv o.x o.y, pv p.x p.y] w fun e w' => e = .returned (.int .i64 (halfO o p)) ∧ Below w.heap.size w w' := by
  by_cases h1 : o.x < p.x
  · go_enter Try.func12, Try.ntmps12
    go_wp2
    all_goals go_ret
    all_goals exact ⟨retI (by unfold halfO halfI stepP; rw [if_pos (by simp only; omega)]), by go_grown⟩
  · by_cases h2 : p.x = o.x
    · have h2' : (p.x == o.x) = true := by simp [h2]
      by_cases h3 : o.y < p.y
      · go_enter Try.func12, Try.ntmps12
        go_wp2
        all_goals go_ret
        all_goals exact ⟨retI (by unfold halfO halfI stepP; rw [if_pos (by simp only; omega)]), by go_grown⟩
      · go_enter Try.func12, Try.ntmps12
        go_wp2
        all_goals go_ret
        all_goals exact ⟨retI (by unfold halfO halfI stepP; rw [if_neg (by simp only; omega)]), by go_grown⟩
    · have h2' : (p.x == o.x) = false := by simp [h2]
      go_enter Try.func12, Try.ntmps12
      go_wp2
      all_goals go_ret
      all_goals exact ⟨retI (by unfold halfO halfI stepP; rw [if_neg (by simp only; omega)]), by go_grown⟩
theorem turn_step (o a b : Pt) : turnI o a b = sgn (crossP (stepP o a) (stepP o b)) := by unfold turnI crossI crossP stepP; rfl
/-- What follows from one place being ahead of the other. -/
theorem ahead_is {o : Pt} {ps : List Pt} {i j : Nat} (h : fullLt o ps i j) : halfO o (at' ps i) ≤ halfO o (at' ps j) ∧ (halfO o (at' ps i) = halfO o (at' ps j) → turnI o (at' ps i) (at' ps j) ≤ 0) := by
  unfold halfO
  rw [turn_step]
  unfold fullLt dirLt dirEq at h
  refine ⟨by omega, fun e => ?_⟩
  have hc : crossP (stepP o (at' ps i)) (stepP o (at' ps j)) ≤ 0 := by omega
  unfold sgn
  rw [if_neg (by omega)]
  split <;> omega
theorem info4 : (Try.prog.info? 4).map (fun i => (i.zero, i.size, i.bytes)) = some (some (.bool false), 1, 1) := by kernel_rfl

theorem boxed1 (w : World) (o : Pt) : ∃ W, W = w.alloc (bx o) ∧ Below w.heap.size w W ∧ Own W w.heap.size o :=
  ⟨_, rfl, by go_grown, by go_cell, by go_cell, by simp [go_sem], by simp [go_sem]⟩
/-- Which places are marked. -/
def Seen (W : World) (g n : Nat) (l : List Nat) : Prop := ∀ k, k < n → W.cell? ⟨g, k, none⟩ = some (.bool (decide (k ∈ l))) ∧ W.frozen? ⟨g, k, none⟩ = false
theorem Seen.later {W W' : World} {g n : Nat} {l : List Nat} (h : Seen W g n l) (hb : Below W.heap.size W W') : Seen W' g n l :=
  fun k hk => ⟨Ytgnojjbdioldbab.later hb (h k hk).1, by rw [hb.frozen (block_lt_of_cell (h k hk).1)]; exact (h k hk).2⟩
theorem IntsAt.later {W W' : World} {g : Nat} {l : List Nat} (h : IntsAt W g l) (hb : Below W.heap.size W W') : IntsAt W' g l :=
  fun j hj => Ytgnojjbdioldbab.later hb (h j hj)
theorem orient13' {a b c : Pt} (ha : ptB a = true) (hb : ptB b = true) (hc : ptB c = true) (w : World) : Calls Try.prog 13 #[pv a.x a.y, pv b.x b.y, pv c.x c.y] w fun e w' => e = .returned (.tuple #[.int .i64 (turnI a b c), .int .i64 0]) ∧ Below w.heap.size w w' := by
  have h := orient13 a b c w
  have hm : mayB [a, b, c] = true := by simp [mayB, ha, hb, hc]
  rw [show errI [a, b, c] = 0 by simp [errI, hm], orientI, if_pos hm] at h
  exact h

theorem getD_at {l : List Nat} {i : Nat} (h : i < l.length) : l.getD i 0 = l[i] := by rw [List.getD_eq_getElem?_getD, List.getElem?_eq_getElem h]; rfl
theorem not_taken {l : List Nat} (hn : l.Nodup) {i : Nat} (h : i < l.length) : l.getD i 0 ∉ l.take i := by
  rw [getD_at h]
  intro k
  obtain ⟨j, hj, e⟩ := List.getElem_of_mem k
  rw [List.getElem_take] at e
  have hj' : j < i := by simp at hj; omega
  exact List.pairwise_iff_getElem.1 hn j i (by omega) h hj' e
theorem mem_take_succ {l : List Nat} {i : Nat} (h : i < l.length) {k : Nat} : k ∈ l.take (i + 1) ↔ k ∈ l.take i ∨ k = l.getD i 0 := by
  rw [List.take_succ_eq_append_getElem h, List.mem_append, List.mem_singleton, getD_at h]
theorem pair_at {l : List Nat} {R : Nat → Nat → Prop} (hp : l.Pairwise R) {k : Nat} (h : k + 1 < l.length) : R (l.getD k 0) (l.getD (k + 1) 0) := by
  rw [getD_at h, getD_at (by omega)]
  exact List.pairwise_iff_getElem.1 hp k (k + 1) (by omega) h (by omega)

def Six (W : World) (g b off k u v : Nat) (x y : Pt) : Prop := W.cell? ⟨g, k, none⟩ = some (.int .i64 u) ∧ W.cell? ⟨g, k + 1, none⟩ = some (.int .i64 v) ∧ W.cell? ⟨b, off + u * 2, none⟩ = some (.int .i64 x.x) ∧ W.cell? ⟨b, off + u * 2 + 1, none⟩ = some (.int .i64 x.y) ∧ W.cell? ⟨b, off + v * 2, none⟩ = some (.int .i64 y.x) ∧ W.cell? ⟨b, off + v * 2 + 1, none⟩ = some (.int .i64 y.y)
theorem Six.later {W W' : World} {g b off k u v : Nat} {x y : Pt} (h : Six W g b off k u v x y) (hb : Below W.heap.size W W') : Six W' g b off k u v x y :=
  ⟨Ytgnojjbdioldbab.later hb h.1, Ytgnojjbdioldbab.later hb h.2.1, Ytgnojjbdioldbab.later hb h.2.2.1, Ytgnojjbdioldbab.later hb h.2.2.2.1, Ytgnojjbdioldbab.later hb h.2.2.2.2.1, Ytgnojjbdioldbab.later hb h.2.2.2.2.2⟩

theorem below_step0 {a b c : World} (h : Below a.heap.size a b) (k : Below b.heap.size b c) : Below a.heap.size a c := Below.trans h (k.mono h.size)

set_option maxRecDepth 100000 in
set_option maxHeartbeats 8000000 in
theorem round_walk (o : Pt) (p : Option Addr) (ps : List Pt) (cap : Nat) (w : World) (h : Has w p ps) : Calls Try.prog 5 #[pv o.x o.y, .slice p ps.length cap] w fun e w' => e = .returned (.bool true) ∧ Below w.heap.size w w' := by
  obtain ⟨W, hW, hb, q⟩ := boxed1 w o
  have HB := hide hb
  have HQ := hide q
  have HH := hide (h.later hb)
  clear hb q h
  cases hok : arB o ps
  · go_enter Try.func5, Try.ntmps5
    go_wp2_with fail
    rw [← hW]
    clear hW
    refine (begun9 _).mono ?_
    rintro e w1 ⟨rfl, hb⟩
    have A := hide (around20no p ps cap o w1 (HH.out.later hb) hok)
    replace HB := below_step HB hb
    replace HQ := hide (HQ.out.later hb)
    clear hb
    obtain ⟨q0, q1, _, _⟩ := HQ.out
    go_wp2_with fail
    refine A.out.mono ?_
    rintro e w2 ⟨rfl, hb⟩
    replace HB := below_step HB hb
    clear hb
    go_wp2
    go_ret
    exact ⟨rfl, HB.out⟩
  · have hok' : (ptB o = true ∧ mayB ps = true) ∧ o ∉ ps := by simpa [arB] using hok
    obtain ⟨⟨ho, hm⟩, hno⟩ := hok'
    have hl := mayB_len hm
    obtain ⟨i0, hi0, hz0, hz1, hz2⟩ := info_parts info4
    go_enter Try.func5, Try.ntmps5
    go_wp2_with fail
    rw [← hW]
    clear hW
    refine (begun9 _).mono ?_
    rintro e w1 ⟨rfl, hb⟩
    have A := hide (around20 p ps cap o w1 (HH.out.later hb) hok)
    replace HB := below_step HB hb
    replace HQ := hide (HQ.out.later hb)
    replace HH := hide (HH.out.later hb)
    clear hb
    obtain ⟨q0, q1, _, _⟩ := HQ.out
    go_wp2_with fail
    refine A.out.mono ?_
    rintro e w2 ⟨g, l, rfl, l1, l2, l3, l4, _, hb⟩
    replace HB := below_step HB hb
    replace HQ := hide (HQ.out.later hb)
    replace HH := hide (HH.out.later hb)
    have HI := hide l4
    have HN : Hid l.Nodup := l2.nodup_iff.2 List.nodup_range
    have HM : Hid (∀ j, j < l.length → l.getD j 0 < ps.length) := fun j hj => by
      have : l.getD j 0 ∈ l := by rw [List.getD_eq_getElem?_getD, List.getElem?_eq_getElem hj]; exact List.getElem_mem hj
      exact List.mem_range.1 (l2.mem_iff.1 this)
    have HP := hide l3
    clear hb q0 q1 l2 l3 l4 A
    by_cases h60 : ps.length ≤ 60
    · go_wp2_with (refine wpList_make_full _ rfl (.tmp 37) (.tmp 37) 38 rfl w2.heap.size 4 i0 (.bool false) 1 Try.underlying38 hi0 hz0 hz1 .i64 .i64 _ _ ps.length rfl rfl rfl rfl ?c1 ?c2 ?c3 ?_)
      case c1 => rw [hz2]; omega
      case c2 => unfold maxLen; omega
      case c3 => exact Nat.le_refl _
      intro w3 hown hgrow
      rw [toList_madeCells_one] at hown
      have HS : Hid (Seen w3 w2.heap.size ps.length []) := fun k hk => ⟨by rw [World.ownsRow.cellAt hown k (by omega), List.getElem?_replicate, if_pos hk]; simp, World.ownsRow.frozenAt hown k⟩
      have hb3 : Below w2.heap.size w2 w3 := ⟨hgrow.os, hgrow.tape, hgrow.output, hgrow.size, fun k hk => hgrow.block k hk (by simp)⟩
      have HG1 : Hid (w.heap.size < w2.heap.size) := block_lt_of_cell HQ.out.1
      have HG2 : Hid (∀ j, j < l.length → g < w2.heap.size) := fun j hj => block_lt_of_cell (HI.out j hj)
      have HG3 : Hid (∀ b off, p = some ⟨b, off, none⟩ → Lies w2 b off ps → 0 < ps.length → b < w2.heap.size) := fun b off _ hL hpos => block_lt_of_cell (hL 0 hpos).1
      have HH2 := HH
      replace HB := below_step HB hb3
      replace HQ := hide (HQ.out.later hb3)
      replace HH := hide (HH.out.later hb3)
      replace HI := hide (HI.out.later hb3)
      clear hown hgrow hb3
      go_wp2_with fail
      go_loopw [8] (fun t wr => ∃ i : Nat, i ≤ ps.length ∧ t = .int .i64 i ∧ Hid (Below w.heap.size w wr) ∧ Hid (Own wr w.heap.size o) ∧ Hid (Has wr p ps) ∧ Hid (IntsAt wr g l) ∧ Hid (Seen wr w2.heap.size ps.length (l.take i))) (fun t _ => ps.length - (intOf t).toNat)
      case atStart => exact ⟨0, by omega, rfl, HB.out, HQ.out, HH.out, HI.out, by show Seen _ _ _ _; simpa using HS.out⟩
      case round =>
        obtain ⟨i, hi, rfl, HBr, HQr, HHr, HIr, HSr⟩ := hrel
        by_cases hlt : i < ps.length
        · have hv := HM.out i (by omega)
          have c0 := HIr.out i (by omega)
          have hnot : l.getD i 0 ∉ l.take i := not_taken HN.out (by omega)
          have htk : Hid (∀ k, k ∈ l.take (i + 1) ↔ k ∈ l.take i ∨ k = l.getD i 0) := fun k => mem_take_succ (by omega)
          have hahead : Hid (∀ k, i = k + 1 → fullLt o ps (l.getD k 0) (l.getD i 0)) := fun k hk => by
            subst hk
            exact pair_at HP.out (by omega)
          obtain ⟨v, hvd⟩ : ∃ v, l.getD i 0 = v := ⟨_, rfl⟩
          rw [hvd] at hv c0 hnot htk hahead
          obtain ⟨s0, s1⟩ := HSr.out v hv
          rw [decide_eq_false hnot] at s0
          clear hnot
          obtain ⟨Z, hZ⟩ : ∃ Z, Z = wr.setCell ⟨w2.heap.size, v, none⟩ (.bool true) := ⟨_, rfl⟩
          have hbZ : Below w2.heap.size wr Z := by
            rw [hZ]
            refine RowKit.Below.setCell (RowKit.Below.refl _ _) ?_ _
            exact Nat.le_refl _
          have ZB : Hid (Below w.heap.size w Z) := Below.trans HBr.out (hbZ.mono (Nat.le_of_lt HG1.out))
          have ZQ : Hid (Own Z w.heap.size o) := ⟨laterB' hbZ HQr.out.1 HG1.out, laterB' hbZ HQr.out.2.1 HG1.out, by rw [hbZ.frozen (by exact HG1.out)]; exact HQr.out.2.2.1, by rw [hbZ.frozen (by exact HG1.out)]; exact HQr.out.2.2.2⟩
          have ZI : Hid (IntsAt Z g l) := fun j hj => laterB' hbZ (HIr.out j hj) (HG2.out j hj)
          have ZH : Hid (Has Z p ps) := by
            rcases HHr.out with h | ⟨b, off, h, hL⟩
            · exact Or.inl h
            · rcases HH2.out with h' | ⟨b', off', h', hL'⟩
              · exact Or.inl h'
              · rw [h] at h'
                cases h'
                exact Or.inr ⟨b, off, h, fun j hj => ⟨laterB' hbZ (hL j hj).1 (HG3.out b off h hL' (by omega)), laterB' hbZ (hL j hj).2 (HG3.out b off h hL' (by omega))⟩⟩
          have ZS : Hid (Seen Z w2.heap.size ps.length (l.take (i + 1))) := by
            intro k hk
            have h' := HSr.out k hk
            rw [hZ, World.frozen?_setCell]
            refine ⟨?_, h'.2⟩
            by_cases e : k = v
            · subst e
              rw [World.cell?_setCell_same _ _ _ s0, decide_eq_true ((htk.out k).2 (Or.inr rfl))]
            · rw [World.cell?_setCell_other _ _ _ _ (by intro x; injection x with x1 x2; exact e x2.symm), h'.1]
              congr 2
              apply decide_eq_decide.2
              rw [htk.out k]
              exact ⟨Or.inl, fun x => x.resolve_right e⟩
          clear hbZ HH2
          have e1 : (i : Int) < ps.length := by omega
          have e2 : (v : Int) < ps.length := by omega
          cases i with
          | zero =>
            go_wp2_with fail
            rw [← hZ]
            go_roundw
            case rel => exact ⟨1, by omega, rfl, ZB.out, ZQ.out, ZH.out, ZI.out, ZS.out⟩
            case measure => simp [intOf]; omega
          | succ k =>
            have hu := HM.out k (by omega)
            have d0 := ZI.out (k + 1) (by omega)
            have d1 := ZI.out k (by omega)
            have FL := hide (hahead.out k rfl)
            rw [hvd] at d0
            obtain ⟨u, hud⟩ : ∃ u, l.getD k 0 = u := ⟨_, rfl⟩
            rw [hud] at hu d1 FL
            have AH := hide (ahead_is FL.out)
            rcases ZH.out with h | ⟨b, off, rfl, hL⟩
            · subst h; simp at hlt
            obtain ⟨a0, a1⟩ := hL u hu
            obtain ⟨b0, b1⟩ := hL v hv
            have pa := mayB_at hm hu
            have pb := mayB_at hm hv
            obtain ⟨x, hx⟩ : ∃ x, at' ps u = x := ⟨_, rfl⟩
            obtain ⟨y, hy⟩ : ∃ y, at' ps v = y := ⟨_, rfl⟩
            rw [hx] at a0 a1 pa AH
            rw [hy] at b0 b1 pb AH
            have O := hide (fun w => orient13' ho pa pb w)
            have H1 := hide (fun w => half12 o x w)
            have H2 := hide (fun w => half12 o y w)
            have e3 : (0 : Int) ≤ k := by omega
            have e4 : IntKind.i64.wrap (k : Int) = k := IntWalk.i64_in _ (by omega)
            have e5 : (k : Int) < ps.length := by omega
            have e6 : (k : Int) + 1 < ps.length := by omega
            have e7 : (u : Int) < ps.length := by omega
            have e8 : (0 : Int) ≤ u := by omega
            have e9 : (0 : Int) ≤ v := by omega
            have ea : (0 : Int) ≤ (k : Int) + 1 := by omega
            have S1 : Hid (Six Z g b off k u v x y) := ⟨d1, d0, a0, a1, b0, b1⟩
            clear hL FL pa pb hx hy hahead htk hvd hud d0 d1 a0 a1 b0 b1
            rw [show (((k + 1 : Nat) : Int)) = (k : Int) + 1 by omega] at e1 ⊢
            go_wp2_with fail
            rw [← hZ]
            clear hZ s0 s1 HSr HQr HIr HHr HBr c0
            go_region_held3 (fun W => W.cell? ⟨g, k, none⟩ = some (.int .i64 u) ∧ W.cell? ⟨g, k + 1, none⟩ = some (.int .i64 v) ∧ W.cell? ⟨b, off + u * 2, none⟩ = some (.int .i64 x.x) ∧ W.cell? ⟨b, off + u * 2 + 1, none⟩ = some (.int .i64 x.y) ∧ W.cell? ⟨b, off + v * 2, none⟩ = some (.int .i64 y.x) ∧ W.cell? ⟨b, off + v * 2 + 1, none⟩ = some (.int .i64 y.y))
              (first | exact S1.out | (refine Six.later (W := Z) S1.out ?_; go_grown))
              (first | fail)
            focus
              obtain ⟨U, hU⟩ : ∃ U, U = ((Z.alloc (bx x)).alloc (bx y)).drew := ⟨_, rfl⟩
              obtain ⟨ga, hga⟩ : ∃ n, n = Z.heap.size := ⟨_, rfl⟩
              obtain ⟨gb, hgb⟩ : ∃ n, n = Z.heap.size + 1 := ⟨_, rfl⟩
              have hbU : Below Z.heap.size Z U := by rw [hU]; go_grown
              have u0 : U.cell? ⟨ga, 0, none⟩ = some (.int .i64 x.x) := by rw [hU, hga]; go_cell
              have u1 : U.cell? ⟨ga, 1, none⟩ = some (.int .i64 x.y) := by rw [hU, hga]; go_cell
              have u2 : U.cell? ⟨gb, 0, none⟩ = some (.int .i64 y.x) := by rw [hU, hgb]; go_cell
              have u3 : U.cell? ⟨gb, 1, none⟩ = some (.int .i64 y.y) := by rw [hU, hgb]; go_cell
              rename_i hHeld
              clear hHeld
              rw [← hU]
              rw [← hgb, ← hga]
              clear hU hga hgb
            rotate_left
            focus
              obtain ⟨U, hU⟩ : ∃ U, U = ((Z.alloc (bx y)).alloc (bx x)).drew := ⟨_, rfl⟩
              obtain ⟨ga, hga⟩ : ∃ n, n = Z.heap.size + 1 := ⟨_, rfl⟩
              obtain ⟨gb, hgb⟩ : ∃ n, n = Z.heap.size := ⟨_, rfl⟩
              have hbU : Below Z.heap.size Z U := by rw [hU]; go_grown
              have u0 : U.cell? ⟨ga, 0, none⟩ = some (.int .i64 x.x) := by rw [hU, hga]; go_cell
              have u1 : U.cell? ⟨ga, 1, none⟩ = some (.int .i64 x.y) := by rw [hU, hga]; go_cell
              have u2 : U.cell? ⟨gb, 0, none⟩ = some (.int .i64 y.x) := by rw [hU, hgb]; go_cell
              have u3 : U.cell? ⟨gb, 1, none⟩ = some (.int .i64 y.y) := by rw [hU, hgb]; go_cell
              rename_i hHeld
              clear hHeld
              rw [← hU]
              rw [← hga, ← hgb]
              clear hU hga hgb
            rotate_left
            all_goals
              have hle := AH.out.1
              have hs2 := AH.out.2
              have f2 : decide (halfO o y < halfO o x) = false := by simp; omega
              cases hr : (halfO o x == halfO o y)
              all_goals
                have q0 := later hbU ZQ.out.1
                have q1 := later hbU ZQ.out.2.1
                have f1 : ((halfO o x == halfO o y) = true) → decide (0 < turnI o x y) = false := fun h => by have := hs2 (by simpa using h); simp; omega
                rw [hr] at f1
                simp only [true_implies, Bool.false_eq_true, false_implies] at f1
                have m0 := cell_regrown q0
                have m1 := cell_regrown q1
                have m2 := cell_regrown u0
                have m3 := cell_regrown u1
                have m4 := cell_regrown u2
                have m5 := cell_regrown u3
                have CA : ∀ dd os, Calls Try.prog 12 #[pv o.x o.y, pv x.x x.y] (grow (redrawn U dd) os) fun e w'' => e = .returned (.int .i64 (halfO o x)) ∧ ∃ p : Regrown, w'' = grow (redrawn U p.d) p.os := fun dd os => Calls.regrown_of (H1.out _)
                have CB : ∀ dd os, Calls Try.prog 12 #[pv o.x o.y, pv y.x y.y] (grow (redrawn U dd) os) fun e w'' => e = .returned (.int .i64 (halfO o y)) ∧ ∃ p : Regrown, w'' = grow (redrawn U p.d) p.os := fun dd os => Calls.regrown_of (H2.out _)
                go_wp2_with fail
                refine wp_region_quiet_below (by kernel_rfl) (by kernel_rfl) ?_
                repeat (go_big_quiet_step (first | with_reducible exact CA _ _ | with_reducible exact CB _ _))
                refine wpQuiet_nil ?_
                intro x1 hw'
                have hbx1 : Below U.heap.size U x1 := by
                  obtain ⟨⟨dq, osq⟩, hw''⟩ := hw'
                  rw [hw'']
                  exact below_regrown U dq osq
                clear hw' m0 m1 m2 m3 m4 m5 CA CB
                have q0' := later hbx1 q0
                have q1' := later hbx1 q1
                have u0' := later hbx1 u0
                have u1' := later hbx1 u1
                have u2' := later hbx1 u2
                have u3' := later hbx1 u3
                clear q0 q1 u0 u1 u2 u3
                go_wp2_with fail
                refine (O.out _).mono ?_
                rintro e x2 ⟨rfl, hbx2⟩
                have q0 := later hbx2 q0'
                have q1 := later hbx2 q1'
                have u0 := later hbx2 u0'
                have u1 := later hbx2 u1'
                have u2 := later hbx2 u2'
                have u3 := later hbx2 u3'
                clear q0' q1' u0' u1' u2' u3'
                have m0 := cell_regrown q0
                have m1 := cell_regrown q1
                have m2 := cell_regrown u0
                have m3 := cell_regrown u1
                have m4 := cell_regrown u2
                have m5 := cell_regrown u3
                have CA : ∀ dd os, Calls Try.prog 12 #[pv o.x o.y, pv x.x x.y] (grow (redrawn x2 dd) os) fun e w'' => e = .returned (.int .i64 (halfO o x)) ∧ ∃ p : Regrown, w'' = grow (redrawn x2 p.d) p.os := fun dd os => Calls.regrown_of (H1.out _)
                have CB : ∀ dd os, Calls Try.prog 12 #[pv o.x o.y, pv y.x y.y] (grow (redrawn x2 dd) os) fun e w'' => e = .returned (.int .i64 (halfO o y)) ∧ ∃ p : Regrown, w'' = grow (redrawn x2 p.d) p.os := fun dd os => Calls.regrown_of (H2.out _)
                go_wp2_with fail
                refine wp_region_quiet_below (by kernel_rfl) (by kernel_rfl) ?_
                repeat (go_big_quiet_step (first | with_reducible exact CA _ _ | with_reducible exact CB _ _))
                refine wpQuiet_nil ?_
                intro x3 hw'
                have hbx3 : Below x2.heap.size x2 x3 := by
                  obtain ⟨⟨dq, osq⟩, hw''⟩ := hw'
                  rw [hw'']
                  exact below_regrown x2 dq osq
                clear hw' m0 m1 m2 m3 m4 m5 CA CB
                have hbA := hide (below_step0 (below_step0 (below_step0 hbU hbx1) hbx2) hbx3)
                clear hbU hbx1 hbx2 hbx3 q0 q1 u0 u1 u2 u3
                go_wp2
                go_roundw
                case rel => exact ⟨k + 1 + 1, by omega, by go_num, (below_step ZB hbA.out).out, ZQ.out.later hbA.out, ZH.out.later hbA.out, ZI.out.later hbA.out, ZS.out.later hbA.out⟩
                case measure => simp [intOf]; omega
        · go_wp2
          go_ret
          exact ⟨by simp, HBr.out⟩
    · go_wp2
      go_ret
      exact ⟨rfl, HB.out⟩
end Go.Proofs.Ytgnojjbdioldbab
