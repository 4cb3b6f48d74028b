/- Around, in every world. -/
import Derived.Test.YtgnojjbdioldbaaM4
import Derived.Test.YtgnojjbdioldbaaG11
namespace Go.Proofs.Ytgnojjbdioldbaa
open Go.RowKit Go.Sort Go.Proofs Go.Shelf
open Go

def arB (o : Pt) (ps : List Pt) : Bool := ptB o && mayB ps && !decide (o ∈ ps)
def IntsAt (w : World) (g : Nat) (l : List Nat) : Prop := ∀ j, j < l.length → w.cell? ⟨g, j, none⟩ = some (.int .i64 (l.getD j 0 : Nat))
theorem has1 (W : World) (n : Nat) (hn : n = W.heap.size) (a : Pt) : Has (W.alloc (bx a)) (some ⟨n, 0, none⟩) [a] := by
  subst hn
  refine Or.inr ⟨_, _, rfl, fun j hj => ?_⟩
  simp at hj
  subst hj
  simp only [at', List.getD_cons_zero]; exact ⟨by go_cell, by go_cell⟩
theorem may1 (a : Pt) : mayB [a] = ptB a := by simp [mayB]
theorem info3 : (Try.prog.info? 3).map (fun i => (i.zero, i.size, i.bytes)) = some (some (.int .i64 0), 1, 8) := by kernel_rfl
/-- What Around has in its boxes. -/
def Boxed2 (W : World) (g : Nat) (o : Pt) (v : Value) : Prop := W.cell? ⟨g, 0, none⟩ = some (.int .i64 o.x) ∧ W.cell? ⟨g, 1, none⟩ = some (.int .i64 o.y) ∧ W.cell? ⟨g + 1, 0, none⟩ = some v
theorem Boxed2.later {W W' : World} {g : Nat} {o : Pt} {v : Value} (h : Boxed2 W g o v) (hb : Below W.heap.size W W') : Boxed2 W' g o v :=
  ⟨Ytgnojjbdioldbaa.later hb h.1, Ytgnojjbdioldbaa.later hb h.2.1, Ytgnojjbdioldbaa.later hb h.2.2⟩
theorem boxed2 (w : World) (o : Pt) (v : Value) : ∃ W, W = (w.alloc (bx o)).alloc (.cells #[v] 27) ∧ W.heap.size = w.heap.size + 1 + 1 ∧ Below w.heap.size w W ∧ Boxed2 W w.heap.size o v :=
  ⟨_, rfl, by simp, by go_grown, by go_cell, by go_cell, by go_cell⟩

theorem laterB' {B : Nat} {w w' : World} {a : Addr} {v : Value} (hb : Below B w w') (h : w.cell? a = some v) (ha : a.block < B) : w'.cell? a = some v := by
  rw [hb.cell ha]; exact h
set_option maxRecDepth 100000 in
set_option maxHeartbeats 4000000 in
theorem around20no (p : Option Addr) (ps : List Pt) (cap : Nat) (o : Pt) (w : World) (h : Has w p ps) (hno : arB o ps = false) : Calls Try.prog 20 #[pv o.x o.y, .slice p ps.length cap] w fun e w' => e = .returned (.tuple #[.slice none 0 0, .int .i64 1]) ∧ Below w.heap.size w w' := by
  obtain ⟨W, hW, hs, hb, q⟩ := boxed2 w o (.slice p ps.length cap)
  have HH := hide (h.later hb)
  have HB := hide hb
  have HQ := hide q
  have M := may15 _ [o] 1 _ (has1 W (w.heap.size + 1 + 1) hs.symm o)
  clear h hb q
  rw [may1] at M
  cases h1 : ptB o
  · rw [h1] at M
    have M' := hide M
    clear M
    go_enter Try.func20, Try.ntmps20
    go_wp2_with fail
    rw [← hW]
    refine M'.out.mono ?_
    rintro e w1 ⟨rfl, hb1⟩
    have HB1 := hide (Below.trans HB.out ((below_alloc hb1).mono HB.out.size))
    clear hb1
    go_wp2
    go_ret2
    exact ⟨rfl, HB1.out⟩
  · rw [h1] at M
    have M' := hide M
    clear M
    cases h2 : mayB ps
    · go_enter Try.func20, Try.ntmps20
      go_wp2_with fail
      rw [← hW]
      refine M'.out.mono ?_
      rintro e w1 ⟨rfl, hb1⟩
      have HB1 := hide (Below.trans HB.out ((below_alloc hb1).mono HB.out.size))
      have M2 := hide (may15 p ps cap w1 (HH.out.later (below_alloc hb1)))
      rw [h2] at M2
      obtain ⟨q0, q1, q2⟩ := HQ.out.later (below_alloc hb1)
      clear hb1
      go_wp2_with fail
      refine M2.out.mono ?_
      rintro e w2 ⟨rfl, hb2⟩
      have HB2 := hide (Below.trans HB1.out (hb2.mono HB1.out.size))
      clear hb2
      go_wp2
      go_ret2
      exact ⟨rfl, HB2.out⟩
    · have h3 : decide (o ∈ ps) = true := by simpa [arB, h1, h2] using hno
      have hl : ps.length ≤ 4096 := by simp [mayB] at h2; exact h2.1
      go_enter Try.func20, Try.ntmps20
      go_wp2_with fail
      rw [← hW]
      refine M'.out.mono ?_
      rintro e w1 ⟨rfl, hb1⟩
      have HB1 := hide (Below.trans HB.out ((below_alloc hb1).mono HB.out.size))
      have HH1 := hide (HH.out.later (below_alloc hb1))
      have M2 := hide (may15 p ps cap w1 HH1.out)
      rw [h2] at M2
      have HQ1 := hide (HQ.out.later (below_alloc hb1))
      obtain ⟨q0, q1, q2⟩ := HQ1.out
      clear hb1
      go_wp2_with fail
      refine M2.out.mono ?_
      rintro e w2 ⟨rfl, hb2⟩
      have HB2 := hide (Below.trans HB1.out (hb2.mono HB1.out.size))
      have C := hide (contains38 p ps cap o w2 hl (HH1.out.later hb2))
      rw [h3] at C
      obtain ⟨r0, r1, r2⟩ := HQ1.out.later hb2
      clear hb2
      go_wp2_with fail
      refine C.out.mono ?_
      rintro e w3 ⟨rfl, hb3⟩
      have HB3 := hide (Below.trans HB2.out (hb3.mono HB2.out.size))
      clear hb3
      go_wp2
      go_ret2
      exact ⟨rfl, HB3.out⟩

theorem mayB_len {ps : List Pt} (h : mayB ps = true) : ps.length ≤ 4096 := by simp [mayB] at h; exact h.1
theorem sorts39 (o : Pt) (ps : List Pt) (n : Nat) (hn : ps.length = n) (ho : ptB o = true) (hps : mayB ps = true) (hno : o ∉ ps) (p : Option Addr) (cap g cap' b : Nat) (w : World) (hH : Has w p ps) (hQ : Boxed2 w g o (.slice p ps.length cap))
    (hg : g + 1 < b) (hbs : b < w.heap.size) (hp : ∀ a, p = some a → ps ≠ [] → a.block < b) (hc : ∀ j, j < n → w.cell? ⟨b, j, none⟩ = some (.int .i64 (j : Nat)) ∧ w.frozen? ⟨b, j, none⟩ = false) :
    Calls Try.prog 39 #[.slice (some ⟨b, 0, none⟩) n cap', .func (.func 40) #[] #[.pointer (some ⟨g, 0, none⟩), .pointer (some ⟨g + 1, 0, none⟩)]] w fun e w' => e = .returned (.tuple #[]) ∧ ∃ l : List Nat, l.length = n ∧ l.Perm (List.range n) ∧ l.Pairwise (fullLt o ps) ∧ IntsAt w' b l ∧ Below b w w' := by
  cases n with
  | zero =>
    refine (Go.Proofs.Try.slices_SortFunc_none (α := Nat) _ _ _ w).mono ?_
    rintro e w' ⟨rfl, rfl⟩
    exact ⟨rfl, [], rfl, by simp, List.Pairwise.nil, fun j hj => by simp at hj, Below.refl _ _⟩
  | succ m =>
    have hd : ((List.finRange (m + 1)).toArray).size = m + 1 := by simp
    have hidx : ∀ (L : List (Fin (m + 1))) (j : Nat) (hj : j < L.length), (L.toArray)[j]! = L[j] := fun L j hj => by
      rw [getElem!_pos _ j (by simpa using hj)]; simp
    have hHo : Holds (encA m) w b 0 (List.finRange (m + 1)).toArray := by
      intro j hj
      have hj' : j < m + 1 := by simpa using hj
      rw [hidx _ j (by simpa using hj'), Nat.zero_add]
      have := hc j hj'
      refine ⟨?_, this.2⟩
      rw [this.1]
      simp [encA]
    have hcmp : CmpLays1 Try.prog 40 #[.pointer (some ⟨g, 0, none⟩), .pointer (some ⟨g + 1, 0, none⟩)] (encA m) (cfA o ps m) b 0 ((List.finRange (m + 1)).toArray).size w := by
      intro k os dk _ x y
      have hB := sort_below (encA m) w b 0 k dk os hbs
      rcases hH with h | ⟨bb, off, rfl, hL⟩
      · subst h; simp at hn
      have hbb := hp _ rfl (by intro h; subst h; simp at hn)
      have hx : x.val < ps.length := by omega
      have hy : y.val < ps.length := by omega
      have hl : ps.length ≤ 4096 := by simp [mayB] at hps; exact hps.1
      refine (closure40r g (g + 1) bb off cap o ps x.val y.val hx hy hl ho (mayB_at hps hx) (mayB_at hps hy) (sortWorld (encA m) w b 0 k dk os)
        (laterB' hB hQ.1 (show g < b by omega)) (laterB' hB hQ.2.1 (show g < b by omega)) (laterB' hB hQ.2.2 hg) (fun j hj => ⟨laterB' hB (hL j hj).1 hbb, laterB' hB (hL j hj).2 hbb⟩)).mono ?_
      rintro e w' ⟨rfl, hr⟩
      exact ⟨rfl, rise_grow hr⟩
    have T := Go.Proofs.Try.slices_SortFunc_total (α := Fin (m + 1)) (encA m) (fun _ => rfl) (cfA o ps m) (swoA ho hps hno hn) 40 #[.pointer (some ⟨g, 0, none⟩), .pointer (some ⟨g + 1, 0, none⟩)] b 0 cap' (List.finRange (m + 1)).toArray w
      (enters_of Try.func40 (by kernel_rfl) rfl) hcmp hHo hbs (by have := mayB_len hps; rw [hd]; omega) (totA ho hps hno hn)
    rw [hd] at T
    refine T.mono ?_
    rintro e w' ⟨rfl, k, os, rfl⟩
    have hs := sortedA ho hps hno hn
    have hlen : ((List.finRange (m + 1)).mergeSort fun x y => !(ltOf (cfA o ps m)) y x).length = m + 1 := by simp
    refine ⟨rfl, _, by simp, by have := hs.1; rw [hn] at this; exact this, hs.2, fun j hj => ?_, sort_below (encA m) w b 0 k _ os hbs⟩
    have hj' : j < m + 1 := by simpa using hj
    have h2 := SW.holds (⟨k, os, rfl⟩ : SW (encA m) w b 0 ((List.finRange (m + 1)).mergeSort fun x y => !(ltOf (cfA o ps m)) y x).toArray _) hbs hHo (by simp) j (by simpa using hj')
    rw [hidx _ j (by simpa using hj'), Nat.zero_add] at h2
    refine h2.1.trans ?_
    simp [encA, List.getD_eq_getElem?_getD, hj']

set_option maxRecDepth 100000 in
set_option maxHeartbeats 4000000 in
theorem around20 (p : Option Addr) (ps : List Pt) (cap : Nat) (o : Pt) (w : World) (h : Has w p ps) (hok : arB o ps = true) : Calls Try.prog 20 #[pv o.x o.y, .slice p ps.length cap] w fun e w' => ∃ (b : Nat) (l : List Nat), e = .returned (.tuple #[.slice (some ⟨b, 0, none⟩) ps.length ps.length, .int .i64 0]) ∧ l.length = ps.length ∧ l.Perm (List.range ps.length) ∧ l.Pairwise (fullLt o ps) ∧ IntsAt w' b l ∧ w.heap.size ≤ b ∧ Below w.heap.size w w' := by
  obtain ⟨W, hW, hs, hb, q⟩ := boxed2 w o (.slice p ps.length cap)
  have HH := hide (h.later hb)
  have HB := hide hb
  have HQ := hide q
  have M := may15 _ [o] 1 _ (has1 W (w.heap.size + 1 + 1) hs.symm o)
  have hok' : (ptB o = true ∧ mayB ps = true) ∧ o ∉ ps := by simpa [arB] using hok
  obtain ⟨⟨h1, h2⟩, h3⟩ := hok'
  have hl := mayB_len h2
  have h3' : decide (o ∈ ps) = false := by simpa using h3
  have HPB : Hid (∀ a, p = some a → ps ≠ [] → a.block < w.heap.size) := by
    intro a ha hne
    rcases h with k | ⟨bb, off, k, hL⟩
    · exact absurd k hne
    · rw [ha] at k
      cases k
      exact block_lt_of_cell (hL 0 (List.length_pos_iff.2 hne)).1
  have S := hide (sorts39 o ps ps.length rfl h1 h2 h3 p cap w.heap.size ps.length)
  clear h hb q hok h3
  rw [may1, h1] at M
  have M' := hide M
  clear M
  obtain ⟨i0, hi0, hz0, hz1, hz2⟩ := info_parts info3
  go_enter Try.func20, Try.ntmps20
  go_wp2_with fail
  rw [← hW]
  refine M'.out.mono ?_
  rintro e w1 ⟨rfl, hb1⟩
  have HB1 := hide (Below.trans HB.out ((below_alloc hb1).mono HB.out.size))
  have HH1 := hide (HH.out.later (below_alloc hb1))
  have M2 := hide (may15 p ps cap w1 HH1.out)
  rw [h2] at M2
  have HQ1 := hide (HQ.out.later (below_alloc hb1))
  obtain ⟨q0, q1, q2⟩ := HQ1.out
  clear hb1
  go_wp2_with fail
  refine M2.out.mono ?_
  rintro e w2 ⟨rfl, hb2⟩
  have HB2 := hide (Below.trans HB1.out (hb2.mono HB1.out.size))
  have HH2 := hide (HH1.out.later hb2)
  have C := hide (contains38 p ps cap o w2 hl HH2.out)
  rw [h3'] at C
  have HQ2 := hide (HQ1.out.later hb2)
  obtain ⟨r0, r1, r2⟩ := HQ2.out
  clear hb2
  go_wp2_with fail
  refine C.out.mono ?_
  rintro e w3 ⟨rfl, hb3⟩
  have HB3 := hide (Below.trans HB2.out (hb3.mono HB2.out.size))
  have HH3 := hide (HH2.out.later hb3)
  have HQ3 := hide (HQ2.out.later hb3)
  obtain ⟨t0, t1, t2⟩ := HQ3.out
  clear hb3 q0 q1 q2 r0 r1 r2 HB HB1 HB2 HH HH1 HH2 HQ HQ1 HQ2 M' M2 C hW hs
  go_wp2_with (refine wpList_make_full _ rfl (.tmp 23) (.tmp 23) 41 rfl w3.heap.size 3 i0 (.int .i64 0) 1 Try.underlying41 hi0 hz0 hz1 .i64 .i64 _ _ ps.length rfl rfl rfl rfl ?c1 ?c2 ?c3 ?_)
  case c1 => rw [hz2]; omega
  case c2 => unfold maxLen; omega
  case c3 => exact Nat.le_refl _
  intro w4 hown hgrow
  rw [toList_madeCells_one] at hown
  have HC4 : Hid (∀ j, j < ps.length → w4.cell? ⟨w3.heap.size, j, none⟩ = some (.int .i64 0) ∧ w4.frozen? ⟨w3.heap.size, j, none⟩ = false) := fun j hj => ⟨by rw [World.ownsRow.cellAt hown j (by omega), List.getElem?_replicate, if_pos hj], World.ownsRow.frozenAt hown j⟩
  have HB4 : Hid (Below w3.heap.size w3 w4) := ⟨hgrow.os, hgrow.tape, hgrow.output, hgrow.size, fun k hk => hgrow.block k hk (by simp)⟩
  have HS4 : Hid (w3.heap.size < w4.heap.size) := (World.ownsRow.lt hown w3.heap.size rfl).2
  have HG : Hid (w.heap.size + 1 < w3.heap.size) := block_lt_of_cell t2
  clear hown hgrow t0 t1 t2
  go_wp2_with fail
  go_loopw [27] (fun t wr => ∃ i : Nat, i ≤ ps.length ∧ t = .int .i64 i ∧ Hid (Below w3.heap.size w3 wr) ∧ Hid (w3.heap.size < wr.heap.size) ∧ Hid (∀ j, j < ps.length → wr.cell? ⟨w3.heap.size, j, none⟩ = some (.int .i64 (if j < i then (j : Int) else 0)) ∧ wr.frozen? ⟨w3.heap.size, j, none⟩ = false)) (fun t _ => ps.length - (intOf t).toNat)
  case atStart => exact ⟨0, by omega, rfl, HB4.out, HS4.out, fun j hj => by rw [if_neg (by omega)]; exact HC4.out j hj⟩
  case round =>
    obtain ⟨i, hi, rfl, HBr, HSr, HCr⟩ := hrel
    by_cases hlt : i < ps.length
    · obtain ⟨c0, c1⟩ := HCr.out i hlt
      rw [if_neg (by omega)] at c0
      go_wp2
      go_roundw
      case rel =>
        refine ⟨i + 1, by omega, by go_num, (HBr.out.setCell (by simp) _), by show _ < _; simp; exact HSr.out, fun j hj => ?_⟩
        have k := HCr.out j hj
        by_cases hji : j = i
        · subst hji
          rw [if_pos (by omega)]
          exact ⟨World.cell?_setCell_same _ _ _ c0, by rw [World.frozen?_setCell]; exact c1⟩
        · rw [World.cell?_setCell_other _ _ _ _ (by intro e; injection e with e1 e2; omega), World.frozen?_setCell, k.1, k.2]
          refine ⟨?_, rfl⟩
          by_cases hj2 : j < i
          · rw [if_pos hj2, if_pos (by omega)]
          · rw [if_neg hj2, if_neg (by omega)]
      case measure => simp [intOf]; omega
    · have hin : i = ps.length := by omega
      subst hin
      have T := hide (S.out w3.heap.size wr (HH3.out.later HBr.out) (HQ3.out.later HBr.out) HG.out HSr.out (fun a ha hne => Nat.lt_of_lt_of_le (HPB.out a ha hne) HB3.out.size) (fun j hj => by
        have k := HCr.out j hj
        rw [if_pos hj] at k
        exact k))
      go_wp2_with fail
      refine T.out.mono ?_
      rintro e w5 ⟨rfl, l, l1, l2, l3, l4, hb5⟩
      have HL : Hid (l.length = ps.length ∧ l.Perm (List.range ps.length) ∧ l.Pairwise (fullLt o ps) ∧ IntsAt w5 w3.heap.size l) := ⟨l1, l2, l3, l4⟩
      have HB5 : Hid (Below w.heap.size w w5) := Below.trans HB3.out (Below.trans (HBr.out.mono HB3.out.size) (hb5.mono HB3.out.size))
      clear l1 l2 l3 l4 hb5
      go_wp2
      go_ret2
      exact ⟨w3.heap.size, l, rfl, HL.out.1, HL.out.2.1, HL.out.2.2.1, HL.out.2.2.2, HB3.out.size, HB5.out⟩
end Go.Proofs.Ytgnojjbdioldbaa
