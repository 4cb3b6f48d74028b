/- GeomTurned's walk. -/
import Derived.Test.YtgnojjbdioldbabK1
namespace Go.Proofs.Ytgnojjbdioldbab
open Go.RowKit Go.Sort
open Go

theorem take_more {r : List Pt} {m : Nat} (hm : m < r.length) : r.take (m + 1) = r.take m ++ [at' r m] := by
  unfold at'
  rw [List.take_add_one, List.getD_eq_getElem?_getD, List.getElem?_eq_getElem hm]; rfl
set_option maxRecDepth 100000 in
set_option maxHeartbeats 8000000 in
theorem turned_walk (p1 p2 : Option Addr) (p q : List Pt) (cap cap' : Nat) (w : World) (h : Has w p1 p) (k : Has w p2 q) : Calls Try.prog 4 #[.slice p1 p.length cap, .slice p2 q.length cap'] w fun e w' => e = .returned (.bool true) ∧ Below w.heap.size w w' := by
  have HH := hide h
  have HK := hide k
  clear h k
  obtain ⟨i0, hi0, hz0, hz1, hz2⟩ := info_parts info23
  obtain ⟨n, hn⟩ : ∃ n, p.length = n := ⟨_, rfl⟩
  obtain ⟨r, hr⟩ : ∃ r, p.reverse = r := ⟨_, rfl⟩
  have HRR := hide hr
  have HRL : Hid (r.length = n) := by show _ = _; rw [← hr, List.length_reverse]; exact hn
  have HNN := hide hn
  have HTK : Hid (∀ k', k' < n → r.take (n - k') = r.take (n - (k' + 1)) ++ [at' p k']) := by
    intro k' hk'
    rw [show n - k' = n - (k' + 1) + 1 by omega, take_more (by rw [HRL.out]; omega), ← HRR.out, at_rev (by rw [HNN.out]; omega)]
    congr 3
    rw [HNN.out]
    omega
  rw [hn]
  clear hn hr
  go_enter Try.func4, Try.ntmps4
  go_wp2_with fail
  refine (begun9 _).mono ?_
  rintro e w1 ⟨rfl, hb1⟩
  have HB1 := hide hb1
  have HH1 := hide (HH.out.later hb1)
  have HK1 := hide (HK.out.later hb1)
  clear hb1 HH HK
  by_cases hbig : (30 : Int) < n
  · go_wp2_with fail
    go_ret
    exact ⟨rfl, HB1.out⟩
  by_cases hbig2 : (30 : Int) < q.length
  · go_wp2_with fail
    go_ret
    exact ⟨rfl, HB1.out⟩
  have hn30 : n ≤ 30 := by omega
  go_wp2_with fail
  go_loopw [5, 6] (fun s t wr => ∃ k : Nat, k ≤ n ∧ t = .int .i64 ((k : Int) - 1) ∧ Hid (Below w1.heap.size w1 wr) ∧ Hid (Owns wr w1.heap.size s (r.take (n - k)))) (fun _ t _ => (intOf t + 1).toNat)
  case atStart => exact ⟨n, Nat.le_refl _, rfl, Below.refl _ _, by rw [Nat.sub_self, List.take_zero]; exact Owns.nil _ _⟩
  case round =>
    obtain ⟨k, hk, rfl, HBr, HO⟩ := hrel
    by_cases hk0 : 0 < k
    · obtain ⟨k', rfl⟩ : ∃ k', k = k' + 1 := ⟨k - 1, by omega⟩
      have HT := hide (HTK.out k' (by omega))
      have hTl : (r.take (n - (k' + 1))).length ≤ 30 := by rw [List.length_take]; omega
      obtain ⟨T, hTT⟩ : ∃ T, r.take (n - (k' + 1)) = T := ⟨_, rfl⟩
      rw [hTT] at HT HO hTl
      obtain ⟨p0, c, hv0, _, _, _, _⟩ := HO.out.form
      subst hv0
      rcases HH1.out.later HBr.out with hh | ⟨b, off, rfl, hL⟩
      · exfalso
        have := HNN.out
        rw [hh] at this
        simp at this
        omega
      obtain ⟨c0, c1⟩ := hL k' (by rw [HNN.out]; omega)
      obtain ⟨y, hy⟩ : ∃ y, at' p k' = y := ⟨_, rfl⟩
      rw [hy] at c0 c1 HT
      rw [show (((k' + 1 : Nat) : Int) - 1) = (k' : Int) by omega]
      have i1 : (k' : Int) < n := by omega
      have i2 : (0 : Int) ≤ k' := by omega
      have hOW : wr.ownsRow w1.heap.size 25 2 (.slice p0 T.length c) T.length (cells T) := HO.out
      have hsz := HBr.out.size
      have zb : b < wr.heap.size := block_lt_of_cell c0
      clear hL hy hTT
      go_wp2_with (at_builtin; refine wpList_append_own _ rfl _ _ 22 rfl w1.heap.size 25 i0 (.agg #[.int .i64 0, .int .i64 0]) 2 16 Try.underlying22 hi0 hz0 hz1 hz2 rfl (by decide) _ _ _ rfl (World.ownsRow.alloc hOW _) ⟨wr.heap.size, 0, none⟩ 1 1 [.int .i64 y.x, .int .i64 y.y] rfl rfl ?c1 ?c2 ?c3 ?c4 ?c5 ?_)
      case c1 =>
        intro j w0 hj
        match j, hj with
        | 0, hj => simp at hj; subst hj; simp [Addr.add]
        | 1, hj => simp at hj; subst hj; simp [Addr.add]
      case c2 => intro w0 hw0; simp at hw0; rcases hw0 with rfl | rfl <;> rfl
      case c3 => unfold maxLen; omega
      case c4 => omega
      case c5 => simp; omega
      intro v' w3 hown' hgrow _
      have ho := hide (owns_more hown')
      have hbg : Below w1.heap.size wr w3 := below_grown (w := wr.alloc (.cells #[.int .i64 y.x, .int .i64 y.y] 25)) (by go_grown) (World.ownsRow.alloc hOW _) (Nat.le_refl _) (by simp; omega) hgrow
      have HBg := hide (Below.trans HBr.out hbg)
      clear hown' hgrow hbg hOW c0 c1
      go_wp2
      go_roundw
      case rel => exact ⟨k', by omega, by go_num, HBg.out, by rw [HT.out]; exact ho.out⟩
      case measure => simp [intOf]
    · have hk1 : k = 0 := by omega
      subst hk1
      have hrt : r.take (n - 0) = r := by rw [Nat.sub_zero, ← HRL.out, List.take_length]
      rw [hrt] at HO
      clear hrt
      obtain ⟨p5, c5, hv5, hh5, _, _, _⟩ := HO.out.form
      subst hv5
      have HB2 := hide (below_stepJ HB1.out HBr.out)
      have HH2 := hide (HH1.out.later HBr.out)
      have HK2 := hide (HK1.out.later HBr.out)
      have HR2 := hide hh5
      have S1 := hide (simple23 p1 p cap wr HH2.out)
      rw [HNN.out] at S1
      clear hh5 HO HBr HH1 HK1 HB1
      go_wp2_with fail
      refine S1.out.mono ?_
      rintro e w2 ⟨hp1, hb2⟩
      obtain ⟨b1, n1, rfl, hs1⟩ := hp1.form
      have HS1 := hide hs1
      have HB3 := hide (below_stepJ HB2.out hb2)
      have HH3 := hide (HH2.out.later hb2)
      have HK3 := hide (HK2.out.later hb2)
      have HR3 := hide (HR2.out.later hb2)
      have S2 := hide (simple23 p5 r c5 w2 HR3.out)
      clear hp1 hs1 hb2 S1 HB2 HH2 HK2 HR2
      go_wp2_with fail
      refine S2.out.mono ?_
      rintro e w3 ⟨hp2, hb3⟩
      obtain ⟨b2, n2, rfl, hs2⟩ := hp2.form
      rw [← HRR.out] at hs2
      obtain ⟨hb12, hn12⟩ := simple_same HS1.out hs2
      subst hb12 hn12
      have HB4 := hide (below_stepJ HB3.out hb3)
      have HH4 := hide (HH3.out.later hb3)
      have HK4 := hide (HK3.out.later hb3)
      have HR4 := hide (HR3.out.later hb3)
      have A1 := hide (apart26 p1 p2 p q cap cap' w3 HH4.out HK4.out)
      rw [HNN.out] at A1
      clear hp2 hs2 hb3 S2 HB3 HH3 HK3 HR3 HS1
      go_wp2_with fail
      refine A1.out.mono ?_
      rintro e w4 ⟨hp3, hb4⟩
      obtain ⟨b3, n3, rfl, hs3⟩ := hp3.form
      have HS3 := hide hs3
      have HB5 := hide (below_stepJ HB4.out hb4)
      have HK5 := hide (HK4.out.later hb4)
      have HR5 := hide (HR4.out.later hb4)
      have A2 := hide (apart26 p2 p5 q r cap' c5 w4 HK5.out HR5.out)
      clear hp3 hs3 hb4 A1 HB4 HH4 HK4 HR4
      go_wp2_with fail
      refine A2.out.mono ?_
      rintro e w5 ⟨hp4, hb5⟩
      obtain ⟨b4, n4, rfl, hs4⟩ := hp4.form
      rw [← HRR.out] at hs4
      obtain ⟨hb34, hn34⟩ := apart_same HS3.out hs4
      subst hb34 hn34
      have HB6 := hide (below_stepJ HB5.out hb5)
      clear hp4 hs4 hb5 A2 HB5 HK5 HR5 HS3
      have t1 : (b1 == b1) = true := by simp
      go_wp2
      all_goals go_ret
      all_goals exact ⟨rfl, HB6.out⟩
end Go.Proofs.Ytgnojjbdioldbab
