/- NetParts, in every world. -/
import Derived.Test.YtmmbbfmkhbengaaM5
import Derived.Test.YtmmbbfmkhbengaaQ1
import Derived.Test.YtmmbbfmkhbengaaR1
namespace Go.Proofs.Ytmmbbfmkhbengaa
open Go.RowKit Go.Sort
open Go

theorem take_snoc (l : List Int) {i : Nat} (h : i < l.length) : l.take (i + 1) = l.take i ++ [iat l i] := by
  rw [List.take_succ_eq_append_getElem h]
  congr 2
  unfold iat
  rw [List.getD_eq_getElem?_getD, List.getElem?_eq_getElem h]
  rfl
theorem both_snoc (a b : List Int) {i : Nat} (h : i < b.length) : both a (b.take (i + 1)) = both a (b.take i) ++ [iat a (iat b i).toNat] := by
  unfold both
  rw [take_snoc b h, List.map_append]
  rfl
theorem both_take_len (a b : List Int) {i : Nat} (h : i ≤ b.length) : (both a (b.take i)).length = i := by
  rw [both_length, List.length_take]; omega
theorem partE_net {n : Int} {es : List Pt} {l : List Int} (h : partE n es l = 0) : netB n es = true ∧ errL l n = 0 := by
  unfold partE at h
  by_cases k : netB n es = true
  · rw [if_pos k] at h; exact ⟨k, h⟩
  · rw [if_neg k] at h; omega
theorem subE_net {n : Int} {es : List Pt} {l : List Int} (h : subE n es l = 0) : netB n es = true ∧ errL l es.length = 0 := by
  unfold subE at h
  by_cases k : netB n es = true
  · rw [if_pos k] at h; exact ⟨k, h⟩
  · rw [if_neg k] at h; omega
theorem partE_of {n : Int} {es : List Pt} {l : List Int} (h : netB n es = true) (k : errL l n = 0) : partE n es l = 0 := by unfold partE; rw [if_pos h]; exact k
theorem subE_of {n : Int} {es : List Pt} {l : List Int} (h : netB n es = true) (k : errL l es.length = 0) : subE n es l = 0 := by unfold subE; rw [if_pos h]; exact k

set_option maxRecDepth 100000 in
set_option maxHeartbeats 16000000 in
theorem parts_walk (n : Int) (p q1 q2 q3 q4 : Option Addr) (es : List Pt) (nodes more_ keep less : List Int) (cp c1 c2 c3 c4 : Nat) (w : World) (l1 : nodes.length ≤ maxLen) (l2 : more_.length ≤ maxLen) (l3 : keep.length ≤ maxLen) (l4 : less.length ≤ maxLen) (h : Has w p es) (k1 : IHas w q1 nodes) (k2 : IHas w q2 more_) (k3 : IHas w q3 keep) (k4 : IHas w q4 less) :
    Calls Try.prog 7 #[nv n p es.length cp, .slice q1 nodes.length c1, .slice q2 more_.length c2, .slice q3 keep.length c3, .slice q4 less.length c4] w fun e w' => e = .returned (.bool true) ∧ Below w.heap.size w w' := by
  obtain ⟨W, hW, hb, a0⟩ := one_net w n p es.length cp
  have HB := hide hb
  have HA := hide a0
  have HH := hide (h.later hb)
  have K1 := hide (k1.later hb)
  have K2 := hide (k2.later hb)
  have K3 := hide (k3.later hb)
  have K4 := hide (k4.later hb)
  clear h k1 k2 k3 k4 hb a0
  obtain ⟨i0, hi0, hz0, hz1, hz2⟩ := info_parts info3
  go_enter Try.func7, Try.ntmps7
  go_wp2_with fail
  rw [← hW]
  clear hW
  refine (begun8 _).mono ?_
  rintro e w1 ⟨rfl, hb1⟩
  have HB1 := hide (below_step HB.out hb1)
  have HA1 := hide (HA.out.later hb1)
  have HH1 := hide (HH.out.later hb1)
  have J1 := hide (K1.out.later hb1)
  have J2 := hide (K2.out.later hb1)
  have J3 := hide (K3.out.later hb1)
  have J4 := hide (K4.out.later hb1)
  clear hb1 HB HA HH K1 K2 K3 K4
  have M := hide (may12 n p es cp w1 HH1.out)
  obtain ⟨q0, q1', _, _⟩ := HA1.out
  go_wp2_with fail
  refine M.out.mono ?_
  rintro e w2 ⟨rfl, hb2⟩
  have HB2 := hide (below_step HB1.out hb2)
  have HA2 := hide (HA1.out.later hb2)
  have HH2 := hide (HH1.out.later hb2)
  have K1 := hide (J1.out.later hb2)
  have K2 := hide (J2.out.later hb2)
  have K3 := hide (J3.out.later hb2)
  have K4 := hide (J4.out.later hb2)
  clear hb2 q0 q1' HB1 HA1 HH1 J1 J2 J3 J4 M
  cases hm : netB n es
  · go_wp2
    go_ret
    exact ⟨rfl, HB2.out⟩
  obtain ⟨n0, n1, hes, hends⟩ := netB_is hm
  have HE := hide hends
  clear hends
  obtain ⟨q0, q1', _, _⟩ := HA2.out
  by_cases hn2 : 200 < n
  · go_wp2
    go_ret
    exact ⟨rfl, HB2.out⟩
  by_cases he2 : (200 : Int) < es.length
  · go_wp2
    go_ret
    exact ⟨rfl, HB2.out⟩
  obtain ⟨m, rfl⟩ : ∃ m : Nat, n = m := ⟨n.toNat, by omega⟩
  have P := hide (part28 m p q1 es nodes cp c1 w2 l1 HH2.out K1.out)
  go_wp2_with fail
  refine P.out.mono ?_
  rintro e w3 ⟨hP, hb3⟩
  have HB3 := hide (below_step HB2.out hb3)
  have HA3 := hide (HA2.out.later hb3)
  have HH3 := hide (HH2.out.later hb3)
  have J1 := hide (K1.out.later hb3)
  have J2 := hide (K2.out.later hb3)
  have J3 := hide (K3.out.later hb3)
  have J4 := hide (K4.out.later hb3)
  clear hb3 q0 q1' HB2 HA2 HH2 K1 K2 K3 K4 P
  obtain ⟨q0, q1', _, _⟩ := HA3.out
  have zn : w.heap.size < w3.heap.size := block_lt_of_cell q0
  rcases hP with ⟨hE, gA, vL, rfl, hrA, hoL⟩ | ⟨hE, rfl⟩
  · obtain ⟨pL, cL, rfl, hiL, hcL, _, _⟩ := hoL.form
    obtain ⟨A, hAA⟩ : ∃ A, partN m es nodes = A := ⟨_, rfl⟩
    obtain ⟨L, hLL⟩ : ∃ L, which es (placesOf m nodes) = L := ⟨_, rfl⟩
    rw [hAA] at hrA ⊢
    rw [hLL] at hiL ⊢
    obtain ⟨W3, hW3⟩ : ∃ W3, W3 = w3.alloc (nbx nodes.length (some ⟨gA, 0, none⟩) A.length A.length) := ⟨_, rfl⟩
    have hb3 : Below w3.heap.size w3 W3 := by rw [hW3]; go_grown
    have HB4 := hide (below_step HB3.out hb3)
    have HA4 := hide (HA3.out.later hb3)
    have HH4 := hide (HH3.out.later hb3)
    have K1 := hide (J1.out.later hb3)
    have K2 := hide (J2.out.later hb3)
    have K3 := hide (J3.out.later hb3)
    have K4 := hide (J4.out.later hb3)
    have HRA := hide (hrA.has.later hb3)
    have HIL := hide (hiL.later hb3)
    have NA : NOwn W3 w3.heap.size nodes.length (some ⟨gA, 0, none⟩) A.length A.length := by rw [hW3]; exact nown_new _ _ _ _ _
    have HNA := hide NA
    have P2 := hide (part28 nodes.length (some ⟨gA, 0, none⟩) q2 A more_ A.length c2 W3 l2 HRA.out K2.out)
    clear hb3 hrA hoL hiL NA
    go_wp2_with fail
    rw [show w3.alloc (nbx nodes.length (some ⟨gA, 0, none⟩) A.length A.length) = W3 from hW3.symm]
    obtain ⟨ga, hga⟩ : ∃ ga, ga = w3.heap.size := ⟨_, rfl⟩
    rw [← hga] at HNA ⊢
    clear hga hW3 q0 q1' zn HB3 HA3 HH3 J1 J2 J3 J4
    refine P2.out.mono ?_
    rintro e w4 ⟨hP2, hb4⟩
    have HB5 := hide (below_step HB4.out hb4)
    have HA5 := hide (HA4.out.later hb4)
    have HH5 := hide (HH4.out.later hb4)
    have J1 := hide (K1.out.later hb4)
    have J2 := hide (K2.out.later hb4)
    have J3 := hide (K3.out.later hb4)
    have J4 := hide (K4.out.later hb4)
    have HIL5 := hide (HIL.out.later hb4)
    obtain ⟨q0, q1', _, _⟩ := HA5.out
    have zn : w.heap.size < w4.heap.size := block_lt_of_cell q0
    clear hb4 HB4 HA4 HH4 K1 K2 K3 K4 HIL P2
    rcases hP2 with ⟨hE2, gB, vM, rfl, hrB, hoM⟩ | ⟨hE2, rfl⟩
    · obtain ⟨pM, cM, rfl, hiM, hcM, _, _⟩ := hoM.form
      obtain ⟨B, hBB⟩ : ∃ B, partN nodes.length A more_ = B := ⟨_, rfl⟩
      obtain ⟨M, hMM⟩ : ∃ M, which A (placesOf nodes.length more_) = M := ⟨_, rfl⟩
      rw [hBB] at hrB ⊢
      rw [hMM] at hiM ⊢
      obtain ⟨hnA, heM⟩ := partE_net hE2
      obtain ⟨_, heN⟩ := partE_net hE
      have hlN := chosen_le heN
      have hlM := chosen_le heM
      have hinM := hide (chosen_in heM)
      have HPB : Hid (partN m es (both nodes more_) = B) := by show _ = _; rw [part_both HE.out heN heM, hAA, hBB]
      have HWB : Hid (which es (placesOf m (both nodes more_)) = both L M) := by show _ = _; rw [which_both HE.out heN heM, hAA, hLL, hMM]
      have HEB : Hid (partE m es (both nodes more_) = 0) := partE_of hm (both_ok heN heM)
      have hLlen : L.length = A.length := by rw [← hLL, ← hAA, partN_length]
      have hMin : Hid (∀ j, j < M.length → 0 ≤ iat M j ∧ iat M j < L.length) := fun j hj => by
        rw [← hMM] at hj ⊢
        rw [hLlen]
        exact takeN_in _ _ j hj
      have hMlen : M.length ≤ 3072 := by
        have h1 : M.length ≤ A.length := by rw [← hMM]; exact takeN_length _ _
        have h2 : L.length ≤ es.length := by rw [← hLL]; exact takeN_length _ _
        omega
      have hBl : B.length ≤ 3072 := by rw [← hBB, partN_length, hMM]; exact hMlen
      obtain ⟨W4, hW4⟩ : ∃ W4, W4 = w4.alloc (nbx more_.length (some ⟨gB, 0, none⟩) B.length B.length) := ⟨_, rfl⟩
      have hb4 : Below w4.heap.size w4 W4 := by rw [hW4]; go_grown
      have HB6 := hide (below_step HB5.out hb4)
      have HA6 := hide (HA5.out.later hb4)
      have HH6 := hide (HH5.out.later hb4)
      have K1 := hide (J1.out.later hb4)
      have K2 := hide (J2.out.later hb4)
      have K3 := hide (J3.out.later hb4)
      have K4 := hide (J4.out.later hb4)
      have HRB := hide (hrB.has.later hb4)
      have HIL6 := hide (HIL5.out.later hb4)
      have HIM := hide (hiM.later hb4)
      have NB : NOwn W4 w4.heap.size more_.length (some ⟨gB, 0, none⟩) B.length B.length := by rw [hW4]; exact nown_new _ _ _ _ _
      have HNB := hide NB
      clear hb4 hrB hoM hiM NB hAA hLL hBB hMM heM heN hnA hE2 hE J1 J2 J3 J4 HIL5 HB5 HA5 HH5 hcM hcL
      go_wp2_with fail
      rw [show w4.alloc (nbx more_.length (some ⟨gB, 0, none⟩) B.length B.length) = W4 from hW4.symm]
      obtain ⟨gb, hgb⟩ : ∃ gb, gb = w4.heap.size := ⟨_, rfl⟩
      rw [← hgb] at HNB ⊢
      clear hgb hW4 q0 q1' zn
      go_loopw [17, 19] (fun v t wr => ∃ i : Nat, i ≤ more_.length ∧ t = .int .i64 i ∧ Hid (Below W4.heap.size W4 wr) ∧ Hid (IOwns wr W4.heap.size v (both nodes (more_.take i)))) (fun _ t _ => more_.length - (intOf t).toNat)
      case atStart => exact ⟨0, by omega, rfl, Below.refl _ _, IOwns.nil _ _⟩
      case round =>
        obtain ⟨i, hi, rfl, HBr, HO⟩ := hrel
        by_cases hlt : i < more_.length
        · obtain ⟨x0, x1⟩ := hinM.out i hlt
          have hS : Hid (both nodes (more_.take (i + 1)) = both nodes (more_.take i) ++ [iat nodes (iat more_ i).toNat]) := both_snoc nodes more_ hlt
          have hTl := both_take_len nodes more_ hi
          obtain ⟨T, hTT⟩ : ∃ T, both nodes (more_.take i) = T := ⟨_, rfl⟩
          rw [hTT] at hS hTl HO
          obtain ⟨x, hx⟩ : ∃ x, iat more_ i = x := ⟨_, rfl⟩
          rcases K2.out.later HBr.out with h | ⟨b2, o2, rfl, L2⟩
          · subst h; simp at hlt
          have d0 := L2 i hlt
          rw [hx] at hS x0 x1 d0
          obtain ⟨xn, rfl⟩ : ∃ xn : Nat, x = xn := ⟨x.toNat, by omega⟩
          rcases K1.out.later HBr.out with h | ⟨b1, o1, rfl, L1⟩
          · rw [h] at x1; simp at x1; omega
          have c0 := L1 xn (by omega)
          rw [Int.toNat_natCast] at hS
          obtain ⟨y, hy⟩ : ∃ y, iat nodes xn = y := ⟨_, rfl⟩
          rw [hy] at c0 hS
          have HTL := hide hTl
          clear L1 L2 hTT hx hy hTl
          obtain ⟨p0, c, rfl, _, _, _, _⟩ := HO.out.form
          have hOW : wr.ownsRow W4.heap.size 3 1 (.slice p0 T.length c) T.length (icells T) := HO.out
          have hsz := HBr.out.size
          go_wp2_with (at_builtin; refine wpList_append_own _ rfl _ _ 25 rfl W4.heap.size 3 i0 (.int .i64 0) 1 8 Try.underlying25 hi0 hz0 hz1 hz2 rfl (by decide) _ _ _ rfl (World.ownsRow.alloc hOW _) ⟨wr.heap.size, 0, none⟩ 1 1 [.int .i64 y] rfl rfl ?c1 ?c2 ?c3 ?c4 ?c5 ?_)
          case c1 =>
            intro j u hj
            match j, hj with
            | 0, hj => simp at hj; subst hj; simp [Addr.add]
          case c2 => intro u hu; simp at hu; subst hu; rfl
          case c3 => have := HTL.out; unfold maxLen; omega
          case c4 => have := HTL.out; omega
          case c5 => simp; omega
          intro v' w5 hown' hgrow _
          have ho := hide (iowns_more hown')
          have hbg : Below W4.heap.size wr w5 := below_grown (w := wr.alloc (.cells #[.int .i64 y] 3)) (by go_grown) (World.ownsRow.alloc hOW _) (Nat.le_refl _) (by simp; omega) hgrow
          have HBg := hide hbg
          clear hown' hgrow hbg hOW
          go_wp2
          go_roundw
          case rel => exact ⟨i + 1, by omega, by go_num, Below.trans HBr.out HBg.out, by rw [hS.out]; exact ho.out⟩
          case measure => simp [intOf]; omega
        · have hin : i = more_.length := by omega
          subst hin
          rw [List.take_length] at HO
          obtain ⟨pB, cB, rfl, _, _, _, _⟩ := HO.out.form
          have HB7 := hide (below_step HB6.out HBr.out)
          have HA7 := hide (HA6.out.later HBr.out)
          have HH7 := hide (HH6.out.later HBr.out)
          have J3 := hide (K3.out.later HBr.out)
          have J4 := hide (K4.out.later HBr.out)
          have HRB7 := hide (HRB.out.later HBr.out)
          have HIL7 := hide (HIL6.out.later HBr.out)
          have HIM7 := hide (HIM.out.later HBr.out)
          have HNB7 := hide (HNB.out.later HBr.out)
          clear K1 K2 K3 K4 HB6 HA6 HH6 HRB HIL6 HIM HNB
          go_wp2_with fail
          obtain ⟨w6, rfl⟩ : ∃ w6, w6 = wr := ⟨wr, rfl⟩
          go_loopw [18, 20] (fun v t wr => ∃ i : Nat, i ≤ M.length ∧ t = .int .i64 i ∧ Hid (Below w6.heap.size w6 wr) ∧ Hid (IOwns wr w6.heap.size v (both L (M.take i)))) (fun _ t _ => M.length - (intOf t).toNat)
          case atStart => exact ⟨0, by omega, rfl, Below.refl _ _, IOwns.nil _ _⟩
          case round =>
            obtain ⟨i, hi, rfl, HBq, HOq⟩ := hrel
            by_cases hlt : i < M.length
            · obtain ⟨x0, x1⟩ := hMin.out i hlt
              have hS : Hid (both L (M.take (i + 1)) = both L (M.take i) ++ [iat L (iat M i).toNat]) := both_snoc L M hlt
              have hTl := both_take_len L M hi
              obtain ⟨T, hTT⟩ : ∃ T, both L (M.take i) = T := ⟨_, rfl⟩
              rw [hTT] at hS hTl HOq
              obtain ⟨x, hx⟩ : ∃ x, iat M i = x := ⟨_, rfl⟩
              rcases HIM7.out.later HBq.out with h | ⟨b2, o2, rfl, L2⟩
              · rw [h] at hlt; simp at hlt
              have d0 := L2 i hlt
              rw [hx] at hS x0 x1 d0
              obtain ⟨xn, rfl⟩ : ∃ xn : Nat, x = xn := ⟨x.toNat, by omega⟩
              rcases HIL7.out.later HBq.out with h | ⟨b1, o1, rfl, L1⟩
              · rw [h] at x1; simp at x1; omega
              have c0 := L1 xn (by omega)
              rw [Int.toNat_natCast] at hS
              obtain ⟨y, hy⟩ : ∃ y, iat L xn = y := ⟨_, rfl⟩
              rw [hy] at c0 hS
              have HTL := hide hTl
              clear L1 L2 hTT hx hy hTl
              obtain ⟨p0, c, rfl, _, _, _, _⟩ := HOq.out.form
              have hOW : wr.ownsRow w6.heap.size 3 1 (.slice p0 T.length c) T.length (icells T) := HOq.out
              have hsz := HBq.out.size
              go_wp2_with (at_builtin; refine wpList_append_own _ rfl _ _ 25 rfl w6.heap.size 3 i0 (.int .i64 0) 1 8 Try.underlying25 hi0 hz0 hz1 hz2 rfl (by decide) _ _ _ rfl (World.ownsRow.alloc hOW _) ⟨wr.heap.size, 0, none⟩ 1 1 [.int .i64 y] rfl rfl ?c6 ?c7 ?c8 ?c9 ?c10 ?_)
              case c6 =>
                intro j u hj
                match j, hj with
                | 0, hj => simp at hj; subst hj; simp [Addr.add]
              case c7 => intro u hu; simp at hu; subst hu; rfl
              case c8 => have := HTL.out; unfold maxLen; omega
              case c9 => have := HTL.out; omega
              case c10 => simp; omega
              intro v' w7 hown' hgrow _
              have ho := hide (iowns_more hown')
              have hbg : Below w6.heap.size wr w7 := below_grown (w := wr.alloc (.cells #[.int .i64 y] 3)) (by go_grown) (World.ownsRow.alloc hOW _) (Nat.le_refl _) (by simp; omega) hgrow
              have HBg := hide hbg
              clear hown' hgrow hbg hOW
              go_wp2
              go_roundw
              case rel => exact ⟨i + 1, by omega, by go_num, Below.trans HBq.out HBg.out, by rw [hS.out]; exact ho.out⟩
              case measure => simp [intOf]; omega
            · have hin : i = M.length := by omega
              subst hin
              rw [List.take_length] at HOq
              obtain ⟨pE, cE, rfl, hiE, _, _, _⟩ := HOq.out.form
              have HB8 := hide (below_step HB7.out HBq.out)
              have HA8 := hide (HA7.out.later HBq.out)
              have HH8 := hide (HH7.out.later HBq.out)
              have K3 := hide (J3.out.later HBq.out)
              have K4 := hide (J4.out.later HBq.out)
              have HRB8 := hide (HRB7.out.later HBq.out)
              have HNB8 := hide (HNB7.out.later HBq.out)
              have HIE := hide hiE
              have hOB := HO.out.later HBq.out
              obtain ⟨pB', cB', hvB, hiB, _, _, _⟩ := hOB.form
              obtain ⟨rfl, rfl⟩ : pB = pB' ∧ cB = cB' := by
                simp at hvB
                exact hvB
              have hbl := both_length nodes more_
              have P3 := part28 m p pB es (both nodes more_) cp cB wr (by rw [hbl]; exact l2) HH8.out hiB
              rw [hbl] at P3
              have P3' := hide P3
              obtain ⟨q0, q1', _, _⟩ := HA8.out
              clear hvB hOB hiB hiE P3 HB7 HA7 HH7 HRB7 HIL7 HIM7 HNB7 J3 J4
              rw [hbl]
              go_wp2_with fail
              refine P3'.out.mono ?_
              rintro e w8 ⟨hP3, hb8⟩
              rcases hP3 with ⟨_, gC, vN, rfl, hrC, hoN⟩ | ⟨hE3, _⟩
              rotate_left
              · exact absurd HEB.out hE3
              rw [HPB.out] at hrC ⊢
              rw [HWB.out] at hoN
              obtain ⟨pN, cN, rfl, hiN, _, _, _⟩ := hoN.form
              rw [hbl]
              have hLM : (both L M).length ≤ 3072 := by rw [both_length]; exact hMlen
              clear hbl
              obtain ⟨W8, hW8⟩ : ∃ W8, W8 = w8.alloc (nbx more_.length (some ⟨gC, 0, none⟩) B.length B.length) := ⟨_, rfl⟩
              have hb9 : Below w8.heap.size w8 W8 := by rw [hW8]; go_grown
              have hb9' := below_step hb8 hb9
              have HB9 := hide (below_step HB8.out hb9')
              have HA9 := hide (HA8.out.later hb9')
              have HH9 := hide (HH8.out.later hb9')
              have J3 := hide (K3.out.later hb9')
              have J4 := hide (K4.out.later hb9')
              have HIE9 := hide (HIE.out.later hb9')
              have HIN := hide (hiN.later hb9)
              have S3 := same21 more_.length more_.length (some ⟨gB, 0, none⟩) (some ⟨gC, 0, none⟩) B B B.length B.length W8 (by omega) (HRB8.out.later hb9') (hrC.has.later hb9)
              rw [show sameB (more_.length : Int) (more_.length : Int) B B = true by unfold sameB; simp] at S3
              have S3' := hide S3
              have r0 := (HNB8.out.later hb8).1
              have r1 := (HNB8.out.later hb8).2.1
              have zb : gb < w8.heap.size := block_lt_of_cell r0
              clear q0 q1' hb8 hb9 hb9' hrC hoN hiN S3
              go_wp2_with fail
              rw [show w8.alloc (nbx more_.length (some ⟨gC, 0, none⟩) B.length B.length) = W8 from hW8.symm]
              clear hW8 r0 r1 zb
              refine S3'.out.mono ?_
              rintro e w9 ⟨rfl, hb9⟩
              have HB10 := hide (below_step HB9.out hb9)
              have HA10 := hide (HA9.out.later hb9)
              have HH10 := hide (HH9.out.later hb9)
              have K3 := hide (J3.out.later hb9)
              have K4 := hide (J4.out.later hb9)
              have I3 := ints30 pN pE (both L M) (both L M) cN cE w9 (by unfold maxLen; omega) (HIN.out.later hb9) (HIE9.out.later hb9)
              rw [decide_eq_true (rfl : both L M = both L M)] at I3
              have I3' := hide I3
              clear hb9 I3 S3'
              go_wp2_with fail
              refine I3'.out.mono ?_
              rintro e wT ⟨rfl, hb⟩
              have HBT := hide (below_step HB10.out hb)
              have HAT := hide (HA10.out.later hb)
              have HHT := hide (HH10.out.later hb)
              have T3 := hide (K3.out.later hb)
              have T4 := hide (K4.out.later hb)
              obtain ⟨q0, q1', _, _⟩ := HAT.out
              clear hb HB9 HA9 HH9 J3 J4 HB10 HA10 HH10 K3 K4 I3'
              go_wp2_with fail
              clear q0 q1'
              have U1 := hide (sub27 m p q3 es keep cp c3 wT l3 HHT.out T3.out)
              refine U1.out.mono ?_
              rintro e wU ⟨hSP, hb⟩
              have HBU := hide (below_step HBT.out hb)
              have HAU := hide (HAT.out.later hb)
              have HHU := hide (HHT.out.later hb)
              have V3 := hide (T3.out.later hb)
              have V4 := hide (T4.out.later hb)
              clear hb HBT HAT HHT T3 T4 U1
              rcases hSP with ⟨hES, gS, rfl, hrS⟩ | ⟨hES, rfl⟩
              rotate_left
              · obtain ⟨E, hEE⟩ : ∃ E, subE m es keep = E := ⟨_, rfl⟩
                rw [hEE] at hES ⊢
                have hEb : (E == 0) = false := by simpa using hES
                have hb := HBU.out
                have hbs := hb.size
                go_wp2
                go_ret
                exact ⟨rfl, by go_grown⟩
              obtain ⟨_, heK⟩ := subE_net hES
              have hlK := chosen_le heK
              obtain ⟨S, hSS⟩ : ∃ S, pick es keep = S := ⟨_, rfl⟩
              have hSl : S.length = keep.length := by rw [← hSS, pick_length]
              rw [hSS] at hrS
              obtain ⟨W5, hW5⟩ : ∃ W5, W5 = wU.alloc (nbx m (some ⟨gS, 0, none⟩) keep.length keep.length) := ⟨_, rfl⟩
              have hb5 : Below wU.heap.size wU W5 := by rw [hW5]; go_grown
              have U2 := sub27 m (some ⟨gS, 0, none⟩) q4 S less keep.length c4 W5 l4 (hrS.has.later hb5) (V4.out.later hb5)
              rw [hSl] at U2
              have U2' := hide U2
              have HB5 := hide (below_step HBU.out hb5)
              have HA5 := hide (HAU.out.later hb5)
              have HH5 := hide (HHU.out.later hb5)
              have X3 := hide (V3.out.later hb5)
              have X4 := hide (V4.out.later hb5)
              clear hb5 U2 V3 V4 HBU HAU HHU hrS
              go_wp2_with fail
              rw [show wU.alloc (nbx m (some ⟨gS, 0, none⟩) keep.length keep.length) = W5 from hW5.symm]
              obtain ⟨gs, hgs⟩ : ∃ gs, gs = wU.heap.size := ⟨_, rfl⟩
              rw [← hgs]
              clear hW5 hgs
              refine U2'.out.mono ?_
              rintro e wV ⟨hSP, hb⟩
              have HB6 := hide (below_step HB5.out hb)
              have HA6 := hide (HA5.out.later hb)
              have HH6 := hide (HH5.out.later hb)
              have Y3 := hide (X3.out.later hb)
              have Y4 := hide (X4.out.later hb)
              clear hb HB5 HA5 HH5 X3 X4 U2'
              rcases hSP with ⟨hET, gT, rfl, hrT⟩ | ⟨hET, rfl⟩
              rotate_left
              · obtain ⟨E, hEE⟩ : ∃ E, subE m S less = E := ⟨_, rfl⟩
                rw [hEE] at hET ⊢
                have hEb : (E == 0) = false := by simpa using hET
                have hb := HB6.out
                have hbs := hb.size
                go_wp2
                go_ret
                exact ⟨rfl, by go_grown⟩
              obtain ⟨_, heL⟩ := subE_net hET
              rw [hSl] at heL
              have hlL := chosen_le heL
              have hinL := hide (chosen_in heL)
              have HPU : Hid (pick es (both keep less) = pick S less) := by show _ = _; rw [pick_both heL, hSS]
              have HEU : Hid (subE m es (both keep less) = 0) := subE_of hm (both_ok heK heL)
              obtain ⟨R, hRR⟩ : ∃ R, pick S less = R := ⟨_, rfl⟩
              have HRl : Hid (R.length = less.length) := by show _ = _; rw [← hRR, pick_length]
              rw [hRR] at hrT HPU
              obtain ⟨W6, hW6⟩ : ∃ W6, W6 = wV.alloc (nbx m (some ⟨gT, 0, none⟩) less.length less.length) := ⟨_, rfl⟩
              have hb6 : Below wV.heap.size wV W6 := by rw [hW6]; go_grown
              have HB7 := hide (below_step HB6.out hb6)
              have HA7 := hide (HA6.out.later hb6)
              have HH7 := hide (HH6.out.later hb6)
              have X3 := hide (Y3.out.later hb6)
              have X4 := hide (Y4.out.later hb6)
              have HRT := hide (hrT.has.later hb6)
              have NT : NOwn W6 wV.heap.size m (some ⟨gT, 0, none⟩) less.length less.length := by rw [hW6]; exact nown_new _ _ _ _ _
              have HNT := hide NT
              clear hb6 hrT NT heK heL hES hET HB6 HA6 HH6 Y3 Y4 hRR hSS hSl
              go_wp2_with fail
              rw [show wV.alloc (nbx m (some ⟨gT, 0, none⟩) less.length less.length) = W6 from hW6.symm]
              obtain ⟨gt, hgt⟩ : ∃ gt, gt = wV.heap.size := ⟨_, rfl⟩
              rw [← hgt] at HNT ⊢
              clear hgt hW6
              go_loopw [27, 28] (fun v t wr => ∃ i : Nat, i ≤ less.length ∧ t = .int .i64 i ∧ Hid (Below W6.heap.size W6 wr) ∧ Hid (IOwns wr W6.heap.size v (both keep (less.take i)))) (fun _ t _ => less.length - (intOf t).toNat)
              case atStart => exact ⟨0, by omega, rfl, Below.refl _ _, IOwns.nil _ _⟩
              case round =>
                obtain ⟨i, hi, rfl, HBz, HOz⟩ := hrel
                by_cases hlt : i < less.length
                · obtain ⟨x0, x1⟩ := hinL.out i hlt
                  have hS : Hid (both keep (less.take (i + 1)) = both keep (less.take i) ++ [iat keep (iat less i).toNat]) := both_snoc keep less hlt
                  have hTl := both_take_len keep less hi
                  obtain ⟨T, hTT⟩ : ∃ T, both keep (less.take i) = T := ⟨_, rfl⟩
                  rw [hTT] at hS hTl HOz
                  obtain ⟨x, hx⟩ : ∃ x, iat less i = x := ⟨_, rfl⟩
                  rcases X4.out.later HBz.out with h | ⟨b2, o2, rfl, L2⟩
                  · rw [h] at hlt; simp at hlt
                  have d0 := L2 i hlt
                  rw [hx] at hS x0 x1 d0
                  obtain ⟨xn, rfl⟩ : ∃ xn : Nat, x = xn := ⟨x.toNat, by omega⟩
                  rcases X3.out.later HBz.out with h | ⟨b1, o1, rfl, L1⟩
                  · rw [h] at x1; simp at x1; omega
                  have c0 := L1 xn (by omega)
                  rw [Int.toNat_natCast] at hS
                  obtain ⟨y, hy⟩ : ∃ y, iat keep xn = y := ⟨_, rfl⟩
                  rw [hy] at c0 hS
                  have HTL := hide hTl
                  clear L1 L2 hTT hx hy hTl
                  obtain ⟨p0, c, rfl, _, _, _, _⟩ := HOz.out.form
                  have hOW : wr.ownsRow W6.heap.size 3 1 (.slice p0 T.length c) T.length (icells T) := HOz.out
                  have hsz := HBz.out.size
                  go_wp2_with (at_builtin; refine wpList_append_own _ rfl _ _ 25 rfl W6.heap.size 3 i0 (.int .i64 0) 1 8 Try.underlying25 hi0 hz0 hz1 hz2 rfl (by decide) _ _ _ rfl (World.ownsRow.alloc hOW _) ⟨wr.heap.size, 0, none⟩ 1 1 [.int .i64 y] rfl rfl ?d1a ?d2a ?d3a ?d4a ?d5a ?_)
                  case d1a =>
                    intro j u hj
                    match j, hj with
                    | 0, hj => simp at hj; subst hj; simp [Addr.add]
                  case d2a => intro u hu; simp at hu; subst hu; rfl
                  case d3a => have := HTL.out; unfold maxLen; omega
                  case d4a => have := HTL.out; omega
                  case d5a => simp; omega
                  intro v' wX hown' hgrow _
                  have ho := hide (iowns_more hown')
                  have hbg : Below W6.heap.size wr wX := below_grown (w := wr.alloc (.cells #[.int .i64 y] 3)) (by go_grown) (World.ownsRow.alloc hOW _) (Nat.le_refl _) (by simp; omega) hgrow
                  have HBg := hide hbg
                  clear hown' hgrow hbg hOW
                  go_wp2
                  go_roundw
                  case rel => exact ⟨i + 1, by omega, by go_num, Below.trans HBz.out HBg.out, by rw [hS.out]; exact ho.out⟩
                  case measure => simp [intOf]; omega
                · have hin : i = less.length := by omega
                  subst hin
                  rw [List.take_length] at HOz
                  obtain ⟨pZ, cZ, rfl, hiZ, _, _, _⟩ := HOz.out.form
                  have HB8 := hide (below_step HB7.out HBz.out)
                  have HA8 := hide (HA7.out.later HBz.out)
                  have HH8 := hide (HH7.out.later HBz.out)
                  have HRT8 := hide (HRT.out.later HBz.out)
                  have HNT8 := hide (HNT.out.later HBz.out)
                  have hbl := both_length keep less
                  have P3 := sub27 m p pZ es (both keep less) cp cZ wr (by rw [hbl]; exact l4) HH8.out hiZ
                  rw [hbl] at P3
                  have P3' := hide P3
                  obtain ⟨q0, q1', _, _⟩ := HA8.out
                  clear P3 HB7 HA7 HH7 HRT HNT X3 X4 hiZ
                  rw [hbl]
                  go_wp2_with fail
                  refine P3'.out.mono ?_
                  rintro e wY ⟨hSP, hbY⟩
                  rcases hSP with ⟨_, gU, rfl, hrU⟩ | ⟨hE3, _⟩
                  rotate_left
                  · exact absurd HEU.out hE3
                  rw [HPU.out, hbl] at hrU
                  rw [hbl]
                  clear hbl
                  obtain ⟨W8, hW8⟩ : ∃ W8, W8 = wY.alloc (nbx m (some ⟨gU, 0, none⟩) less.length less.length) := ⟨_, rfl⟩
                  have hb9 : Below wY.heap.size wY W8 := by rw [hW8]; go_grown
                  have hb9' := below_step hbY hb9
                  have HB9 := hide (below_step HB8.out hb9')
                  have S3 := same21 m m (some ⟨gT, 0, none⟩) (some ⟨gU, 0, none⟩) R R less.length less.length W8 (by have := HRl.out; omega) (HRT8.out.later hb9') (hrU.has.later hb9)
                  rw [show sameB (m : Int) (m : Int) R R = true by unfold sameB; simp, HRl.out] at S3
                  have S3' := hide S3
                  have r0 := (HNT8.out.later hbY).1
                  have r1 := (HNT8.out.later hbY).2.1
                  have zb : gt < wY.heap.size := block_lt_of_cell r0
                  clear q0 q1' hbY hb9 hb9' hrU S3
                  go_wp2_with fail
                  rw [show wY.alloc (nbx m (some ⟨gU, 0, none⟩) less.length less.length) = W8 from hW8.symm]
                  clear hW8 r0 r1 zb
                  refine S3'.out.mono ?_
                  rintro e wZ ⟨rfl, hbZ⟩
                  have HBZ := hide (below_step HB9.out hbZ)
                  clear hbZ
                  go_wp2
                  go_ret
                  exact ⟨rfl, HBZ.out⟩
    · obtain ⟨E, hEE⟩ : ∃ E, partE nodes.length A more_ = E := ⟨_, rfl⟩
      rw [hEE] at hE2 ⊢
      have hEb : (E == 0) = false := by simpa using hE2
      obtain ⟨wT, hwT⟩ : ∃ wT, wT = w4.alloc (nbx 0 none 0 0) := ⟨_, rfl⟩
      have hbT : Below w4.heap.size w4 wT := by rw [hwT]; go_grown
      have HBT := hide (below_step HB5.out hbT)
      have HAT := hide (HA5.out.later hbT)
      have HHT := hide (HH5.out.later hbT)
      have T3 := hide (J3.out.later hbT)
      have T4 := hide (J4.out.later hbT)
      clear hbT
      go_wp2_with fail
      rw [show w4.alloc (nbx 0 none 0 0) = wT from hwT.symm]
      clear hwT zn
      clear q0 q1'
      have U1 := hide (sub27 m p q3 es keep cp c3 wT l3 HHT.out T3.out)
      refine U1.out.mono ?_
      rintro e wU ⟨hSP, hb⟩
      have HBU := hide (below_step HBT.out hb)
      have HAU := hide (HAT.out.later hb)
      have HHU := hide (HHT.out.later hb)
      have V3 := hide (T3.out.later hb)
      have V4 := hide (T4.out.later hb)
      clear hb HBT HAT HHT T3 T4 U1
      rcases hSP with ⟨hES, gS, rfl, hrS⟩ | ⟨hES, rfl⟩
      rotate_left
      · obtain ⟨E, hEE⟩ : ∃ E, subE m es keep = E := ⟨_, rfl⟩
        rw [hEE] at hES ⊢
        have hEb : (E == 0) = false := by simpa using hES
        have hb := HBU.out
        have hbs := hb.size
        go_wp2
        go_ret
        exact ⟨rfl, by go_grown⟩
      obtain ⟨_, heK⟩ := subE_net hES
      have hlK := chosen_le heK
      obtain ⟨S, hSS⟩ : ∃ S, pick es keep = S := ⟨_, rfl⟩
      have hSl : S.length = keep.length := by rw [← hSS, pick_length]
      rw [hSS] at hrS
      obtain ⟨W5, hW5⟩ : ∃ W5, W5 = wU.alloc (nbx m (some ⟨gS, 0, none⟩) keep.length keep.length) := ⟨_, rfl⟩
      have hb5 : Below wU.heap.size wU W5 := by rw [hW5]; go_grown
      have U2 := sub27 m (some ⟨gS, 0, none⟩) q4 S less keep.length c4 W5 l4 (hrS.has.later hb5) (V4.out.later hb5)
      rw [hSl] at U2
      have U2' := hide U2
      have HB5 := hide (below_step HBU.out hb5)
      have HA5 := hide (HAU.out.later hb5)
      have HH5 := hide (HHU.out.later hb5)
      have X3 := hide (V3.out.later hb5)
      have X4 := hide (V4.out.later hb5)
      clear hb5 U2 V3 V4 HBU HAU HHU hrS
      go_wp2_with fail
      rw [show wU.alloc (nbx m (some ⟨gS, 0, none⟩) keep.length keep.length) = W5 from hW5.symm]
      obtain ⟨gs, hgs⟩ : ∃ gs, gs = wU.heap.size := ⟨_, rfl⟩
      rw [← hgs]
      clear hW5 hgs
      refine U2'.out.mono ?_
      rintro e wV ⟨hSP, hb⟩
      have HB6 := hide (below_step HB5.out hb)
      have HA6 := hide (HA5.out.later hb)
      have HH6 := hide (HH5.out.later hb)
      have Y3 := hide (X3.out.later hb)
      have Y4 := hide (X4.out.later hb)
      clear hb HB5 HA5 HH5 X3 X4 U2'
      rcases hSP with ⟨hET, gT, rfl, hrT⟩ | ⟨hET, rfl⟩
      rotate_left
      · obtain ⟨E, hEE⟩ : ∃ E, subE m S less = E := ⟨_, rfl⟩
        rw [hEE] at hET ⊢
        have hEb : (E == 0) = false := by simpa using hET
        have hb := HB6.out
        have hbs := hb.size
        go_wp2
        go_ret
        exact ⟨rfl, by go_grown⟩
      obtain ⟨_, heL⟩ := subE_net hET
      rw [hSl] at heL
      have hlL := chosen_le heL
      have hinL := hide (chosen_in heL)
      have HPU : Hid (pick es (both keep less) = pick S less) := by show _ = _; rw [pick_both heL, hSS]
      have HEU : Hid (subE m es (both keep less) = 0) := subE_of hm (both_ok heK heL)
      obtain ⟨R, hRR⟩ : ∃ R, pick S less = R := ⟨_, rfl⟩
      have HRl : Hid (R.length = less.length) := by show _ = _; rw [← hRR, pick_length]
      rw [hRR] at hrT HPU
      obtain ⟨W6, hW6⟩ : ∃ W6, W6 = wV.alloc (nbx m (some ⟨gT, 0, none⟩) less.length less.length) := ⟨_, rfl⟩
      have hb6 : Below wV.heap.size wV W6 := by rw [hW6]; go_grown
      have HB7 := hide (below_step HB6.out hb6)
      have HA7 := hide (HA6.out.later hb6)
      have HH7 := hide (HH6.out.later hb6)
      have X3 := hide (Y3.out.later hb6)
      have X4 := hide (Y4.out.later hb6)
      have HRT := hide (hrT.has.later hb6)
      have NT : NOwn W6 wV.heap.size m (some ⟨gT, 0, none⟩) less.length less.length := by rw [hW6]; exact nown_new _ _ _ _ _
      have HNT := hide NT
      clear hb6 hrT NT heK heL hES hET HB6 HA6 HH6 Y3 Y4 hRR hSS hSl
      go_wp2_with fail
      rw [show wV.alloc (nbx m (some ⟨gT, 0, none⟩) less.length less.length) = W6 from hW6.symm]
      obtain ⟨gt, hgt⟩ : ∃ gt, gt = wV.heap.size := ⟨_, rfl⟩
      rw [← hgt] at HNT ⊢
      clear hgt hW6
      go_loopw [27, 28] (fun v t wr => ∃ i : Nat, i ≤ less.length ∧ t = .int .i64 i ∧ Hid (Below W6.heap.size W6 wr) ∧ Hid (IOwns wr W6.heap.size v (both keep (less.take i)))) (fun _ t _ => less.length - (intOf t).toNat)
      case atStart => exact ⟨0, by omega, rfl, Below.refl _ _, IOwns.nil _ _⟩
      case round =>
        obtain ⟨i, hi, rfl, HBz, HOz⟩ := hrel
        by_cases hlt : i < less.length
        · obtain ⟨x0, x1⟩ := hinL.out i hlt
          have hS : Hid (both keep (less.take (i + 1)) = both keep (less.take i) ++ [iat keep (iat less i).toNat]) := both_snoc keep less hlt
          have hTl := both_take_len keep less hi
          obtain ⟨T, hTT⟩ : ∃ T, both keep (less.take i) = T := ⟨_, rfl⟩
          rw [hTT] at hS hTl HOz
          obtain ⟨x, hx⟩ : ∃ x, iat less i = x := ⟨_, rfl⟩
          rcases X4.out.later HBz.out with h | ⟨b2, o2, rfl, L2⟩
          · rw [h] at hlt; simp at hlt
          have d0 := L2 i hlt
          rw [hx] at hS x0 x1 d0
          obtain ⟨xn, rfl⟩ : ∃ xn : Nat, x = xn := ⟨x.toNat, by omega⟩
          rcases X3.out.later HBz.out with h | ⟨b1, o1, rfl, L1⟩
          · rw [h] at x1; simp at x1; omega
          have c0 := L1 xn (by omega)
          rw [Int.toNat_natCast] at hS
          obtain ⟨y, hy⟩ : ∃ y, iat keep xn = y := ⟨_, rfl⟩
          rw [hy] at c0 hS
          have HTL := hide hTl
          clear L1 L2 hTT hx hy hTl
          obtain ⟨p0, c, rfl, _, _, _, _⟩ := HOz.out.form
          have hOW : wr.ownsRow W6.heap.size 3 1 (.slice p0 T.length c) T.length (icells T) := HOz.out
          have hsz := HBz.out.size
          go_wp2_with (at_builtin; refine wpList_append_own _ rfl _ _ 25 rfl W6.heap.size 3 i0 (.int .i64 0) 1 8 Try.underlying25 hi0 hz0 hz1 hz2 rfl (by decide) _ _ _ rfl (World.ownsRow.alloc hOW _) ⟨wr.heap.size, 0, none⟩ 1 1 [.int .i64 y] rfl rfl ?d1b ?d2b ?d3b ?d4b ?d5b ?_)
          case d1b =>
            intro j u hj
            match j, hj with
            | 0, hj => simp at hj; subst hj; simp [Addr.add]
          case d2b => intro u hu; simp at hu; subst hu; rfl
          case d3b => have := HTL.out; unfold maxLen; omega
          case d4b => have := HTL.out; omega
          case d5b => simp; omega
          intro v' wX hown' hgrow _
          have ho := hide (iowns_more hown')
          have hbg : Below W6.heap.size wr wX := below_grown (w := wr.alloc (.cells #[.int .i64 y] 3)) (by go_grown) (World.ownsRow.alloc hOW _) (Nat.le_refl _) (by simp; omega) hgrow
          have HBg := hide hbg
          clear hown' hgrow hbg hOW
          go_wp2
          go_roundw
          case rel => exact ⟨i + 1, by omega, by go_num, Below.trans HBz.out HBg.out, by rw [hS.out]; exact ho.out⟩
          case measure => simp [intOf]; omega
        · have hin : i = less.length := by omega
          subst hin
          rw [List.take_length] at HOz
          obtain ⟨pZ, cZ, rfl, hiZ, _, _, _⟩ := HOz.out.form
          have HB8 := hide (below_step HB7.out HBz.out)
          have HA8 := hide (HA7.out.later HBz.out)
          have HH8 := hide (HH7.out.later HBz.out)
          have HRT8 := hide (HRT.out.later HBz.out)
          have HNT8 := hide (HNT.out.later HBz.out)
          have hbl := both_length keep less
          have P3 := sub27 m p pZ es (both keep less) cp cZ wr (by rw [hbl]; exact l4) HH8.out hiZ
          rw [hbl] at P3
          have P3' := hide P3
          obtain ⟨q0, q1', _, _⟩ := HA8.out
          clear P3 HB7 HA7 HH7 HRT HNT X3 X4 hiZ
          rw [hbl]
          go_wp2_with fail
          refine P3'.out.mono ?_
          rintro e wY ⟨hSP, hbY⟩
          rcases hSP with ⟨_, gU, rfl, hrU⟩ | ⟨hE3, _⟩
          rotate_left
          · exact absurd HEU.out hE3
          rw [HPU.out, hbl] at hrU
          rw [hbl]
          clear hbl
          obtain ⟨W8, hW8⟩ : ∃ W8, W8 = wY.alloc (nbx m (some ⟨gU, 0, none⟩) less.length less.length) := ⟨_, rfl⟩
          have hb9 : Below wY.heap.size wY W8 := by rw [hW8]; go_grown
          have hb9' := below_step hbY hb9
          have HB9 := hide (below_step HB8.out hb9')
          have S3 := same21 m m (some ⟨gT, 0, none⟩) (some ⟨gU, 0, none⟩) R R less.length less.length W8 (by have := HRl.out; omega) (HRT8.out.later hb9') (hrU.has.later hb9)
          rw [show sameB (m : Int) (m : Int) R R = true by unfold sameB; simp, HRl.out] at S3
          have S3' := hide S3
          have r0 := (HNT8.out.later hbY).1
          have r1 := (HNT8.out.later hbY).2.1
          have zb : gt < wY.heap.size := block_lt_of_cell r0
          clear q0 q1' hbY hb9 hb9' hrU S3
          go_wp2_with fail
          rw [show wY.alloc (nbx m (some ⟨gU, 0, none⟩) less.length less.length) = W8 from hW8.symm]
          clear hW8 r0 r1 zb
          refine S3'.out.mono ?_
          rintro e wZ ⟨rfl, hbZ⟩
          have HBZ := hide (below_step HB9.out hbZ)
          clear hbZ
          go_wp2
          go_ret
          exact ⟨rfl, HBZ.out⟩
  · obtain ⟨E, hEE⟩ : ∃ E, partE m es nodes = E := ⟨_, rfl⟩
    rw [hEE] at hE ⊢
    have hEb : (E == 0) = false := by simpa using hE
    obtain ⟨wT, hwT⟩ : ∃ wT, wT = w3.alloc (nbx 0 none 0 0) := ⟨_, rfl⟩
    have hbT : Below w3.heap.size w3 wT := by rw [hwT]; go_grown
    have HBT := hide (below_step HB3.out hbT)
    have HAT := hide (HA3.out.later hbT)
    have HHT := hide (HH3.out.later hbT)
    have T3 := hide (J3.out.later hbT)
    have T4 := hide (J4.out.later hbT)
    clear hbT
    go_wp2_with fail
    rw [show w3.alloc (nbx 0 none 0 0) = wT from hwT.symm]
    clear hwT zn
    clear q0 q1'
    have U1 := hide (sub27 m p q3 es keep cp c3 wT l3 HHT.out T3.out)
    refine U1.out.mono ?_
    rintro e wU ⟨hSP, hb⟩
    have HBU := hide (below_step HBT.out hb)
    have HAU := hide (HAT.out.later hb)
    have HHU := hide (HHT.out.later hb)
    have V3 := hide (T3.out.later hb)
    have V4 := hide (T4.out.later hb)
    clear hb HBT HAT HHT T3 T4 U1
    rcases hSP with ⟨hES, gS, rfl, hrS⟩ | ⟨hES, rfl⟩
    rotate_left
    · obtain ⟨E, hEE⟩ : ∃ E, subE m es keep = E := ⟨_, rfl⟩
      rw [hEE] at hES ⊢
      have hEb : (E == 0) = false := by simpa using hES
      have hb := HBU.out
      have hbs := hb.size
      go_wp2
      go_ret
      exact ⟨rfl, by go_grown⟩
    obtain ⟨_, heK⟩ := subE_net hES
    have hlK := chosen_le heK
    obtain ⟨S, hSS⟩ : ∃ S, pick es keep = S := ⟨_, rfl⟩
    have hSl : S.length = keep.length := by rw [← hSS, pick_length]
    rw [hSS] at hrS
    obtain ⟨W5, hW5⟩ : ∃ W5, W5 = wU.alloc (nbx m (some ⟨gS, 0, none⟩) keep.length keep.length) := ⟨_, rfl⟩
    have hb5 : Below wU.heap.size wU W5 := by rw [hW5]; go_grown
    have U2 := sub27 m (some ⟨gS, 0, none⟩) q4 S less keep.length c4 W5 l4 (hrS.has.later hb5) (V4.out.later hb5)
    rw [hSl] at U2
    have U2' := hide U2
    have HB5 := hide (below_step HBU.out hb5)
    have HA5 := hide (HAU.out.later hb5)
    have HH5 := hide (HHU.out.later hb5)
    have X3 := hide (V3.out.later hb5)
    have X4 := hide (V4.out.later hb5)
    clear hb5 U2 V3 V4 HBU HAU HHU hrS
    go_wp2_with fail
    rw [show wU.alloc (nbx m (some ⟨gS, 0, none⟩) keep.length keep.length) = W5 from hW5.symm]
    obtain ⟨gs, hgs⟩ : ∃ gs, gs = wU.heap.size := ⟨_, rfl⟩
    rw [← hgs]
    clear hW5 hgs
    refine U2'.out.mono ?_
    rintro e wV ⟨hSP, hb⟩
    have HB6 := hide (below_step HB5.out hb)
    have HA6 := hide (HA5.out.later hb)
    have HH6 := hide (HH5.out.later hb)
    have Y3 := hide (X3.out.later hb)
    have Y4 := hide (X4.out.later hb)
    clear hb HB5 HA5 HH5 X3 X4 U2'
    rcases hSP with ⟨hET, gT, rfl, hrT⟩ | ⟨hET, rfl⟩
    rotate_left
    · obtain ⟨E, hEE⟩ : ∃ E, subE m S less = E := ⟨_, rfl⟩
      rw [hEE] at hET ⊢
      have hEb : (E == 0) = false := by simpa using hET
      have hb := HB6.out
      have hbs := hb.size
      go_wp2
      go_ret
      exact ⟨rfl, by go_grown⟩
    obtain ⟨_, heL⟩ := subE_net hET
    rw [hSl] at heL
    have hlL := chosen_le heL
    have hinL := hide (chosen_in heL)
    have HPU : Hid (pick es (both keep less) = pick S less) := by show _ = _; rw [pick_both heL, hSS]
    have HEU : Hid (subE m es (both keep less) = 0) := subE_of hm (both_ok heK heL)
    obtain ⟨R, hRR⟩ : ∃ R, pick S less = R := ⟨_, rfl⟩
    have HRl : Hid (R.length = less.length) := by show _ = _; rw [← hRR, pick_length]
    rw [hRR] at hrT HPU
    obtain ⟨W6, hW6⟩ : ∃ W6, W6 = wV.alloc (nbx m (some ⟨gT, 0, none⟩) less.length less.length) := ⟨_, rfl⟩
    have hb6 : Below wV.heap.size wV W6 := by rw [hW6]; go_grown
    have HB7 := hide (below_step HB6.out hb6)
    have HA7 := hide (HA6.out.later hb6)
    have HH7 := hide (HH6.out.later hb6)
    have X3 := hide (Y3.out.later hb6)
    have X4 := hide (Y4.out.later hb6)
    have HRT := hide (hrT.has.later hb6)
    have NT : NOwn W6 wV.heap.size m (some ⟨gT, 0, none⟩) less.length less.length := by rw [hW6]; exact nown_new _ _ _ _ _
    have HNT := hide NT
    clear hb6 hrT NT heK heL hES hET HB6 HA6 HH6 Y3 Y4 hRR hSS hSl
    go_wp2_with fail
    rw [show wV.alloc (nbx m (some ⟨gT, 0, none⟩) less.length less.length) = W6 from hW6.symm]
    obtain ⟨gt, hgt⟩ : ∃ gt, gt = wV.heap.size := ⟨_, rfl⟩
    rw [← hgt] at HNT ⊢
    clear hgt hW6
    go_loopw [27, 28] (fun v t wr => ∃ i : Nat, i ≤ less.length ∧ t = .int .i64 i ∧ Hid (Below W6.heap.size W6 wr) ∧ Hid (IOwns wr W6.heap.size v (both keep (less.take i)))) (fun _ t _ => less.length - (intOf t).toNat)
    case atStart => exact ⟨0, by omega, rfl, Below.refl _ _, IOwns.nil _ _⟩
    case round =>
      obtain ⟨i, hi, rfl, HBz, HOz⟩ := hrel
      by_cases hlt : i < less.length
      · obtain ⟨x0, x1⟩ := hinL.out i hlt
        have hS : Hid (both keep (less.take (i + 1)) = both keep (less.take i) ++ [iat keep (iat less i).toNat]) := both_snoc keep less hlt
        have hTl := both_take_len keep less hi
        obtain ⟨T, hTT⟩ : ∃ T, both keep (less.take i) = T := ⟨_, rfl⟩
        rw [hTT] at hS hTl HOz
        obtain ⟨x, hx⟩ : ∃ x, iat less i = x := ⟨_, rfl⟩
        rcases X4.out.later HBz.out with h | ⟨b2, o2, rfl, L2⟩
        · rw [h] at hlt; simp at hlt
        have d0 := L2 i hlt
        rw [hx] at hS x0 x1 d0
        obtain ⟨xn, rfl⟩ : ∃ xn : Nat, x = xn := ⟨x.toNat, by omega⟩
        rcases X3.out.later HBz.out with h | ⟨b1, o1, rfl, L1⟩
        · rw [h] at x1; simp at x1; omega
        have c0 := L1 xn (by omega)
        rw [Int.toNat_natCast] at hS
        obtain ⟨y, hy⟩ : ∃ y, iat keep xn = y := ⟨_, rfl⟩
        rw [hy] at c0 hS
        have HTL := hide hTl
        clear L1 L2 hTT hx hy hTl
        obtain ⟨p0, c, rfl, _, _, _, _⟩ := HOz.out.form
        have hOW : wr.ownsRow W6.heap.size 3 1 (.slice p0 T.length c) T.length (icells T) := HOz.out
        have hsz := HBz.out.size
        go_wp2_with (at_builtin; refine wpList_append_own _ rfl _ _ 25 rfl W6.heap.size 3 i0 (.int .i64 0) 1 8 Try.underlying25 hi0 hz0 hz1 hz2 rfl (by decide) _ _ _ rfl (World.ownsRow.alloc hOW _) ⟨wr.heap.size, 0, none⟩ 1 1 [.int .i64 y] rfl rfl ?d1c ?d2c ?d3c ?d4c ?d5c ?_)
        case d1c =>
          intro j u hj
          match j, hj with
          | 0, hj => simp at hj; subst hj; simp [Addr.add]
        case d2c => intro u hu; simp at hu; subst hu; rfl
        case d3c => have := HTL.out; unfold maxLen; omega
        case d4c => have := HTL.out; omega
        case d5c => simp; omega
        intro v' wX hown' hgrow _
        have ho := hide (iowns_more hown')
        have hbg : Below W6.heap.size wr wX := below_grown (w := wr.alloc (.cells #[.int .i64 y] 3)) (by go_grown) (World.ownsRow.alloc hOW _) (Nat.le_refl _) (by simp; omega) hgrow
        have HBg := hide hbg
        clear hown' hgrow hbg hOW
        go_wp2
        go_roundw
        case rel => exact ⟨i + 1, by omega, by go_num, Below.trans HBz.out HBg.out, by rw [hS.out]; exact ho.out⟩
        case measure => simp [intOf]; omega
      · have hin : i = less.length := by omega
        subst hin
        rw [List.take_length] at HOz
        obtain ⟨pZ, cZ, rfl, hiZ, _, _, _⟩ := HOz.out.form
        have HB8 := hide (below_step HB7.out HBz.out)
        have HA8 := hide (HA7.out.later HBz.out)
        have HH8 := hide (HH7.out.later HBz.out)
        have HRT8 := hide (HRT.out.later HBz.out)
        have HNT8 := hide (HNT.out.later HBz.out)
        have hbl := both_length keep less
        have P3 := sub27 m p pZ es (both keep less) cp cZ wr (by rw [hbl]; exact l4) HH8.out hiZ
        rw [hbl] at P3
        have P3' := hide P3
        obtain ⟨q0, q1', _, _⟩ := HA8.out
        clear P3 HB7 HA7 HH7 HRT HNT X3 X4 hiZ
        rw [hbl]
        go_wp2_with fail
        refine P3'.out.mono ?_
        rintro e wY ⟨hSP, hbY⟩
        rcases hSP with ⟨_, gU, rfl, hrU⟩ | ⟨hE3, _⟩
        rotate_left
        · exact absurd HEU.out hE3
        rw [HPU.out, hbl] at hrU
        rw [hbl]
        clear hbl
        obtain ⟨W8, hW8⟩ : ∃ W8, W8 = wY.alloc (nbx m (some ⟨gU, 0, none⟩) less.length less.length) := ⟨_, rfl⟩
        have hb9 : Below wY.heap.size wY W8 := by rw [hW8]; go_grown
        have hb9' := below_step hbY hb9
        have HB9 := hide (below_step HB8.out hb9')
        have S3 := same21 m m (some ⟨gT, 0, none⟩) (some ⟨gU, 0, none⟩) R R less.length less.length W8 (by have := HRl.out; omega) (HRT8.out.later hb9') (hrU.has.later hb9)
        rw [show sameB (m : Int) (m : Int) R R = true by unfold sameB; simp, HRl.out] at S3
        have S3' := hide S3
        have r0 := (HNT8.out.later hbY).1
        have r1 := (HNT8.out.later hbY).2.1
        have zb : gt < wY.heap.size := block_lt_of_cell r0
        clear q0 q1' hbY hb9 hb9' hrU S3
        go_wp2_with fail
        rw [show wY.alloc (nbx m (some ⟨gU, 0, none⟩) less.length less.length) = W8 from hW8.symm]
        clear hW8 r0 r1 zb
        refine S3'.out.mono ?_
        rintro e wZ ⟨rfl, hbZ⟩
        have HBZ := hide (below_step HB9.out hbZ)
        clear hbZ
        go_wp2
        go_ret
        exact ⟨rfl, HBZ.out⟩
end Go.Proofs.Ytmmbbfmkhbengaa
