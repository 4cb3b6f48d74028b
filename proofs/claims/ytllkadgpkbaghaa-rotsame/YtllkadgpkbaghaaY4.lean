/- rot.May and the document's May, in every world. -/
import Derived.Test.YtllkadgpkbaghaaY3
namespace Go.Proofs.Ytllkadgpkbaghaa
open Go.RowKit Go.Sort
open Go

set_option maxRecDepth 100000 in
set_option maxHeartbeats 8000000 in
theorem mayR13 (n : Int) (p : Option Addr) (es : List Pt) (cp : Nat) (q : Option Addr) (rs : List (List Int)) (cq : Nat) (w : World) (h : Has w p es) (hr : RHas w q rs) : Calls Try.prog 13 #[nv n p es.length cp, .slice q rs.length cq] w fun e w' => e = .returned (.int .i64 (rotI n es rs)) ∧ Below w.heap.size w w' := by
  obtain ⟨W, hW, hb, a0⟩ := one_net w n p es.length cp
  have M := hide (may13 n p es cp W (h.later hb))
  have HH := hide (h.later hb)
  have HR := hide (hr.later hb)
  have HB := hide hb
  have HA := hide a0
  clear h hr hb a0
  go_enter Try.func13, Try.ntmps13
  go_wp2_with fail
  rw [← hW]
  clear hW
  refine M.out.mono ?_
  rintro e w1 ⟨rfl, hb1⟩
  have HB1 := hide hb1
  obtain ⟨q0, q1, _, _⟩ := HA.out.later hb1
  clear hb1 M
  cases hm : netB n es
  · have HE : Hid (rotI n es rs = 1) := by show _ = _; unfold rotI; rw [hm]; rfl
    clear hm
    go_wp2
    go_ret
    exact ⟨by rw [HE.out]; rfl, below_step HB.out HB1.out⟩
  · obtain ⟨n0, n1, hes, _⟩ := netB_is hm
    by_cases hn : (rs.length : Int) = n
    · have HE : Hid (rotI n es rs = if holdsB es rs then 0 else 4) := by show _ = _; unfold rotI; rw [hm, if_pos rfl, if_pos hn]
      have HD := hide (holds39 n p es cp q rs cq w1 (HH.out.later HB1.out) (HR.out.later HB1.out) (by omega) (by omega))
      obtain ⟨D, hD⟩ : ∃ D, holdsB es rs = D := ⟨_, rfl⟩
      rw [hD] at HD HE
      clear hm hD
      subst hn
      go_wp2_with fail
      refine HD.out.mono ?_
      rintro e w2 ⟨rfl, hb2⟩
      have HB2 := hide (below_step (below_step HB.out HB1.out) hb2)
      clear hb2 q0 q1 HD
      cases D
      · go_wp2
        go_ret
        exact ⟨by rw [HE.out]; rfl, HB2.out⟩
      · go_wp2
        go_ret
        exact ⟨by rw [HE.out]; rfl, HB2.out⟩
    · have HE : Hid (rotI n es rs = 4) := by show _ = _; unfold rotI; rw [hm, if_pos rfl, if_neg hn]
      clear hm
      go_wp2
      go_ret
      exact ⟨by rw [HE.out]; rfl, below_step HB.out HB1.out⟩
set_option maxRecDepth 100000 in
set_option maxHeartbeats 8000000 in
theorem mayR10 (n : Int) (p : Option Addr) (es : List Pt) (cp : Nat) (q : Option Addr) (rs : List (List Int)) (cq : Nat) (w : World) (h : Has w p es) (hr : RHas w q rs) (hl : rs.length ≤ maxLen) : Calls Try.prog 10 #[nv n p es.length cp, .slice q rs.length cq] w fun e w' => e = .returned (.int .i64 (rotI n es rs)) ∧ Below w.heap.size w w' := by
  obtain ⟨i0, hi0, hz0, hz1, hz2⟩ := info_parts info4
  obtain ⟨W0, hW, hb, a0⟩ := one_net w n p es.length cp
  have M := hide (may12 n p es cp W0 (h.later hb))
  have HH0 := hide (h.later hb)
  have HR0 := hide (hr.later hb)
  have HB0 := hide hb
  have HA0 := hide a0
  unfold maxLen at hl
  clear h hr hb a0
  go_enter Try.func10, Try.ntmps10
  go_wp2_with fail
  rw [← hW]
  clear hW
  refine M.out.mono ?_
  rintro e W ⟨rfl, hb1⟩
  have HH := hide (HH0.out.later hb1)
  have HR := hide (HR0.out.later hb1)
  have HA := hide (HA0.out.later hb1)
  have HB := hide (below_step HB0.out hb1)
  obtain ⟨q0, q1, _, _⟩ := HA0.out.later hb1
  clear hb1 M HH0 HR0 HB0 HA0
  cases hm : netB n es
  · have HE : Hid (rotI n es rs = 1) := by show _ = _; unfold rotI; rw [hm]; rfl
    clear hm
    go_wp2
    go_ret
    exact ⟨by rw [HE.out]; rfl, HB.out⟩
  · obtain ⟨n0, n1, hes, hed⟩ := netB_is hm
    clear hed
    by_cases hn : (rs.length : Int) = n
    · have HE : Hid (rotI n es rs = if holdsB es rs then 0 else 4) := by show _ = _; unfold rotI; rw [hm, if_pos rfl, if_pos hn]
      clear hm
      subst hn
      go_wp2_with (refine wpList_make_full _ rfl (.tmp 21) (.tmp 21) 49 rfl W.heap.size 4 i0 (.bool false) 1 Try.underlying49 hi0 hz0 hz1 .i64 .i64 _ _ (2 * es.length) rfl rfl rfl rfl ?c1 ?c2 ?c3 ?_)
      case c1 => rw [hz2]; omega
      case c2 => unfold maxLen; omega
      case c3 => exact Nat.le_refl _
      intro w2 hown hgrow
      have hb2 : Below W.heap.size W w2 := below_made hgrow
      have hgp := brow_made hown
      obtain ⟨g, hg⟩ : ∃ g, W.heap.size = g := ⟨_, rfl⟩
      have HG := hide hg
      have HG0 : Hid (BRow w2 W.heap.size g (2 * es.length) (fun x => decide ((x : Int) ∈ ahead rs 0 0))) := by
        show BRow _ _ _ _ _
        rw [hg] at hgp ⊢
        exact hgp.congr (fun i _ => by rw [ahead_zero]; simp)
      have HB2 := hide hb2
      try rw [hg]
      clear hown hgrow hgp hb2 hg q0 q1 hi0 hz0 hz1 hz2 i0
      go_wp2_with fail
      go_loopw [6, 7] (fun t6 t7 wr => ∃ v : Nat, v ≤ rs.length ∧ t6 = .int .i64 ((ahead rs v 0).length : Nat) ∧ t7 = .int .i64 v ∧ Hid (Fits es rs v 0) ∧ Hid (Below W.heap.size W wr) ∧ Hid (BRow wr W.heap.size g (2 * es.length) (fun x => decide ((x : Int) ∈ ahead rs v 0)))) (fun _ t7 _ => rs.length - (intOf t7).toNat)
      case atStart => exact ⟨0, by omega, by rw [ahead_zero]; rfl, rfl, Fits.zero _ _, HB2.out, HG0.out⟩
      case round =>
        obtain ⟨v, hv, rfl, rfl, HF, HBr, HGr⟩ := hrel
        clear HB2 HG0
        obtain ⟨q0, q1, _, _⟩ := HA.out.later HBr.out
        by_cases hlt : v < rs.length
        · obtain ⟨b1, o1, a1, k1, rfl, c0W, m1, z1⟩ := HR.out.at_ hlt
          have e1 : (v : Int) < rs.length := by omega
          have HIA : Hid (∀ V, Below W.heap.size W V → IHas V a1 (lat rs v)) := fun V hV => m1.later hV
          have HC0 : Hid (∀ V, Below W.heap.size W V → V.cell? ⟨b1, o1 + v, none⟩ = some (.slice a1 (lat rs v).length k1)) := fun V hV => later hV c0W
          unfold maxLen at z1
          clear m1 c0W
          go_wp2_with fail
          clear q0 q1
          go_loopw [6, 8] (fun t6 t8 wj => ∃ j : Nat, j ≤ (lat rs v).length ∧ t6 = .int .i64 ((ahead rs v j).length : Nat) ∧ t8 = .int .i64 j ∧ Hid (Fits es rs v j) ∧ Hid (Below W.heap.size W wj) ∧ Hid (BRow wj W.heap.size g (2 * es.length) (fun x => decide ((x : Int) ∈ ahead rs v j)))) (fun _ t8 _ => (lat rs v).length - (intOf t8).toNat)
          case atStart => exact ⟨0, by omega, rfl, rfl, HF.out, HBr.out, HGr.out⟩
          case round =>
            obtain ⟨j, hj, rfl, rfl, HFj, HBj, HGj⟩ := hrel
            clear HF HBr HGr
            have c0 := HC0.out _ HBj.out
            by_cases hjl : j < (lat rs v).length
            · rcases HIA.out _ HBj.out with h | ⟨b2, o2, rfl, l2⟩
              · rw [h] at hjl; simp at hjl
              have c1 := l2 j hjl
              have HSU := hide (fun hs => HFj.out.succ hs)
              have HNO := hide (fun hn => not_holds (es := es) hlt hjl hn)
              obtain ⟨x, hx⟩ : ∃ x, iat (lat rs v) j = x := ⟨_, rfl⟩
              rw [hx] at c1 HSU HNO
              have HX := hide hx
              have j1 : (j : Int) < (lat rs v).length := by omega
              clear l2 hx
              by_cases x0 : x < 0
              · have t1 : decide (x < 0) = true := by simp [x0]
                go_wp2
                go_ret
                exact ⟨by rw [HE.out, HNO.out (fun h => by have := h.1; omega)]; rfl, below_step HB.out HBj.out⟩
              · obtain ⟨k, rfl⟩ : ∃ k : Nat, x = k := ⟨x.toNat, by omega⟩
                have t1 : decide ((k : Int) < 0) = false := by simp
                clear x0
                by_cases hk : k < 2 * es.length
                · have t2 : ¬ ((k : Int) ≥ 2 * es.length) := by omega
                  obtain ⟨d0, f0⟩ := HGj.out.cell hk
                  obtain ⟨D, hD⟩ : ∃ D, decide ((k : Int) ∈ ahead rs v j) = D := ⟨_, rfl⟩
                  rw [hD] at d0
                  have HD := hide hD
                  have i3 : (k : Int) < 2 * es.length := by omega
                  have i4 : (0 : Int) ≤ k := by omega
                  clear hD
                  cases D
                  · -- not met yet
                    obtain ⟨q0, q1, _, _⟩ := HA.out.later HBj.out
                    have FR := hide (from50 (rs.length : Int) p es cp k wr (HH.out.later HBj.out) hk (by omega))
                    have HST : Hid (fromL es k = v → stands es rs v j k) := fun hf => ⟨by omega, by omega, of_decide_eq_false HD.out, by rw [Int.toNat_natCast]; exact hf⟩
                    have HNS : Hid (fromL es k ≠ v → holdsB es rs = false) := fun hf => HNO.out (fun h => hf (by have := h.2.2.2; rw [Int.toNat_natCast] at this; exact this))
                    have HAL := hide (HFj.out.count (Nat.le_of_lt hlt) hj)
                    have HLN : Hid ((ahead rs v (j + 1)).length = (ahead rs v j).length + 1) := by show _ = _; rw [ahead_succ hjl]; simp
                    have HKK := hide hk
                    obtain ⟨cn, hcn⟩ : ∃ cn, (ahead rs v j).length = cn := ⟨_, rfl⟩
                    rw [hcn] at HAL HLN ⊢
                    have hal := HAL.out
                    obtain ⟨fr, hfr⟩ : ∃ fr, fromL es k = fr := ⟨_, rfl⟩
                    rw [hfr] at FR HST HNS
                    clear hcn hfr hk
                    go_wp2_with fail
                    clear q0 q1 c0 c1 d0 f0
                    refine FR.out.mono ?_
                    rintro e wy ⟨rfl, hby⟩
                    have HGy := hide (HGj.out.later hby)
                    have HBy := hide (below_step HBj.out hby)
                    have HSET : Hid (BRow (wy.setCell ⟨g, k, none⟩ (.bool true)) W.heap.size g (2 * es.length) (fun x => decide ((x : Int) ∈ ahead rs v (j + 1)))) := (HGy.out.set HKK.out).congr (fun i _ => met_succ hjl HX.out i)
                    have HBS : Hid (Below W.heap.size W (wy.setCell ⟨g, k, none⟩ (.bool true))) := HBy.out.setCell (p := ⟨g, k, none⟩) (HGy.out.lt.1) _
                    obtain ⟨d0, f0⟩ := HGy.out.cell HKK.out
                    clear hby FR HGj HBj
                    by_cases hf : fr = (v : Int)
                    · have HOK := hide (HSU.out (HST.out hf))
                      subst hf
                      go_wp2
                      go_roundw
                      case rel => exact ⟨j + 1, by omega, by rw [HLN.out]; go_num, by go_num, HOK.out, HBS.out, HSET.out⟩
                      case measure => simp [intOf]; omega
                    · have t3 : (fr == (v : Int)) = false := by simp [hf]
                      have HOK := hide (HNS.out hf)
                      go_wp2
                      go_ret
                      exact ⟨by rw [HE.out, HOK.out]; rfl, below_step HB.out HBy.out⟩
                  · go_wp2
                    go_ret
                    exact ⟨by rw [HE.out, HNO.out (fun h => h.2.2.1 (of_decide_eq_true HD.out))]; rfl, below_step HB.out HBj.out⟩
                · have t2 : (k : Int) ≥ 2 * es.length := by omega
                  go_wp2
                  go_ret
                  exact ⟨by rw [HE.out, HNO.out (fun h => by have := h.2.1; omega)]; rfl, below_step HB.out HBj.out⟩
            · have hje : j = (lat rs v).length := by omega
              have j1 : ¬ (j : Int) < (lat rs v).length := by omega
              go_wp2
              go_roundw
              case rel => exact ⟨v + 1, by omega, by rw [ahead_next hlt, ← hje], by go_num, by rw [hje] at HFj; exact HFj.out.next, HBj.out, by rw [ahead_next hlt, ← hje]; exact HGj.out⟩
              case measure => simp [intOf]; omega
        · have hve : v = rs.length := by omega
          have e1 : ¬ (v : Int) < rs.length := by omega
          have HEND : Hid (holdsB es rs = decide ((ahead rs v 0).length = 2 * es.length)) := by
            show _ = _
            rw [hve, ahead_all]
            have hf := HF.out
            rw [hve] at hf
            unfold holdsB holdsP
            exact decide_eq_decide.2 ⟨fun h => h.2, fun h => ⟨hf.1, h⟩⟩
          have HAL := HF.out.count hv (Nat.zero_le _)
          clear hve
          by_cases hc : (ahead rs v 0).length = 2 * es.length
          · have t1 : ¬ ((ahead rs v 0).length : Int) < 2 * es.length := by omega
            go_wp2
            go_ret
            exact ⟨by rw [HE.out, HEND.out, decide_eq_true hc]; rfl, below_step HB.out HBr.out⟩
          · have t1 : ((ahead rs v 0).length : Int) < 2 * es.length := by omega
            go_wp2
            go_ret
            exact ⟨by rw [HE.out, HEND.out, decide_eq_false hc]; rfl, below_step HB.out HBr.out⟩
    · have HE : Hid (rotI n es rs = 4) := by show _ = _; unfold rotI; rw [hm, if_pos rfl, if_neg hn]
      clear hm
      go_wp2
      go_ret
      exact ⟨by rw [HE.out]; rfl, HB.out⟩
end Go.Proofs.Ytllkadgpkbaghaa
