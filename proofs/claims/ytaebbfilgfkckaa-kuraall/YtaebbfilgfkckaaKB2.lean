/- net.Degrees, in every world (carried from the net seat). -/
import Derived.Test.YtaebbfilgfkckaaKB1
namespace Go.Proofs.Ytaebbfilgfkckaa
open Go.RowKit Go.Sort
open Go
set_option maxRecDepth 100000 in
set_option maxHeartbeats 4000000 in
theorem degrees25 (n : Int) (p : Option Addr) (es : List Pt) (cp : Nat) (w : World) (h : Has w p es) : Calls Try.prog 68 #[nv n p es.length cp] w fun e w' => DegPost n es w e w' ∧ Below w.heap.size w w' := by
  obtain ⟨W, hW, hb, a0⟩ := one_net w n p es.length cp
  have M := hide (may13 n p es cp W (h.later hb))
  have HH := hide (h.later hb)
  have HB := hide hb
  have HA := hide a0
  obtain ⟨q0, q1, _, _⟩ := a0
  clear h hb
  obtain ⟨i0, hi0, hz0, hz1, hz2⟩ := info_parts info3
  cases hm : netB n es
  · rw [hm] at M
    go_enter Try.func68, Try.ntmps68
    go_wp2_with fail
    rw [← hW]
    clear hW
    go_wp2_with fail
    refine M.out.mono ?_
    rintro e w1 ⟨rfl, hb1⟩
    have HB1 := hide (below_step HB.out hb1)
    clear hb1 q0 q1
    go_wp2
    go_ret2
    exact ⟨Or.inr ⟨hm, rfl⟩, HB1.out⟩
  · rw [hm] at M
    obtain ⟨n0, n1, hes, hends⟩ := netB_is hm
    have HE := hide hends
    clear hends
    obtain ⟨m, rfl⟩ : ∃ m : Nat, n = m := ⟨n.toNat, by omega⟩
    go_enter Try.func68, Try.ntmps68
    go_wp2_with fail
    rw [← hW]
    clear hW
    go_wp2_with fail
    refine M.out.mono ?_
    rintro e w1 ⟨rfl, hb1⟩
    have HB1 := hide (below_step HB.out hb1)
    have HA1 := hide (HA.out.later hb1)
    have HH1 := hide (HH.out.later hb1)
    clear q0 q1 hb1 HA HB HH M
    obtain ⟨q0, q1, _, _⟩ := HA1.out
    go_wp2_with (refine wpList_make_full _ rfl (.tmp 11) (.tmp 11) 25 rfl w1.heap.size 3 i0 (.int .i64 0) 1 Try.underlying25 hi0 hz0 hz1 .i64 .i64 _ _ m rfl rfl rfl rfl ?c1 ?c2 ?c3 ?_)
    case c1 => rw [hz2]; omega
    case c2 => unfold maxLen; omega
    case c3 => exact Nat.le_refl _
    intro w2 hown hgrow
    have HR2 := hide (irow_made hown)
    have hb2 := below_made hgrow
    have HB2 := hide hb2
    have HA2 := hide (HA1.out.later hb2)
    have HH2 := hide (HH1.out.later hb2)
    clear hown hgrow hb2 q0 q1 HA1
    obtain ⟨q0, q1, _, _⟩ := HA2.out
    go_wp2_with fail
    go_loopw [16] (fun t wr => ∃ i : Nat, i ≤ es.length ∧ t = .int .i64 i ∧ Hid (Below w1.heap.size w1 wr) ∧ Hid (IRow wr w1.heap.size w1.heap.size m (degN es m i))) (fun t _ => es.length - (intOf t).toNat)
    case atStart => exact ⟨0, by omega, rfl, HB2.out, HR2.out⟩
    case round =>
      obtain ⟨i, hi, rfl, HBr, HR⟩ := hrel
      by_cases hlt : i < es.length
      · rcases HH1.out.later HBr.out with h | ⟨b, off, rfl, hL⟩
        · subst h; simp at hlt
        obtain ⟨c0, c1⟩ := hL i hlt
        obtain ⟨hx0, hx1, hy0, hy1⟩ := HE.out i hlt
        have hD : Hid (degN es m (i + 1) = bump (bump (degN es m i) (at' es i).x.toNat) (at' es i).y.toNat) := rfl
        obtain ⟨r, hr⟩ : ∃ r, at' es i = r := ⟨_, rfl⟩
        rw [hr] at c0 c1 hx0 hx1 hy0 hy1 hD
        obtain ⟨x, y⟩ := r
        simp only at c0 c1 hx0 hx1 hy0 hy1
        obtain ⟨xn, rfl⟩ : ∃ xn : Nat, x = xn := ⟨x.toNat, by omega⟩
        obtain ⟨yn, rfl⟩ : ∃ yn : Nat, y = yn := ⟨y.toNat, by omega⟩
        simp only [Int.toNat_natCast] at hD
        have bx0 := degN_in es m i xn (by omega)
        have by0 := degN_in es m i yn (by omega)
        obtain ⟨d0, f0⟩ := HR.out.cell (j := xn) (by omega)
        obtain ⟨d1, f1⟩ := HR.out.cell (j := yn) (by omega)
        have zg : w1.heap.size < wr.heap.size := block_lt_of_cell d0
        have zb : b < wr.heap.size := block_lt_of_cell c0
        obtain ⟨D, hDD⟩ : ∃ D, degN es m i = D := ⟨_, rfl⟩
        rw [hDD] at hD HR bx0 by0 d0 d1
        have hDl : D.length = m := HR.out.1
        clear hDD hr hL
        by_cases hxy : xn = yn
        · subst hxy
          have hD2 : Hid (degN es m (i + 1) = (D.set xn (iat D xn + 1)).set xn (iat D xn + 1 + 1)) := by
            show _ = _
            rw [hD.out]
            unfold bump
            rw [iat_set _ _ _ _ (by omega), if_pos rfl]
          obtain ⟨u, hu⟩ : ∃ u, iat D xn = u := ⟨_, rfl⟩
          rw [hu] at d0 d1 bx0 by0 hD2
          clear hD hu
          go_wp2
          go_roundw
          case rel =>
            refine ⟨i + 1, by omega, by go_num, ((HBr.out.setCell (by simp) _).setCell (by simp) _).alloc (by simp; omega) _, ?_⟩
            rw [hD2.out]
            exact ((HR.out.set xn _).set xn _).later (by go_grown)
          case measure => simp [intOf]; omega
        · have hD2 : Hid (degN es m (i + 1) = (D.set xn (iat D xn + 1)).set yn (iat D yn + 1)) := by
            show _ = _
            rw [hD.out]
            unfold bump
            rw [iat_set _ _ _ _ (by omega), if_neg hxy]
          obtain ⟨u, hu⟩ : ∃ u, iat D xn = u := ⟨_, rfl⟩
          obtain ⟨v, hv⟩ : ∃ v, iat D yn = v := ⟨_, rfl⟩
          rw [hu] at d0 bx0 hD2
          rw [hv] at d1 by0 hD2
          clear hD hu hv
          go_wp2
          go_roundw
          case rel =>
            refine ⟨i + 1, by omega, by go_num, ((HBr.out.setCell (by simp) _).setCell (by simp) _).alloc (by simp; omega) _, ?_⟩
            rw [hD2.out]
            exact ((HR.out.set xn _).set yn _).later (by go_grown)
          case measure => simp [intOf]; omega
      · have hin : i = es.length := by omega
        subst hin
        have hs := HB1.out.size
        go_wp2
        go_ret2
        exact ⟨Or.inl ⟨hm, _, by rw [Int.toNat_natCast]; rfl, by rw [Int.toNat_natCast]; exact HR.out.base hs⟩, below_step HB1.out HBr.out⟩

end Go.Proofs.Ytaebbfilgfkckaa
