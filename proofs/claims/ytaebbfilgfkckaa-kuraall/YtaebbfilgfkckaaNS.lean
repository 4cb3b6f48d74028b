/- net.Sub, in every world (carried). -/
import Derived.Test.YtaebbfilgfkckaaN6
import Derived.Test.YtaebbfilgfkckaaY1
import Derived.Test.YtaebbfilgfkckaaX3
import Derived.Deep.RegionHeld3
namespace Go.Proofs.Ytaebbfilgfkckaa
open Go.RowKit Go.Sort
open Go

set_option maxRecDepth 100000 in
set_option maxHeartbeats 4000000 in
theorem places49 (p : Option Addr) (l : List Int) (cap m : Nat) (w : World) (hl : l.length ≤ maxLen) (hm : m ≤ 4096) (h : IHas w p l) : Calls Try.prog 66 #[.slice p l.length cap, .int .i64 m] w fun e w' => PlPost l m w e w' ∧ Below w.heap.size w w' := by
  have HH := hide h
  clear h
  unfold maxLen at hl
  obtain ⟨i0, hi0, hz0, hz1, hz2⟩ := info_parts info3
  go_enter Try.func66, Try.ntmps66
  go_wp2_with (refine wpList_make_full _ rfl (.tmp 10) (.tmp 10) 25 rfl w.heap.size 3 i0 (.int .i64 0) 1 Try.underlying25 hi0 hz0 hz1 .i64 .i64 _ _ m rfl rfl rfl rfl ?c1 ?c2 ?c3 ?_)
  case c1 => rw [hz2]; omega
  case c2 => unfold maxLen; omega
  case c3 => exact Nat.le_refl _
  intro w1 hown hgrow
  have HR1 := hide (irow_made hown)
  have HB1 := hide (below_made hgrow)
  clear hown hgrow
  go_wp2_with fail
  go_loopw [14] (fun t wr => ∃ i : Nat, i ≤ m ∧ t = .int .i64 i ∧ Hid (Below w.heap.size w wr) ∧ Hid (∃ r, IRow wr w.heap.size w.heap.size m r ∧ ∀ j, j < i → iat r j = -1)) (fun t _ => m - (intOf t).toNat)
  case atStart => exact ⟨0, by omega, rfl, HB1.out, _, HR1.out, fun j hj => by omega⟩
  case round =>
    obtain ⟨i, hi, rfl, HB, HR⟩ := hrel
    by_cases hlt : i < m
    · obtain ⟨r, hr, hall⟩ := HR.out
      obtain ⟨c0, c1⟩ := hr.cell hlt
      go_wp2
      go_roundw
      case rel =>
        refine ⟨i + 1, by omega, by go_num, HB.out.setCell (by simp) _, _, hr.set i (-1), more (fun j hj => ?_) ?_⟩
        · rw [iat_set _ _ _ _ (by rw [hr.1]; omega), if_neg (by omega)]; exact hall j hj
        · rw [iat_set _ _ _ _ (by rw [hr.1]; omega), if_pos rfl]
      case measure => simp [intOf]; omega
    · have hin : i = m := by omega
      subst hin
      have HP : Hid (IRow wr w.heap.size w.heap.size i (plN l i 0)) := by
        obtain ⟨r, hr, hall⟩ := HR.out
        have e : r = plN l i 0 := iat_ext (by rw [hr.1]; simp [plN]) fun j hj => by rw [hall j (by rw [hr.1] at hj; exact hj)]; simp only [plN]; rw [iat_replicate _ _ _ (by rw [hr.1] at hj; exact hj)]
        rw [← e]; exact hr
      clear HR HR1
      go_wp2_with fail
      rename_i wA _ _ _ _
      go_loopw [23] (fun t wr => ∃ k : Nat, k ≤ l.length ∧ t = .int .i64 k ∧ Hid (Below w.heap.size w wr) ∧ Hid (IRow wr w.heap.size w.heap.size i (plN l i k)) ∧ Hid (∀ j, j < k → chk l i j = 0)) (fun t _ => l.length - (intOf t).toNat)
      case atStart => exact ⟨0, by omega, rfl, HB.out, HP.out, fun j hj => by omega⟩
      case round =>
        obtain ⟨k, hk, rfl, HB2, HR, HC⟩ := hrel
        by_cases hlk : k < l.length
        · rcases HH.out.later HB2.out with h | ⟨b, off, rfl, hL⟩
          · subst h; simp at hlk
          have cl := hL k hlk
          have X := below36 (iat l k) i
          obtain ⟨x, hx⟩ : ∃ x, iat l k = x := ⟨_, rfl⟩
          rw [hx] at cl X
          cases hb : belowB x i
          · rw [hb] at X
            have hchk : chk l i k = 2 := by unfold chk; rw [hx, hb]; rfl
            have hE : Hid (errL l i = 2) := by show _ = _; unfold errL; rw [errN_first HC.out (by rw [hchk]; omega) _ hlk, hchk]
            go_wp2_with (go_at_call 73; refine (X _).mono ?_; rintro e w' ⟨rfl, rfl⟩)
            go_ret2
            exact ⟨Or.inr ⟨by rw [hE.out]; omega, by rw [hE.out]; rfl⟩, HB2.out⟩
          · rw [hb] at X
            obtain ⟨hx0, hx1⟩ := belowB_is hb
            obtain ⟨xn, rfl⟩ : ∃ xn : Nat, x = xn := ⟨x.toNat, by omega⟩
            have hxn : xn < i := by omega
            obtain ⟨c0, c1⟩ := HR.out.cell hxn
            have hfree := plN_free (x := xn) HC.out hxn
            by_cases hf : iat (plN l i k) xn = -1
            · rw [hf] at c0
              have hno := hfree.1 hf
              have hchk : chk l i k = 0 := chk_of (by rw [hx]; omega) (fun j hj => by rw [hx]; exact hno j hj)
              clear hfree hf hno
              have HCH := hide hchk
              clear hchk
              go_wp2_with (go_at_call 73; refine (X _).mono ?_; rintro e w' ⟨rfl, rfl⟩)
              go_roundw
              case rel =>
                refine ⟨k + 1, by omega, by go_num, HB2.out.setCell (by simp) _, ?_, more HC.out HCH.out⟩
                show IRow _ _ _ _ ((plN l i k).set (iat l k).toNat k)
                rw [hx]
                exact HR.out.set xn k
              case measure => simp [intOf]; omega
            · obtain ⟨y, hy⟩ : ∃ y, iat (plN l i k) xn = y := ⟨_, rfl⟩
              rw [hy] at c0 hf
              have hyb : (y == -1) = false := by simpa using hf
              have hmet : ∃ j, j < k ∧ iat l j = (xn : Int) := by
                apply Classical.byContradiction
                intro hn
                have := hfree.2 fun j hj e => hn ⟨j, hj, e⟩
                omega
              obtain ⟨j, hj, ej⟩ := hmet
              have hchk : chk l i k = 18 := by unfold chk; rw [hx, hb, if_pos rfl, metB_yes hj (by rw [ej, hx]), if_pos rfl]
              have hE : Hid (errL l i = 18) := by show _ = _; unfold errL; rw [errN_first HC.out (by rw [hchk]; omega) _ hlk, hchk]
              clear hfree hchk
              go_wp2_with (go_at_call 73; refine (X _).mono ?_; rintro e w' ⟨rfl, rfl⟩)
              go_ret2
              exact ⟨Or.inr ⟨by rw [hE.out]; omega, by rw [hE.out]; rfl⟩, HB2.out⟩
        · have hin : k = l.length := by omega
          subst hin
          have hE : Hid (errL l i = 0) := errN_zero _ HC.out
          go_wp2
          go_ret2
          exact ⟨Or.inl ⟨hE.out, _, rfl, HR.out⟩, HB2.out⟩
set_option maxRecDepth 100000 in
set_option maxHeartbeats 4000000 in
theorem picked54 (p q : Option Addr) (es : List Pt) (l : List Int) (cp cq : Nat) (w : World) (hl : l.length ≤ 100000) (hin : ∀ j, j < l.length → 0 ≤ iat l j ∧ iat l j < es.length) (h : Has w p es) (k : IHas w q l) : Calls Try.prog 67 #[.slice p es.length cp, .slice q l.length cq] w fun e w' => ∃ g, e = .returned (.slice (some ⟨g, 0, none⟩) l.length l.length) ∧ PRow w' w.heap.size g l.length (pick es l) ∧ Below w.heap.size w w' := by
  have HH := hide h
  have HK := hide k
  have HIN := hide hin
  clear h k hin
  obtain ⟨i0, hi0, hz0, hz1, hz2⟩ := info_parts info60
  go_enter Try.func67, Try.ntmps67
  go_wp2_with (refine wpList_make_full _ rfl (.tmp 9) (.tmp 9) 22 rfl w.heap.size 57 i0 (.agg #[.int .i64 0, .int .i64 0]) 2 Try.underlying22 hi0 hz0 hz1 .i64 .i64 _ _ l.length rfl rfl rfl rfl ?c1 ?c2 ?c3 ?_)
  case c1 => rw [hz2]; omega
  case c2 => unfold maxLen; omega
  case c3 => exact Nat.le_refl _
  intro w1 hown hgrow
  have HR1 := hide (prow_made hown)
  have HB1 := hide (below_made hgrow)
  clear hown hgrow
  go_wp2_with fail
  go_loopw [13] (fun t wr => ∃ i : Nat, i ≤ l.length ∧ t = .int .i64 i ∧ Hid (Below w.heap.size w wr) ∧ Hid (∃ r, PRow wr w.heap.size w.heap.size l.length r ∧ ∀ j, j < i → at' r j = at' es (iat l j).toNat)) (fun t _ => l.length - (intOf t).toNat)
  case atStart => exact ⟨0, by omega, rfl, HB1.out, _, HR1.out, fun j hj => by omega⟩
  case round =>
    obtain ⟨i, hi, rfl, HB, HR⟩ := hrel
    by_cases hlt : i < l.length
    · obtain ⟨r, hr, hall⟩ := HR.out
      have HR' := hide hr
      have HA := hide hall
      obtain ⟨c0, c1, c2, c3⟩ := hr.cell hlt
      clear hr hall HR
      obtain ⟨hx0, hx1⟩ := HIN.out i hlt
      rcases HK.out.later HB.out with h | ⟨bl, ol, rfl, hL⟩
      · subst h; simp at hlt
      have cl := hL i hlt
      obtain ⟨x, hx⟩ : ∃ x, iat l i = x := ⟨_, rfl⟩
      rw [hx] at hx0 hx1 cl
      obtain ⟨xn, rfl⟩ : ∃ xn : Nat, x = xn := ⟨x.toNat, by omega⟩
      have hxn : xn < es.length := by omega
      rcases HH.out.later HB.out with h | ⟨be, oe, rfl, hE⟩
      · subst h; simp at hxn
      obtain ⟨d0, d1⟩ := hE xn hxn
      obtain ⟨y, hy⟩ : ∃ y, at' es xn = y := ⟨_, rfl⟩
      rw [hy] at d0 d1
      clear hL hE
      go_wp2
      go_roundw
      case rel =>
        refine ⟨i + 1, by omega, by go_num, (HB.out.setCell (by simp) _).setCell (by simp) _, _, HR'.out.set i y, more (fun j hj => ?_) ?_⟩
        · rw [at_set _ _ _ _ (by rw [HR'.out.1]; omega), if_neg (by omega)]; exact HA.out j hj
        · rw [at_set _ _ _ _ (by rw [HR'.out.1]; omega), if_pos rfl, hx, ← hy]; rfl
      case measure => simp [intOf]; omega
    · have hin : i = l.length := by omega
      subst hin
      obtain ⟨r, hr, hall⟩ := HR.out
      have e : Hid (r = pick es l) := at_ext (by rw [hr.1, pick_length]) fun j hj => by rw [hr.1] at hj; rw [hall j hj, pick_at _ _ hj]
      have HR' := hide hr
      clear hr hall HR
      go_wp2
      go_ret
      refine ⟨_, rfl, ?_, HB.out⟩
      rw [← e.out]; exact HR'.out

set_option maxRecDepth 100000 in
set_option maxHeartbeats 4000000 in
theorem sub27 (n : Int) (p q : Option Addr) (es : List Pt) (l : List Int) (cp cq : Nat) (w : World) (hl : l.length ≤ maxLen) (h : Has w p es) (k : IHas w q l) : Calls Try.prog 57 #[nv n p es.length cp, .slice q l.length cq] w fun e w' => SubPost n es l w e w' ∧ Below w.heap.size w w' := by
  obtain ⟨W, hW, hb, a0, b0⟩ := two_nets w n p es.length cp
  have M := hide (may13 n p es cp W (h.later hb))
  have HH := hide (h.later hb)
  have HK := hide (k.later hb)
  have HB := hide hb
  have HA := hide a0
  have HN := hide b0
  obtain ⟨q0, q1, _, _⟩ := a0
  clear h k hb b0
  cases hm : netB n es
  · rw [hm] at M
    go_enter Try.func57, Try.ntmps57
    go_wp2_with fail
    rw [← hW]
    clear hW
    go_wp2_with fail
    refine M.out.mono ?_
    rintro e w1 ⟨rfl, hb1⟩
    have HB1 := hide (below_step HB.out hb1)
    have HN1 := hide (HN.out.later hb1)
    obtain ⟨r0, r1, r2, r3⟩ := HN1.out
    clear hb1 q0 q1
    go_wp2
    obtain ⟨V, hV⟩ : ∃ V, V = (w1.setCell ⟨w.heap.size + 1, 0, none⟩ (.int .i64 0)).setCell ⟨w.heap.size + 1, 1, none⟩ (.slice none 0 0) := ⟨_, rfl⟩
    have kV : NOwn V (w.heap.size + 1) 0 none 0 0 := by rw [hV]; exact HN1.out.set 0 none 0 0
    have bV : Below w.heap.size w V := by rw [hV]; exact (HB1.out.setCell (by simp) _).setCell (by simp) _
    rw [← hV]
    exact bodyPost_ret (ret_net Try.results57 rfl rfl kV) rfl ⟨Or.inr ⟨by simp [subE, hm], by simp [subE, hm]⟩, bV⟩
  · rw [hm] at M
    obtain ⟨n0, n1, hes, _⟩ := netB_is hm
    go_enter Try.func57, Try.ntmps57
    go_wp2_with fail
    rw [← hW]
    clear hW
    go_wp2_with fail
    refine M.out.mono ?_
    rintro e w1 ⟨rfl, hb1⟩
    have HB1 := hide (below_step HB.out hb1)
    have HN1 := hide (HN.out.later hb1)
    have HA1 := hide (HA.out.later hb1)
    have HH1 := hide (HH.out.later hb1)
    have HK1 := hide (HK.out.later hb1)
    clear q0 q1 hb1 HA HN HB HH HK M
    obtain ⟨q0, q1, _, _⟩ := HA1.out
    have P := hide (places49 q l cq es.length w1 hl (by omega) HK1.out)
    go_wp2_with fail
    refine P.out.mono ?_
    rintro e w2 ⟨hP, hb2⟩
    have HB2 := hide (below_step HB1.out hb2)
    have HN2 := hide (HN1.out.later hb2)
    have HA2 := hide (HA1.out.later hb2)
    have HH2 := hide (HH1.out.later hb2)
    have HK2 := hide (HK1.out.later hb2)
    clear hb2 q0 q1 HA1 HN1 HB1 HH1 HK1 P
    rcases hP with ⟨hE, g, rfl, _⟩ | ⟨hE, rfl⟩
    · have hS : Hid (subE n es l = 0) := by show _ = _; unfold subE; rw [hm, if_pos rfl, hE]
      have hlm := chosen_le hE
      have hin := hide (chosen_in hE)
      clear hE
      obtain ⟨q0, q1, _, _⟩ := HA2.out
      obtain ⟨r0, r1, r2, r3⟩ := HN2.out
      have PK : Hid (∀ w3, Below w2.heap.size w2 w3 → Calls Try.prog 67 #[.slice p es.length cp, .slice q l.length cq] w3 fun e w' => ∃ g, e = .returned (.slice (some ⟨g, 0, none⟩) l.length l.length) ∧ PRow w' w3.heap.size g l.length (pick es l) ∧ Below w3.heap.size w3 w') := fun w3 h3 => picked54 p q es l cp cq w3 (by omega) hin.out (HH2.out.later h3) (HK2.out.later h3)
      go_wp2_with fail
      go_region_held3 (fun W => W.cell? ⟨w.heap.size, 0, none⟩ = some (.int .i64 n) ∧ W.cell? ⟨w.heap.size, 1, none⟩ = some (.slice p es.length cp))
        (first | exact ⟨HA2.out.1, HA2.out.2.1⟩ | exact ⟨HA3.out.1, HA3.out.2.1⟩ | exact ⟨other2 HA3.out.1 (by simp), other2 HA3.out.2.1 (by simp)⟩)
        (first | (go_at_call 67; refine (PK.out _ (by go_grown)).mono ?_; rintro e w3 ⟨g3, rfl, hr3, hb3'⟩; have hb3 : Below w2.heap.size w2 w3 := below_step (below_drew w2) hb3'; clear hb3'; have HA3 := hide (HA2.out.later hb3); have HN3 := hide (HN2.out.later hb3); have HR3 : Hid (PRow w3 w2.heap.size g3 l.length (pick es l)) := hr3; have HB3 := hide (below_step HB2.out hb3); clear hb3 hr3; obtain ⟨s0, s1, s2, s3⟩ := HN3.out))
      rename_i hHeld
      clear hHeld
      have hws : w.heap.size + 1 < w2.heap.size := block_lt_of_cell r0
      have hg3 := HR3.out.lt
      obtain ⟨V, hV⟩ : ∃ V, V = (w3.setCell ⟨w.heap.size + 1, 0, none⟩ (.int .i64 n)).setCell ⟨w.heap.size + 1, 1, none⟩ (.slice (some ⟨g3, 0, none⟩) l.length l.length) := ⟨_, rfl⟩
      have kV : NOwn V (w.heap.size + 1) n (some ⟨g3, 0, none⟩) l.length l.length := by rw [hV]; exact HN3.out.set n _ _ _
      have bV : Below w.heap.size w V := by rw [hV]; exact (HB3.out.setCell (by simp) _).setCell (by simp) _
      have rV : PRow V w.heap.size g3 l.length (pick es l) := by rw [hV]; exact (prow_other (prow_other HR3.out (by omega) _) (by omega) _).base (by omega)
      rw [← hV]
      go_wp2_with fail
      exact bodyPost_ret (ret_net Try.results57 rfl rfl kV) rfl ⟨Or.inl ⟨hS.out, g3, rfl, rV⟩, bV⟩
    · obtain ⟨E, hEE⟩ : ∃ E, errL l es.length = E := ⟨_, rfl⟩
      have hS : Hid (subE n es l = E) := by show _ = _; unfold subE; rw [hm, if_pos rfl, hEE]
      rw [hEE] at hE ⊢
      have hEb : (E == 0) = false := by simpa using hE
      obtain ⟨r0, r1, r2, r3⟩ := HN2.out
      go_wp2
      obtain ⟨V, hV⟩ : ∃ V, V = (w2.setCell ⟨w.heap.size + 1, 0, none⟩ (.int .i64 0)).setCell ⟨w.heap.size + 1, 1, none⟩ (.slice none 0 0) := ⟨_, rfl⟩
      have kV : NOwn V (w.heap.size + 1) 0 none 0 0 := by rw [hV]; exact HN2.out.set 0 none 0 0
      have bV : Below w.heap.size w V := by rw [hV]; exact (HB2.out.setCell (by simp) _).setCell (by simp) _
      rw [← hV]
      exact bodyPost_ret (ret_net Try.results57 rfl rfl kV) rfl ⟨Or.inr ⟨by rw [hS.out]; exact hE, by rw [hS.out]; rfl⟩, bV⟩

end Go.Proofs.Ytaebbfilgfkckaa
