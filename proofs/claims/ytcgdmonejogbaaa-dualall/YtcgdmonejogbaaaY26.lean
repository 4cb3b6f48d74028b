/- Pure: Sub with all edges and Moved with every node where it was answer the net and Canon. -/
import Derived.Deep.RegionHeld3
import Derived.Test.YtcgdmonejogbaaaY14
import Derived.Test.YtcgdmonejogbaaaA3
/- rot.Moved, in every world. -/
/- rot.Sub, in every world. -/
/- rot.Sub and Moved, in every world. -/
/- rot's places and renumbered, in every world. -/
/- net.Sub and net.Moved, in every world (carried from the net seat). -/
namespace Go.Proofs.Ytcgdmonejogbaaa
open Go.RowKit Go.Sort
open Go
set_option maxRecDepth 100000 in
set_option maxHeartbeats 4000000 in
theorem places49 (p : Option Addr) (l : List Int) (cap m : Nat) (w : World) (hl : l.length ≤ maxLen) (hm : m ≤ 4096) (h : IHas w p l) : Calls Try.prog 97 #[.slice p l.length cap, .int .i64 m] w fun e w' => PlPost l m w e w' ∧ Below w.heap.size w w' := by
  have HH := hide h
  clear h
  unfold maxLen at hl
  obtain ⟨i0, hi0, hz0, hz1, hz2⟩ := info_parts info3
  go_enter Try.func97, Try.ntmps97
  go_wp2_with (refine wpList_make_full _ rfl (.tmp 10) (.tmp 10) 44 rfl w.heap.size 3 i0 (.int .i64 0) 1 Try.underlying44 hi0 hz0 hz1 .i64 .i64 _ _ m rfl rfl rfl rfl ?c1 ?c2 ?c3 ?_)
  case c1 => rw [hz2]; omega
  case c2 => unfold maxLen; omega
  case c3 => exact Nat.le_refl _
  intro w1 hown hgrow
  have HR1 := hide (irow_made hown)
  have HB1 := hide (below_made hgrow)
  clear hown hgrow
  go_wp2_with fail
  go_loopw [14] (fun t wr => ∃ i : Nat, i ≤ m ∧ t = .int .i64 i ∧ Hid (Below w.heap.size w wr) ∧ Hid (∃ r, IRow wr w.heap.size w.heap.size m r ∧ ∀ j, j < i → iat r j = -1)) (fun t _ => m - (intOf t).toNat)
  case atStart => exact ⟨0, by omega, rfl, HB1.out, _, HR1.out, fun j hj => by omega⟩
  case round =>
    obtain ⟨i, hi, rfl, HB, HR⟩ := hrel
    by_cases hlt : i < m
    · obtain ⟨r, hr, hall⟩ := HR.out
      obtain ⟨c0, c1⟩ := hr.cell hlt
      go_wp2
      go_roundw
      case rel =>
        refine ⟨i + 1, by omega, by go_num, HB.out.setCell (by simp) _, _, hr.set i (-1), more (fun j hj => ?_) ?_⟩
        · rw [iat_set _ _ _ _ (by rw [hr.1]; omega), if_neg (by omega)]; exact hall j hj
        · rw [iat_set _ _ _ _ (by rw [hr.1]; omega), if_pos rfl]
      case measure => simp [intOf]; omega
    · have hin : i = m := by omega
      subst hin
      have HP : Hid (IRow wr w.heap.size w.heap.size i (plN l i 0)) := by
        obtain ⟨r, hr, hall⟩ := HR.out
        have e : r = plN l i 0 := iat_ext (by rw [hr.1]; simp [plN]) fun j hj => by rw [hall j (by rw [hr.1] at hj; exact hj)]; simp only [plN]; rw [iat_replicate _ _ _ (by rw [hr.1] at hj; exact hj)]
        rw [← e]; exact hr
      clear HR HR1
      go_wp2_with fail
      rename_i wA _ _ _ _
      go_loopw [23] (fun t wr => ∃ k : Nat, k ≤ l.length ∧ t = .int .i64 k ∧ Hid (Below w.heap.size w wr) ∧ Hid (IRow wr w.heap.size w.heap.size i (plN l i k)) ∧ Hid (∀ j, j < k → chk l i j = 0)) (fun t _ => l.length - (intOf t).toNat)
      case atStart => exact ⟨0, by omega, rfl, HB.out, HP.out, fun j hj => by omega⟩
      case round =>
        obtain ⟨k, hk, rfl, HB2, HR, HC⟩ := hrel
        by_cases hlk : k < l.length
        · rcases HH.out.later HB2.out with h | ⟨b, off, rfl, hL⟩
          · subst h; simp at hlk
          have cl := hL k hlk
          have X := below36 (iat l k) i
          obtain ⟨x, hx⟩ : ∃ x, iat l k = x := ⟨_, rfl⟩
          rw [hx] at cl X
          cases hb : belowB x i
          · rw [hb] at X
            have hchk : chk l i k = 2 := by unfold chk; rw [hx, hb]; rfl
            have hE : Hid (errL l i = 2) := by show _ = _; unfold errL; rw [errN_first HC.out (by rw [hchk]; omega) _ hlk, hchk]
            go_wp2_with (go_at_call 78; refine (X _).mono ?_; rintro e w' ⟨rfl, rfl⟩)
            go_ret2
            exact ⟨Or.inr ⟨by rw [hE.out]; omega, by rw [hE.out]; rfl⟩, HB2.out⟩
          · rw [hb] at X
            obtain ⟨hx0, hx1⟩ := belowB_is hb
            obtain ⟨xn, rfl⟩ : ∃ xn : Nat, x = xn := ⟨x.toNat, by omega⟩
            have hxn : xn < i := by omega
            obtain ⟨c0, c1⟩ := HR.out.cell hxn
            have hfree := plN_free (x := xn) HC.out hxn
            by_cases hf : iat (plN l i k) xn = -1
            · rw [hf] at c0
              have hno := hfree.1 hf
              have hchk : chk l i k = 0 := chk_of (by rw [hx]; omega) (fun j hj => by rw [hx]; exact hno j hj)
              clear hfree hf hno
              have HCH := hide hchk
              clear hchk
              go_wp2_with (go_at_call 78; refine (X _).mono ?_; rintro e w' ⟨rfl, rfl⟩)
              go_roundw
              case rel =>
                refine ⟨k + 1, by omega, by go_num, HB2.out.setCell (by simp) _, ?_, more HC.out HCH.out⟩
                show IRow _ _ _ _ ((plN l i k).set (iat l k).toNat k)
                rw [hx]
                exact HR.out.set xn k
              case measure => simp [intOf]; omega
            · obtain ⟨y, hy⟩ : ∃ y, iat (plN l i k) xn = y := ⟨_, rfl⟩
              rw [hy] at c0 hf
              have hyb : (y == -1) = false := by simpa using hf
              have hmet : ∃ j, j < k ∧ iat l j = (xn : Int) := by
                apply Classical.byContradiction
                intro hn
                have := hfree.2 fun j hj e => hn ⟨j, hj, e⟩
                omega
              obtain ⟨j, hj, ej⟩ := hmet
              have hchk : chk l i k = 18 := by unfold chk; rw [hx, hb, if_pos rfl, metB_yes hj (by rw [ej, hx]), if_pos rfl]
              have hE : Hid (errL l i = 18) := by show _ = _; unfold errL; rw [errN_first HC.out (by rw [hchk]; omega) _ hlk, hchk]
              clear hfree hchk
              go_wp2_with (go_at_call 78; refine (X _).mono ?_; rintro e w' ⟨rfl, rfl⟩)
              go_ret2
              exact ⟨Or.inr ⟨by rw [hE.out]; omega, by rw [hE.out]; rfl⟩, HB2.out⟩
        · have hin : k = l.length := by omega
          subst hin
          have hE : Hid (errL l i = 0) := errN_zero _ HC.out
          go_wp2
          go_ret2
          exact ⟨Or.inl ⟨hE.out, _, rfl, HR.out⟩, HB2.out⟩
set_option maxRecDepth 100000 in
set_option maxHeartbeats 4000000 in
theorem picked54 (p q : Option Addr) (es : List Pt) (l : List Int) (cp cq : Nat) (w : World) (hl : l.length ≤ 100000) (hin : ∀ j, j < l.length → 0 ≤ iat l j ∧ iat l j < es.length) (h : Has w p es) (k : IHas w q l) : Calls Try.prog 98 #[.slice p es.length cp, .slice q l.length cq] w fun e w' => ∃ g, e = .returned (.slice (some ⟨g, 0, none⟩) l.length l.length) ∧ PRow w' w.heap.size g l.length (pick es l) ∧ Below w.heap.size w w' := by
  have HH := hide h
  have HK := hide k
  have HIN := hide hin
  clear h k hin
  obtain ⟨i0, hi0, hz0, hz1, hz2⟩ := info_parts info60
  go_enter Try.func98, Try.ntmps98
  go_wp2_with (refine wpList_make_full _ rfl (.tmp 9) (.tmp 9) 22 rfl w.heap.size 64 i0 (.agg #[.int .i64 0, .int .i64 0]) 2 Try.underlying22 hi0 hz0 hz1 .i64 .i64 _ _ l.length rfl rfl rfl rfl ?c1 ?c2 ?c3 ?_)
  case c1 => rw [hz2]; omega
  case c2 => unfold maxLen; omega
  case c3 => exact Nat.le_refl _
  intro w1 hown hgrow
  have HR1 := hide (prow_made hown)
  have HB1 := hide (below_made hgrow)
  clear hown hgrow
  go_wp2_with fail
  go_loopw [13] (fun t wr => ∃ i : Nat, i ≤ l.length ∧ t = .int .i64 i ∧ Hid (Below w.heap.size w wr) ∧ Hid (∃ r, PRow wr w.heap.size w.heap.size l.length r ∧ ∀ j, j < i → at' r j = at' es (iat l j).toNat)) (fun t _ => l.length - (intOf t).toNat)
  case atStart => exact ⟨0, by omega, rfl, HB1.out, _, HR1.out, fun j hj => by omega⟩
  case round =>
    obtain ⟨i, hi, rfl, HB, HR⟩ := hrel
    by_cases hlt : i < l.length
    · obtain ⟨r, hr, hall⟩ := HR.out
      have HR' := hide hr
      have HA := hide hall
      obtain ⟨c0, c1, c2, c3⟩ := hr.cell hlt
      clear hr hall HR
      obtain ⟨hx0, hx1⟩ := HIN.out i hlt
      rcases HK.out.later HB.out with h | ⟨bl, ol, rfl, hL⟩
      · subst h; simp at hlt
      have cl := hL i hlt
      obtain ⟨x, hx⟩ : ∃ x, iat l i = x := ⟨_, rfl⟩
      rw [hx] at hx0 hx1 cl
      obtain ⟨xn, rfl⟩ : ∃ xn : Nat, x = xn := ⟨x.toNat, by omega⟩
      have hxn : xn < es.length := by omega
      rcases HH.out.later HB.out with h | ⟨be, oe, rfl, hE⟩
      · subst h; simp at hxn
      obtain ⟨d0, d1⟩ := hE xn hxn
      obtain ⟨y, hy⟩ : ∃ y, at' es xn = y := ⟨_, rfl⟩
      rw [hy] at d0 d1
      clear hL hE
      go_wp2
      go_roundw
      case rel =>
        refine ⟨i + 1, by omega, by go_num, (HB.out.setCell (by simp) _).setCell (by simp) _, _, HR'.out.set i y, more (fun j hj => ?_) ?_⟩
        · rw [at_set _ _ _ _ (by rw [HR'.out.1]; omega), if_neg (by omega)]; exact HA.out j hj
        · rw [at_set _ _ _ _ (by rw [HR'.out.1]; omega), if_pos rfl, hx, ← hy]; rfl
      case measure => simp [intOf]; omega
    · have hin : i = l.length := by omega
      subst hin
      obtain ⟨r, hr, hall⟩ := HR.out
      have e : Hid (r = pick es l) := at_ext (by rw [hr.1, pick_length]) fun j hj => by rw [hr.1] at hj; rw [hall j hj, pick_at _ _ hj]
      have HR' := hide hr
      clear hr hall HR
      go_wp2
      go_ret
      refine ⟨_, rfl, ?_, HB.out⟩
      rw [← e.out]; exact HR'.out
set_option maxRecDepth 100000 in
set_option maxHeartbeats 4000000 in
theorem sub27 (n : Int) (p q : Option Addr) (es : List Pt) (l : List Int) (cp cq : Nat) (w : World) (hl : l.length ≤ maxLen) (h : Has w p es) (k : IHas w q l) : Calls Try.prog 84 #[nv n p es.length cp, .slice q l.length cq] w fun e w' => SubPost n es l w e w' ∧ Below w.heap.size w w' := by
  obtain ⟨W, hW, hb, a0, b0⟩ := two_nets w n p es.length cp
  have M := hide (may13 n p es cp W (h.later hb))
  have HH := hide (h.later hb)
  have HK := hide (k.later hb)
  have HB := hide hb
  have HA := hide a0
  have HN := hide b0
  obtain ⟨q0, q1, _, _⟩ := a0
  clear h k hb b0
  cases hm : netB n es
  · rw [hm] at M
    go_enter Try.func84, Try.ntmps84
    go_wp2_with fail
    rw [← hW]
    clear hW
    go_wp2_with fail
    refine M.out.mono ?_
    rintro e w1 ⟨rfl, hb1⟩
    have HB1 := hide (below_step HB.out hb1)
    have HN1 := hide (HN.out.later hb1)
    obtain ⟨r0, r1, r2, r3⟩ := HN1.out
    clear hb1 q0 q1
    go_wp2
    obtain ⟨V, hV⟩ : ∃ V, V = (w1.setCell ⟨w.heap.size + 1, 0, none⟩ (.int .i64 0)).setCell ⟨w.heap.size + 1, 1, none⟩ (.slice none 0 0) := ⟨_, rfl⟩
    have kV : NOwn V (w.heap.size + 1) 0 none 0 0 := by rw [hV]; exact HN1.out.set 0 none 0 0
    have bV : Below w.heap.size w V := by rw [hV]; exact (HB1.out.setCell (by simp) _).setCell (by simp) _
    rw [← hV]
    exact bodyPost_ret (ret_net Try.results84 rfl rfl kV) rfl ⟨Or.inr ⟨by simp [subE, hm], by simp [subE, hm]⟩, bV⟩
  · rw [hm] at M
    obtain ⟨n0, n1, hes, _⟩ := netB_is hm
    go_enter Try.func84, Try.ntmps84
    go_wp2_with fail
    rw [← hW]
    clear hW
    go_wp2_with fail
    refine M.out.mono ?_
    rintro e w1 ⟨rfl, hb1⟩
    have HB1 := hide (below_step HB.out hb1)
    have HN1 := hide (HN.out.later hb1)
    have HA1 := hide (HA.out.later hb1)
    have HH1 := hide (HH.out.later hb1)
    have HK1 := hide (HK.out.later hb1)
    clear q0 q1 hb1 HA HN HB HH HK M
    obtain ⟨q0, q1, _, _⟩ := HA1.out
    have P := hide (places49 q l cq es.length w1 hl (by omega) HK1.out)
    go_wp2_with fail
    refine P.out.mono ?_
    rintro e w2 ⟨hP, hb2⟩
    have HB2 := hide (below_step HB1.out hb2)
    have HN2 := hide (HN1.out.later hb2)
    have HA2 := hide (HA1.out.later hb2)
    have HH2 := hide (HH1.out.later hb2)
    have HK2 := hide (HK1.out.later hb2)
    clear hb2 q0 q1 HA1 HN1 HB1 HH1 HK1 P
    rcases hP with ⟨hE, g, rfl, _⟩ | ⟨hE, rfl⟩
    · have hS : Hid (subE n es l = 0) := by show _ = _; unfold subE; rw [hm, if_pos rfl, hE]
      have hlm := chosen_le hE
      have hin := hide (chosen_in hE)
      clear hE
      obtain ⟨q0, q1, _, _⟩ := HA2.out
      obtain ⟨r0, r1, r2, r3⟩ := HN2.out
      have PK : Hid (∀ w3, Below w2.heap.size w2 w3 → Calls Try.prog 98 #[.slice p es.length cp, .slice q l.length cq] w3 fun e w' => ∃ g, e = .returned (.slice (some ⟨g, 0, none⟩) l.length l.length) ∧ PRow w' w3.heap.size g l.length (pick es l) ∧ Below w3.heap.size w3 w') := fun w3 h3 => picked54 p q es l cp cq w3 (by omega) hin.out (HH2.out.later h3) (HK2.out.later h3)
      go_wp2_with fail
      go_region_held3 (fun W => W.cell? ⟨w.heap.size, 0, none⟩ = some (.int .i64 n) ∧ W.cell? ⟨w.heap.size, 1, none⟩ = some (.slice p es.length cp))
        (first | exact ⟨HA2.out.1, HA2.out.2.1⟩ | exact ⟨HA3.out.1, HA3.out.2.1⟩ | exact ⟨other2 HA3.out.1 (by simp), other2 HA3.out.2.1 (by simp)⟩)
        (first | (go_at_call 98; refine (PK.out _ (by go_grown)).mono ?_; rintro e w3 ⟨g3, rfl, hr3, hb3'⟩; have hb3 : Below w2.heap.size w2 w3 := below_step (below_drew w2) hb3'; clear hb3'; have HA3 := hide (HA2.out.later hb3); have HN3 := hide (HN2.out.later hb3); have HR3 : Hid (PRow w3 w2.heap.size g3 l.length (pick es l)) := hr3; have HB3 := hide (below_step HB2.out hb3); clear hb3 hr3; obtain ⟨s0, s1, s2, s3⟩ := HN3.out))
      rename_i hHeld
      clear hHeld
      have hws : w.heap.size + 1 < w2.heap.size := block_lt_of_cell r0
      have hg3 := HR3.out.lt
      obtain ⟨V, hV⟩ : ∃ V, V = (w3.setCell ⟨w.heap.size + 1, 0, none⟩ (.int .i64 n)).setCell ⟨w.heap.size + 1, 1, none⟩ (.slice (some ⟨g3, 0, none⟩) l.length l.length) := ⟨_, rfl⟩
      have kV : NOwn V (w.heap.size + 1) n (some ⟨g3, 0, none⟩) l.length l.length := by rw [hV]; exact HN3.out.set n _ _ _
      have bV : Below w.heap.size w V := by rw [hV]; exact (HB3.out.setCell (by simp) _).setCell (by simp) _
      have rV : PRow V w.heap.size g3 l.length (pick es l) := by rw [hV]; exact (prow_other (prow_other HR3.out (by omega) _) (by omega) _).base (by omega)
      rw [← hV]
      go_wp2_with fail
      exact bodyPost_ret (ret_net Try.results84 rfl rfl kV) rfl ⟨Or.inl ⟨hS.out, g3, rfl, rV⟩, bV⟩
    · obtain ⟨E, hEE⟩ : ∃ E, errL l es.length = E := ⟨_, rfl⟩
      have hS : Hid (subE n es l = E) := by show _ = _; unfold subE; rw [hm, if_pos rfl, hEE]
      rw [hEE] at hE ⊢
      have hEb : (E == 0) = false := by simpa using hE
      obtain ⟨r0, r1, r2, r3⟩ := HN2.out
      go_wp2
      obtain ⟨V, hV⟩ : ∃ V, V = (w2.setCell ⟨w.heap.size + 1, 0, none⟩ (.int .i64 0)).setCell ⟨w.heap.size + 1, 1, none⟩ (.slice none 0 0) := ⟨_, rfl⟩
      have kV : NOwn V (w.heap.size + 1) 0 none 0 0 := by rw [hV]; exact HN2.out.set 0 none 0 0
      have bV : Below w.heap.size w V := by rw [hV]; exact (HB2.out.setCell (by simp) _).setCell (by simp) _
      rw [← hV]
      exact bodyPost_ret (ret_net Try.results84 rfl rfl kV) rfl ⟨Or.inr ⟨by rw [hS.out]; exact hE, by rw [hS.out]; rfl⟩, bV⟩
end Go.Proofs.Ytcgdmonejogbaaa
namespace Go.Proofs.Ytcgdmonejogbaaa
open Go.RowKit Go.Sort
open Go
set_option maxRecDepth 100000 in
set_option maxHeartbeats 16000000 in
theorem places65 (p : Option Addr) (l : List Int) (c m : Nat) (w : World) (hI : IHas w p l) (hl : l.length ≤ 90000) (hm : m ≤ 90000) (hin : ∀ j, j < l.length → 0 ≤ iat l j ∧ iat l j < m) : Calls Try.prog 86 #[.slice p l.length c, .int .i64 m] w fun e w' => ∃ g, e = .returned (.slice (some ⟨g, 0, none⟩) m m) ∧ IRow w' w.heap.size g m (plN l m l.length) ∧ Below w.heap.size w w' := by
  obtain ⟨W, hW⟩ : ∃ W, W = w.alloc (.cells #[.int .i64 (-1)] 3) := ⟨_, rfl⟩
  have hbW : Below w.heap.size w W := by rw [hW]; go_grown
  have RP := hide (repeat52 w.heap.size m (-1) W (by omega) (by rw [hW]; go_cell))
  have HI := hide hI
  have HIN := hide hin
  have HBW := hide hbW
  clear hI hin hbW
  go_enter Try.func86, Try.ntmps86
  go_wp2_with fail
  rw [← hW]
  clear hW
  refine RP.out.mono ?_
  rintro e w1 ⟨g, rfl, hrow, hb1⟩
  have HB1 := hide (below_step HBW.out hb1)
  have HR1 : Hid (IRow w1 w.heap.size g m (plN l m 0)) := hrow.base HBW.out.size
  clear hrow hb1 RP
  go_wp2_with fail
  go_loopw [13] (fun t13 wr => ∃ i : Nat, i ≤ l.length ∧ t13 = .int .i64 i ∧ Hid (Below w.heap.size w wr) ∧ Hid (IRow wr w.heap.size g m (plN l m i))) (fun t13 _ => l.length - (intOf t13).toNat)
  case atStart => exact ⟨0, by omega, rfl, HB1.out, HR1.out⟩
  case round =>
    obtain ⟨i, hi, rfl, HBr, HRr⟩ := hrel
    clear HB1 HR1
    by_cases hlt : i < l.length
    · rcases HI.out.later HBr.out with h | ⟨b, o, rfl, hL⟩
      · rw [h] at hlt; simp at hlt
      have c0 := hL i hlt
      obtain ⟨x0, x1⟩ := HIN.out i hlt
      have HST : Hid (plN l m (i + 1) = (plN l m i).set (iat l i).toNat i) := rfl
      obtain ⟨k, hk⟩ : ∃ k : Nat, iat l i = k := ⟨(iat l i).toNat, by omega⟩
      rw [hk] at c0 HST x1
      rw [Int.toNat_natCast] at HST
      obtain ⟨d0, f0⟩ := HRr.out.cell (j := k) (by omega)
      have e1 : (i : Int) < l.length := by omega
      have HSET := hide (HRr.out.set k i)
      have HBS : Hid (Below w.heap.size w (wr.setCell ⟨g, k, none⟩ (.int .i64 i))) := HBr.out.setCell (p := ⟨g, k, none⟩) HRr.out.lt.1 _
      rw [← HST.out] at HSET
      clear hL hk x0
      go_wp2
      go_roundw
      case rel => exact ⟨i + 1, by omega, by go_num, HBS.out, HSET.out⟩
      case measure => simp [intOf]; omega
    · have hie : i = l.length := by omega
      have e1 : ¬ (i : Int) < l.length := by omega
      rw [hie] at HRr
      clear hie
      go_wp2
      go_ret
      exact ⟨g, rfl, HRr.out, HBr.out⟩
/-- A list's half-edges by their edges' new numbers, without those whose number is below 0. -/
def rnRow (T l : List Int) : Nat → List Int
  | 0 => []
  | j + 1 => if 0 ≤ iat T ((iat l j).toNat / 2) then rnRow T l j ++ [2 * iat T ((iat l j).toNat / 2) + ((iat l j).toNat % 2 : Nat)] else rnRow T l j
theorem rnRow_le (T l : List Int) : ∀ j, (rnRow T l j).length ≤ j
  | 0 => by simp [rnRow]
  | j + 1 => by
    have := rnRow_le T l j
    unfold rnRow
    split
    · simp; exact this
    · omega
def rnL (T : List Int) (l : List Int) : List Int := rnRow T l l.length
/-- The lists so far. -/
def rnA (T : List Int) (rs : List (List Int)) (v j u : Nat) : List Int := if u < v then rnL T (lat rs u) else if u = v then rnRow T (lat rs u) j else []
theorem rnA_at (T : List Int) (rs : List (List Int)) (v j : Nat) : rnA T rs v j v = rnRow T (lat rs v) j := by simp [rnA]
theorem rnA_next (T : List Int) (rs : List (List Int)) (v u : Nat) : rnA T rs v (lat rs v).length u = rnA T rs (v + 1) 0 u := by
  unfold rnA
  by_cases h1 : u < v
  · rw [if_pos h1, if_pos (by omega)]
  · by_cases h2 : u = v
    · subst h2; rw [if_neg h1, if_pos rfl, if_pos (by omega)]; rfl
    · rw [if_neg h1, if_neg h2, if_neg (by omega)]
      split
      · rfl
      · rfl
set_option maxRecDepth 100000 in
set_option maxHeartbeats 16000000 in
theorem renumbered64 (q t : Option Addr) (rs : List (List Int)) (T : List Int) (cq ct : Nat) (w : World) (hr : RHas w q rs) (hT : IHas w t T) (hn : rs.length ≤ 90000) (hTl : T.length ≤ 90000) (hl : ∀ v, v < rs.length → (lat rs v).length ≤ 90000) (hin : ∀ v, v < rs.length → ∀ j, j < (lat rs v).length → 0 ≤ iat (lat rs v) j ∧ iat (lat rs v) j < 2 * T.length) (hTi : ∀ j, j < T.length → -1 ≤ iat T j ∧ iat T j ≤ 90000) : Calls Try.prog 85 #[.slice q rs.length cq, .slice t T.length ct] w fun e w' => ∃ g rv, e = .returned (.slice (some ⟨g, 0, none⟩) rs.length rs.length) ∧ Rows w' w.heap.size g rs.length rv (fun v => rnL T (lat rs v)) ∧ Below w.heap.size w w' := by
  obtain ⟨i0, hi0, hz0, hz1, hz2⟩ := info_parts info41
  have HR := hide hr
  have HT := hide hT
  have HLL := hide hl
  have HIN := hide hin
  have HTI := hide hTi
  clear hr hl hT hin hTi
  go_enter Try.func85, Try.ntmps85
  go_wp2_with (refine wpList_make_full _ rfl (.tmp 12) (.tmp 12) 26 rfl w.heap.size 44 i0 (.slice none 0 0) 1 Try.underlying26 hi0 hz0 hz1 .i64 .i64 _ _ rs.length rfl rfl rfl rfl ?c1 ?c2 ?c3 ?_)
  case c1 => rw [hz2]; omega
  case c2 => unfold maxLen; omega
  case c3 => exact Nat.le_refl _
  intro w2 hown hgrow
  have HB2 := hide (below_made hgrow)
  have HR2 : Hid (Rows w2 w.heap.size w.heap.size rs.length (fun _ => .slice none 0 0) (rnA T rs 0 0)) := (rows_made [] hown).congr (fun v _ => by simp [outL, rnA, rnRow])
  obtain ⟨g, hg⟩ : ∃ g, w.heap.size = g := ⟨_, rfl⟩
  have HG := hide hg
  rw [show Rows w2 w.heap.size w.heap.size rs.length (fun _ => Value.slice none 0 0) (rnA T rs 0 0) = Rows w2 w.heap.size g rs.length (fun _ => Value.slice none 0 0) (rnA T rs 0 0) by rw [hg]] at HR2
  try rw [hg]
  clear hown hgrow hg hi0 hz0 hz1 hz2 i0
  go_wp2_with fail
  go_loopw [16] (fun t16 wr => ∃ (v : Nat) (rv : Nat → Value), v ≤ rs.length ∧ t16 = .int .i64 v ∧ Hid (Below w.heap.size w wr) ∧ Hid (Rows wr w.heap.size g rs.length rv (rnA T rs v 0))) (fun t16 _ => rs.length - (intOf t16).toNat)
  case atStart => exact ⟨0, _, by omega, rfl, HB2.out, HR2.out⟩
  case round =>
    obtain ⟨v, rv, hv, rfl, HBr, HRr⟩ := hrel
    clear HB2 HR2
    by_cases hlt : v < rs.length
    · obtain ⟨b1, o1, a1, k1, rfl, c0W, m1, z1⟩ := HR.out.at_ hlt
      have c0 := later HBr.out c0W
      have e1 : (v : Int) < rs.length := by omega
      have HIA : Hid (∀ V, Below w.heap.size w V → IHas V a1 (lat rs v)) := fun V hV => m1.later hV
      have hl9 := HLL.out v hlt
      have HBL := hide (HIN.out v hlt)
      have HNX : Hid (∀ u, rnA T rs v (lat rs v).length u = rnA T rs (v + 1) 0 u) := rnA_next T rs v
      have HAT : Hid (∀ j, rnA T rs v j v = rnRow T (lat rs v) j) := rnA_at T rs v
      have HOT : Hid (∀ j j' u, u ≠ v → rnA T rs v j u = rnA T rs v j' u) := fun j j' u hu => by unfold rnA; rw [if_neg hu, if_neg hu]
      obtain ⟨l, hll⟩ : ∃ l, lat rs v = l := ⟨_, rfl⟩
      rw [hll] at c0 HIA hl9 HBL HNX HAT
      clear m1 z1 c0W hll
      go_wp2_with fail
      clear c0
      go_loopw [23] (fun t23 wj => ∃ (j : Nat) (rv : Nat → Value), j ≤ l.length ∧ t23 = .int .i64 j ∧ Hid (Below w.heap.size w wj) ∧ Hid (Rows wj w.heap.size g rs.length rv (rnA T rs v j))) (fun t23 _ => l.length - (intOf t23).toNat)
      case atStart => exact ⟨0, rv, by omega, rfl, HBr.out, HRr.out⟩
      case round =>
        clear HBr HRr
        obtain ⟨j, rv, hj, rfl, HBj, HRj⟩ := hrel
        by_cases hjl : j < l.length
        · rcases HIA.out _ HBj.out with h | ⟨b2, o2, rfl, l2⟩
          · rw [h] at hjl; simp at hjl
          obtain ⟨x0, x1⟩ := HBL.out j hjl
          have c1 := l2 j hjl
          have HST : Hid (rnRow T l (j + 1) = if 0 ≤ iat T ((iat l j).toNat / 2) then rnRow T l j ++ [2 * iat T ((iat l j).toNat / 2) + ((iat l j).toNat % 2 : Nat)] else rnRow T l j) := rfl
          obtain ⟨k, hk⟩ : ∃ k : Nat, iat l j = k := ⟨(iat l j).toNat, by omega⟩
          rw [hk] at c1 HST x1
          rw [Int.toNat_natCast] at HST
          have hkT : k / 2 < T.length := by omega
          rcases HT.out.later HBj.out with h | ⟨b3, o3, rfl, l3⟩
          · rw [h] at hkT; simp at hkT
          have c2 := l3 (k / 2) hkT
          obtain ⟨y0, y1⟩ := HTI.out (k / 2) hkT
          obtain ⟨y, hy⟩ : ∃ y, iat T (k / 2) = y := ⟨_, rfl⟩
          rw [hy] at c2 HST y0 y1
          have hd : Int.tdiv (k : Int) 2 = ((k / 2 : Nat) : Int) := by rw [Int.tdiv_eq_ediv_of_nonneg (by omega)]; exact (Int.natCast_ediv k 2).symm
          have hrm : Int.tmod (k : Int) 2 = ((k % 2 : Nat) : Int) := by rw [Int.tmod_eq_emod_of_nonneg (by omega)]; exact (Int.natCast_emod k 2).symm
          have hr2 : k % 2 < 2 := Nat.mod_lt _ (by omega)
          obtain ⟨s, hs⟩ : ∃ s, k % 2 = s := ⟨_, rfl⟩
          obtain ⟨e, he⟩ : ∃ e, k / 2 = e := ⟨_, rfl⟩
          rw [hs] at hrm hr2 HST
          rw [he] at hd c2 hkT
          have j1 : (j : Int) < l.length := by omega
          have j2 : (e : Int) < T.length := by omega
          clear l2 l3 hk hy hs x0
          by_cases hyn : 0 ≤ y
          · rw [if_pos hyn] at HST
            have hLe := rnRow_le T l j
            obtain ⟨U, hU⟩ : ∃ U, U = wr.alloc (.cells #[.int .i64 (2 * y + s)] 3) := ⟨_, rfl⟩
            have hbU : Below wr.heap.size wr U := by rw [hU]; go_grown
            have hlit : U.cell? ⟨wr.heap.size, 0, none⟩ = some (.int .i64 (2 * y + s)) := by rw [hU]; exact one_int _ _
            have hRU := HRj.out.later hbU
            have hrx := hRU.2.2 v hlt
            rw [HAT.out j] at hrx
            have hgw : w.heap.size = g := HG.out
            obtain ⟨v1, D, ea, o1', gr, at1⟩ := append_int hrx hlit (by have := HBj.out.size; have := hbU.size; omega) (by omega)
            obtain ⟨p1, ln1, cc1, rfl⟩ : ∃ p1 l1 c1, v1 = .slice p1 l1 c1 := by obtain ⟨p1, c1, h1, _⟩ := o1'.form; exact ⟨_, _, _, h1⟩
            have HRD : Hid (Rows (D.setCell ⟨g, v, none⟩ (.slice p1 ln1 cc1)) w.heap.size g rs.length (upd rv v (.slice p1 ln1 cc1)) (rnA T rs v (j + 1))) := (hRU.put hlt (by rw [HAT.out j]; exact o1') gr at1).congr (fun u _ => by
              by_cases hu : u = v
              · rw [hu, upd_same, HAT.out, HAT.out, HST.out]
              · rw [upd_other _ _ hu]; exact HOT.out _ _ u hu)
            obtain ⟨hgl, d0, f0⟩ := Rows.slot hRU hlt gr
            have HBD : Hid (Below w.heap.size w (D.setCell ⟨g, v, none⟩ (.slice p1 ln1 cc1))) := (below_grown (below_step HBj.out hbU) hrx (Nat.le_refl _) (by have := HBj.out.size; have := hbU.size; omega) gr).setCell (p := ⟨g, v, none⟩) (by show _ ≤ g; omega) _
            obtain ⟨r0, rf⟩ := HRj.out.cell hlt
            have k3 : g ≠ wr.heap.size := by have := HRj.out.size; omega
            have k4 : g < wr.heap.size := HRj.out.size.2
            rw [hU] at ea
            clear hU hbU hlit hRU hrx o1' gr at1 HRj HST hgw
            go_wp2_with (at_builtin; refine wpList_run_append rfl (.tmp 39) (.tmp 45) 44 rfl 44 rfl _ _ _ D rfl rfl ea ?_)
            clear ea r0 rf
            go_wp2
            go_roundw
            case rel => exact ⟨j + 1, _, by omega, by go_num, HBD.out, HRD.out⟩
            case measure => simp [intOf]; omega
          · rw [if_neg hyn] at HST
            have t1 : ¬ (y ≥ 0) := hyn
            have HRD : Hid (Rows wr w.heap.size g rs.length rv (rnA T rs v (j + 1))) := HRj.out.congr (fun u _ => by
              by_cases hu : u = v
              · rw [hu, HAT.out, HAT.out, HST.out]
              · exact HOT.out _ _ u hu)
            clear HRj HST
            go_wp2
            go_roundw
            case rel => exact ⟨j + 1, rv, by omega, by go_num, HBj.out, HRD.out⟩
            case measure => simp [intOf]; omega
        · have hje : j = l.length := by omega
          have j1 : ¬ (j : Int) < l.length := by omega
          rw [hje] at HRj
          have HRD : Hid (Rows wr w.heap.size g rs.length rv (rnA T rs (v + 1) 0)) := HRj.out.congr (fun u _ => HNX.out u)
          clear hje HRj
          go_wp2
          go_roundw
          case rel => exact ⟨v + 1, rv, by omega, by go_num, HBj.out, HRD.out⟩
          case measure => simp [intOf]; omega
    · have hve : v = rs.length := by omega
      have e1 : ¬ (v : Int) < rs.length := by omega
      have HRE : Hid (Rows wr w.heap.size g rs.length rv (fun v => rnL T (lat rs v))) := HRr.out.congr (fun u hu => by unfold rnA; rw [if_pos (by omega)])
      clear hve HRr
      go_wp2
      go_ret
      exact ⟨g, rfl, ⟨rv, HRE.out⟩, HBr.out⟩
end Go.Proofs.Ytcgdmonejogbaaa
/- rot.First, in every world. -/
/- rot.Canon and Of, in every world; Mirror where it refuses. -/
namespace Go.Proofs.Ytcgdmonejogbaaa
open Go.RowKit Go.Sort
open Go
set_option maxRecDepth 100000 in
set_option maxHeartbeats 16000000 in
theorem canon28 (n : Int) (p : Option Addr) (es : List Pt) (cp : Nat) (q : Option Addr) (rs : List (List Int)) (cq : Nat) (w : World) (h : Has w p es) (hr : RHas w q rs) (h0 : rotI n es rs = 0) : Calls Try.prog 52 #[nv n p es.length cp, .slice q rs.length cq] w fun e w' => ∃ g rv, e = .returned (.tuple #[.slice (some ⟨g, 0, none⟩) rs.length rs.length, .int .i64 0]) ∧ Rows w' w.heap.size g rs.length rv (fun v => lat (canonL rs) v) ∧ Below w.heap.size w w' := by
  obtain ⟨W, hW, hb0, a0⟩ := one_net w n p es.length cp
  have M := hide (mayR13 n p es cp q rs cq W (h.later hb0) (hr.later hb0))
  obtain ⟨z1, z2⟩ := rot_bounds h0
  rw [h0] at M
  have HR := hide (hr.later hb0)
  have HB := hide hb0
  have HZ := hide z2
  clear h hr hb0 a0 h0 z2
  go_enter Try.func52, Try.ntmps52
  go_wp2_with fail
  rw [← hW]
  clear hW
  refine M.out.mono ?_
  rintro e w1 ⟨rfl, hb1⟩
  have HB1 := hide (below_step HB.out hb1)
  have T1 := hide (turned54 q rs cq w1 (HR.out.later hb1) (by omega) (fun v hv => by have := HZ.out v hv; omega))
  clear hb1 M
  go_wp2_with fail
  refine T1.out.mono ?_
  rintro e w5 ⟨g5, rv5, rfl, hr5, hb5⟩
  have HB5 := hide (below_step HB1.out hb5)
  have HR5 : Hid (Rows w5 w.heap.size g5 rs.length rv5 (fun v => lat (canonL rs) v)) := (hr5.base HB1.out.size).congr (fun u hu => by rw [lat_canon hu])
  clear hr5 hb5 T1
  go_wp2
  go_ret2
  exact ⟨g5, rv5, rfl, HR5.out, HB5.out⟩
set_option maxRecDepth 100000 in
set_option maxHeartbeats 16000000 in
theorem of40no (n : Int) (p : Option Addr) (es : List Pt) (cp : Nat) (q : Option Addr) (rs : List (List Int)) (cq : Nat) (w : World) (h : Has w p es) (hr : RHas w q rs) (h0 : ¬ rotI n es rs = 0) : Calls Try.prog 46 #[nv n p es.length cp, .slice q rs.length cq] w fun e w' => e = .returned (.tuple #[.slice none 0 0, .int .i64 (rotI n es rs)]) ∧ Below w.heap.size w w' := by
  obtain ⟨W, hW, hb0, a0⟩ := one_net w n p es.length cp
  have M := hide (mayR13 n p es cp q rs cq W (h.later hb0) (hr.later hb0))
  have HB := hide hb0
  obtain ⟨x, hx⟩ : ∃ x, rotI n es rs = x := ⟨_, rfl⟩
  rw [hx] at M h0 ⊢
  have t1 : (x == 0) = false := by simp [h0]
  clear h hr hb0 hx
  go_enter Try.func46, Try.ntmps46
  go_wp2_with fail
  rw [← hW]
  clear hW
  refine M.out.mono ?_
  rintro e w1 ⟨rfl, hb1⟩
  have HB1 := hide (below_step HB.out hb1)
  clear hb1 M
  go_wp2
  go_ret2
  exact ⟨rfl, HB1.out⟩
/-- Of each half-edge the number of its face. -/
def ofL (es : List Pt) (rs : List (List Int)) : List Int := (trN (nxN rs (2 * es.length) rs.length) (2 * es.length) (2 * es.length)).1
set_option maxRecDepth 100000 in
set_option maxHeartbeats 16000000 in
theorem of40 (n : Int) (p : Option Addr) (es : List Pt) (cp : Nat) (q : Option Addr) (rs : List (List Int)) (cq : Nat) (w : World) (h : Has w p es) (hr : RHas w q rs) (h0 : rotI n es rs = 0) : Calls Try.prog 46 #[nv n p es.length cp, .slice q rs.length cq] w fun e w' => ∃ g, e = .returned (.tuple #[.slice (some ⟨g, 0, none⟩) (2 * es.length) (2 * es.length), .int .i64 0]) ∧ IRow w' w.heap.size g (2 * es.length) (ofL es rs) ∧ Below w.heap.size w w' := by
  obtain ⟨W, hW, hb0, a0⟩ := one_net w n p es.length cp
  have M := hide (mayR13 n p es cp q rs cq W (h.later hb0) (hr.later hb0))
  obtain ⟨z1, z2⟩ := rot_bounds h0
  obtain ⟨n0, n1, hes, _⟩ := netB_is (rot_is h0).1
  have HIN := hide (rot_in h0)
  rw [h0] at M
  have HR := hide (hr.later hb0)
  have HB := hide hb0
  have HA := hide a0
  have HZ := hide z2
  clear h hr hb0 a0 h0 z2
  go_enter Try.func46, Try.ntmps46
  go_wp2_with fail
  rw [← hW]
  clear hW
  refine M.out.mono ?_
  rintro e w1 ⟨rfl, hb1⟩
  have HB1 := hide hb1
  obtain ⟨q0, q1, _, _⟩ := HA.out.later hb1
  have NX := hide (nexts57 q rs cq es.length w1 (HR.out.later hb1) (by omega) (by omega) (fun v hv => by have := HZ.out v hv; omega) HIN.out)
  clear hb1 M
  rw [show ((2 * es.length : Nat) : Int) = 2 * es.length by omega] at NX
  go_wp2_with fail
  refine NX.out.mono ?_
  rintro e w2 ⟨g2, rfl, hrow, hb2⟩
  have HB2 := hide (below_step HB1.out hb2)
  have HLN : Hid ((nxN rs (2 * es.length) rs.length).length = 2 * es.length) := nxN_length _ _ _
  have TR := hide (traced56 (some ⟨g2, 0, none⟩) (nxN rs (2 * es.length) rs.length) (2 * es.length) (2 * es.length) w2 (Or.inr ⟨g2, 0, rfl, hrow.2.lies⟩) HLN.out (by omega) (fun j hj => nxN_in (m := 2 * es.length) (by omega) (fun v hv i hi => by have := HIN.out v hv i hi; omega) _ (Nat.le_refl _) _ (iat_mem (by rw [HLN.out]; exact hj))))
  clear hrow hb2 NX q0 q1
  go_wp2_with fail
  refine TR.out.mono ?_
  rintro e w3 ⟨p1, c1, g3, rv, rfl, _, hrow3, hb3⟩
  have HB3 := hide (below_step HB.out (below_step HB2.out hb3))
  have hsz : w.heap.size ≤ w2.heap.size := Nat.le_trans HB.out.size HB2.out.size
  have HR3 : Hid (IRow w3 w.heap.size g3 (2 * es.length) (ofL es rs)) := ⟨hrow3.1, hrow3.2.base hsz⟩
  clear hrow3 hb3 TR hsz
  go_wp2
  go_ret2
  exact ⟨g3, rfl, HR3.out, HB3.out⟩
end Go.Proofs.Ytcgdmonejogbaaa
namespace Go.Proofs.Ytcgdmonejogbaaa
open Go.RowKit Go.Sort
open Go
end Go.Proofs.Ytcgdmonejogbaaa
namespace Go.Proofs.Ytcgdmonejogbaaa
open Go.RowKit Go.Sort
open Go
end Go.Proofs.Ytcgdmonejogbaaa
namespace Go.Proofs.Ytcgdmonejogbaaa
open Go.RowKit Go.Sort
open Go
theorem Rows.other {w : World} {B g n : Nat} {rv : Nat → Value} {L : Nat → List Int} (h : Rows w B g n rv L) {k i : Nat} (hk : k < B) (u : Value) : Rows (w.setCell ⟨k, i, none⟩ u) B g n rv L := ⟨ownsRow_setCell_below h.1 (by exact hk) u, h.2.1, fun v hv => ownsRow_setCell_below (h.2.2 v hv) (by exact hk) u⟩
theorem PRow.laterU {w w' w'' : World} {b g n : Nat} {ps : List Pt} (h : PRow w b g n ps) (h1 : Below w.heap.size w w') (h2 : Below w'.heap.size w' w'') : PRow w'' b g n ps := (h.later h1).later h2
set_option maxRecDepth 100000 in
set_option maxHeartbeats 16000000 in
theorem sub30 (n : Int) (p : Option Addr) (es : List Pt) (cp : Nat) (q : Option Addr) (rs : List (List Int)) (cq : Nat) (t : Option Addr) (l : List Int) (ct : Nat) (w : World) (h : Has w p es) (hr : RHas w q rs) (hl : l.length ≤ maxLen) (hk : IHas w t l) (h0 : rotI n es rs = 0) (hs : subE n es l = 0) : Calls Try.prog 55 #[nv n p es.length cp, .slice q rs.length cq, .slice t l.length ct] w fun e w' => ∃ g g5 rv, e = .returned (.tuple #[nv n (some ⟨g, 0, none⟩) l.length l.length, .slice (some ⟨g5, 0, none⟩) rs.length rs.length, .int .i64 0]) ∧ PRow w' w.heap.size g l.length (pick es l) ∧ Rows w' w.heap.size g5 rs.length rv (fun v => turnL (rnL (plN l es.length l.length) (lat rs v))) ∧ Below w.heap.size w w' := by
  obtain ⟨W, hW, hb0, a0, b0⟩ := two_nets w n p es.length cp
  have M := hide (mayR13 n p es cp q rs cq W (h.later hb0) (hr.later hb0))
  rw [h0] at M
  obtain ⟨z1, z2⟩ := rot_bounds h0
  have HNET := hide (rot_is h0).1
  have HIN := hide (rot_in h0)
  obtain ⟨n0, n1, hes, _⟩ := netB_is HNET.out
  have HZ := hide z2
  have HH := hide (h.later hb0)
  have HR := hide (hr.later hb0)
  have HK := hide (hk.later hb0)
  have HB := hide hb0
  have HA := hide a0
  have HN := hide b0
  obtain ⟨q0, q1, _, _⟩ := a0
  clear h hr hk hb0 b0 h0 z2
  go_enter Try.func55, Try.ntmps55
  go_wp2_with fail
  rw [← hW]
  clear hW
  go_wp2_with fail
  refine M.out.mono ?_
  rintro e w1 ⟨rfl, hb1⟩
  have HB1 := hide hb1
  have HN1 := hide (HN.out.later hb1)
  clear q0 q1 M
  obtain ⟨q0, q1, _, _⟩ := HA.out.later hb1
  have S := hide (sub27 n p t es l cp ct w1 hl (HH.out.later hb1) (HK.out.later hb1))
  clear hb1
  go_wp2_with fail
  refine S.out.mono ?_
  rintro e w2 ⟨hS, hb2⟩
  have HB2 := hide (below_step HB1.out hb2)
  have HN2 := hide (HN.out.later HB2.out)
  clear hb2 q0 q1 S
  obtain ⟨q0, q1, _, _⟩ := HA.out.later HB2.out
  rcases hS with ⟨_, g, rfl, hP⟩ | ⟨hE, _⟩
  rotate_left
  · exact absurd hs hE
  have herr : errL l es.length = 0 := by unfold subE at hs; rw [if_pos HNET.out] at hs; exact hs
  have hlm := chosen_le herr
  have HCI := hide (chosen_in herr)
  have HPL := hide (plN_at (l := l) (m := es.length) (i := l.length) (errN_all _ herr))
  clear herr hs
  obtain ⟨r0, r1, r2, r3⟩ := HN2.out
  have hk2 : w.heap.size + 1 < w2.heap.size := block_lt_of_cell r0
  go_upto_region 5 with fail
  obtain ⟨U, hU⟩ : ∃ U, U = w2.alloc (nbx n (some ⟨g, 0, none⟩) l.length l.length) := ⟨_, rfl⟩
  have hbU : Below w2.heap.size w2 U := by rw [hU]; go_grown
  have HBU := hide (below_step HB2.out hbU)
  have HNU := hide (HN2.out.later hbU)
  have HPU := hide (hP.later hbU)
  have HKU : Hid (NOwn U w2.heap.size n (some ⟨g, 0, none⟩) l.length l.length) := by show NOwn _ _ _ _ _ _; rw [hU]; exact ⟨by go_cell, by go_cell, by simp [go_sem], by simp [go_sem]⟩
  try rw [← hU]
  clear hU hbU r0 r1 r2 r3 q0 q1 hP
  obtain ⟨q0, q1, _, _⟩ := HA.out.later HBU.out
  obtain ⟨r0, r1, r2, r3⟩ := HNU.out
  obtain ⟨s0, s1, s2, s3⟩ := HKU.out
  obtain ⟨kb, hkb⟩ : ∃ kb, w2.heap.size = kb := ⟨_, rfl⟩
  rw [hkb] at HKU s0 s1 s2 s3 hk2 ⊢
  obtain ⟨T, hT⟩ : ∃ T, plN l es.length l.length = T := ⟨_, rfl⟩
  have hTl : T.length = es.length := by rw [← hT]; exact plN_length _ _ _
  have hTi : ∀ j, j < T.length → -1 ≤ iat T j ∧ iat T j ≤ 90000 := fun j hj => by
    rw [hTl] at hj
    obtain ⟨h1, h2⟩ := HPL.out j hj
    rw [hT] at h1 h2
    by_cases hx : ∃ k, k < l.length ∧ iat l k = (j : Int)
    · obtain ⟨k, hk1, hk2⟩ := hx
      rw [h1 k hk1 hk2]; omega
    · rw [h2 fun k hk1 hk2 => hx ⟨k, hk1, hk2⟩]; omega
  have P1 : Hid (∀ V, Below W.heap.size W V → Calls Try.prog 86 #[.slice t l.length ct, .int .i64 es.length] V fun e w' => ∃ g, e = .returned (.slice (some ⟨g, 0, none⟩) es.length es.length) ∧ IRow w' V.heap.size g es.length T ∧ Below V.heap.size V w') := fun V hV => by rw [← hT]; exact places65 t l ct es.length V (HK.out.later hV) (by omega) (by omega) HCI.out
  have P2 : Hid (∀ V g1, Below W.heap.size W V → IRow V w.heap.size g1 es.length T → Calls Try.prog 85 #[.slice q rs.length cq, .slice (some ⟨g1, 0, none⟩) es.length es.length] V fun e w' => ∃ g rv, e = .returned (.slice (some ⟨g, 0, none⟩) rs.length rs.length) ∧ Rows w' V.heap.size g rs.length rv (fun v => rnL T (lat rs v)) ∧ Below V.heap.size V w') := fun V g1 hV hI => by
    have := renumbered64 q (some ⟨g1, 0, none⟩) rs T cq es.length V (HR.out.later hV) hI.has (by omega) (by omega) (fun v hv => by have := HZ.out v hv; omega) (fun v hv j hj => by have := HIN.out v hv j hj; omega) hTi
    rw [hTl] at this
    exact this
  have P3 : Hid (∀ V g2 rv, Rows V w.heap.size g2 rs.length rv (fun v => rnL T (lat rs v)) → Calls Try.prog 81 #[.slice (some ⟨g2, 0, none⟩) rs.length rs.length] V fun e w' => ∃ g rv, e = .returned (.slice (some ⟨g, 0, none⟩) rs.length rs.length) ∧ Rows w' V.heap.size g rs.length rv (fun v => turnL (rnL T (lat rs v))) ∧ Below V.heap.size V w') := fun V g2 rv hR => by
    have hlm : (rs.map (rnL T)).length = rs.length := by simp
    have hle : ∀ v, v < rs.length → (lat (rs.map (rnL T)) v).length ≤ 6144 := fun v hv => by rw [lat_map (rnL T) hv]; have := HZ.out v hv; have := rnRow_le T (lat rs v) (lat rs v).length; unfold rnL; omega
    have := turned54 (some ⟨g2, 0, none⟩) (rs.map (rnL T)) rs.length V (hR.has hlm (fun u hu => by rw [lat_map (rnL T) hu]) (fun u hu => by have := hle u hu; unfold maxLen; omega)) (by omega) (fun v hv => by have := hle v (by omega); omega)
    rw [hlm] at this
    refine this.mono ?_
    rintro e w' ⟨g, rv, rfl, hr, hb⟩
    exact ⟨g, rv, rfl, hr.congr (fun u hu => by rw [lat_map (rnL T) hu]), hb⟩
  have HTT := hide hT
  have KH : Hid (U.cell? ⟨w.heap.size, 1, none⟩ = some (.slice p es.length cp) ∧ U.cell? ⟨kb, 0, none⟩ = some (.int .i64 n) ∧ U.cell? ⟨kb, 1, none⟩ = some (.slice (some ⟨g, 0, none⟩) l.length l.length)) := ⟨q1, s0, s1⟩
  have HLT : Hid (∀ V V', Below V.heap.size V V' → (V.cell? ⟨w.heap.size, 1, none⟩ = some (.slice p es.length cp) ∧ V.cell? ⟨kb, 0, none⟩ = some (.int .i64 n) ∧ V.cell? ⟨kb, 1, none⟩ = some (.slice (some ⟨g, 0, none⟩) l.length l.length)) → (V'.cell? ⟨w.heap.size, 1, none⟩ = some (.slice p es.length cp) ∧ V'.cell? ⟨kb, 0, none⟩ = some (.int .i64 n) ∧ V'.cell? ⟨kb, 1, none⟩ = some (.slice (some ⟨g, 0, none⟩) l.length l.length))) := fun V V' hb ⟨a, b, c⟩ => ⟨later hb a, later hb b, later hb c⟩
  have hws : w.heap.size ≤ W.heap.size := HB.out.size
  have hUs : W.heap.size ≤ U.heap.size := HBU.out.size
  have hUk : w.heap.size + 1 < U.heap.size := block_lt_of_cell HNU.out.1
  clear hT hTl hTi HPL HCI HZ HIN HR HK HH s2 s3
  go_wp2_with fail
  go_region_held3 (fun W' => W'.cell? ⟨w.heap.size, 1, none⟩ = some (.slice p es.length cp) ∧ W'.cell? ⟨kb, 0, none⟩ = some (.int .i64 n) ∧ W'.cell? ⟨kb, 1, none⟩ = some (.slice (some ⟨g, 0, none⟩) l.length l.length))
    (first | exact ⟨q1, s0, s1⟩ | exact KH1.out | exact KH2.out | exact KH3.out | exact ⟨other2 KH3.out.1 (by simp), other2 KH3.out.2.1 (by simp; omega), other2 KH3.out.2.2 (by simp; omega)⟩)
    (first | (go_at_call 86; refine (P1.out _ (below_step HBU.out (below_drew U))).mono ?_; rintro e V1 ⟨g1, rfl, hr1, hb1'⟩; have hb1 : Below U.heap.size U V1 := below_step (below_drew U) hb1'; have HB3 := hide (below_step HBU.out hb1); have HU1 := hide hb1; have HRW1 : Hid (IRow V1 w.heap.size g1 es.length T) := hr1.base (by have := (below_drew U).size; omega); have KH1 := hide (HLT.out _ _ hb1 KH.out); clear hb1 hb1' hr1 q0 q1 s0 s1 r0 r1 r2 r3; obtain ⟨q1, s0, s1⟩ := KH1.out) | (go_at_call 81; refine (P3.out _ g2 rv2 HRW2.out).mono ?_; rintro e V3 ⟨g3, rv3, rfl, hr3, hb3⟩; have HB5 := hide (below_step HB4.out hb3); have HU12 : Hid (U.heap.size ≤ V2.heap.size) := Nat.le_trans HU1.out.size HU2.out.size; have HRW3 := hide hr3; have HU3 := hide hb3; have KH3 := hide (HLT.out _ _ hb3 KH2.out); have HN3 := hide (HN.out.later HB5.out); clear hb3 hr3 q1 s0 s1; obtain ⟨q1, s0, s1⟩ := KH3.out; obtain ⟨r0, r1, r2, r3⟩ := HN3.out) | (go_at_call 85; refine (P2.out _ g1 HB3.out HRW1.out).mono ?_; rintro e V2 ⟨g2, rv2, rfl, hr2, hb2⟩; have HB4 := hide (below_step HB3.out hb2); have hV1s : w.heap.size ≤ V1.heap.size := Nat.le_trans hws HB3.out.size; have HRW2 := hide (hr2.base hV1s); have HU2 := hide hb2; have KH2 := hide (HLT.out _ _ hb2 KH1.out); clear hb2 hr2 q1 s0 s1; obtain ⟨q1, s0, s1⟩ := KH2.out))
  rename_i hHeld
  clear hHeld
  have hg0 := HPU.out.lt
  have hw1s : w.heap.size + 1 < w1.heap.size := block_lt_of_cell HN1.out.1
  obtain ⟨V, hV⟩ : ∃ V, V = (V3.setCell ⟨w.heap.size + 1, 0, none⟩ (.int .i64 n)).setCell ⟨w.heap.size + 1, 1, none⟩ (.slice (some ⟨g, 0, none⟩) l.length l.length) := ⟨_, rfl⟩
  have kV : NOwn V (w.heap.size + 1) n (some ⟨g, 0, none⟩) l.length l.length := by rw [hV]; exact HN3.out.set n _ _ _
  have bV : Below w.heap.size w V := by rw [hV]; exact ((below_step HB.out HB5.out).setCell (by simp) _).setCell (by simp) _
  have pV : PRow V w.heap.size g l.length (pick es l) := by rw [hV]; exact (prow_other (prow_other ((HPU.out.later HU1.out).laterU HU2.out HU3.out) (by omega) _) (by omega) _).base (by omega)
  have rV : Rows V w.heap.size g3 rs.length rv3 (fun v => turnL (rnL (plN l es.length l.length) (lat rs v))) := by rw [hV, HTT.out]; exact ((HRW3.out.other (by have := HU12.out; omega) _).other (by have := HU12.out; omega) _).base (by have := HU12.out; omega)
  rw [← hV]
  go_wp2_with fail
  exact bodyPost_ret (ret_net3 Try.results55 rfl rfl rfl kV) rfl ⟨g, g3, rv3, rfl, pV, rV, bV⟩
end Go.Proofs.Ytcgdmonejogbaaa
namespace Go.Proofs.Ytcgdmonejogbaaa
open Go.RowKit Go.Sort
open Go
end Go.Proofs.Ytcgdmonejogbaaa
namespace Go.Proofs.Ytcgdmonejogbaaa
open Go.RowKit Go.Sort
open Go
/-- The numbers below m, rising. -/
def upN (m : Nat) : List Int := (List.range m).map fun (i : Nat) => (i : Int)
theorem upN_length (m : Nat) : (upN m).length = m := by simp [upN]
theorem upN_at {m j : Nat} (h : j < m) : iat (upN m) j = j := by
  unfold upN
  rw [iat_map _ _ 0 (by simpa using h)]
  simp [h]
theorem upN_err (m : Nat) : errL (upN m) m = 0 := by
  unfold errL
  rw [upN_length]
  refine errN_zero _ fun j hj => chk_of ?_ ?_
  · rw [upN_at hj]; omega
  · intro k hk
    rw [upN_at hj, upN_at (by omega)]
    omega
end Go.Proofs.Ytcgdmonejogbaaa
