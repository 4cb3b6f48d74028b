/- Pure: Sub with all edges and Moved with every node where it was answer the net and Canon. -/
import Derived.Deep.RegionHeld3
import Derived.Test.YtllkadgpkbaghaaY14
import Derived.Test.YtllkadgpkbaghaaY13
import Derived.Test.YtllkadgpkbaghaaA3
/- rot.Moved, in every world. -/
/- rot.Sub, in every world. -/
/- rot.Sub and Moved, in every world. -/
/- rot's places and renumbered, in every world. -/
/- net.Sub and net.Moved, in every world (carried from the net seat). -/
namespace Go.Proofs.Ytllkadgpkbaghaa
open Go.RowKit Go.Sort
open Go

set_option maxRecDepth 100000 in
set_option maxHeartbeats 4000000 in
theorem places49 (p : Option Addr) (l : List Int) (cap m : Nat) (w : World) (hl : l.length ≤ maxLen) (hm : m ≤ 4096) (h : IHas w p l) : Calls Try.prog 78 #[.slice p l.length cap, .int .i64 m] w fun e w' => PlPost l m w e w' ∧ Below w.heap.size w w' := by
  have HH := hide h
  clear h
  unfold maxLen at hl
  obtain ⟨i0, hi0, hz0, hz1, hz2⟩ := info_parts info3
  go_enter Try.func78, Try.ntmps78
  go_wp2_with (refine wpList_make_full _ rfl (.tmp 10) (.tmp 10) 27 rfl w.heap.size 3 i0 (.int .i64 0) 1 Try.underlying27 hi0 hz0 hz1 .i64 .i64 _ _ m rfl rfl rfl rfl ?c1 ?c2 ?c3 ?_)
  case c1 => rw [hz2]; omega
  case c2 => unfold maxLen; omega
  case c3 => exact Nat.le_refl _
  intro w1 hown hgrow
  have HR1 := hide (irow_made hown)
  have HB1 := hide (below_made hgrow)
  clear hown hgrow
  go_wp2_with fail
  go_loopw [14] (fun t wr => ∃ i : Nat, i ≤ m ∧ t = .int .i64 i ∧ Hid (Below w.heap.size w wr) ∧ Hid (∃ r, IRow wr w.heap.size w.heap.size m r ∧ ∀ j, j < i → iat r j = -1)) (fun t _ => m - (intOf t).toNat)
  case atStart => exact ⟨0, by omega, rfl, HB1.out, _, HR1.out, fun j hj => by omega⟩
  case round =>
    obtain ⟨i, hi, rfl, HB, HR⟩ := hrel
    by_cases hlt : i < m
    · obtain ⟨r, hr, hall⟩ := HR.out
      obtain ⟨c0, c1⟩ := hr.cell hlt
      go_wp2
      go_roundw
      case rel =>
        refine ⟨i + 1, by omega, by go_num, HB.out.setCell (by simp) _, _, hr.set i (-1), more (fun j hj => ?_) ?_⟩
        · rw [iat_set _ _ _ _ (by rw [hr.1]; omega), if_neg (by omega)]; exact hall j hj
        · rw [iat_set _ _ _ _ (by rw [hr.1]; omega), if_pos rfl]
      case measure => simp [intOf]; omega
    · have hin : i = m := by omega
      subst hin
      have HP : Hid (IRow wr w.heap.size w.heap.size i (plN l i 0)) := by
        obtain ⟨r, hr, hall⟩ := HR.out
        have e : r = plN l i 0 := iat_ext (by rw [hr.1]; simp [plN]) fun j hj => by rw [hall j (by rw [hr.1] at hj; exact hj)]; simp only [plN]; rw [iat_replicate _ _ _ (by rw [hr.1] at hj; exact hj)]
        rw [← e]; exact hr
      clear HR HR1
      go_wp2_with fail
      rename_i wA _ _ _ _
      go_loopw [23] (fun t wr => ∃ k : Nat, k ≤ l.length ∧ t = .int .i64 k ∧ Hid (Below w.heap.size w wr) ∧ Hid (IRow wr w.heap.size w.heap.size i (plN l i k)) ∧ Hid (∀ j, j < k → chk l i j = 0)) (fun t _ => l.length - (intOf t).toNat)
      case atStart => exact ⟨0, by omega, rfl, HB.out, HP.out, fun j hj => by omega⟩
      case round =>
        obtain ⟨k, hk, rfl, HB2, HR, HC⟩ := hrel
        by_cases hlk : k < l.length
        · rcases HH.out.later HB2.out with h | ⟨b, off, rfl, hL⟩
          · subst h; simp at hlk
          have cl := hL k hlk
          have X := below36 (iat l k) i
          obtain ⟨x, hx⟩ : ∃ x, iat l k = x := ⟨_, rfl⟩
          rw [hx] at cl X
          cases hb : belowB x i
          · rw [hb] at X
            have hchk : chk l i k = 2 := by unfold chk; rw [hx, hb]; rfl
            have hE : Hid (errL l i = 2) := by show _ = _; unfold errL; rw [errN_first HC.out (by rw [hchk]; omega) _ hlk, hchk]
            go_wp2_with (go_at_call 68; refine (X _).mono ?_; rintro e w' ⟨rfl, rfl⟩)
            go_ret2
            exact ⟨Or.inr ⟨by rw [hE.out]; omega, by rw [hE.out]; rfl⟩, HB2.out⟩
          · rw [hb] at X
            obtain ⟨hx0, hx1⟩ := belowB_is hb
            obtain ⟨xn, rfl⟩ : ∃ xn : Nat, x = xn := ⟨x.toNat, by omega⟩
            have hxn : xn < i := by omega
            obtain ⟨c0, c1⟩ := HR.out.cell hxn
            have hfree := plN_free (x := xn) HC.out hxn
            by_cases hf : iat (plN l i k) xn = -1
            · rw [hf] at c0
              have hno := hfree.1 hf
              have hchk : chk l i k = 0 := chk_of (by rw [hx]; omega) (fun j hj => by rw [hx]; exact hno j hj)
              clear hfree hf hno
              have HCH := hide hchk
              clear hchk
              go_wp2_with (go_at_call 68; refine (X _).mono ?_; rintro e w' ⟨rfl, rfl⟩)
              go_roundw
              case rel =>
                refine ⟨k + 1, by omega, by go_num, HB2.out.setCell (by simp) _, ?_, more HC.out HCH.out⟩
                show IRow _ _ _ _ ((plN l i k).set (iat l k).toNat k)
                rw [hx]
                exact HR.out.set xn k
              case measure => simp [intOf]; omega
            · obtain ⟨y, hy⟩ : ∃ y, iat (plN l i k) xn = y := ⟨_, rfl⟩
              rw [hy] at c0 hf
              have hyb : (y == -1) = false := by simpa using hf
              have hmet : ∃ j, j < k ∧ iat l j = (xn : Int) := by
                apply Classical.byContradiction
                intro hn
                have := hfree.2 fun j hj e => hn ⟨j, hj, e⟩
                omega
              obtain ⟨j, hj, ej⟩ := hmet
              have hchk : chk l i k = 18 := by unfold chk; rw [hx, hb, if_pos rfl, metB_yes hj (by rw [ej, hx]), if_pos rfl]
              have hE : Hid (errL l i = 18) := by show _ = _; unfold errL; rw [errN_first HC.out (by rw [hchk]; omega) _ hlk, hchk]
              clear hfree hchk
              go_wp2_with (go_at_call 68; refine (X _).mono ?_; rintro e w' ⟨rfl, rfl⟩)
              go_ret2
              exact ⟨Or.inr ⟨by rw [hE.out]; omega, by rw [hE.out]; rfl⟩, HB2.out⟩
        · have hin : k = l.length := by omega
          subst hin
          have hE : Hid (errL l i = 0) := errN_zero _ HC.out
          go_wp2
          go_ret2
          exact ⟨Or.inl ⟨hE.out, _, rfl, HR.out⟩, HB2.out⟩
set_option maxRecDepth 100000 in
set_option maxHeartbeats 4000000 in
theorem picked54 (p q : Option Addr) (es : List Pt) (l : List Int) (cp cq : Nat) (w : World) (hl : l.length ≤ 100000) (hin : ∀ j, j < l.length → 0 ≤ iat l j ∧ iat l j < es.length) (h : Has w p es) (k : IHas w q l) : Calls Try.prog 79 #[.slice p es.length cp, .slice q l.length cq] w fun e w' => ∃ g, e = .returned (.slice (some ⟨g, 0, none⟩) l.length l.length) ∧ PRow w' w.heap.size g l.length (pick es l) ∧ Below w.heap.size w w' := by
  have HH := hide h
  have HK := hide k
  have HIN := hide hin
  clear h k hin
  obtain ⟨i0, hi0, hz0, hz1, hz2⟩ := info_parts info60
  go_enter Try.func79, Try.ntmps79
  go_wp2_with (refine wpList_make_full _ rfl (.tmp 9) (.tmp 9) 22 rfl w.heap.size 64 i0 (.agg #[.int .i64 0, .int .i64 0]) 2 Try.underlying22 hi0 hz0 hz1 .i64 .i64 _ _ l.length rfl rfl rfl rfl ?c1 ?c2 ?c3 ?_)
  case c1 => rw [hz2]; omega
  case c2 => unfold maxLen; omega
  case c3 => exact Nat.le_refl _
  intro w1 hown hgrow
  have HR1 := hide (prow_made hown)
  have HB1 := hide (below_made hgrow)
  clear hown hgrow
  go_wp2_with fail
  go_loopw [13] (fun t wr => ∃ i : Nat, i ≤ l.length ∧ t = .int .i64 i ∧ Hid (Below w.heap.size w wr) ∧ Hid (∃ r, PRow wr w.heap.size w.heap.size l.length r ∧ ∀ j, j < i → at' r j = at' es (iat l j).toNat)) (fun t _ => l.length - (intOf t).toNat)
  case atStart => exact ⟨0, by omega, rfl, HB1.out, _, HR1.out, fun j hj => by omega⟩
  case round =>
    obtain ⟨i, hi, rfl, HB, HR⟩ := hrel
    by_cases hlt : i < l.length
    · obtain ⟨r, hr, hall⟩ := HR.out
      have HR' := hide hr
      have HA := hide hall
      obtain ⟨c0, c1, c2, c3⟩ := hr.cell hlt
      clear hr hall HR
      obtain ⟨hx0, hx1⟩ := HIN.out i hlt
      rcases HK.out.later HB.out with h | ⟨bl, ol, rfl, hL⟩
      · subst h; simp at hlt
      have cl := hL i hlt
      obtain ⟨x, hx⟩ : ∃ x, iat l i = x := ⟨_, rfl⟩
      rw [hx] at hx0 hx1 cl
      obtain ⟨xn, rfl⟩ : ∃ xn : Nat, x = xn := ⟨x.toNat, by omega⟩
      have hxn : xn < es.length := by omega
      rcases HH.out.later HB.out with h | ⟨be, oe, rfl, hE⟩
      · subst h; simp at hxn
      obtain ⟨d0, d1⟩ := hE xn hxn
      obtain ⟨y, hy⟩ : ∃ y, at' es xn = y := ⟨_, rfl⟩
      rw [hy] at d0 d1
      clear hL hE
      go_wp2
      go_roundw
      case rel =>
        refine ⟨i + 1, by omega, by go_num, (HB.out.setCell (by simp) _).setCell (by simp) _, _, HR'.out.set i y, more (fun j hj => ?_) ?_⟩
        · rw [at_set _ _ _ _ (by rw [HR'.out.1]; omega), if_neg (by omega)]; exact HA.out j hj
        · rw [at_set _ _ _ _ (by rw [HR'.out.1]; omega), if_pos rfl, hx, ← hy]; rfl
      case measure => simp [intOf]; omega
    · have hin : i = l.length := by omega
      subst hin
      obtain ⟨r, hr, hall⟩ := HR.out
      have e : Hid (r = pick es l) := at_ext (by rw [hr.1, pick_length]) fun j hj => by rw [hr.1] at hj; rw [hall j hj, pick_at _ _ hj]
      have HR' := hide hr
      clear hr hall HR
      go_wp2
      go_ret
      refine ⟨_, rfl, ?_, HB.out⟩
      rw [← e.out]; exact HR'.out

set_option maxRecDepth 100000 in
set_option maxHeartbeats 4000000 in
theorem renamed50 (p q : Option Addr) (es : List Pt) (l : List Int) (cp cq : Nat) (w : World) (hl : es.length ≤ 100000) (hin : ∀ j, j < es.length → 0 ≤ (at' es j).x ∧ (at' es j).x < l.length ∧ 0 ≤ (at' es j).y ∧ (at' es j).y < l.length) (h : Has w p es) (k : IHas w q l) : Calls Try.prog 81 #[.slice p es.length cp, .slice q l.length cq] w fun e w' => ∃ g, e = .returned (.slice (some ⟨g, 0, none⟩) es.length es.length) ∧ PRow w' w.heap.size g es.length (rename es l) ∧ Below w.heap.size w w' := by
  have HH := hide h
  have HK := hide k
  have HIN := hide hin
  clear h k hin
  obtain ⟨i0, hi0, hz0, hz1, hz2⟩ := info_parts info60
  go_enter Try.func81, Try.ntmps81
  go_wp2_with (refine wpList_make_full _ rfl (.tmp 9) (.tmp 9) 22 rfl w.heap.size 64 i0 (.agg #[.int .i64 0, .int .i64 0]) 2 Try.underlying22 hi0 hz0 hz1 .i64 .i64 _ _ es.length rfl rfl rfl rfl ?c1 ?c2 ?c3 ?_)
  case c1 => rw [hz2]; omega
  case c2 => unfold maxLen; omega
  case c3 => exact Nat.le_refl _
  intro w1 hown hgrow
  have HR1 := hide (prow_made hown)
  have HB1 := hide (below_made hgrow)
  clear hown hgrow
  go_wp2_with fail
  go_loopw [13] (fun t wr => ∃ i : Nat, i ≤ es.length ∧ t = .int .i64 i ∧ Hid (Below w.heap.size w wr) ∧ Hid (∃ r, PRow wr w.heap.size w.heap.size es.length r ∧ ∀ j, j < i → at' r j = at' (rename es l) j)) (fun t _ => es.length - (intOf t).toNat)
  case atStart => exact ⟨0, by omega, rfl, HB1.out, _, HR1.out, fun j hj => by omega⟩
  case round =>
    obtain ⟨i, hi, rfl, HB, HR⟩ := hrel
    by_cases hlt : i < es.length
    · obtain ⟨r, hr, hall⟩ := HR.out
      have HR' := hide hr
      have HA := hide hall
      obtain ⟨c0, c1, c2, c3⟩ := hr.cell hlt
      have hgl := hr.lt.2
      clear hr hall HR
      obtain ⟨hx0, hx1, hy0, hy1⟩ := HIN.out i hlt
      have HQ := hide (rename_at es l hlt)
      rcases HH.out.later HB.out with h | ⟨be, oe, rfl, hE⟩
      · subst h; simp at hlt
      obtain ⟨d0, d1⟩ := hE i hlt
      obtain ⟨q, hq⟩ : ∃ q, at' es i = q := ⟨_, rfl⟩
      rw [hq] at hx0 hx1 hy0 hy1 d0 d1 HQ
      obtain ⟨x, y⟩ := q
      simp only at hx0 hx1 hy0 hy1 d0 d1 HQ
      obtain ⟨xn, rfl⟩ : ∃ xn : Nat, x = xn := ⟨x.toNat, by omega⟩
      obtain ⟨yn, rfl⟩ : ∃ yn : Nat, y = yn := ⟨y.toNat, by omega⟩
      have hxn : xn < l.length := by omega
      have hyn : yn < l.length := by omega
      rcases HK.out with h | ⟨bl, ol, rfl, hL0⟩
      · subst h; simp at hxn
      have hL := hL0.later HB.out
      have nB : bl ≠ w.heap.size := Nat.ne_of_lt (block_lt_of_cell (hL0 xn hxn))
      have nW : wr.heap.size ≠ w.heap.size := by omega
      clear hL0
      have cx := hL xn hxn
      have cy := hL yn hyn
      obtain ⟨u, hu⟩ : ∃ u, iat l xn = u := ⟨_, rfl⟩
      obtain ⟨v, hv⟩ : ∃ v, iat l yn = v := ⟨_, rfl⟩
      rw [hu] at cx
      rw [hv] at cy
      rw [Int.toNat_natCast, Int.toNat_natCast, hu, hv] at HQ
      clear hL hE hu hv hq
      have zb : be < wr.heap.size := block_lt_of_cell d0
      have zl : bl < wr.heap.size := block_lt_of_cell cx
      have i1 : (i : Int) < es.length := by omega
      have i2 : (0 : Int) ≤ i := by omega
      have x2 : (0 : Int) ≤ xn := by omega
      have y2 : (0 : Int) ≤ yn := by omega
      go_wp2_with fail
      obtain ⟨U, hU⟩ : ∃ U, U = wr.alloc (bx ⟨xn, yn⟩) := ⟨_, rfl⟩
      have hbU : Below wr.heap.size wr U := by rw [hU]; go_grown
      have u0 : U.cell? ⟨wr.heap.size, 0, none⟩ = some (.int .i64 xn) := by rw [hU]; go_cell
      have u1 : U.cell? ⟨wr.heap.size, 1, none⟩ = some (.int .i64 yn) := by rw [hU]; go_cell
      have cx' := later hbU cx
      have cy' := later hbU cy
      obtain ⟨c0', c1', c2', c3'⟩ := (HR'.out.later hbU).cell hlt
      have HBU := hide (Below.trans HB.out (hbU.mono HB.out.size))
      have HRU := hide (HR'.out.later hbU)
      have CC : Hid (U.cell? ⟨wr.heap.size, 0, none⟩ = some (.int .i64 xn) ∧ U.cell? ⟨wr.heap.size, 1, none⟩ = some (.int .i64 yn) ∧ U.cell? ⟨bl, ol + xn, none⟩ = some (.int .i64 u) ∧ U.cell? ⟨bl, ol + yn, none⟩ = some (.int .i64 v)) := ⟨u0, u1, cx', cy'⟩
      rw [show wr.alloc (bx ⟨xn, yn⟩) = U from hU.symm]
      clear hU hbU cx cy c0 c1 c2 c3 d0 d1
      go_region_held3 (fun W => W.cell? ⟨wr.heap.size, 0, none⟩ = some (.int .i64 xn) ∧ W.cell? ⟨wr.heap.size, 1, none⟩ = some (.int .i64 yn) ∧ W.cell? ⟨bl, ol + xn, none⟩ = some (.int .i64 u) ∧ W.cell? ⟨bl, ol + yn, none⟩ = some (.int .i64 v))
        (first | exact CC.out | exact ⟨other2 CC.out.1 nW, other2 CC.out.2.1 nW, other2 CC.out.2.2.1 nB, other2 CC.out.2.2.2 nB⟩)
        (first | fail)
      rename_i hHeld
      clear hHeld
      obtain ⟨V, hV⟩ : ∃ V, V = (U.setCell ⟨w.heap.size, i * 2, none⟩ (.int .i64 u)).setCell ⟨w.heap.size, i * 2 + 1, none⟩ (.int .i64 v) := ⟨_, rfl⟩
      have HBV : Hid (Below w.heap.size w V) := by show Below _ _ _; rw [hV]; exact (HBU.out.setCell (by simp) _).setCell (by simp) _
      have HRV : Hid (PRow V w.heap.size w.heap.size es.length (r.set i ⟨u, v⟩)) := by show PRow _ _ _ _ _; rw [hV]; exact HRU.out.set i ⟨u, v⟩
      rw [← hV]
      clear hV c0' c1' c2' c3' cx' cy' u0 u1 CC HBU HRU
      go_wp2
      go_roundw
      case rel =>
        have hb := HBV.out
        refine ⟨i + 1, by omega, by go_num, by show Below _ _ _; go_grown, _, HRV.out.later (by go_grown), more (fun j hj => ?_) ?_⟩
        · rw [at_set _ _ _ _ (by rw [HR'.out.1]; omega), if_neg (by omega)]; exact HA.out j hj
        · rw [at_set _ _ _ _ (by rw [HR'.out.1]; omega), if_pos rfl, HQ.out]
      case measure => simp [intOf]; omega
    · have hin : i = es.length := by omega
      subst hin
      obtain ⟨r, hr, hall⟩ := HR.out
      have e : Hid (r = rename es l) := at_ext (by rw [hr.1, rename_length]) fun j hj => by rw [hr.1] at hj; exact hall j hj
      have HR' := hide hr
      clear hr hall HR
      go_wp2
      go_ret
      refine ⟨_, rfl, ?_, HB.out⟩
      rw [← e.out]; exact HR'.out
set_option maxRecDepth 100000 in
set_option maxHeartbeats 4000000 in
theorem sub27 (n : Int) (p q : Option Addr) (es : List Pt) (l : List Int) (cp cq : Nat) (w : World) (hl : l.length ≤ maxLen) (h : Has w p es) (k : IHas w q l) : Calls Try.prog 63 #[nv n p es.length cp, .slice q l.length cq] w fun e w' => SubPost n es l w e w' ∧ Below w.heap.size w w' := by
  obtain ⟨W, hW, hb, a0, b0⟩ := two_nets w n p es.length cp
  have M := hide (may13 n p es cp W (h.later hb))
  have HH := hide (h.later hb)
  have HK := hide (k.later hb)
  have HB := hide hb
  have HA := hide a0
  have HN := hide b0
  obtain ⟨q0, q1, _, _⟩ := a0
  clear h k hb b0
  cases hm : netB n es
  · rw [hm] at M
    go_enter Try.func63, Try.ntmps63
    go_wp2_with fail
    rw [← hW]
    clear hW
    go_wp2_with fail
    refine M.out.mono ?_
    rintro e w1 ⟨rfl, hb1⟩
    have HB1 := hide (below_step HB.out hb1)
    have HN1 := hide (HN.out.later hb1)
    obtain ⟨r0, r1, r2, r3⟩ := HN1.out
    clear hb1 q0 q1
    go_wp2
    obtain ⟨V, hV⟩ : ∃ V, V = (w1.setCell ⟨w.heap.size + 1, 0, none⟩ (.int .i64 0)).setCell ⟨w.heap.size + 1, 1, none⟩ (.slice none 0 0) := ⟨_, rfl⟩
    have kV : NOwn V (w.heap.size + 1) 0 none 0 0 := by rw [hV]; exact HN1.out.set 0 none 0 0
    have bV : Below w.heap.size w V := by rw [hV]; exact (HB1.out.setCell (by simp) _).setCell (by simp) _
    rw [← hV]
    exact bodyPost_ret (ret_net Try.results63 rfl rfl kV) rfl ⟨Or.inr ⟨by simp [subE, hm], by simp [subE, hm]⟩, bV⟩
  · rw [hm] at M
    obtain ⟨n0, n1, hes, _⟩ := netB_is hm
    go_enter Try.func63, Try.ntmps63
    go_wp2_with fail
    rw [← hW]
    clear hW
    go_wp2_with fail
    refine M.out.mono ?_
    rintro e w1 ⟨rfl, hb1⟩
    have HB1 := hide (below_step HB.out hb1)
    have HN1 := hide (HN.out.later hb1)
    have HA1 := hide (HA.out.later hb1)
    have HH1 := hide (HH.out.later hb1)
    have HK1 := hide (HK.out.later hb1)
    clear q0 q1 hb1 HA HN HB HH HK M
    obtain ⟨q0, q1, _, _⟩ := HA1.out
    have P := hide (places49 q l cq es.length w1 hl (by omega) HK1.out)
    go_wp2_with fail
    refine P.out.mono ?_
    rintro e w2 ⟨hP, hb2⟩
    have HB2 := hide (below_step HB1.out hb2)
    have HN2 := hide (HN1.out.later hb2)
    have HA2 := hide (HA1.out.later hb2)
    have HH2 := hide (HH1.out.later hb2)
    have HK2 := hide (HK1.out.later hb2)
    clear hb2 q0 q1 HA1 HN1 HB1 HH1 HK1 P
    rcases hP with ⟨hE, g, rfl, _⟩ | ⟨hE, rfl⟩
    · have hS : Hid (subE n es l = 0) := by show _ = _; unfold subE; rw [hm, if_pos rfl, hE]
      have hlm := chosen_le hE
      have hin := hide (chosen_in hE)
      clear hE
      obtain ⟨q0, q1, _, _⟩ := HA2.out
      obtain ⟨r0, r1, r2, r3⟩ := HN2.out
      have PK : Hid (∀ w3, Below w2.heap.size w2 w3 → Calls Try.prog 79 #[.slice p es.length cp, .slice q l.length cq] w3 fun e w' => ∃ g, e = .returned (.slice (some ⟨g, 0, none⟩) l.length l.length) ∧ PRow w' w3.heap.size g l.length (pick es l) ∧ Below w3.heap.size w3 w') := fun w3 h3 => picked54 p q es l cp cq w3 (by omega) hin.out (HH2.out.later h3) (HK2.out.later h3)
      go_wp2_with fail
      go_region_held3 (fun W => W.cell? ⟨w.heap.size, 0, none⟩ = some (.int .i64 n) ∧ W.cell? ⟨w.heap.size, 1, none⟩ = some (.slice p es.length cp))
        (first | exact ⟨HA2.out.1, HA2.out.2.1⟩ | exact ⟨HA3.out.1, HA3.out.2.1⟩ | exact ⟨other2 HA3.out.1 (by simp), other2 HA3.out.2.1 (by simp)⟩)
        (first | (go_at_call 79; refine (PK.out _ (by go_grown)).mono ?_; rintro e w3 ⟨g3, rfl, hr3, hb3'⟩; have hb3 : Below w2.heap.size w2 w3 := below_step (below_drew w2) hb3'; clear hb3'; have HA3 := hide (HA2.out.later hb3); have HN3 := hide (HN2.out.later hb3); have HR3 : Hid (PRow w3 w2.heap.size g3 l.length (pick es l)) := hr3; have HB3 := hide (below_step HB2.out hb3); clear hb3 hr3; obtain ⟨s0, s1, s2, s3⟩ := HN3.out))
      rename_i hHeld
      clear hHeld
      have hws : w.heap.size + 1 < w2.heap.size := block_lt_of_cell r0
      have hg3 := HR3.out.lt
      obtain ⟨V, hV⟩ : ∃ V, V = (w3.setCell ⟨w.heap.size + 1, 0, none⟩ (.int .i64 n)).setCell ⟨w.heap.size + 1, 1, none⟩ (.slice (some ⟨g3, 0, none⟩) l.length l.length) := ⟨_, rfl⟩
      have kV : NOwn V (w.heap.size + 1) n (some ⟨g3, 0, none⟩) l.length l.length := by rw [hV]; exact HN3.out.set n _ _ _
      have bV : Below w.heap.size w V := by rw [hV]; exact (HB3.out.setCell (by simp) _).setCell (by simp) _
      have rV : PRow V w.heap.size g3 l.length (pick es l) := by rw [hV]; exact (prow_other (prow_other HR3.out (by omega) _) (by omega) _).base (by omega)
      rw [← hV]
      go_wp2_with fail
      exact bodyPost_ret (ret_net Try.results63 rfl rfl kV) rfl ⟨Or.inl ⟨hS.out, g3, rfl, rV⟩, bV⟩
    · obtain ⟨E, hEE⟩ : ∃ E, errL l es.length = E := ⟨_, rfl⟩
      have hS : Hid (subE n es l = E) := by show _ = _; unfold subE; rw [hm, if_pos rfl, hEE]
      rw [hEE] at hE ⊢
      have hEb : (E == 0) = false := by simpa using hE
      obtain ⟨r0, r1, r2, r3⟩ := HN2.out
      go_wp2
      obtain ⟨V, hV⟩ : ∃ V, V = (w2.setCell ⟨w.heap.size + 1, 0, none⟩ (.int .i64 0)).setCell ⟨w.heap.size + 1, 1, none⟩ (.slice none 0 0) := ⟨_, rfl⟩
      have kV : NOwn V (w.heap.size + 1) 0 none 0 0 := by rw [hV]; exact HN2.out.set 0 none 0 0
      have bV : Below w.heap.size w V := by rw [hV]; exact (HB2.out.setCell (by simp) _).setCell (by simp) _
      rw [← hV]
      exact bodyPost_ret (ret_net Try.results63 rfl rfl kV) rfl ⟨Or.inr ⟨by rw [hS.out]; exact hE, by rw [hS.out]; rfl⟩, bV⟩

def allBB (l : List Int) (n : Int) : Bool := l.all fun x => belowB x n
theorem allBB_yes {l : List Int} {n : Int} (h : ∀ j, j < l.length → belowB (iat l j) n = true) : allBB l n = true := by
  unfold allBB
  rw [List.all_eq_true]
  intro x hx
  obtain ⟨j, hj, e⟩ := mem_iat hx
  rw [← e]; exact h j hj
theorem allBB_no {l : List Int} {n : Int} {j : Nat} (hj : j < l.length) (h : belowB (iat l j) n = false) : allBB l n = false := by
  unfold allBB
  rw [List.all_eq_false]
  exact ⟨_, iat_mem hj, by simp [h]⟩
theorem allBB_at {l : List Int} {n : Int} (h : allBB l n = true) {j : Nat} (hj : j < l.length) : 0 ≤ iat l j ∧ iat l j < n := by
  unfold allBB at h
  rw [List.all_eq_true] at h
  exact belowB_is (h _ (iat_mem hj))
set_option maxHeartbeats 1000000 in
theorem allBelow48 (p : Option Addr) (l : List Int) (cap : Nat) (n : Int) (w : World) (hl : l.length ≤ maxLen) (h : IHas w p l) : Calls Try.prog 80 #[.slice p l.length cap, .int .i64 n] w fun e w' => e = .returned (.bool (allBB l n)) ∧ w' = w := by
  have HH := hide h
  clear h
  unfold maxLen at hl
  go_enter Try.func80, Try.ntmps80
  go_wp2_with fail
  go_loop [9] (fun t => ∃ i : Nat, i ≤ l.length ∧ t = .int .i64 i ∧ Hid (∀ j, j < i → belowB (iat l j) n = true)) (fun t => l.length - (intOf t).toNat)
  case atStart => exact ⟨0, by omega, rfl, fun j hj => by omega⟩
  case round =>
    obtain ⟨i, hi, rfl, HP⟩ := hrel
    by_cases hlt : i < l.length
    · rcases HH.out with h | ⟨b, off, rfl, hL⟩
      · subst h; simp at hlt
      have c0 := hL i hlt
      have X := below36 (iat l i) n
      cases hx : belowB (iat l i) n
      · rw [hx] at X
        go_wp2_with (go_at_call 68; refine (X _).mono ?_; rintro e w' ⟨rfl, rfl⟩)
        go_ret
        exact ⟨retB (by rw [allBB_no hlt hx]), rfl⟩
      · rw [hx] at X
        go_wp2_with (go_at_call 68; refine (X _).mono ?_; rintro e w' ⟨rfl, rfl⟩)
        go_round
        case rel => exact ⟨i + 1, by omega, by go_num, more HP.out hx⟩
        case measure => simp [intOf]; omega
    · go_wp2
      go_ret
      have : i = l.length := by omega
      subst this
      exact ⟨retB (by rw [allBB_yes HP.out]), rfl⟩
def movE (n : Int) (es : List Pt) (l : List Int) : Int := if netB n es then (if (l.length : Int) = n ∧ allBB l n = true then errL l n else 2) else 1
def MovedPost (n : Int) (es : List Pt) (l : List Int) (w : World) (e : Ending) (w' : World) : Prop :=
  (movE n es l = 0 ∧ ∃ g, e = .returned (.tuple #[nv n (some ⟨g, 0, none⟩) es.length es.length, .int .i64 0]) ∧ PRow w' w.heap.size g es.length (rename es l)) ∨ (movE n es l ≠ 0 ∧ e = .returned (.tuple #[nv 0 none 0 0, .int .i64 (movE n es l)]))
theorem movE_net {n : Int} {es : List Pt} {l : List Int} (h : movE n es l = 0) : netB n es = true ∧ (l.length : Int) = n ∧ errL l n = 0 := by
  unfold movE at h
  by_cases k : netB n es = true
  · rw [if_pos k] at h
    by_cases k2 : (l.length : Int) = n ∧ allBB l n = true
    · rw [if_pos k2] at h; exact ⟨k, k2.1, h⟩
    · rw [if_neg k2] at h; omega
  · rw [if_neg k] at h; omega
theorem movE_of {n : Int} {es : List Pt} {l : List Int} (h : netB n es = true) (hl : (l.length : Int) = n) (k : errL l n = 0) : movE n es l = 0 := by
  unfold movE
  rw [if_pos h, if_pos ⟨hl, allBB_yes fun j hj => by
    have := (chk_zero (errN_all _ k j hj)).1
    simp [belowB, this.1, this.2]⟩]
  exact k

set_option maxRecDepth 100000 in
set_option maxHeartbeats 4000000 in
theorem moved20 (n : Int) (p q : Option Addr) (es : List Pt) (l : List Int) (cp cq : Nat) (w : World) (hl : l.length ≤ maxLen) (h : Has w p es) (k : IHas w q l) : Calls Try.prog 66 #[nv n p es.length cp, .slice q l.length cq] w fun e w' => MovedPost n es l w e w' ∧ Below w.heap.size w w' := by
  obtain ⟨W, hW, hb, a0, b0⟩ := two_nets w n p es.length cp
  have M := hide (may13 n p es cp W (h.later hb))
  have HH := hide (h.later hb)
  have HK := hide (k.later hb)
  have HB := hide hb
  have HA := hide a0
  have HN := hide b0
  obtain ⟨q0, q1, _, _⟩ := a0
  clear h k hb b0
  cases hm : netB n es
  · rw [hm] at M
    go_enter Try.func66, Try.ntmps66
    go_wp2_with fail
    rw [← hW]
    clear hW
    go_wp2_with fail
    refine M.out.mono ?_
    rintro e w1 ⟨rfl, hb1⟩
    have HB1 := hide (below_step HB.out hb1)
    have HN1 := hide (HN.out.later hb1)
    obtain ⟨r0, r1, r2, r3⟩ := HN1.out
    clear hb1 q0 q1
    go_wp2
    obtain ⟨V, hV⟩ : ∃ V, V = (w1.setCell ⟨w.heap.size + 1, 0, none⟩ (.int .i64 0)).setCell ⟨w.heap.size + 1, 1, none⟩ (.slice none 0 0) := ⟨_, rfl⟩
    have kV : NOwn V (w.heap.size + 1) 0 none 0 0 := by rw [hV]; exact HN1.out.set 0 none 0 0
    have bV : Below w.heap.size w V := by rw [hV]; exact (HB1.out.setCell (by simp) _).setCell (by simp) _
    rw [← hV]
    exact bodyPost_ret (ret_net Try.results66 rfl rfl kV) rfl ⟨Or.inr ⟨by simp [movE, hm], by simp [movE, hm]⟩, bV⟩
  · rw [hm] at M
    obtain ⟨n0, n1, hes, hends⟩ := netB_is hm
    have HE := hide hends
    clear hends
    go_enter Try.func66, Try.ntmps66
    go_wp2_with fail
    rw [← hW]
    clear hW
    go_wp2_with fail
    refine M.out.mono ?_
    rintro e w1 ⟨rfl, hb1⟩
    have HB1 := hide (below_step HB.out hb1)
    have HN1 := hide (HN.out.later hb1)
    have HA1 := hide (HA.out.later hb1)
    have HH1 := hide (HH.out.later hb1)
    have HK1 := hide (HK.out.later hb1)
    clear q0 q1 hb1 HA HN HB HH HK M
    obtain ⟨q0, q1, _, _⟩ := HA1.out
    have A := allBelow48 q l cq n w1 hl HK1.out
    by_cases hln : (l.length : Int) = n
    rotate_left
    · have hS : Hid (movE n es l = 2) := by show _ = _; unfold movE; rw [hm, if_pos rfl, if_neg (fun k => hln k.1)]
      have hlb : ((l.length : Int) == n) = false := by simpa using hln
      obtain ⟨r0, r1, r2, r3⟩ := HN1.out
      clear A
      go_wp2
      obtain ⟨V, hV⟩ : ∃ V, V = (w1.setCell ⟨w.heap.size + 1, 0, none⟩ (.int .i64 0)).setCell ⟨w.heap.size + 1, 1, none⟩ (.slice none 0 0) := ⟨_, rfl⟩
      have kV : NOwn V (w.heap.size + 1) 0 none 0 0 := by rw [hV]; exact HN1.out.set 0 none 0 0
      have bV : Below w.heap.size w V := by rw [hV]; exact (HB1.out.setCell (by simp) _).setCell (by simp) _
      rw [← hV]
      exact bodyPost_ret (ret_net Try.results66 rfl rfl kV) rfl ⟨Or.inr ⟨by rw [hS.out]; omega, by rw [hS.out]; rfl⟩, bV⟩
    subst hln
    cases hal : allBB l l.length
    · have hS : Hid (movE l.length es l = 2) := by show _ = _; unfold movE; rw [hm, if_pos rfl, if_neg (fun k => by rw [hal] at k; simp at k)]
      rw [hal] at A
      obtain ⟨r0, r1, r2, r3⟩ := HN1.out
      go_wp2_with (go_at_call 80; refine A.mono ?_; rintro e w' ⟨rfl, rfl⟩)
      obtain ⟨V, hV⟩ : ∃ V, V = (w'.setCell ⟨w.heap.size + 1, 0, none⟩ (.int .i64 0)).setCell ⟨w.heap.size + 1, 1, none⟩ (.slice none 0 0) := ⟨_, rfl⟩
      have kV : NOwn V (w.heap.size + 1) 0 none 0 0 := by rw [hV]; exact HN1.out.set 0 none 0 0
      have bV : Below w.heap.size w V := by rw [hV]; exact (HB1.out.setCell (by simp) _).setCell (by simp) _
      rw [← hV]
      exact bodyPost_ret (ret_net Try.results66 rfl rfl kV) rfl ⟨Or.inr ⟨by rw [hS.out]; omega, by rw [hS.out]; rfl⟩, bV⟩
    rw [hal] at A
    have HAL := hide A
    have P := hide (places49 q l cq l.length w1 hl (by omega) HK1.out)
    clear A
    go_wp2_with (first | (go_at_call 80; refine HAL.out.mono ?_; rintro e w' ⟨rfl, hw⟩; have hw := hw.symm; subst hw))
    refine P.out.mono ?_
    rintro e w2 ⟨hP, hb2⟩
    have HB2 := hide (below_step HB1.out hb2)
    have HN2 := hide (HN1.out.later hb2)
    have HA2 := hide (HA1.out.later hb2)
    have HH2 := hide (HH1.out.later hb2)
    have HK2 := hide (HK1.out.later hb2)
    clear hb2 q0 q1 HA1 HN1 HB1 HH1 HK1 P HAL
    rcases hP with ⟨hE, g, rfl, _⟩ | ⟨hE, rfl⟩
    · have hS : Hid (movE l.length es l = 0) := by show _ = _; unfold movE; rw [hm, if_pos rfl, if_pos ⟨rfl, hal⟩, hE]
      clear hE
      obtain ⟨q0, q1, _, _⟩ := HA2.out
      obtain ⟨r0, r1, r2, r3⟩ := HN2.out
      have PK : Hid (∀ w3, Below w2.heap.size w2 w3 → Calls Try.prog 81 #[.slice p es.length cp, .slice q l.length cq] w3 fun e w' => ∃ g, e = .returned (.slice (some ⟨g, 0, none⟩) es.length es.length) ∧ PRow w' w3.heap.size g es.length (rename es l) ∧ Below w3.heap.size w3 w') := fun w3 h3 => renamed50 p q es l cp cq w3 (by omega) HE.out (HH2.out.later h3) (HK2.out.later h3)
      go_wp2_with fail
      go_region_held3 (fun W => W.cell? ⟨w.heap.size, 0, none⟩ = some (.int .i64 l.length) ∧ W.cell? ⟨w.heap.size, 1, none⟩ = some (.slice p es.length cp))
        (first | exact ⟨HA2.out.1, HA2.out.2.1⟩ | exact ⟨HA3.out.1, HA3.out.2.1⟩ | exact ⟨other2 HA3.out.1 (by simp), other2 HA3.out.2.1 (by simp)⟩)
        (first | (go_at_call 81; refine (PK.out _ (by go_grown)).mono ?_; rintro e w3 ⟨g3, rfl, hr3, hb3'⟩; have hb3 : Below w2.heap.size w2 w3 := below_step (below_drew w2) hb3'; clear hb3'; have HA3 := hide (HA2.out.later hb3); have HN3 := hide (HN2.out.later hb3); have HR3 : Hid (PRow w3 w2.heap.size g3 es.length (rename es l)) := hr3; have HB3 := hide (below_step HB2.out hb3); clear hb3 hr3; obtain ⟨s0, s1, s2, s3⟩ := HN3.out))
      rename_i hHeld
      clear hHeld
      have hws : w.heap.size + 1 < w2.heap.size := block_lt_of_cell r0
      have hg3 := HR3.out.lt
      obtain ⟨V, hV⟩ : ∃ V, V = (w3.setCell ⟨w.heap.size + 1, 0, none⟩ (.int .i64 l.length)).setCell ⟨w.heap.size + 1, 1, none⟩ (.slice (some ⟨g3, 0, none⟩) es.length es.length) := ⟨_, rfl⟩
      have kV : NOwn V (w.heap.size + 1) l.length (some ⟨g3, 0, none⟩) es.length es.length := by rw [hV]; exact HN3.out.set _ _ _ _
      have bV : Below w.heap.size w V := by rw [hV]; exact (HB3.out.setCell (by simp) _).setCell (by simp) _
      have rV : PRow V w.heap.size g3 es.length (rename es l) := by rw [hV]; exact (prow_other (prow_other HR3.out (by omega) _) (by omega) _).base (by omega)
      rw [← hV]
      go_wp2_with fail
      exact bodyPost_ret (ret_net Try.results66 rfl rfl kV) rfl ⟨Or.inl ⟨hS.out, g3, rfl, rV⟩, bV⟩
    · obtain ⟨E, hEE⟩ : ∃ E, errL l l.length = E := ⟨_, rfl⟩
      have hS : Hid (movE l.length es l = E) := by show _ = _; unfold movE; rw [hm, if_pos rfl, if_pos ⟨rfl, hal⟩, hEE]
      rw [hEE] at hE ⊢
      have hEb : (E == 0) = false := by simpa using hE
      obtain ⟨r0, r1, r2, r3⟩ := HN2.out
      go_wp2
      obtain ⟨V, hV⟩ : ∃ V, V = (w2.setCell ⟨w.heap.size + 1, 0, none⟩ (.int .i64 0)).setCell ⟨w.heap.size + 1, 1, none⟩ (.slice none 0 0) := ⟨_, rfl⟩
      have kV : NOwn V (w.heap.size + 1) 0 none 0 0 := by rw [hV]; exact HN2.out.set 0 none 0 0
      have bV : Below w.heap.size w V := by rw [hV]; exact (HB2.out.setCell (by simp) _).setCell (by simp) _
      rw [← hV]
      exact bodyPost_ret (ret_net Try.results66 rfl rfl kV) rfl ⟨Or.inr ⟨by rw [hS.out]; exact hE, by rw [hS.out]; rfl⟩, bV⟩
end Go.Proofs.Ytllkadgpkbaghaa

namespace Go.Proofs.Ytllkadgpkbaghaa
open Go.RowKit Go.Sort
open Go
set_option maxRecDepth 100000 in
set_option maxHeartbeats 16000000 in
theorem places65 (p : Option Addr) (l : List Int) (c m : Nat) (w : World) (hI : IHas w p l) (hl : l.length ≤ 90000) (hm : m ≤ 90000) (hin : ∀ j, j < l.length → 0 ≤ iat l j ∧ iat l j < m) : Calls Try.prog 65 #[.slice p l.length c, .int .i64 m] w fun e w' => ∃ g, e = .returned (.slice (some ⟨g, 0, none⟩) m m) ∧ IRow w' w.heap.size g m (plN l m l.length) ∧ Below w.heap.size w w' := by
  obtain ⟨W, hW⟩ : ∃ W, W = w.alloc (.cells #[.int .i64 (-1)] 3) := ⟨_, rfl⟩
  have hbW : Below w.heap.size w W := by rw [hW]; go_grown
  have RP := hide (repeat52 w.heap.size m (-1) W (by omega) (by rw [hW]; go_cell))
  have HI := hide hI
  have HIN := hide hin
  have HBW := hide hbW
  clear hI hin hbW
  go_enter Try.func65, Try.ntmps65
  go_wp2_with fail
  rw [← hW]
  clear hW
  refine RP.out.mono ?_
  rintro e w1 ⟨g, rfl, hrow, hb1⟩
  have HB1 := hide (below_step HBW.out hb1)
  have HR1 : Hid (IRow w1 w.heap.size g m (plN l m 0)) := hrow.base HBW.out.size
  clear hrow hb1 RP
  go_wp2_with fail
  go_loopw [13] (fun t13 wr => ∃ i : Nat, i ≤ l.length ∧ t13 = .int .i64 i ∧ Hid (Below w.heap.size w wr) ∧ Hid (IRow wr w.heap.size g m (plN l m i))) (fun t13 _ => l.length - (intOf t13).toNat)
  case atStart => exact ⟨0, by omega, rfl, HB1.out, HR1.out⟩
  case round =>
    obtain ⟨i, hi, rfl, HBr, HRr⟩ := hrel
    clear HB1 HR1
    by_cases hlt : i < l.length
    · rcases HI.out.later HBr.out with h | ⟨b, o, rfl, hL⟩
      · rw [h] at hlt; simp at hlt
      have c0 := hL i hlt
      obtain ⟨x0, x1⟩ := HIN.out i hlt
      have HST : Hid (plN l m (i + 1) = (plN l m i).set (iat l i).toNat i) := rfl
      obtain ⟨k, hk⟩ : ∃ k : Nat, iat l i = k := ⟨(iat l i).toNat, by omega⟩
      rw [hk] at c0 HST x1
      rw [Int.toNat_natCast] at HST
      obtain ⟨d0, f0⟩ := HRr.out.cell (j := k) (by omega)
      have e1 : (i : Int) < l.length := by omega
      have HSET := hide (HRr.out.set k i)
      have HBS : Hid (Below w.heap.size w (wr.setCell ⟨g, k, none⟩ (.int .i64 i))) := HBr.out.setCell (p := ⟨g, k, none⟩) HRr.out.lt.1 _
      rw [← HST.out] at HSET
      clear hL hk x0
      go_wp2
      go_roundw
      case rel => exact ⟨i + 1, by omega, by go_num, HBS.out, HSET.out⟩
      case measure => simp [intOf]; omega
    · have hie : i = l.length := by omega
      have e1 : ¬ (i : Int) < l.length := by omega
      rw [hie] at HRr
      clear hie
      go_wp2
      go_ret
      exact ⟨g, rfl, HRr.out, HBr.out⟩
/-- A list's half-edges by their edges' new numbers, without those whose number is below 0. -/
def rnRow (T l : List Int) : Nat → List Int
  | 0 => []
  | j + 1 => if 0 ≤ iat T ((iat l j).toNat / 2) then rnRow T l j ++ [2 * iat T ((iat l j).toNat / 2) + ((iat l j).toNat % 2 : Nat)] else rnRow T l j
theorem rnRow_le (T l : List Int) : ∀ j, (rnRow T l j).length ≤ j
  | 0 => by simp [rnRow]
  | j + 1 => by
    have := rnRow_le T l j
    unfold rnRow
    split
    · simp; exact this
    · omega
def rnL (T : List Int) (l : List Int) : List Int := rnRow T l l.length
/-- The lists so far. -/
def rnA (T : List Int) (rs : List (List Int)) (v j u : Nat) : List Int := if u < v then rnL T (lat rs u) else if u = v then rnRow T (lat rs u) j else []
theorem rnA_at (T : List Int) (rs : List (List Int)) (v j : Nat) : rnA T rs v j v = rnRow T (lat rs v) j := by simp [rnA]
theorem rnA_next (T : List Int) (rs : List (List Int)) (v u : Nat) : rnA T rs v (lat rs v).length u = rnA T rs (v + 1) 0 u := by
  unfold rnA
  by_cases h1 : u < v
  · rw [if_pos h1, if_pos (by omega)]
  · by_cases h2 : u = v
    · subst h2; rw [if_neg h1, if_pos rfl, if_pos (by omega)]; rfl
    · rw [if_neg h1, if_neg h2, if_neg (by omega)]
      split
      · rfl
      · rfl
set_option maxRecDepth 100000 in
set_option maxHeartbeats 16000000 in
theorem renumbered64 (q t : Option Addr) (rs : List (List Int)) (T : List Int) (cq ct : Nat) (w : World) (hr : RHas w q rs) (hT : IHas w t T) (hn : rs.length ≤ 90000) (hTl : T.length ≤ 90000) (hl : ∀ v, v < rs.length → (lat rs v).length ≤ 90000) (hin : ∀ v, v < rs.length → ∀ j, j < (lat rs v).length → 0 ≤ iat (lat rs v) j ∧ iat (lat rs v) j < 2 * T.length) (hTi : ∀ j, j < T.length → -1 ≤ iat T j ∧ iat T j ≤ 90000) : Calls Try.prog 64 #[.slice q rs.length cq, .slice t T.length ct] w fun e w' => ∃ g rv, e = .returned (.slice (some ⟨g, 0, none⟩) rs.length rs.length) ∧ Rows w' w.heap.size g rs.length rv (fun v => rnL T (lat rs v)) ∧ Below w.heap.size w w' := by
  obtain ⟨i0, hi0, hz0, hz1, hz2⟩ := info_parts info41
  have HR := hide hr
  have HT := hide hT
  have HLL := hide hl
  have HIN := hide hin
  have HTI := hide hTi
  clear hr hl hT hin hTi
  go_enter Try.func64, Try.ntmps64
  go_wp2_with (refine wpList_make_full _ rfl (.tmp 12) (.tmp 12) 26 rfl w.heap.size 27 i0 (.slice none 0 0) 1 Try.underlying26 hi0 hz0 hz1 .i64 .i64 _ _ rs.length rfl rfl rfl rfl ?c1 ?c2 ?c3 ?_)
  case c1 => rw [hz2]; omega
  case c2 => unfold maxLen; omega
  case c3 => exact Nat.le_refl _
  intro w2 hown hgrow
  have HB2 := hide (below_made hgrow)
  have HR2 : Hid (Rows w2 w.heap.size w.heap.size rs.length (fun _ => .slice none 0 0) (rnA T rs 0 0)) := (rows_made [] hown).congr (fun v _ => by simp [outL, rnA, rnRow])
  obtain ⟨g, hg⟩ : ∃ g, w.heap.size = g := ⟨_, rfl⟩
  have HG := hide hg
  rw [show Rows w2 w.heap.size w.heap.size rs.length (fun _ => Value.slice none 0 0) (rnA T rs 0 0) = Rows w2 w.heap.size g rs.length (fun _ => Value.slice none 0 0) (rnA T rs 0 0) by rw [hg]] at HR2
  try rw [hg]
  clear hown hgrow hg hi0 hz0 hz1 hz2 i0
  go_wp2_with fail
  go_loopw [16] (fun t16 wr => ∃ (v : Nat) (rv : Nat → Value), v ≤ rs.length ∧ t16 = .int .i64 v ∧ Hid (Below w.heap.size w wr) ∧ Hid (Rows wr w.heap.size g rs.length rv (rnA T rs v 0))) (fun t16 _ => rs.length - (intOf t16).toNat)
  case atStart => exact ⟨0, _, by omega, rfl, HB2.out, HR2.out⟩
  case round =>
    obtain ⟨v, rv, hv, rfl, HBr, HRr⟩ := hrel
    clear HB2 HR2
    by_cases hlt : v < rs.length
    · obtain ⟨b1, o1, a1, k1, rfl, c0W, m1, z1⟩ := HR.out.at_ hlt
      have c0 := later HBr.out c0W
      have e1 : (v : Int) < rs.length := by omega
      have HIA : Hid (∀ V, Below w.heap.size w V → IHas V a1 (lat rs v)) := fun V hV => m1.later hV
      have hl9 := HLL.out v hlt
      have HBL := hide (HIN.out v hlt)
      have HNX : Hid (∀ u, rnA T rs v (lat rs v).length u = rnA T rs (v + 1) 0 u) := rnA_next T rs v
      have HAT : Hid (∀ j, rnA T rs v j v = rnRow T (lat rs v) j) := rnA_at T rs v
      have HOT : Hid (∀ j j' u, u ≠ v → rnA T rs v j u = rnA T rs v j' u) := fun j j' u hu => by unfold rnA; rw [if_neg hu, if_neg hu]
      obtain ⟨l, hll⟩ : ∃ l, lat rs v = l := ⟨_, rfl⟩
      rw [hll] at c0 HIA hl9 HBL HNX HAT
      clear m1 z1 c0W hll
      go_wp2_with fail
      clear c0
      go_loopw [23] (fun t23 wj => ∃ (j : Nat) (rv : Nat → Value), j ≤ l.length ∧ t23 = .int .i64 j ∧ Hid (Below w.heap.size w wj) ∧ Hid (Rows wj w.heap.size g rs.length rv (rnA T rs v j))) (fun t23 _ => l.length - (intOf t23).toNat)
      case atStart => exact ⟨0, rv, by omega, rfl, HBr.out, HRr.out⟩
      case round =>
        clear HBr HRr
        obtain ⟨j, rv, hj, rfl, HBj, HRj⟩ := hrel
        by_cases hjl : j < l.length
        · rcases HIA.out _ HBj.out with h | ⟨b2, o2, rfl, l2⟩
          · rw [h] at hjl; simp at hjl
          obtain ⟨x0, x1⟩ := HBL.out j hjl
          have c1 := l2 j hjl
          have HST : Hid (rnRow T l (j + 1) = if 0 ≤ iat T ((iat l j).toNat / 2) then rnRow T l j ++ [2 * iat T ((iat l j).toNat / 2) + ((iat l j).toNat % 2 : Nat)] else rnRow T l j) := rfl
          obtain ⟨k, hk⟩ : ∃ k : Nat, iat l j = k := ⟨(iat l j).toNat, by omega⟩
          rw [hk] at c1 HST x1
          rw [Int.toNat_natCast] at HST
          have hkT : k / 2 < T.length := by omega
          rcases HT.out.later HBj.out with h | ⟨b3, o3, rfl, l3⟩
          · rw [h] at hkT; simp at hkT
          have c2 := l3 (k / 2) hkT
          obtain ⟨y0, y1⟩ := HTI.out (k / 2) hkT
          obtain ⟨y, hy⟩ : ∃ y, iat T (k / 2) = y := ⟨_, rfl⟩
          rw [hy] at c2 HST y0 y1
          have hd : Int.tdiv (k : Int) 2 = ((k / 2 : Nat) : Int) := by rw [Int.tdiv_eq_ediv_of_nonneg (by omega)]; exact (Int.natCast_ediv k 2).symm
          have hrm : Int.tmod (k : Int) 2 = ((k % 2 : Nat) : Int) := by rw [Int.tmod_eq_emod_of_nonneg (by omega)]; exact (Int.natCast_emod k 2).symm
          have hr2 : k % 2 < 2 := Nat.mod_lt _ (by omega)
          obtain ⟨s, hs⟩ : ∃ s, k % 2 = s := ⟨_, rfl⟩
          obtain ⟨e, he⟩ : ∃ e, k / 2 = e := ⟨_, rfl⟩
          rw [hs] at hrm hr2 HST
          rw [he] at hd c2 hkT
          have j1 : (j : Int) < l.length := by omega
          have j2 : (e : Int) < T.length := by omega
          clear l2 l3 hk hy hs x0
          by_cases hyn : 0 ≤ y
          · rw [if_pos hyn] at HST
            have hLe := rnRow_le T l j
            obtain ⟨U, hU⟩ : ∃ U, U = wr.alloc (.cells #[.int .i64 (2 * y + s)] 3) := ⟨_, rfl⟩
            have hbU : Below wr.heap.size wr U := by rw [hU]; go_grown
            have hlit : U.cell? ⟨wr.heap.size, 0, none⟩ = some (.int .i64 (2 * y + s)) := by rw [hU]; exact one_int _ _
            have hRU := HRj.out.later hbU
            have hrx := hRU.2.2 v hlt
            rw [HAT.out j] at hrx
            have hgw : w.heap.size = g := HG.out
            obtain ⟨v1, D, ea, o1', gr, at1⟩ := append_int hrx hlit (by have := HBj.out.size; have := hbU.size; omega) (by omega)
            obtain ⟨p1, ln1, cc1, rfl⟩ : ∃ p1 l1 c1, v1 = .slice p1 l1 c1 := by obtain ⟨p1, c1, h1, _⟩ := o1'.form; exact ⟨_, _, _, h1⟩
            have HRD : Hid (Rows (D.setCell ⟨g, v, none⟩ (.slice p1 ln1 cc1)) w.heap.size g rs.length (upd rv v (.slice p1 ln1 cc1)) (rnA T rs v (j + 1))) := (hRU.put hlt (by rw [HAT.out j]; exact o1') gr at1).congr (fun u _ => by
              by_cases hu : u = v
              · rw [hu, upd_same, HAT.out, HAT.out, HST.out]
              · rw [upd_other _ _ hu]; exact HOT.out _ _ u hu)
            obtain ⟨hgl, d0, f0⟩ := Rows.slot hRU hlt gr
            have HBD : Hid (Below w.heap.size w (D.setCell ⟨g, v, none⟩ (.slice p1 ln1 cc1))) := (below_grown (below_step HBj.out hbU) hrx (Nat.le_refl _) (by have := HBj.out.size; have := hbU.size; omega) gr).setCell (p := ⟨g, v, none⟩) (by show _ ≤ g; omega) _
            obtain ⟨r0, rf⟩ := HRj.out.cell hlt
            have k3 : g ≠ wr.heap.size := by have := HRj.out.size; omega
            have k4 : g < wr.heap.size := HRj.out.size.2
            rw [hU] at ea
            clear hU hbU hlit hRU hrx o1' gr at1 HRj HST hgw
            go_wp2_with (at_builtin; refine wpList_run_append rfl (.tmp 39) (.tmp 45) 27 rfl 27 rfl _ _ _ D rfl rfl ea ?_)
            clear ea r0 rf
            go_wp2
            go_roundw
            case rel => exact ⟨j + 1, _, by omega, by go_num, HBD.out, HRD.out⟩
            case measure => simp [intOf]; omega
          · rw [if_neg hyn] at HST
            have t1 : ¬ (y ≥ 0) := hyn
            have HRD : Hid (Rows wr w.heap.size g rs.length rv (rnA T rs v (j + 1))) := HRj.out.congr (fun u _ => by
              by_cases hu : u = v
              · rw [hu, HAT.out, HAT.out, HST.out]
              · exact HOT.out _ _ u hu)
            clear HRj HST
            go_wp2
            go_roundw
            case rel => exact ⟨j + 1, rv, by omega, by go_num, HBj.out, HRD.out⟩
            case measure => simp [intOf]; omega
        · have hje : j = l.length := by omega
          have j1 : ¬ (j : Int) < l.length := by omega
          rw [hje] at HRj
          have HRD : Hid (Rows wr w.heap.size g rs.length rv (rnA T rs (v + 1) 0)) := HRj.out.congr (fun u _ => HNX.out u)
          clear hje HRj
          go_wp2
          go_roundw
          case rel => exact ⟨v + 1, rv, by omega, by go_num, HBj.out, HRD.out⟩
          case measure => simp [intOf]; omega
    · have hve : v = rs.length := by omega
      have e1 : ¬ (v : Int) < rs.length := by omega
      have HRE : Hid (Rows wr w.heap.size g rs.length rv (fun v => rnL T (lat rs v))) := HRr.out.congr (fun u hu => by unfold rnA; rw [if_pos (by omega)])
      clear hve HRr
      go_wp2
      go_ret
      exact ⟨g, rfl, ⟨rv, HRE.out⟩, HBr.out⟩
end Go.Proofs.Ytllkadgpkbaghaa

/- rot.First, in every world. -/
/- rot.Canon and Of, in every world; Mirror where it refuses. -/
namespace Go.Proofs.Ytllkadgpkbaghaa
open Go.RowKit Go.Sort
open Go
set_option maxRecDepth 100000 in
set_option maxHeartbeats 16000000 in
theorem mirror27no (n : Int) (p : Option Addr) (es : List Pt) (cp : Nat) (q : Option Addr) (rs : List (List Int)) (cq : Nat) (w : World) (h : Has w p es) (hr : RHas w q rs) (h0 : ¬ rotI n es rs = 0) : Calls Try.prog 27 #[nv n p es.length cp, .slice q rs.length cq] w fun e w' => e = .returned (.tuple #[.slice none 0 0, .int .i64 (rotI n es rs)]) ∧ Below w.heap.size w w' := by
  obtain ⟨W, hW, hb0, a0⟩ := one_net w n p es.length cp
  have M := hide (mayR13 n p es cp q rs cq W (h.later hb0) (hr.later hb0))
  have HB := hide hb0
  obtain ⟨x, hx⟩ : ∃ x, rotI n es rs = x := ⟨_, rfl⟩
  rw [hx] at M h0 ⊢
  have t1 : (x == 0) = false := by simp [h0]
  clear h hr hb0 hx
  go_enter Try.func27, Try.ntmps27
  go_wp2_with fail
  rw [← hW]
  clear hW
  refine M.out.mono ?_
  rintro e w1 ⟨rfl, hb1⟩
  have HB1 := hide (below_step HB.out hb1)
  clear hb1 M
  go_wp2
  go_ret2
  exact ⟨rfl, HB1.out⟩
set_option maxRecDepth 100000 in
set_option maxHeartbeats 16000000 in
theorem canon28no (n : Int) (p : Option Addr) (es : List Pt) (cp : Nat) (q : Option Addr) (rs : List (List Int)) (cq : Nat) (w : World) (h : Has w p es) (hr : RHas w q rs) (h0 : ¬ rotI n es rs = 0) : Calls Try.prog 28 #[nv n p es.length cp, .slice q rs.length cq] w fun e w' => e = .returned (.tuple #[.slice none 0 0, .int .i64 (rotI n es rs)]) ∧ Below w.heap.size w w' := by
  obtain ⟨W, hW, hb0, a0⟩ := one_net w n p es.length cp
  have M := hide (mayR13 n p es cp q rs cq W (h.later hb0) (hr.later hb0))
  have HB := hide hb0
  obtain ⟨x, hx⟩ : ∃ x, rotI n es rs = x := ⟨_, rfl⟩
  rw [hx] at M h0 ⊢
  have t1 : (x == 0) = false := by simp [h0]
  clear h hr hb0 hx
  go_enter Try.func28, Try.ntmps28
  go_wp2_with fail
  rw [← hW]
  clear hW
  refine M.out.mono ?_
  rintro e w1 ⟨rfl, hb1⟩
  have HB1 := hide (below_step HB.out hb1)
  clear hb1 M
  go_wp2
  go_ret2
  exact ⟨rfl, HB1.out⟩
set_option maxRecDepth 100000 in
set_option maxHeartbeats 16000000 in
theorem canon28 (n : Int) (p : Option Addr) (es : List Pt) (cp : Nat) (q : Option Addr) (rs : List (List Int)) (cq : Nat) (w : World) (h : Has w p es) (hr : RHas w q rs) (h0 : rotI n es rs = 0) : Calls Try.prog 28 #[nv n p es.length cp, .slice q rs.length cq] w fun e w' => ∃ g rv, e = .returned (.tuple #[.slice (some ⟨g, 0, none⟩) rs.length rs.length, .int .i64 0]) ∧ Rows w' w.heap.size g rs.length rv (fun v => lat (canonL rs) v) ∧ Below w.heap.size w w' := by
  obtain ⟨W, hW, hb0, a0⟩ := one_net w n p es.length cp
  have M := hide (mayR13 n p es cp q rs cq W (h.later hb0) (hr.later hb0))
  obtain ⟨z1, z2⟩ := rot_bounds h0
  rw [h0] at M
  have HR := hide (hr.later hb0)
  have HB := hide hb0
  have HZ := hide z2
  clear h hr hb0 a0 h0 z2
  go_enter Try.func28, Try.ntmps28
  go_wp2_with fail
  rw [← hW]
  clear hW
  refine M.out.mono ?_
  rintro e w1 ⟨rfl, hb1⟩
  have HB1 := hide (below_step HB.out hb1)
  have T1 := hide (turned54 q rs cq w1 (HR.out.later hb1) (by omega) (fun v hv => by have := HZ.out v hv; omega))
  clear hb1 M
  go_wp2_with fail
  refine T1.out.mono ?_
  rintro e w5 ⟨g5, rv5, rfl, hr5, hb5⟩
  have HB5 := hide (below_step HB1.out hb5)
  have HR5 : Hid (Rows w5 w.heap.size g5 rs.length rv5 (fun v => lat (canonL rs) v)) := (hr5.base HB1.out.size).congr (fun u hu => by rw [lat_canon hu])
  clear hr5 hb5 T1
  go_wp2
  go_ret2
  exact ⟨g5, rv5, rfl, HR5.out, HB5.out⟩
set_option maxRecDepth 100000 in
set_option maxHeartbeats 16000000 in
theorem of40no (n : Int) (p : Option Addr) (es : List Pt) (cp : Nat) (q : Option Addr) (rs : List (List Int)) (cq : Nat) (w : World) (h : Has w p es) (hr : RHas w q rs) (h0 : ¬ rotI n es rs = 0) : Calls Try.prog 40 #[nv n p es.length cp, .slice q rs.length cq] w fun e w' => e = .returned (.tuple #[.slice none 0 0, .int .i64 (rotI n es rs)]) ∧ Below w.heap.size w w' := by
  obtain ⟨W, hW, hb0, a0⟩ := one_net w n p es.length cp
  have M := hide (mayR13 n p es cp q rs cq W (h.later hb0) (hr.later hb0))
  have HB := hide hb0
  obtain ⟨x, hx⟩ : ∃ x, rotI n es rs = x := ⟨_, rfl⟩
  rw [hx] at M h0 ⊢
  have t1 : (x == 0) = false := by simp [h0]
  clear h hr hb0 hx
  go_enter Try.func40, Try.ntmps40
  go_wp2_with fail
  rw [← hW]
  clear hW
  refine M.out.mono ?_
  rintro e w1 ⟨rfl, hb1⟩
  have HB1 := hide (below_step HB.out hb1)
  clear hb1 M
  go_wp2
  go_ret2
  exact ⟨rfl, HB1.out⟩
/-- Of each half-edge the number of its face. -/
def ofL (es : List Pt) (rs : List (List Int)) : List Int := (trN (nxN rs (2 * es.length) rs.length) (2 * es.length) (2 * es.length)).1
set_option maxRecDepth 100000 in
set_option maxHeartbeats 16000000 in
theorem of40 (n : Int) (p : Option Addr) (es : List Pt) (cp : Nat) (q : Option Addr) (rs : List (List Int)) (cq : Nat) (w : World) (h : Has w p es) (hr : RHas w q rs) (h0 : rotI n es rs = 0) : Calls Try.prog 40 #[nv n p es.length cp, .slice q rs.length cq] w fun e w' => ∃ g, e = .returned (.tuple #[.slice (some ⟨g, 0, none⟩) (2 * es.length) (2 * es.length), .int .i64 0]) ∧ IRow w' w.heap.size g (2 * es.length) (ofL es rs) ∧ Below w.heap.size w w' := by
  obtain ⟨W, hW, hb0, a0⟩ := one_net w n p es.length cp
  have M := hide (mayR13 n p es cp q rs cq W (h.later hb0) (hr.later hb0))
  obtain ⟨z1, z2⟩ := rot_bounds h0
  obtain ⟨n0, n1, hes, _⟩ := netB_is (rot_is h0).1
  have HIN := hide (rot_in h0)
  rw [h0] at M
  have HR := hide (hr.later hb0)
  have HB := hide hb0
  have HA := hide a0
  have HZ := hide z2
  clear h hr hb0 a0 h0 z2
  go_enter Try.func40, Try.ntmps40
  go_wp2_with fail
  rw [← hW]
  clear hW
  refine M.out.mono ?_
  rintro e w1 ⟨rfl, hb1⟩
  have HB1 := hide hb1
  obtain ⟨q0, q1, _, _⟩ := HA.out.later hb1
  have NX := hide (nexts57 q rs cq es.length w1 (HR.out.later hb1) (by omega) (by omega) (fun v hv => by have := HZ.out v hv; omega) HIN.out)
  clear hb1 M
  rw [show ((2 * es.length : Nat) : Int) = 2 * es.length by omega] at NX
  go_wp2_with fail
  refine NX.out.mono ?_
  rintro e w2 ⟨g2, rfl, hrow, hb2⟩
  have HB2 := hide (below_step HB1.out hb2)
  have HLN : Hid ((nxN rs (2 * es.length) rs.length).length = 2 * es.length) := nxN_length _ _ _
  have TR := hide (traced56 (some ⟨g2, 0, none⟩) (nxN rs (2 * es.length) rs.length) (2 * es.length) (2 * es.length) w2 (Or.inr ⟨g2, 0, rfl, hrow.2.lies⟩) HLN.out (by omega) (fun j hj => nxN_in (m := 2 * es.length) (by omega) (fun v hv i hi => by have := HIN.out v hv i hi; omega) _ (Nat.le_refl _) _ (iat_mem (by rw [HLN.out]; exact hj))))
  clear hrow hb2 NX q0 q1
  go_wp2_with fail
  refine TR.out.mono ?_
  rintro e w3 ⟨p1, c1, g3, rv, rfl, _, hrow3, hb3⟩
  have HB3 := hide (below_step HB.out (below_step HB2.out hb3))
  have hsz : w.heap.size ≤ w2.heap.size := Nat.le_trans HB.out.size HB2.out.size
  have HR3 : Hid (IRow w3 w.heap.size g3 (2 * es.length) (ofL es rs)) := ⟨hrow3.1, hrow3.2.base hsz⟩
  clear hrow3 hb3 TR hsz
  go_wp2
  go_ret2
  exact ⟨g3, rfl, HR3.out, HB3.out⟩
end Go.Proofs.Ytllkadgpkbaghaa

namespace Go.Proofs.Ytllkadgpkbaghaa
open Go.RowKit Go.Sort
open Go
set_option maxRecDepth 100000 in
set_option maxHeartbeats 16000000 in
theorem first41no (n : Int) (p : Option Addr) (es : List Pt) (cp : Nat) (w : World) (h : Has w p es) (h0 : netB n es = false) : Calls Try.prog 41 #[nv n p es.length cp] w fun e w' => e = .returned (.tuple #[.slice none 0 0, .int .i64 1]) ∧ Below w.heap.size w w' := by
  obtain ⟨W, hW, hb0, a0⟩ := one_net w n p es.length cp
  have M := hide (may13 n p es cp W (h.later hb0))
  have HB := hide hb0
  rw [h0] at M
  clear h hb0 h0
  go_enter Try.func41, Try.ntmps41
  go_wp2_with fail
  rw [← hW]
  clear hW
  refine M.out.mono ?_
  rintro e w1 ⟨rfl, hb1⟩
  have HB1 := hide (below_step HB.out hb1)
  clear hb1 M
  go_wp2
  go_ret2
  exact ⟨rfl, HB1.out⟩
set_option maxRecDepth 100000 in
set_option maxHeartbeats 16000000 in
theorem first41 (m : Nat) (p : Option Addr) (es : List Pt) (cp : Nat) (w : World) (h : Has w p es) (hm : netB m es = true) : Calls Try.prog 41 #[nv m p es.length cp] w fun e w' => ∃ g rv, e = .returned (.tuple #[.slice (some ⟨g, 0, none⟩) m m, .int .i64 0]) ∧ Rows w' w.heap.size g m rv (outL es (2 * es.length)) ∧ Below w.heap.size w w' := by
  obtain ⟨W, hW, hb, a0⟩ := one_net w m p es.length cp
  obtain ⟨n0, n1, hes, hE⟩ := netB_is hm
  have M := hide (may13 m p es cp W (h.later hb))
  rw [hm] at M
  have HEE := hide hE
  have HH := hide (h.later hb)
  have HB := hide hb
  have HA := hide a0
  have hws : w.heap.size < W.heap.size := block_lt_of_cell a0.1
  clear h hb hE a0
  obtain ⟨i0, hi0, hz0, hz1, hz2⟩ := info_parts info41
  go_enter Try.func41, Try.ntmps41
  go_wp2_with fail
  rw [← hW]
  clear hW
  refine M.out.mono ?_
  rintro e w1 ⟨rfl, hb1⟩
  have HB1 := hide hb1
  obtain ⟨q0, q1, _, _⟩ := HA.out.later hb1
  clear hb1 M
  go_wp2_with (refine wpList_make_full _ rfl (.tmp 13) (.tmp 13) 26 rfl w1.heap.size 27 i0 (.slice none 0 0) 1 Try.underlying26 hi0 hz0 hz1 .i64 .i64 _ _ m rfl rfl rfl rfl ?c1 ?c2 ?c3 ?_)
  case c1 => rw [hz2]; omega
  case c2 => unfold maxLen; omega
  case c3 => exact Nat.le_refl _
  intro w2 hown hgrow
  have HR2 := hide (rows_made es hown)
  have HB2 := hide (below_step HB1.out (below_made hgrow))
  have HSW : Hid (W.heap.size ≤ w1.heap.size) := HB1.out.size
  clear hown hgrow q0 q1
  obtain ⟨q0, q1, _, _⟩ := HA.out.later HB2.out
  go_wp2_with fail
  obtain ⟨g, hg⟩ : ∃ g, w1.heap.size = g := ⟨_, rfl⟩
  rw [hg] at HR2 HSW ⊢
  have HSZ := HSW
  have HK : Hid (w.heap.size < W.heap.size) := hws
  clear q0 q1
  go_loopw [18] (fun t wr => ∃ i : Nat, i ≤ es.length ∧ t = .int .i64 i ∧ Hid (Below W.heap.size W wr) ∧ Hid (∃ rv, Rows wr g g m rv (outL es (2 * i)))) (fun t _ => es.length - (intOf t).toNat)
  case atStart => exact ⟨0, by omega, rfl, HB2.out, _, HR2.out⟩
  case round =>
    obtain ⟨i, hi, rfl, HBr, HR⟩ := hrel
    by_cases hlt : i < es.length
    · obtain ⟨rv, hrv⟩ := HR.out
      obtain ⟨f0, f1, f2, f3⟩ := HEE.out i hlt
      have hq : ∃ b off, p = some ⟨b, off, none⟩ ∧ Lies W b off es := by
        rcases HH.out with h0 | h0
        · subst h0; simp at hlt
        · exact h0
      obtain ⟨b, off, rfl, hLW⟩ := hq
      obtain ⟨c0, c1⟩ := hLW.later HBr.out i hlt
      have i1 : (i : Int) < es.length := by omega
      have i2 : (0 : Int) ≤ i := by omega
      have nb : b < wr.heap.size := block_lt_of_cell c0
      go_wp2_with fail
      obtain ⟨V, hV⟩ : ∃ V, V = wr.alloc (.cells #[.int .i64 (at' es i).x, .int .i64 (at' es i).y] 64) := ⟨_, rfl⟩
      have hbV : Below wr.heap.size wr V := by rw [hV]; go_grown
      have HBV := hide (below_step HBr.out hbV)
      have HRV := hide (hrv.later hbV)
      rw [← hV]
      clear hV hbV c0 c1 hrv HR HBr
      obtain ⟨kv, hkv⟩ : ∃ kv, wr.heap.size = kv := ⟨_, rfl⟩
      rw [hkv]
      clear hkv nb
      go_loopw [24] (fun t wr => ∃ s : Nat, s ≤ 2 ∧ t = .int .i64 s ∧ Hid (Below W.heap.size W wr) ∧ Hid (∃ rv, Rows wr g g m rv (outL es (2 * i + s)))) (fun t _ => 2 - (intOf t).toNat)
      case atStart => exact ⟨0, by omega, rfl, HBV.out, rv, HRV.out⟩
      case round =>
        clear HBV HRV
        obtain ⟨s, hs, rfl, HBi, HRi⟩ := hrel
        obtain ⟨rv, hRv⟩ := HRi.out
        rcases (by omega : s = 0 ∨ s = 1 ∨ s = 2) with rfl | rfl | rfl
        · rw [Nat.add_zero] at hRv
          have hfx : fromL es (2 * i) = (at' es i).x := by unfold fromL; rw [if_pos (by omega), show 2 * i / 2 = i by omega]
          obtain ⟨x, hx⟩ : ∃ x : Nat, (at' es i).x = x := ⟨(at' es i).x.toNat, by omega⟩
          have hxm : x < m := by omega
          rw [hx] at hfx
          have hD := hide (outL_more es (2 * i) hfx)
          have hL := outL_length es (2 * i) x
          obtain ⟨U, hU⟩ : ∃ U, U = wr.alloc (.cells #[.int .i64 (2 * (i : Int))] 3) := ⟨_, rfl⟩
          have hbU : Below wr.heap.size wr U := by rw [hU]; go_grown
          have hlit : U.cell? ⟨wr.heap.size, 0, none⟩ = some (.int .i64 (2 * (i : Int))) := by rw [hU]; exact one_int _ _
          have hRU := hRv.later hbU
          have hrx := hRU.2.2 x hxm
          obtain ⟨v1, D, e1, o1, gr, at1⟩ := append_int hrx hlit (by have := hRv.size.2; have := hbU.size; omega) (by omega)
          obtain ⟨p1, l1, c1, rfl⟩ : ∃ p1 l1 c1, v1 = .slice p1 l1 c1 := by obtain ⟨p1, c1, h1, _⟩ := o1.form; exact ⟨_, _, _, h1⟩
          have HRD := hide (hRU.put hxm o1 gr at1)
          obtain ⟨hgl, z0, zf⟩ := Rows.slot hRU hxm gr
          have HBD : Hid (Below W.heap.size W (D.setCell ⟨g, x, none⟩ (.slice p1 l1 c1))) := (below_grown (below_step HBi.out hbU) hrx (by have := HSZ.out; omega) (by have := HBi.out.size; have := hbU.size; omega) gr).setCell (by have := HSZ.out; simp; omega) _
          obtain ⟨y0, yf⟩ := hRv.cell hxm
          have IX : ∀ V, (Instr.index 64 (pv (at' es i).x (at' es i).y) (.int .i64 0)).run Try.prog V = .ok (.int .i64 (at' es i).x) V := fun V => by kernel_rfl
          rw [hU] at e1
          have k1 : (x : Int) < m := by omega
          have k2 : (0 : Int) ≤ x := by omega
          have k3 : g ≠ wr.heap.size := by have := hRv.size; omega
          have k4 : g < wr.heap.size := hRv.size.2
          rw [hx] at IX ⊢
          obtain ⟨ay, hay⟩ : ∃ ay, (at' es i).y = ay := ⟨_, rfl⟩
          rw [hay] at IX ⊢
          clear hx hfx hL hU hbU hlit hRU hrx o1 gr at1 hRv HRi hay
          go_wp2_with (at_builtin; refine wpList_run_append rfl (.tmp 33) (.tmp 38) 27 rfl 27 rfl _ _ _ D rfl rfl e1 ?_)
          clear e1 y0 yf IX
          go_wp2
          go_roundw
          case rel => exact ⟨1, by omega, by go_num, HBD.out, _, by rw [show 2 * i + 1 = 2 * i + 1 by omega, hD.out]; exact HRD.out⟩
          case measure => simp [intOf]
        · have hfx : fromL es (2 * i + 1) = (at' es i).y := by unfold fromL; rw [if_neg (by omega), show (2 * i + 1) / 2 = i by omega]
          obtain ⟨x, hx⟩ : ∃ x : Nat, (at' es i).y = x := ⟨(at' es i).y.toNat, by omega⟩
          have hxm : x < m := by omega
          rw [hx] at hfx
          have hD := hide (outL_more es (2 * i + 1) hfx)
          have hL := outL_length es (2 * i + 1) x
          obtain ⟨U, hU⟩ : ∃ U, U = wr.alloc (.cells #[.int .i64 (2 * (i : Int) + 1)] 3) := ⟨_, rfl⟩
          have hbU : Below wr.heap.size wr U := by rw [hU]; go_grown
          have hlit : U.cell? ⟨wr.heap.size, 0, none⟩ = some (.int .i64 (2 * (i : Int) + 1)) := by rw [hU]; exact one_int _ _
          have hRU := hRv.later hbU
          have hrx := hRU.2.2 x hxm
          obtain ⟨v1, D, e1, o1, gr, at1⟩ := append_int hrx hlit (by have := hRv.size.2; have := hbU.size; omega) (by omega)
          obtain ⟨p1, l1, c1, rfl⟩ : ∃ p1 l1 c1, v1 = .slice p1 l1 c1 := by obtain ⟨p1, c1, h1, _⟩ := o1.form; exact ⟨_, _, _, h1⟩
          have HRD := hide (hRU.put hxm o1 gr at1)
          obtain ⟨hgl, z0, zf⟩ := Rows.slot hRU hxm gr
          have HBD : Hid (Below W.heap.size W (D.setCell ⟨g, x, none⟩ (.slice p1 l1 c1))) := (below_grown (below_step HBi.out hbU) hrx (by have := HSZ.out; omega) (by have := HBi.out.size; have := hbU.size; omega) gr).setCell (by have := HSZ.out; simp; omega) _
          obtain ⟨y0, yf⟩ := hRv.cell hxm
          have IX : ∀ V, (Instr.index 64 (pv (at' es i).x (at' es i).y) (.int .i64 1)).run Try.prog V = .ok (.int .i64 (at' es i).y) V := fun V => by kernel_rfl
          rw [hU] at e1
          have k1 : (x : Int) < m := by omega
          have k2 : (0 : Int) ≤ x := by omega
          have k3 : g ≠ wr.heap.size := by have := hRv.size; omega
          have k4 : g < wr.heap.size := hRv.size.2
          rw [hx] at IX ⊢
          obtain ⟨ay, hay⟩ : ∃ ay, (at' es i).x = ay := ⟨_, rfl⟩
          rw [hay] at IX ⊢
          clear hx hfx hL hU hbU hlit hRU hrx o1 gr at1 hRv HRi hay
          go_wp2_with (at_builtin; refine wpList_run_append rfl (.tmp 33) (.tmp 38) 27 rfl 27 rfl _ _ _ D rfl rfl e1 ?_)
          clear e1 y0 yf IX
          go_wp2
          go_roundw
          case rel => exact ⟨2, by omega, by go_num, HBD.out, _, by rw [show 2 * i + 2 = 2 * i + 1 + 1 by omega, hD.out]; exact HRD.out⟩
          case measure => simp [intOf]
        · have HRn := hide hRv
          clear hRv HRi
          go_wp2
          go_roundw
          case rel => exact ⟨i + 1, by omega, by go_num, HBi.out, rv, by rw [show 2 * (i + 1) = 2 * i + 2 by omega]; exact HRn.out⟩
          case measure => simp [intOf]; omega
    · have hin : i = es.length := by omega
      have hlt' : ¬ (i : Int) < es.length := by omega
      rw [hin] at HR
      clear hin
      obtain ⟨rv, hrv⟩ := HR.out
      have HRE : Hid (Rows wr w.heap.size g m rv (outL es (2 * es.length))) := hrv.base (by have := HK.out; have := HSZ.out; omega)
      clear hrv HR
      go_wp2
      go_ret2
      exact ⟨g, rfl, ⟨rv, HRE.out⟩, below_step HB.out HBr.out⟩
end Go.Proofs.Ytllkadgpkbaghaa

namespace Go.Proofs.Ytllkadgpkbaghaa
open Go.RowKit Go.Sort
open Go
set_option maxRecDepth 100000 in
set_option maxHeartbeats 16000000 in
theorem sub30no (n : Int) (p : Option Addr) (es : List Pt) (cp : Nat) (q : Option Addr) (rs : List (List Int)) (cq : Nat) (t : Option Addr) (l : List Int) (ct : Nat) (w : World) (h : Has w p es) (hr : RHas w q rs) (h0 : ¬ rotI n es rs = 0) : Calls Try.prog 30 #[nv n p es.length cp, .slice q rs.length cq, .slice t l.length ct] w fun e w' => e = .returned (.tuple #[nv 0 none 0 0, .slice none 0 0, .int .i64 (rotI n es rs)]) ∧ Below w.heap.size w w' := by
  obtain ⟨W, hW, hb0, a0, b0⟩ := two_nets w n p es.length cp
  have M := hide (mayR13 n p es cp q rs cq W (h.later hb0) (hr.later hb0))
  have HB := hide hb0
  have HN := hide b0
  obtain ⟨q0, q1, _, _⟩ := a0
  obtain ⟨x, hx⟩ : ∃ x, rotI n es rs = x := ⟨_, rfl⟩
  rw [hx] at M h0 ⊢
  have t1 : (x == 0) = false := by simp [h0]
  clear h hr hb0 b0 hx
  go_enter Try.func30, Try.ntmps30
  go_wp2_with fail
  rw [← hW]
  clear hW
  go_wp2_with fail
  refine M.out.mono ?_
  rintro e w1 ⟨rfl, hb1⟩
  have HB1 := hide (below_step HB.out hb1)
  have HN1 := hide (HN.out.later hb1)
  obtain ⟨r0, r1, r2, r3⟩ := HN1.out
  clear hb1 q0 q1 M
  go_wp2
  obtain ⟨V, hV⟩ : ∃ V, V = (w1.setCell ⟨w.heap.size + 1, 0, none⟩ (.int .i64 0)).setCell ⟨w.heap.size + 1, 1, none⟩ (.slice none 0 0) := ⟨_, rfl⟩
  have kV : NOwn V (w.heap.size + 1) 0 none 0 0 := by rw [hV]; exact HN1.out.set 0 none 0 0
  have bV : Below w.heap.size w V := by rw [hV]; exact (HB1.out.setCell (by simp) _).setCell (by simp) _
  rw [← hV]
  exact bodyPost_ret (ret_net3 Try.results30 rfl rfl rfl kV) rfl ⟨rfl, bV⟩
set_option maxRecDepth 100000 in
set_option maxHeartbeats 16000000 in
theorem moved31no (n : Int) (p : Option Addr) (es : List Pt) (cp : Nat) (q : Option Addr) (rs : List (List Int)) (cq : Nat) (t : Option Addr) (l : List Int) (ct : Nat) (w : World) (h : Has w p es) (hr : RHas w q rs) (h0 : ¬ rotI n es rs = 0) : Calls Try.prog 31 #[nv n p es.length cp, .slice q rs.length cq, .slice t l.length ct] w fun e w' => e = .returned (.tuple #[nv 0 none 0 0, .slice none 0 0, .int .i64 (rotI n es rs)]) ∧ Below w.heap.size w w' := by
  obtain ⟨W, hW, hb0, a0, b0⟩ := two_nets w n p es.length cp
  have M := hide (mayR13 n p es cp q rs cq W (h.later hb0) (hr.later hb0))
  have HB := hide hb0
  have HN := hide b0
  obtain ⟨q0, q1, _, _⟩ := a0
  obtain ⟨x, hx⟩ : ∃ x, rotI n es rs = x := ⟨_, rfl⟩
  rw [hx] at M h0 ⊢
  have t1 : (x == 0) = false := by simp [h0]
  clear h hr hb0 b0 hx
  go_enter Try.func31, Try.ntmps31
  go_wp2_with fail
  rw [← hW]
  clear hW
  go_wp2_with fail
  refine M.out.mono ?_
  rintro e w1 ⟨rfl, hb1⟩
  have HB1 := hide (below_step HB.out hb1)
  have HN1 := hide (HN.out.later hb1)
  obtain ⟨r0, r1, r2, r3⟩ := HN1.out
  clear hb1 q0 q1 M
  go_wp2
  obtain ⟨V, hV⟩ : ∃ V, V = (w1.setCell ⟨w.heap.size + 1, 0, none⟩ (.int .i64 0)).setCell ⟨w.heap.size + 1, 1, none⟩ (.slice none 0 0) := ⟨_, rfl⟩
  have kV : NOwn V (w.heap.size + 1) 0 none 0 0 := by rw [hV]; exact HN1.out.set 0 none 0 0
  have bV : Below w.heap.size w V := by rw [hV]; exact (HB1.out.setCell (by simp) _).setCell (by simp) _
  rw [← hV]
  exact bodyPost_ret (ret_net3 Try.results31 rfl rfl rfl kV) rfl ⟨rfl, bV⟩
set_option maxRecDepth 100000 in
set_option maxHeartbeats 16000000 in
theorem sub30err (n : Int) (p : Option Addr) (es : List Pt) (cp : Nat) (q : Option Addr) (rs : List (List Int)) (cq : Nat) (t : Option Addr) (l : List Int) (ct : Nat) (w : World) (h : Has w p es) (hr : RHas w q rs) (hl : l.length ≤ maxLen) (hk : IHas w t l) (h0 : rotI n es rs = 0) (hs : ¬ subE n es l = 0) : Calls Try.prog 30 #[nv n p es.length cp, .slice q rs.length cq, .slice t l.length ct] w fun e w' => e = .returned (.tuple #[nv 0 none 0 0, .slice none 0 0, .int .i64 (subE n es l)]) ∧ Below w.heap.size w w' := by
  obtain ⟨W, hW, hb0, a0, b0⟩ := two_nets w n p es.length cp
  have M := hide (mayR13 n p es cp q rs cq W (h.later hb0) (hr.later hb0))
  rw [h0] at M
  obtain ⟨z1, z2⟩ := rot_bounds h0
  have HNET := hide (rot_is h0).1
  have HIN := hide (rot_in h0)
  obtain ⟨n0, n1, hes, _⟩ := netB_is HNET.out
  have HZ := hide z2
  have HH := hide (h.later hb0)
  have HR := hide (hr.later hb0)
  have HK := hide (hk.later hb0)
  have HB := hide hb0
  have HA := hide a0
  have HN := hide b0
  obtain ⟨q0, q1, _, _⟩ := a0
  clear h hr hk hb0 b0 h0 z2
  go_enter Try.func30, Try.ntmps30
  go_wp2_with fail
  rw [← hW]
  clear hW
  go_wp2_with fail
  refine M.out.mono ?_
  rintro e w1 ⟨rfl, hb1⟩
  have HB1 := hide hb1
  have HN1 := hide (HN.out.later hb1)
  clear q0 q1 M
  obtain ⟨q0, q1, _, _⟩ := HA.out.later hb1
  have S := hide (sub27 n p t es l cp ct w1 hl (HH.out.later hb1) (HK.out.later hb1))
  clear hb1
  go_wp2_with fail
  refine S.out.mono ?_
  rintro e w2 ⟨hS, hb2⟩
  have HB2 := hide (below_step HB1.out hb2)
  have HN2 := hide (HN.out.later HB2.out)
  clear hb2 q0 q1 S
  obtain ⟨q0, q1, _, _⟩ := HA.out.later HB2.out
  rcases hS with ⟨hE, _⟩ | ⟨_, rfl⟩
  · exact absurd hE hs
  obtain ⟨x, hx⟩ : ∃ x, subE n es l = x := ⟨_, rfl⟩
  rw [hx] at hs ⊢
  have t1 : (x == 0) = false := by simp [hs]
  have HX := hide hx
  clear hx
  obtain ⟨r0, r1, r2, r3⟩ := HN2.out
  have hk2 : w.heap.size + 1 < w2.heap.size := block_lt_of_cell r0
  go_upto_region 5 with fail
  obtain ⟨U, hU⟩ : ∃ U, U = w2.alloc (nbx 0 none 0 0) := ⟨_, rfl⟩
  have hbU : Below w2.heap.size w2 U := by rw [hU]; go_grown
  have HBU := hide (below_step HB2.out hbU)
  have HNU := hide (HN2.out.later hbU)
  try rw [← hU]
  clear hU hbU r0 r1 r2 r3 q0 q1
  obtain ⟨r0, r1, r2, r3⟩ := HNU.out
  go_wp2
  obtain ⟨V, hV⟩ : ∃ V, V = (U.setCell ⟨w.heap.size + 1, 0, none⟩ (.int .i64 0)).setCell ⟨w.heap.size + 1, 1, none⟩ (.slice none 0 0) := ⟨_, rfl⟩
  have kV : NOwn V (w.heap.size + 1) 0 none 0 0 := by rw [hV]; exact HNU.out.set 0 none 0 0
  have bV : Below w.heap.size w V := by rw [hV]; exact ((below_step HB.out HBU.out).setCell (by simp) _).setCell (by simp) _
  rw [← hV]
  exact bodyPost_ret (ret_net3 Try.results30 rfl rfl rfl kV) rfl ⟨by rw [HX.out]; rfl, bV⟩
set_option maxRecDepth 100000 in
set_option maxHeartbeats 16000000 in
theorem moved31err (n : Int) (p : Option Addr) (es : List Pt) (cp : Nat) (q : Option Addr) (rs : List (List Int)) (cq : Nat) (t : Option Addr) (l : List Int) (ct : Nat) (w : World) (h : Has w p es) (hr : RHas w q rs) (hl : l.length ≤ maxLen) (hk : IHas w t l) (h0 : rotI n es rs = 0) (hs : ¬ movE n es l = 0) : Calls Try.prog 31 #[nv n p es.length cp, .slice q rs.length cq, .slice t l.length ct] w fun e w' => e = .returned (.tuple #[nv 0 none 0 0, .slice none 0 0, .int .i64 (movE n es l)]) ∧ Below w.heap.size w w' := by
  obtain ⟨W, hW, hb0, a0, b0⟩ := two_nets w n p es.length cp
  have M := hide (mayR13 n p es cp q rs cq W (h.later hb0) (hr.later hb0))
  rw [h0] at M
  obtain ⟨z1, z2⟩ := rot_bounds h0
  have HNET := hide (rot_is h0).1
  have HIN := hide (rot_in h0)
  obtain ⟨n0, n1, hes, _⟩ := netB_is HNET.out
  have HZ := hide z2
  have HH := hide (h.later hb0)
  have HR := hide (hr.later hb0)
  have HK := hide (hk.later hb0)
  have HB := hide hb0
  have HA := hide a0
  have HN := hide b0
  obtain ⟨q0, q1, _, _⟩ := a0
  clear h hr hk hb0 b0 h0 z2
  go_enter Try.func31, Try.ntmps31
  go_wp2_with fail
  rw [← hW]
  clear hW
  go_wp2_with fail
  refine M.out.mono ?_
  rintro e w1 ⟨rfl, hb1⟩
  have HB1 := hide hb1
  have HN1 := hide (HN.out.later hb1)
  clear q0 q1 M
  obtain ⟨q0, q1, _, _⟩ := HA.out.later hb1
  have S := hide (moved20 n p t es l cp ct w1 hl (HH.out.later hb1) (HK.out.later hb1))
  clear hb1
  go_wp2_with fail
  refine S.out.mono ?_
  rintro e w2 ⟨hS, hb2⟩
  have HB2 := hide (below_step HB1.out hb2)
  have HN2 := hide (HN.out.later HB2.out)
  clear hb2 q0 q1 S
  obtain ⟨q0, q1, _, _⟩ := HA.out.later HB2.out
  rcases hS with ⟨hE, _⟩ | ⟨_, rfl⟩
  · exact absurd hE hs
  obtain ⟨x, hx⟩ : ∃ x, movE n es l = x := ⟨_, rfl⟩
  rw [hx] at hs ⊢
  have t1 : (x == 0) = false := by simp [hs]
  have HX := hide hx
  clear hx
  obtain ⟨r0, r1, r2, r3⟩ := HN2.out
  have hk2 : w.heap.size + 1 < w2.heap.size := block_lt_of_cell r0
  go_upto_region 5 with fail
  obtain ⟨U, hU⟩ : ∃ U, U = w2.alloc (nbx 0 none 0 0) := ⟨_, rfl⟩
  have hbU : Below w2.heap.size w2 U := by rw [hU]; go_grown
  have HBU := hide (below_step HB2.out hbU)
  have HNU := hide (HN2.out.later hbU)
  try rw [← hU]
  clear hU hbU r0 r1 r2 r3 q0 q1
  obtain ⟨r0, r1, r2, r3⟩ := HNU.out
  go_wp2
  obtain ⟨V, hV⟩ : ∃ V, V = (U.setCell ⟨w.heap.size + 1, 0, none⟩ (.int .i64 0)).setCell ⟨w.heap.size + 1, 1, none⟩ (.slice none 0 0) := ⟨_, rfl⟩
  have kV : NOwn V (w.heap.size + 1) 0 none 0 0 := by rw [hV]; exact HNU.out.set 0 none 0 0
  have bV : Below w.heap.size w V := by rw [hV]; exact ((below_step HB.out HBU.out).setCell (by simp) _).setCell (by simp) _
  rw [← hV]
  exact bodyPost_ret (ret_net3 Try.results31 rfl rfl rfl kV) rfl ⟨by rw [HX.out]; rfl, bV⟩
end Go.Proofs.Ytllkadgpkbaghaa

namespace Go.Proofs.Ytllkadgpkbaghaa
open Go.RowKit Go.Sort
open Go
theorem Rows.other {w : World} {B g n : Nat} {rv : Nat → Value} {L : Nat → List Int} (h : Rows w B g n rv L) {k i : Nat} (hk : k < B) (u : Value) : Rows (w.setCell ⟨k, i, none⟩ u) B g n rv L := ⟨ownsRow_setCell_below h.1 (by exact hk) u, h.2.1, fun v hv => ownsRow_setCell_below (h.2.2 v hv) (by exact hk) u⟩
theorem PRow.laterU {w w' w'' : World} {b g n : Nat} {ps : List Pt} (h : PRow w b g n ps) (h1 : Below w.heap.size w w') (h2 : Below w'.heap.size w' w'') : PRow w'' b g n ps := (h.later h1).later h2
set_option maxRecDepth 100000 in
set_option maxHeartbeats 16000000 in
theorem sub30 (n : Int) (p : Option Addr) (es : List Pt) (cp : Nat) (q : Option Addr) (rs : List (List Int)) (cq : Nat) (t : Option Addr) (l : List Int) (ct : Nat) (w : World) (h : Has w p es) (hr : RHas w q rs) (hl : l.length ≤ maxLen) (hk : IHas w t l) (h0 : rotI n es rs = 0) (hs : subE n es l = 0) : Calls Try.prog 30 #[nv n p es.length cp, .slice q rs.length cq, .slice t l.length ct] w fun e w' => ∃ g g5 rv, e = .returned (.tuple #[nv n (some ⟨g, 0, none⟩) l.length l.length, .slice (some ⟨g5, 0, none⟩) rs.length rs.length, .int .i64 0]) ∧ PRow w' w.heap.size g l.length (pick es l) ∧ Rows w' w.heap.size g5 rs.length rv (fun v => turnL (rnL (plN l es.length l.length) (lat rs v))) ∧ Below w.heap.size w w' := by
  obtain ⟨W, hW, hb0, a0, b0⟩ := two_nets w n p es.length cp
  have M := hide (mayR13 n p es cp q rs cq W (h.later hb0) (hr.later hb0))
  rw [h0] at M
  obtain ⟨z1, z2⟩ := rot_bounds h0
  have HNET := hide (rot_is h0).1
  have HIN := hide (rot_in h0)
  obtain ⟨n0, n1, hes, _⟩ := netB_is HNET.out
  have HZ := hide z2
  have HH := hide (h.later hb0)
  have HR := hide (hr.later hb0)
  have HK := hide (hk.later hb0)
  have HB := hide hb0
  have HA := hide a0
  have HN := hide b0
  obtain ⟨q0, q1, _, _⟩ := a0
  clear h hr hk hb0 b0 h0 z2
  go_enter Try.func30, Try.ntmps30
  go_wp2_with fail
  rw [← hW]
  clear hW
  go_wp2_with fail
  refine M.out.mono ?_
  rintro e w1 ⟨rfl, hb1⟩
  have HB1 := hide hb1
  have HN1 := hide (HN.out.later hb1)
  clear q0 q1 M
  obtain ⟨q0, q1, _, _⟩ := HA.out.later hb1
  have S := hide (sub27 n p t es l cp ct w1 hl (HH.out.later hb1) (HK.out.later hb1))
  clear hb1
  go_wp2_with fail
  refine S.out.mono ?_
  rintro e w2 ⟨hS, hb2⟩
  have HB2 := hide (below_step HB1.out hb2)
  have HN2 := hide (HN.out.later HB2.out)
  clear hb2 q0 q1 S
  obtain ⟨q0, q1, _, _⟩ := HA.out.later HB2.out
  rcases hS with ⟨_, g, rfl, hP⟩ | ⟨hE, _⟩
  rotate_left
  · exact absurd hs hE
  have herr : errL l es.length = 0 := by unfold subE at hs; rw [if_pos HNET.out] at hs; exact hs
  have hlm := chosen_le herr
  have HCI := hide (chosen_in herr)
  have HPL := hide (plN_at (l := l) (m := es.length) (i := l.length) (errN_all _ herr))
  clear herr hs
  obtain ⟨r0, r1, r2, r3⟩ := HN2.out
  have hk2 : w.heap.size + 1 < w2.heap.size := block_lt_of_cell r0
  go_upto_region 5 with fail
  obtain ⟨U, hU⟩ : ∃ U, U = w2.alloc (nbx n (some ⟨g, 0, none⟩) l.length l.length) := ⟨_, rfl⟩
  have hbU : Below w2.heap.size w2 U := by rw [hU]; go_grown
  have HBU := hide (below_step HB2.out hbU)
  have HNU := hide (HN2.out.later hbU)
  have HPU := hide (hP.later hbU)
  have HKU : Hid (NOwn U w2.heap.size n (some ⟨g, 0, none⟩) l.length l.length) := by show NOwn _ _ _ _ _ _; rw [hU]; exact ⟨by go_cell, by go_cell, by simp [go_sem], by simp [go_sem]⟩
  try rw [← hU]
  clear hU hbU r0 r1 r2 r3 q0 q1 hP
  obtain ⟨q0, q1, _, _⟩ := HA.out.later HBU.out
  obtain ⟨r0, r1, r2, r3⟩ := HNU.out
  obtain ⟨s0, s1, s2, s3⟩ := HKU.out
  obtain ⟨kb, hkb⟩ : ∃ kb, w2.heap.size = kb := ⟨_, rfl⟩
  rw [hkb] at HKU s0 s1 s2 s3 hk2 ⊢
  obtain ⟨T, hT⟩ : ∃ T, plN l es.length l.length = T := ⟨_, rfl⟩
  have hTl : T.length = es.length := by rw [← hT]; exact plN_length _ _ _
  have hTi : ∀ j, j < T.length → -1 ≤ iat T j ∧ iat T j ≤ 90000 := fun j hj => by
    rw [hTl] at hj
    obtain ⟨h1, h2⟩ := HPL.out j hj
    rw [hT] at h1 h2
    by_cases hx : ∃ k, k < l.length ∧ iat l k = (j : Int)
    · obtain ⟨k, hk1, hk2⟩ := hx
      rw [h1 k hk1 hk2]; omega
    · rw [h2 fun k hk1 hk2 => hx ⟨k, hk1, hk2⟩]; omega
  have P1 : Hid (∀ V, Below W.heap.size W V → Calls Try.prog 65 #[.slice t l.length ct, .int .i64 es.length] V fun e w' => ∃ g, e = .returned (.slice (some ⟨g, 0, none⟩) es.length es.length) ∧ IRow w' V.heap.size g es.length T ∧ Below V.heap.size V w') := fun V hV => by rw [← hT]; exact places65 t l ct es.length V (HK.out.later hV) (by omega) (by omega) HCI.out
  have P2 : Hid (∀ V g1, Below W.heap.size W V → IRow V w.heap.size g1 es.length T → Calls Try.prog 64 #[.slice q rs.length cq, .slice (some ⟨g1, 0, none⟩) es.length es.length] V fun e w' => ∃ g rv, e = .returned (.slice (some ⟨g, 0, none⟩) rs.length rs.length) ∧ Rows w' V.heap.size g rs.length rv (fun v => rnL T (lat rs v)) ∧ Below V.heap.size V w') := fun V g1 hV hI => by
    have := renumbered64 q (some ⟨g1, 0, none⟩) rs T cq es.length V (HR.out.later hV) hI.has (by omega) (by omega) (fun v hv => by have := HZ.out v hv; omega) (fun v hv j hj => by have := HIN.out v hv j hj; omega) hTi
    rw [hTl] at this
    exact this
  have P3 : Hid (∀ V g2 rv, Rows V w.heap.size g2 rs.length rv (fun v => rnL T (lat rs v)) → Calls Try.prog 54 #[.slice (some ⟨g2, 0, none⟩) rs.length rs.length] V fun e w' => ∃ g rv, e = .returned (.slice (some ⟨g, 0, none⟩) rs.length rs.length) ∧ Rows w' V.heap.size g rs.length rv (fun v => turnL (rnL T (lat rs v))) ∧ Below V.heap.size V w') := fun V g2 rv hR => by
    have hlm : (rs.map (rnL T)).length = rs.length := by simp
    have hle : ∀ v, v < rs.length → (lat (rs.map (rnL T)) v).length ≤ 6144 := fun v hv => by rw [lat_map (rnL T) hv]; have := HZ.out v hv; have := rnRow_le T (lat rs v) (lat rs v).length; unfold rnL; omega
    have := turned54 (some ⟨g2, 0, none⟩) (rs.map (rnL T)) rs.length V (hR.has hlm (fun u hu => by rw [lat_map (rnL T) hu]) (fun u hu => by have := hle u hu; unfold maxLen; omega)) (by omega) (fun v hv => by have := hle v (by omega); omega)
    rw [hlm] at this
    refine this.mono ?_
    rintro e w' ⟨g, rv, rfl, hr, hb⟩
    exact ⟨g, rv, rfl, hr.congr (fun u hu => by rw [lat_map (rnL T) hu]), hb⟩
  have HTT := hide hT
  have KH : Hid (U.cell? ⟨w.heap.size, 1, none⟩ = some (.slice p es.length cp) ∧ U.cell? ⟨kb, 0, none⟩ = some (.int .i64 n) ∧ U.cell? ⟨kb, 1, none⟩ = some (.slice (some ⟨g, 0, none⟩) l.length l.length)) := ⟨q1, s0, s1⟩
  have HLT : Hid (∀ V V', Below V.heap.size V V' → (V.cell? ⟨w.heap.size, 1, none⟩ = some (.slice p es.length cp) ∧ V.cell? ⟨kb, 0, none⟩ = some (.int .i64 n) ∧ V.cell? ⟨kb, 1, none⟩ = some (.slice (some ⟨g, 0, none⟩) l.length l.length)) → (V'.cell? ⟨w.heap.size, 1, none⟩ = some (.slice p es.length cp) ∧ V'.cell? ⟨kb, 0, none⟩ = some (.int .i64 n) ∧ V'.cell? ⟨kb, 1, none⟩ = some (.slice (some ⟨g, 0, none⟩) l.length l.length))) := fun V V' hb ⟨a, b, c⟩ => ⟨later hb a, later hb b, later hb c⟩
  have hws : w.heap.size ≤ W.heap.size := HB.out.size
  have hUs : W.heap.size ≤ U.heap.size := HBU.out.size
  have hUk : w.heap.size + 1 < U.heap.size := block_lt_of_cell HNU.out.1
  clear hT hTl hTi HPL HCI HZ HIN HR HK HH s2 s3
  go_wp2_with fail
  go_region_held3 (fun W' => W'.cell? ⟨w.heap.size, 1, none⟩ = some (.slice p es.length cp) ∧ W'.cell? ⟨kb, 0, none⟩ = some (.int .i64 n) ∧ W'.cell? ⟨kb, 1, none⟩ = some (.slice (some ⟨g, 0, none⟩) l.length l.length))
    (first | exact ⟨q1, s0, s1⟩ | exact KH1.out | exact KH2.out | exact KH3.out | exact ⟨other2 KH3.out.1 (by simp), other2 KH3.out.2.1 (by simp; omega), other2 KH3.out.2.2 (by simp; omega)⟩)
    (first | (go_at_call 65; refine (P1.out _ (below_step HBU.out (below_drew U))).mono ?_; rintro e V1 ⟨g1, rfl, hr1, hb1'⟩; have hb1 : Below U.heap.size U V1 := below_step (below_drew U) hb1'; have HB3 := hide (below_step HBU.out hb1); have HU1 := hide hb1; have HRW1 : Hid (IRow V1 w.heap.size g1 es.length T) := hr1.base (by have := (below_drew U).size; omega); have KH1 := hide (HLT.out _ _ hb1 KH.out); clear hb1 hb1' hr1 q0 q1 s0 s1 r0 r1 r2 r3; obtain ⟨q1, s0, s1⟩ := KH1.out) | (go_at_call 54; refine (P3.out _ g2 rv2 HRW2.out).mono ?_; rintro e V3 ⟨g3, rv3, rfl, hr3, hb3⟩; have HB5 := hide (below_step HB4.out hb3); have HU12 : Hid (U.heap.size ≤ V2.heap.size) := Nat.le_trans HU1.out.size HU2.out.size; have HRW3 := hide hr3; have HU3 := hide hb3; have KH3 := hide (HLT.out _ _ hb3 KH2.out); have HN3 := hide (HN.out.later HB5.out); clear hb3 hr3 q1 s0 s1; obtain ⟨q1, s0, s1⟩ := KH3.out; obtain ⟨r0, r1, r2, r3⟩ := HN3.out) | (go_at_call 64; refine (P2.out _ g1 HB3.out HRW1.out).mono ?_; rintro e V2 ⟨g2, rv2, rfl, hr2, hb2⟩; have HB4 := hide (below_step HB3.out hb2); have hV1s : w.heap.size ≤ V1.heap.size := Nat.le_trans hws HB3.out.size; have HRW2 := hide (hr2.base hV1s); have HU2 := hide hb2; have KH2 := hide (HLT.out _ _ hb2 KH1.out); clear hb2 hr2 q1 s0 s1; obtain ⟨q1, s0, s1⟩ := KH2.out))
  rename_i hHeld
  clear hHeld
  have hg0 := HPU.out.lt
  have hw1s : w.heap.size + 1 < w1.heap.size := block_lt_of_cell HN1.out.1
  obtain ⟨V, hV⟩ : ∃ V, V = (V3.setCell ⟨w.heap.size + 1, 0, none⟩ (.int .i64 n)).setCell ⟨w.heap.size + 1, 1, none⟩ (.slice (some ⟨g, 0, none⟩) l.length l.length) := ⟨_, rfl⟩
  have kV : NOwn V (w.heap.size + 1) n (some ⟨g, 0, none⟩) l.length l.length := by rw [hV]; exact HN3.out.set n _ _ _
  have bV : Below w.heap.size w V := by rw [hV]; exact ((below_step HB.out HB5.out).setCell (by simp) _).setCell (by simp) _
  have pV : PRow V w.heap.size g l.length (pick es l) := by rw [hV]; exact (prow_other (prow_other ((HPU.out.later HU1.out).laterU HU2.out HU3.out) (by omega) _) (by omega) _).base (by omega)
  have rV : Rows V w.heap.size g3 rs.length rv3 (fun v => turnL (rnL (plN l es.length l.length) (lat rs v))) := by rw [hV, HTT.out]; exact ((HRW3.out.other (by have := HU12.out; omega) _).other (by have := HU12.out; omega) _).base (by have := HU12.out; omega)
  rw [← hV]
  go_wp2_with fail
  exact bodyPost_ret (ret_net3 Try.results30 rfl rfl rfl kV) rfl ⟨g, g3, rv3, rfl, pV, rV, bV⟩
end Go.Proofs.Ytllkadgpkbaghaa

namespace Go.Proofs.Ytllkadgpkbaghaa
open Go.RowKit Go.Sort
open Go
/-- The lists moved with their nodes, by the first v. -/
def mvN (rs : List (List Int)) (l : List Int) : Nat → List (List Int)
  | 0 => List.replicate rs.length []
  | v + 1 => (mvN rs l v).set (iat l v).toNat (lat rs v)
theorem mvN_length (rs : List (List Int)) (l : List Int) : ∀ v, (mvN rs l v).length = rs.length
  | 0 => by simp [mvN]
  | v + 1 => by simp [mvN, mvN_length rs l v]
theorem lat_set (L : List (List Int)) (j k : Nat) (x : List Int) (hk : k < L.length) : lat (L.set j x) k = if j = k then x else lat L k := by
  unfold lat
  rw [List.getD_eq_getElem?_getD, List.getD_eq_getElem?_getD, List.getElem?_set]
  by_cases h : j = k
  · subst h; simp [hk]
  · simp [h]
/-- A row of slices that lie elsewhere: their lists lie in the elder world W. -/
def SRow (W w : World) (B g n : Nat) (rv : Nat → Value) (L : List (List Int)) : Prop := w.ownsRow B 27 1 (.slice (some ⟨g, 0, none⟩) n n) n ((List.range n).map rv) ∧ L.length = n ∧ ∀ x, x < n → ∃ a c, rv x = .slice a (lat L x).length c ∧ IHas W a (lat L x) ∧ (lat L x).length ≤ maxLen ∧ (lat L x).length ≤ c ∧ (a = none → c = 0)
theorem SRow.cell {W w : World} {B g n x : Nat} {rv : Nat → Value} {L : List (List Int)} (h : SRow W w B g n rv L) (hx : x < n) : w.cell? ⟨g, x, none⟩ = some (rv x) ∧ w.frozen? ⟨g, x, none⟩ = false := by
  refine ⟨?_, World.ownsRow.frozenAt h.1 x⟩
  rw [World.ownsRow.cellAt h.1 x (by omega)]
  simp [hx]
theorem SRow.lt {W w : World} {B g n : Nat} {rv : Nat → Value} {L : List (List Int)} (h : SRow W w B g n rv L) : B ≤ g ∧ g < w.heap.size := World.ownsRow.lt h.1 g rfl
theorem SRow.set {W w : World} {B g n k : Nat} {rv : Nat → Value} {L : List (List Int)} (h : SRow W w B g n rv L) {a : Option Addr} {c : Nat} {l : List Int} (h1 : IHas W a l) (h2 : l.length ≤ maxLen) (h3 : l.length ≤ c) (h4 : a = none → c = 0) : SRow W (w.setCell ⟨g, k, none⟩ (.slice a l.length c)) B g n (upd rv k (.slice a l.length c)) (L.set k l) := by
  refine ⟨?_, by rw [List.length_set]; exact h.2.1, fun x hx => ?_⟩
  · have q := (World.ownsRow.stored h.1 k (.slice a l.length c)).1
    rw [show ((List.range n).map (upd rv k (.slice a l.length c))) = ((List.range n).map rv).set k (.slice a l.length c) from ?_]
    · exact q
    apply List.ext_getElem
    · simp
    intro i h4 h5
    simp only [List.getElem_map, List.getElem_range, List.getElem_set]
    by_cases hia : k = i
    · subst hia; simp [upd]
    · rw [if_neg hia, upd_other _ _ (fun e => hia e.symm)]
  · rw [lat_set _ _ _ _ (by rw [h.2.1]; exact hx)]
    by_cases hkx : k = x
    · subst hkx; rw [if_pos rfl, upd_same]; exact ⟨a, c, rfl, h1, h2, h3, h4⟩
    · rw [if_neg hkx, upd_other _ _ (fun e => hkx e.symm)]; exact h.2.2 x hx
theorem SRow.has {W w : World} {B g n : Nat} {rv : Nat → Value} {L : List (List Int)} (h : SRow W w B g n rv L) (hb : Below W.heap.size W w) : RHas w (some ⟨g, 0, none⟩) L := by
  refine Or.inr ⟨g, 0, rfl, fun v hv => ?_⟩
  rw [h.2.1] at hv
  obtain ⟨a, c, e, m, z⟩ := h.2.2 v hv
  refine ⟨a, c, ?_, m.later hb, z⟩
  rw [Nat.zero_add, (h.cell hv).1, e]
theorem srow_made {W w : World} {base g n : Nat} (h : w.ownsRow base 27 1 (.slice (some ⟨g, 0, none⟩) n n) n (madeCells #[.slice none 0 0] n).toList) : SRow W w base g n (fun _ => .slice none 0 0) (List.replicate n []) := by
  rw [toList_madeCells_one] at h
  refine ⟨?_, by simp, fun x hx => ?_⟩
  · rw [show ((List.range n).map fun _ => Value.slice none 0 0) = List.replicate n (.slice none 0 0) from by apply List.ext_getElem <;> simp]
    exact h
  · have : lat (List.replicate n ([] : List Int)) x = [] := by unfold lat; simp [hx]
    rw [this]
    exact ⟨none, 0, rfl, Or.inl rfl, by simp, by simp, fun _ => rfl⟩
theorem mvN_le {rs : List (List Int)} {l : List Int} {m : Nat} (h : ∀ v, v < rs.length → (lat rs v).length ≤ m) : ∀ v, v ≤ rs.length → ∀ x, x < rs.length → (lat (mvN rs l v) x).length ≤ m
  | 0, _, x, hx => by
    have : lat (mvN rs l 0) x = [] := by unfold mvN lat; simp [hx]
    rw [this]; simp
  | v + 1, hv, x, hx => by
    unfold mvN
    rw [lat_set _ _ _ _ (by rw [mvN_length]; exact hx)]
    split
    · exact h v (by omega)
    · exact mvN_le h v (by omega) x hx
set_option maxRecDepth 100000 in
set_option maxHeartbeats 16000000 in
theorem moved31 (n : Int) (p : Option Addr) (es : List Pt) (cp : Nat) (q : Option Addr) (rs : List (List Int)) (cq : Nat) (t : Option Addr) (l : List Int) (ct : Nat) (w : World) (h : Has w p es) (hr : RHas w q rs) (hl : l.length ≤ maxLen) (hk : IHas w t l) (h0 : rotI n es rs = 0) (hs : movE n es l = 0) : Calls Try.prog 31 #[nv n p es.length cp, .slice q rs.length cq, .slice t l.length ct] w fun e w' => ∃ g g5 rv, e = .returned (.tuple #[nv n (some ⟨g, 0, none⟩) es.length es.length, .slice (some ⟨g5, 0, none⟩) rs.length rs.length, .int .i64 0]) ∧ PRow w' w.heap.size g es.length (rename es l) ∧ Rows w' w.heap.size g5 rs.length rv (fun v => turnL (lat (mvN rs l rs.length) v)) ∧ Below w.heap.size w w' := by
  obtain ⟨i0, hi0, hz0, hz1, hz2⟩ := info_parts info41
  have HRN := hide (rot_is h0).2.1
  obtain ⟨W, hW, hb0, a0, b0⟩ := two_nets w n p es.length cp
  have M := hide (mayR13 n p es cp q rs cq W (h.later hb0) (hr.later hb0))
  rw [h0] at M
  obtain ⟨z1, z2⟩ := rot_bounds h0
  have HNET := hide (rot_is h0).1
  have HIN := hide (rot_in h0)
  obtain ⟨n0, n1, hes, _⟩ := netB_is HNET.out
  have HZ := hide z2
  have HH := hide (h.later hb0)
  have HR := hide (hr.later hb0)
  have HK := hide (hk.later hb0)
  have HB := hide hb0
  have HA := hide a0
  have HN := hide b0
  obtain ⟨q0, q1, _, _⟩ := a0
  clear h hr hk hb0 b0 h0 z2
  go_enter Try.func31, Try.ntmps31
  go_wp2_with fail
  rw [← hW]
  clear hW
  go_wp2_with fail
  refine M.out.mono ?_
  rintro e w1 ⟨rfl, hb1⟩
  have HB1 := hide hb1
  have HN1 := hide (HN.out.later hb1)
  clear q0 q1 M
  obtain ⟨q0, q1, _, _⟩ := HA.out.later hb1
  have S := hide (moved20 n p t es l cp ct w1 hl (HH.out.later hb1) (HK.out.later hb1))
  clear hb1
  go_wp2_with fail
  refine S.out.mono ?_
  rintro e w2 ⟨hS, hb2⟩
  have HB2 := hide (below_step HB1.out hb2)
  have HN2 := hide (HN.out.later HB2.out)
  clear hb2 q0 q1 S
  obtain ⟨q0, q1, _, _⟩ := HA.out.later HB2.out
  rcases hS with ⟨_, g, rfl, hP⟩ | ⟨hE, _⟩
  rotate_left
  · exact absurd hs hE
  obtain ⟨_, hln, herr⟩ := movE_net hs
  have HCI : Hid (∀ j, j < l.length → 0 ≤ iat l j ∧ iat l j < rs.length) := fun j hj => by
    have := (chk_zero (errN_all _ herr j hj)).1
    have := HRN.out
    omega
  have hlr : l.length = rs.length := by have := HRN.out; omega
  clear herr hs hln
  obtain ⟨r0, r1, r2, r3⟩ := HN2.out
  have hk2 : w.heap.size + 1 < w2.heap.size := block_lt_of_cell r0
  go_upto_region 5 with fail
  obtain ⟨U, hU⟩ : ∃ U, U = w2.alloc (nbx n (some ⟨g, 0, none⟩) es.length es.length) := ⟨_, rfl⟩
  have hbU : Below w2.heap.size w2 U := by rw [hU]; go_grown
  have HBU := hide (below_step HB2.out hbU)
  have HNU := hide (HN2.out.later hbU)
  have HPU := hide (hP.later hbU)
  have HKU : Hid (NOwn U w2.heap.size n (some ⟨g, 0, none⟩) es.length es.length) := by show NOwn _ _ _ _ _ _; rw [hU]; exact ⟨by go_cell, by go_cell, by simp [go_sem], by simp [go_sem]⟩
  try rw [← hU]
  clear hU hbU r0 r1 r2 r3 q0 q1 hP
  obtain ⟨kb, hkb⟩ : ∃ kb, w2.heap.size = kb := ⟨_, rfl⟩
  rw [hkb] at HKU hk2 ⊢
  go_wp2_with (refine wpList_make_full _ rfl (.tmp 33) (.tmp 33) 26 rfl U.heap.size 27 i0 (.slice none 0 0) 1 Try.underlying26 hi0 hz0 hz1 .i64 .i64 _ _ rs.length rfl rfl rfl rfl ?c1 ?c2 ?c3 ?_)
  case c1 => rw [hz2]; omega
  case c2 => unfold maxLen; omega
  case c3 => exact Nat.le_refl _
  intro w3 hown hgrow
  have hb3 := below_made hgrow
  have HB3 := hide hb3
  obtain ⟨gw, hgw⟩ : ∃ gw, U.heap.size = gw := ⟨_, rfl⟩
  have hsr := srow_made (W := U) hown
  have HS3 : Hid (∃ rv, SRow U w3 U.heap.size gw rs.length rv (mvN rs l 0)) := by show ∃ rv, _; rw [hgw] at hsr ⊢; exact ⟨_, hsr⟩
  try rw [hgw]
  clear hown hgrow hb3 hsr hi0 hz0 hz1 hz2 i0
  go_wp2_with fail
  go_loopw [37] (fun t37 wr => ∃ v : Nat, v ≤ rs.length ∧ t37 = .int .i64 v ∧ Hid (Below U.heap.size U wr) ∧ Hid (∃ rv, SRow U wr U.heap.size gw rs.length rv (mvN rs l v))) (fun t37 _ => rs.length - (intOf t37).toNat)
  case atStart => exact ⟨0, by omega, rfl, HB3.out, HS3.out⟩
  case round =>
    clear HB3 HS3
    obtain ⟨v, hv, rfl, HBr, HSr⟩ := hrel
    obtain ⟨rv, hsr⟩ := HSr.out
    by_cases hlt : v < rs.length
    · obtain ⟨b1, o1, a1, k1, rfl, c0W, m1, z3⟩ := (HR.out.later HBU.out).at_ hlt
      have c0 := later HBr.out c0W
      have e1 : (v : Int) < rs.length := by omega
      have hvl : v < l.length := by omega
      have e2 : (v : Int) < l.length := by omega
      rcases (HK.out.later HBU.out).later HBr.out with h | ⟨b2, o2, rfl, l2⟩
      · rw [h] at hvl; simp at hvl
      have c1 := l2 v hvl
      obtain ⟨x0, x1⟩ := HCI.out v hvl
      have HST : Hid (mvN rs l (v + 1) = (mvN rs l v).set (iat l v).toNat (lat rs v)) := rfl
      obtain ⟨k, hk⟩ : ∃ k : Nat, iat l v = k := ⟨(iat l v).toNat, by omega⟩
      rw [hk] at c1 HST x1
      rw [Int.toNat_natCast] at HST
      have hkn : k < rs.length := by omega
      obtain ⟨d0, f0⟩ := hsr.cell hkn
      have HSN : Hid (∃ rv, SRow U (wr.setCell ⟨gw, k, none⟩ (.slice a1 (lat rs v).length k1)) U.heap.size gw rs.length rv (mvN rs l (v + 1))) := ⟨_, by rw [HST.out]; exact hsr.set (k := k) m1 z3.1 z3.2.1 z3.2.2⟩
      have HBN : Hid (Below U.heap.size U (wr.setCell ⟨gw, k, none⟩ (.slice a1 (lat rs v).length k1))) := HBr.out.setCell (p := ⟨gw, k, none⟩) (by show _ ≤ gw; omega) _
      clear l2 hk hsr m1 z3 c0W x0 HST HSr
      go_wp2
      go_roundw
      case rel => exact ⟨v + 1, by omega, by go_num, HBN.out, HSN.out⟩
      case measure => simp [intOf]; omega
    · have hve : v = rs.length := by omega
      have e1 : ¬ (v : Int) < rs.length := by omega
      have hmle : ∀ x, x < rs.length → (lat (mvN rs l rs.length) x).length ≤ 6144 := mvN_le HZ.out _ (Nat.le_refl _)
      rw [hve] at hsr
      have HF := hide (hsr.has HBr.out)
      have P3 : Hid (∀ V, Below wr.heap.size wr V → Calls Try.prog 54 #[.slice (some ⟨gw, 0, none⟩) rs.length rs.length] V fun e w' => ∃ g rv, e = .returned (.slice (some ⟨g, 0, none⟩) rs.length rs.length) ∧ Rows w' V.heap.size g rs.length rv (fun v => turnL (lat (mvN rs l rs.length) v)) ∧ Below V.heap.size V w') := fun V hV => by
        have := turned54 (some ⟨gw, 0, none⟩) (mvN rs l rs.length) rs.length V (HF.out.later hV) (by rw [mvN_length]; omega) (fun u hu => by rw [mvN_length] at hu; have := hmle u hu; omega)
        rw [mvN_length] at this
        exact this
      obtain ⟨s0, s1, s2, s3⟩ := HKU.out.later HBr.out
      have HNr := hide (HNU.out.later HBr.out)
      obtain ⟨r0, r1, r2, r3⟩ := HNr.out
      have KH : Hid (wr.cell? ⟨kb, 0, none⟩ = some (.int .i64 n) ∧ wr.cell? ⟨kb, 1, none⟩ = some (.slice (some ⟨g, 0, none⟩) es.length es.length)) := ⟨s0, s1⟩
      have hwr : w.heap.size + 1 < wr.heap.size := block_lt_of_cell r0
      clear hve hsr HSr hmle s2 s3
      go_wp2_with fail
      go_region_held3 (fun W' => W'.cell? ⟨kb, 0, none⟩ = some (.int .i64 n) ∧ W'.cell? ⟨kb, 1, none⟩ = some (.slice (some ⟨g, 0, none⟩) es.length es.length))
        (first | exact ⟨s0, s1⟩ | exact KH3.out | exact ⟨other2 KH3.out.1 (by simp; omega), other2 KH3.out.2 (by simp; omega)⟩)
        (first | (go_at_call 54; refine (P3.out _ (below_drew wr)).mono ?_; rintro e V3 ⟨g3, rv3, rfl, hr3, hb3'⟩; have hb3 : Below wr.heap.size wr V3 := below_step (below_drew wr) hb3'; have HRW3 : Hid (Rows V3 wr.heap.size g3 rs.length rv3 (fun v => turnL (lat (mvN rs l rs.length) v))) := hr3.base (below_drew wr).size; have HU3 := hide hb3; have KH3 : Hid (V3.cell? ⟨kb, 0, none⟩ = some (.int .i64 n) ∧ V3.cell? ⟨kb, 1, none⟩ = some (.slice (some ⟨g, 0, none⟩) es.length es.length)) := ⟨later hb3 s0, later hb3 s1⟩; have HN3 := hide (HNr.out.later hb3); clear hb3 hb3' hr3 s0 s1 r0 r1 r2 r3; obtain ⟨s0, s1⟩ := KH3.out; obtain ⟨r0, r1, r2, r3⟩ := HN3.out))
      rename_i hHeld
      clear hHeld
      have hg0 := HPU.out.lt
      have hw1s : w.heap.size + 1 < w1.heap.size := block_lt_of_cell HN1.out.1
      have HB5 := hide (below_step (below_step HB.out (below_step HBU.out HBr.out)) HU3.out)
      obtain ⟨V, hV⟩ : ∃ V, V = (V3.setCell ⟨w.heap.size + 1, 0, none⟩ (.int .i64 n)).setCell ⟨w.heap.size + 1, 1, none⟩ (.slice (some ⟨g, 0, none⟩) es.length es.length) := ⟨_, rfl⟩
      have kV : NOwn V (w.heap.size + 1) n (some ⟨g, 0, none⟩) es.length es.length := by rw [hV]; exact HN3.out.set n _ _ _
      have bV : Below w.heap.size w V := by rw [hV]; exact (HB5.out.setCell (by simp) _).setCell (by simp) _
      have pV : PRow V w.heap.size g es.length (rename es l) := by rw [hV]; exact (prow_other (prow_other ((HPU.out.later HBr.out).later HU3.out) (by omega) _) (by omega) _).base (by omega)
      have rV : Rows V w.heap.size g3 rs.length rv3 (fun v => turnL (lat (mvN rs l rs.length) v)) := by rw [hV]; exact ((HRW3.out.other (by omega) _).other (by omega) _).base (by omega)
      rw [← hV]
      go_wp2_with fail
      exact bodyPost_ret (ret_net3 Try.results31 rfl rfl rfl kV) rfl ⟨g, g3, rv3, rfl, pV, rV, bV⟩
end Go.Proofs.Ytllkadgpkbaghaa

namespace Go.Proofs.Ytllkadgpkbaghaa
open Go.RowKit Go.Sort
open Go
/-- The numbers below m, rising. -/
def upN (m : Nat) : List Int := (List.range m).map fun (i : Nat) => (i : Int)
theorem upN_length (m : Nat) : (upN m).length = m := by simp [upN]
theorem upN_more (m : Nat) : upN (m + 1) = upN m ++ [(m : Int)] := by simp [upN, List.range_succ]
theorem upN_at {m j : Nat} (h : j < m) : iat (upN m) j = j := by
  unfold upN
  rw [iat_map _ _ 0 (by simpa using h)]
  simp [h]
theorem upN_err (m : Nat) : errL (upN m) m = 0 := by
  unfold errL
  rw [upN_length]
  refine errN_zero _ fun j hj => chk_of ?_ ?_
  · rw [upN_at hj]; omega
  · intro k hk
    rw [upN_at hj, upN_at (by omega)]
    omega
theorem upN_places {m x : Nat} (h : x < m) : iat (plN (upN m) m (upN m).length) x = x := by
  rw [upN_length]
  have he := upN_err m
  unfold errL at he
  rw [upN_length] at he
  exact (plN_at (errN_all _ he) x h).1 x h (upN_at h)
theorem rnRow_up {m : Nat} {l : List Int} (hl : ∀ j, j < l.length → 0 ≤ iat l j ∧ iat l j < 2 * m) : ∀ j, j ≤ l.length → rnRow (plN (upN m) m (upN m).length) l j = l.take j
  | 0, _ => by simp [rnRow]
  | j + 1, hj => by
    obtain ⟨h0, h1⟩ := hl j (by omega)
    obtain ⟨k, hk⟩ : ∃ k : Nat, iat l j = k := ⟨(iat l j).toNat, by omega⟩
    unfold rnRow
    rw [rnRow_up hl j (by omega), hk, Int.toNat_natCast, upN_places (by omega), if_pos (by omega)]
    rw [List.take_add_one]
    congr 1
    have : l[j]? = some (iat l j) := by
      unfold iat
      rw [List.getD_eq_getElem?_getD, List.getElem?_eq_getElem (by omega)]
      simp
    rw [this, hk]
    simp
    omega
theorem rnL_up {m : Nat} {l : List Int} (hl : ∀ j, j < l.length → 0 ≤ iat l j ∧ iat l j < 2 * m) : rnL (plN (upN m) m (upN m).length) l = l := by
  unfold rnL
  rw [rnRow_up hl _ (Nat.le_refl _)]
  simp
theorem pick_up (es : List Pt) : pick es (upN es.length) = es := by
  refine List.ext_getElem (by rw [pick_length, upN_length]) fun i h1 h2 => ?_
  simp [pick, upN, at', h2]
theorem rename_up {n : Nat} {es : List Pt} (h : netB n es = true) : rename es (upN n) = es := by
  obtain ⟨_, _, _, he⟩ := netB_is h
  refine List.ext_getElem (by rw [rename_length]) fun i h1 h2 => ?_
  obtain ⟨a, b, c, d⟩ := he i h2
  have hat : at' es i = es[i] := by simp [at', h2]
  rw [hat] at a b c d
  simp only [rename, List.getElem_map]
  rw [upN_at (by omega), upN_at (by omega)]
  have e1 : ((es[i].x.toNat : Nat) : Int) = es[i].x := by omega
  have e2 : ((es[i].y.toNat : Nat) : Int) = es[i].y := by omega
  rw [e1, e2]
theorem mvN_up (rs : List (List Int)) : ∀ v, v ≤ rs.length → ∀ x, x < rs.length → lat (mvN rs (upN rs.length) v) x = if x < v then lat rs x else []
  | 0, _, x, hx => by unfold mvN lat; simp [hx]
  | v + 1, hv, x, hx => by
    unfold mvN
    rw [lat_set _ _ _ _ (by rw [mvN_length]; exact hx), upN_at (by omega), Int.toNat_natCast, mvN_up rs v (by omega) x hx]
    by_cases h : v = x
    · subst h; rw [if_pos rfl, if_pos (by omega)]
    · rw [if_neg h]
      by_cases h2 : x < v
      · rw [if_pos h2, if_pos (by omega)]
      · rw [if_neg h2, if_neg (by omega)]
theorem mvL_up (rs : List (List Int)) : mvN rs (upN rs.length) rs.length = rs := lat_ext (mvN_length _ _ _) fun v hv => by
  rw [mvN_length] at hv
  rw [mvN_up rs _ (Nat.le_refl _) v hv, if_pos hv]
end Go.Proofs.Ytllkadgpkbaghaa
