/- The document's half-edges by nodes, its blank list and its degrees. -/
import Derived.Test.YtobkejnlkjieoaaZC02
import Derived.Test.YtobkejnlkjieoaaZC01
namespace Go.Proofs.Ytobkejnlkjieoaa
open Go.RowKit Go.Sort
open Go
set_option maxRecDepth 100000 in
set_option maxHeartbeats 4000000 in
theorem blank41 (n : Nat) (x : Int) (w : World) (hn : n ≤ 100000) : Calls Try.prog 50 #[.int .i64 n, .int .i64 x] w fun e w' => ∃ g, e = .returned (.slice (some ⟨g, 0, none⟩) n n) ∧ IRow w' w.heap.size g n (List.replicate n x) ∧ Below w.heap.size w w' := by
  obtain ⟨i0, hi0, hz0, hz1, hz2⟩ := info_parts info3
  go_enter Try.func50, Try.ntmps50
  go_wp2_with (refine wpList_make_full _ rfl (.tmp 7) (.tmp 7) 32 rfl w.heap.size 3 i0 (.int .i64 0) 1 Try.underlying32 hi0 hz0 hz1 .i64 .i64 _ _ n rfl rfl rfl rfl ?c1 ?c2 ?c3 ?_)
  case c1 => rw [hz2]; omega
  case c2 => unfold maxLen; omega
  case c3 => exact Nat.le_refl _
  intro w2 hown hgrow
  have HR2 := hide (irow_made hown)
  have HB2 := hide (below_made hgrow)
  clear hown hgrow
  go_wp2_with fail
  obtain ⟨g, hg⟩ : ∃ g, w.heap.size = g := ⟨_, rfl⟩
  rw [hg] at HR2 ⊢
  have HK := hide hg
  clear hg
  go_loopw [6] (fun t wr => ∃ i : Nat, i ≤ n ∧ t = .int .i64 i ∧ Hid (Below w.heap.size w wr) ∧ Hid (IRow wr g g n (fillL n i x))) (fun t _ => n - (intOf t).toNat)
  case atStart => exact ⟨0, by omega, rfl, HB2.out, by show IRow _ _ _ _ _; simpa [fillL] using HR2.out⟩
  case round =>
    obtain ⟨i, hi, rfl, HBr, HR⟩ := hrel
    by_cases hlt : i < n
    · obtain ⟨d0, e0⟩ := HR.out.cell hlt
      have i1 : (i : Int) < n := by omega
      have i2 : (0 : Int) ≤ i := by omega
      have hgB : w.heap.size ≤ g := by rw [HK.out]; exact Nat.le_refl _
      go_wp2
      go_roundw
      case rel => exact ⟨i + 1, by omega, by go_num, HBr.out.setCell hgB _, by show IRow _ _ _ _ _; rw [← fillL_set n i x hlt]; exact HR.out.set i x⟩
      case measure => simp [intOf]; omega
    · have hin : i = n := by omega
      have i1 : ¬ (i : Int) < n := by omega
      rw [hin] at HR
      clear hin
      go_wp2
      go_ret
      refine ⟨g, rfl, ?_, HBr.out⟩
      have := HR.out
      rw [show fillL n n x = List.replicate n x by simp [fillL]] at this
      exact this.base (by rw [HK.out]; exact Nat.le_refl _)
set_option maxRecDepth 100000 in
set_option maxHeartbeats 4000000 in
theorem degrees40 (m : Nat) (p : Option Addr) (es : List Pt) (cp : Nat) (w : World) (h : Has w p es) (hm : netB m es = true) : Calls Try.prog 30 #[nv m p es.length cp] w fun e w' => ∃ g, e = .returned (.slice (some ⟨g, 0, none⟩) m m) ∧ IRow w' w.heap.size g m (degN es m es.length) ∧ Below w.heap.size w w' := by
  obtain ⟨W, hW, hb, a0⟩ := one_net w m p es.length cp
  obtain ⟨n0, n1, hes, _⟩ := netB_is hm
  have HM := hide hm
  have HH := hide (h.later hb)
  have HB := hide hb
  have HA := hide a0
  have hws : w.heap.size < W.heap.size := block_lt_of_cell a0.1
  have hWs : W.heap.size = w.heap.size + 1 := by rw [hW]; simp
  clear h hb a0 hm
  obtain ⟨i0, hi0, hz0, hz1, hz2⟩ := info_parts info3
  go_enter Try.func30, Try.ntmps30
  go_wp2_with (refine wpList_make_full _ rfl (.tmp 6) (.tmp 6) 32 rfl (w.alloc (nbx m p es.length cp)).heap.size 3 i0 (.int .i64 0) 1 Try.underlying32 hi0 hz0 hz1 .i64 .i64 _ _ m rfl rfl rfl rfl ?c1 ?c2 ?c3 ?_)
  case c1 => rw [hz2]; omega
  case c2 => unfold maxLen; omega
  case c3 => exact Nat.le_refl _
  intro w2 hown hgrow
  have hgrow' : W.grownBy w2 none := by rw [hW]; exact hgrow
  have HR2 := hide (irow_made hown)
  have hb2 := below_made hgrow'
  have HB2 := hide hb2
  have HSZ := hide hWs
  clear hown hgrow hgrow' hb2 hW hWs
  go_wp2_with fail
  obtain ⟨g, hg⟩ : ∃ g, w.heap.size + 1 = g := ⟨_, rfl⟩
  obtain ⟨kb, hkb⟩ : ∃ kb, w.heap.size = kb := ⟨_, rfl⟩
  rw [hg] at HR2 HSZ ⊢
  rw [hkb] at HA hws ⊢
  have HK := hide (And.intro hg hkb)
  clear hg hkb
  go_loopw [4] (fun t wr => ∃ i : Nat, i ≤ 2 * es.length ∧ t = .int .i64 i ∧ Hid (Below W.heap.size W wr) ∧ Hid (IRow wr g g m (dgH es m i))) (fun t _ => 2 * es.length - (intOf t).toNat)
  case atStart => exact ⟨0, by omega, rfl, HB2.out, HR2.out⟩
  case round =>
    obtain ⟨i, hi, rfl, HBr, HR⟩ := hrel
    obtain ⟨q0, q1, _, _⟩ := HA.out.later HBr.out
    by_cases hlt : i < 2 * es.length
    · have F := hide (from50 m p es cp i wr (HH.out.later HBr.out) hlt (by omega))
      obtain ⟨f0, f1⟩ := fromL_in HM.out i hlt
      have hD : Hid (dgH es m (i + 1) = bump (dgH es m i) (fromL es i).toNat) := rfl
      obtain ⟨x, hx⟩ : ∃ x : Nat, fromL es i = x := ⟨(fromL es i).toNat, by omega⟩
      rw [hx] at F hD f0 f1
      rw [Int.toNat_natCast] at hD
      have bx := dgH_in es m i x (by omega)
      obtain ⟨D, hDD⟩ : ∃ D, dgH es m i = D := ⟨_, rfl⟩
      rw [hDD] at hD HR bx
      have hlt' : (i : Int) < 2 * es.length := by omega
      clear hx hDD
      go_wp2_with fail
      refine F.out.mono ?_
      rintro e w3 ⟨rfl, hb3⟩
      have HR3 := hide (HR.out.later hb3)
      have HB3 := hide (below_step HBr.out hb3)
      obtain ⟨d0, e0⟩ := HR3.out.cell (j := x) (by omega)
      have hgB : W.heap.size ≤ g := by rw [HSZ.out]; exact Nat.le_refl _
      clear hb3 F q0 q1
      go_wp2
      go_roundw
      case rel => exact ⟨i + 1, by omega, by go_num, HB3.out.setCell hgB _, by show IRow _ _ _ _ _; rw [hD.out]; exact HR3.out.set x _⟩
      case measure => simp [intOf]; omega
    · have hin : i = 2 * es.length := by omega
      have hlt' : ¬ (i : Int) < 2 * es.length := by omega
      rw [hin, dgH_even] at HR
      clear hin
      go_wp2
      go_ret
      refine ⟨g, rfl, HR.out.base ?_, below_step HB.out HBr.out⟩
      have := HK.out
      omega
set_option maxRecDepth 100000 in
set_option maxHeartbeats 4000000 in
theorem outs42 (m : Nat) (p : Option Addr) (es : List Pt) (cp : Nat) (w : World) (h : Has w p es) (hm : netB m es = true) : Calls Try.prog 42 #[nv m p es.length cp] w fun e w' => ∃ g rv, e = .returned (.slice (some ⟨g, 0, none⟩) m m) ∧ Rows w' w.heap.size g m rv (outL es (2 * es.length)) ∧ Below w.heap.size w w' := by
  obtain ⟨W, hW, hb, a0⟩ := one_net w m p es.length cp
  obtain ⟨n0, n1, hes, _⟩ := netB_is hm
  have HM := hide hm
  have HH := hide (h.later hb)
  have HB := hide hb
  have HA := hide a0
  have hws : w.heap.size < W.heap.size := block_lt_of_cell a0.1
  have hWs : W.heap.size = w.heap.size + 1 := by rw [hW]; simp
  clear h hb a0 hm
  obtain ⟨i0, hi0, hz0, hz1, hz2⟩ := info_parts info41
  go_enter Try.func42, Try.ntmps42
  go_wp2_with (refine wpList_make_full _ rfl (.tmp 6) (.tmp 6) 29 rfl (w.alloc (nbx m p es.length cp)).heap.size 32 i0 (.slice none 0 0) 1 Try.underlying29 hi0 hz0 hz1 .i64 .i64 _ _ m rfl rfl rfl rfl ?c1 ?c2 ?c3 ?_)
  case c1 => rw [hz2]; omega
  case c2 => unfold maxLen; omega
  case c3 => exact Nat.le_refl _
  intro w2 hown hgrow
  have hgrow' : W.grownBy w2 none := by rw [hW]; exact hgrow
  have HR2 := hide (rows_made es hown)
  have hb2 := below_made hgrow'
  have HB2 := hide hb2
  have HSZ := hide hWs
  clear hown hgrow hgrow' hb2 hW hWs
  go_wp2_with fail
  obtain ⟨g, hg⟩ : ∃ g, w.heap.size + 1 = g := ⟨_, rfl⟩
  obtain ⟨kb, hkb⟩ : ∃ kb, w.heap.size = kb := ⟨_, rfl⟩
  rw [hg] at HR2 HSZ ⊢
  rw [hkb] at HA hws ⊢
  have HK := hide (And.intro hg hkb)
  clear hg hkb
  go_loopw [4] (fun t wr => ∃ i : Nat, i ≤ 2 * es.length ∧ t = .int .i64 i ∧ Hid (Below W.heap.size W wr) ∧ Hid (∃ rv, Rows wr g g m rv (outL es i))) (fun t _ => 2 * es.length - (intOf t).toNat)
  case atStart => exact ⟨0, by omega, rfl, HB2.out, _, HR2.out⟩
  case round =>
    obtain ⟨i, hi, rfl, HBr, HR⟩ := hrel
    obtain ⟨q0, q1, _, _⟩ := HA.out.later HBr.out
    by_cases hlt : i < 2 * es.length
    · have F := hide (fun V hV => from50 m p es cp i V hV hlt (by omega))
      obtain ⟨f0, f1⟩ := fromL_in HM.out i hlt
      obtain ⟨x, hx⟩ : ∃ x : Nat, fromL es i = x := ⟨(fromL es i).toNat, by omega⟩
      have hD := hide (outL_more es i hx)
      rw [hx] at F f0 f1
      obtain ⟨rv, hrv⟩ := HR.out
      have hlt' : (i : Int) < 2 * es.length := by omega
      obtain ⟨d0, e0⟩ := hrv.cell (v := x) (by omega)
      clear hx
      go_wp2_with fail
      refine wp_region_held_drew (S := (fun W' => W'.cell? ⟨kb, 0, none⟩ = some (.int .i64 m) ∧ W'.cell? ⟨kb, 1, none⟩ = some (.slice p es.length cp))) (by kernel_rfl) (by exact ⟨q0, q1⟩) (fun hHeld => ?_)
      obtain ⟨V0, hV0⟩ : ∃ V, V = wr.drew := ⟨_, rfl⟩
      have HB0 : Hid (Below W.heap.size W V0) := by show Below _ _ _; rw [hV0]; exact below_step HBr.out (below_drew _)
      have HR0 : Hid (Rows V0 g g m rv (outL es i)) := by show Rows _ _ _ _ _ _; rw [hV0]; exact hrv.later (below_drew _)
      have HA0 := hide (HA.out.later HB0.out)
      have hxm : x < m := by omega
      have hkg : kb ≠ g := by have := HSZ.out; omega
      rw [← hV0] at hHeld ⊢
      clear hV0 hrv HR d0 e0 q0 q1
      obtain ⟨q0, q1, _, _⟩ := HA0.out
      refine wpAnyH_take (i := 0) (v := ?v1) rfl (by kernel_rfl) (by kernel_rfl) (by kernel_rfl) (fun _ _ _ h => h) (Or.inl ⟨by rfl, ?hy1⟩) (by assumption) ?rest1
      case hy1 => (intro w hSw; (try dsimp only at hSw); go_simp; try with_reducible rfl)
      try simp only [Act.put, List.setIfInBounds_toArray]
      refine wpAnyH_take (i := 1) (v := ?v2) rfl (by kernel_rfl) (by kernel_rfl) (by kernel_rfl) (fun _ _ _ h => h) (Or.inl ⟨by rfl, ?hy2⟩) (by assumption) ?rest2
      case hy2 => (intro w hSw; (try dsimp only at hSw); go_simp; try with_reducible rfl)
      try simp only [Act.put]
      refine wpAnyH_take (i := 2) (v := ?v3) rfl (by kernel_rfl) (by kernel_rfl) (by kernel_rfl) (fun _ _ _ h => h) (Or.inl ⟨by rfl, ?hy3⟩) (by assumption) ?rest3
      case hy3 => (intro w hSw; (try dsimp only at hSw); go_simp; try with_reducible rfl)
      try simp only [Act.put]
      refine wpAnyH_take (i := 4) (v := ?v4) rfl (by kernel_rfl) (by kernel_rfl) (by kernel_rfl) (fun _ _ _ h => h) (Or.inl ⟨by rfl, ?hy4⟩) (by assumption) ?rest4
      case hy4 => (intro w hSw; (try dsimp only at hSw); go_simp; try with_reducible rfl)
      try simp only [Act.put]
      refine wpAnyH_take (i := 5) (v := ?v5) rfl (by kernel_rfl) (by kernel_rfl) (by kernel_rfl) (fun _ _ _ h => h) (Or.inl ⟨by rfl, ?hy5⟩) (by assumption) ?rest5
      case hy5 => (intro w hSw; (try dsimp only at hSw); go_simp; try with_reducible rfl)
      try simp only [Act.put]
      refine wpAnyH_take (i := 6) (v := ?v6) rfl (by kernel_rfl) (by kernel_rfl) (by kernel_rfl) (fun _ _ _ h => h) (Or.inl ⟨by rfl, ?hy6⟩) (by assumption) ?rest6
      case hy6 => (intro w hSw; (try dsimp only at hSw); go_simp; try with_reducible rfl)
      try simp only [Act.put]
      refine wpAnyH_take (i := 10) (v := ?v7) rfl (by kernel_rfl) (by kernel_rfl) (by kernel_rfl) (fun _ _ _ h => h) (Or.inl ⟨by rfl, ?hy7⟩) (by assumption) ?rest7
      case hy7 => (intro w hSw; (try dsimp only at hSw); go_simp; try with_reducible rfl)
      try simp only [Act.put]
      refine wpAnyH_ready (rs := [3, 11]) (by kernel_rfl) (by simp) ?_
      refine AllReadyH.cons rfl (fun K hK => ?_) ?_
      · clear hHeld
        go_simp
        refine (F.out V0 (HH.out.later HB0.out)).mono ?_
        rintro e V1 ⟨rfl, hb2⟩
        have HB1 := hide (below_step HB0.out hb2)
        have HR1 := hide (HR0.out.later hb2)
        have HA1 := hide (HA0.out.later hb2)
        clear hb2 q0 q1
        obtain ⟨q0, q1, _, _⟩ := HA1.out
        refine hK.out _ _ (by first | exact ⟨q0, q1⟩ | (dsimp only; exact ⟨q0, q1⟩) | exact ⟨cell_other q0 hkg, cell_other q1 hkg⟩) (fun hHeld => ?_)
        clear hK K
        try simp only [Act.put, List.setIfInBounds_toArray, List.set_cons_zero, List.set_cons_succ]
        refine wpAnyH_ready (rs := [7, 11]) (by kernel_rfl) (by simp) ?_
        refine AllReadyH.cons rfl (fun K hK => ?_) ?_
        · clear hHeld
          go_simp
          refine (F.out V1 (HH.out.later HB1.out)).mono ?_
          rintro e V2 ⟨rfl, hb2⟩
          have HB2 := hide (below_step HB1.out hb2)
          have HR2 := hide (HR1.out.later hb2)
          have HA2 := hide (HA1.out.later hb2)
          clear hb2 q0 q1
          obtain ⟨q0, q1, _, _⟩ := HA2.out
          refine hK.out _ _ (by first | exact ⟨q0, q1⟩ | (dsimp only; exact ⟨q0, q1⟩) | exact ⟨cell_other q0 hkg, cell_other q1 hkg⟩) (fun hHeld => ?_)
          clear hK K
          try simp only [Act.put, List.setIfInBounds_toArray, List.set_cons_zero, List.set_cons_succ]
          refine wpAnyH_take (i := 8) (v := ?v8) rfl (by kernel_rfl) (by kernel_rfl) (by kernel_rfl) (fun _ _ _ h => h) (Or.inl ⟨by rfl, ?hy8⟩) (by assumption) ?rest8
          case hy8 => (intro w hSw; (try dsimp only at hSw); go_simp; try with_reducible rfl)
          try simp only [Act.put, List.setIfInBounds_toArray]
          refine wpAnyH_ready (rs := [9, 11]) (by kernel_rfl) (by simp) ?_
          refine AllReadyH.cons rfl (fun K hK => ?_) ?_
          · clear hHeld
            obtain ⟨d0, e0⟩ := HR2.out.cell (v := x) hxm
            go_simp
            clear d0 e0
            refine hK.out _ _ (by first | exact ⟨q0, q1⟩ | (dsimp only; exact ⟨q0, q1⟩) | exact ⟨cell_other q0 hkg, cell_other q1 hkg⟩) (fun hHeld => ?_)
            clear hK K
            try simp only [Act.put, List.setIfInBounds_toArray, List.set_cons_zero, List.set_cons_succ]
            refine wpAnyH_ready (rs := [11]) (by kernel_rfl) (by simp) ?_
            refine AllReadyH.cons rfl (fun K hK => ?_) ?_
            · clear hHeld
              go_simp
              obtain ⟨V3, hV⟩ : ∃ V, V = V2.alloc (.cells #[.int .i64 i] 3) := ⟨_, rfl⟩
              have hb2 : Below V2.heap.size V2 V3 := by rw [hV]; go_grown
              have HL3 : Hid (V3.cell? ⟨V2.heap.size, 0, none⟩ = some (.int .i64 i)) := by show _ = _; rw [hV]; exact one_int _ _
              rw [← hV]
              have HB3 := hide (below_step HB2.out hb2)
              have HR3 := hide (HR2.out.later hb2)
              have HA3 := hide (HA2.out.later hb2)
              clear hV hb2 q0 q1
              obtain ⟨q0, q1, _, _⟩ := HA3.out
              refine hK.out _ _ (by first | exact ⟨q0, q1⟩ | (dsimp only; exact ⟨q0, q1⟩) | exact ⟨cell_other q0 hkg, cell_other q1 hkg⟩) (fun hHeld => ?_)
              clear hK K
              try simp only [Act.put, List.setIfInBounds_toArray, List.set_cons_zero, List.set_cons_succ]
              refine wpAnyH_ready (rs := [12]) (by kernel_rfl) (by simp) ?_
              refine AllReadyH.cons rfl (fun K hK => ?_) ?_
              · clear hHeld
                have hrx := HR3.out.2.2 x hxm
                obtain ⟨v1, V4, e4, o4, gr4, at4⟩ := append_int hrx HL3.out (by have := HB3.out.size; have := HSZ.out; omega) (by have := outL_length es i x; omega)
                obtain ⟨p1, l1, c1, rfl⟩ : ∃ p1 l1 c1, v1 = .slice p1 l1 c1 := by obtain ⟨p1, c1, h1, _⟩ := o4.form; exact ⟨_, _, _, h1⟩
                have HB4 : Hid (Below W.heap.size W V4) := below_grown HB3.out hrx (by have := HSZ.out; omega) HB3.out.size gr4
                have HR4 := hide (HR3.out.put hxm o4 gr4 at4)
                have HA4 := hide (HA.out.later HB4.out)
                clear q0 q1
                obtain ⟨q0, q1, _, _⟩ := HA4.out
                have HE4 : Hid (g < V4.heap.size ∧ V4.cell? ⟨g, x, none⟩ = some (rv x) ∧ V4.frozen? ⟨g, x, none⟩ = false) := hide (Rows.slot HR3.out hxm gr4)
                refine step_run_append (by rfl) (.tmp 25) (.tmp 27) 32 (by rfl) 32 (by rfl) (rv x) (.slice (some ⟨V2.heap.size, 0, none⟩) 1 1) (.slice p1 l1 c1) V4 (by rfl) (by rfl) ?_ ?_
                with_reducible exact e4
                clear hrx o4 gr4 at4 e4
                refine hK.out _ _ (by first | exact ⟨q0, q1⟩ | (dsimp only; exact ⟨q0, q1⟩) | exact ⟨cell_other q0 hkg, cell_other q1 hkg⟩) (fun hHeld => ?_)
                clear hK K
                try simp only [Act.put, List.setIfInBounds_toArray]
                refine wpAnyH_take (i := 13) (v := ?v9) rfl (by kernel_rfl) (by kernel_rfl) (by kernel_rfl) (fun _ _ _ h => h) (Or.inl ⟨by rfl, ?hy9⟩) (by assumption) ?rest9
                case hy9 => (intro w hSw; (try dsimp only at hSw); go_simp; try with_reducible rfl)
                try simp only [Act.put]
                refine wpAnyH_ready (rs := [14]) (by kernel_rfl) (by simp) ?_
                refine AllReadyH.cons rfl (fun K hK => ?_) ?_
                · clear hHeld
                  obtain ⟨hgl, d0, e0⟩ := HE4.out
                  go_simp
                  clear d0 e0
                  refine hK.out _ _ (by first | exact ⟨q0, q1⟩ | (dsimp only; exact ⟨q0, q1⟩) | exact ⟨cell_other q0 hkg, cell_other q1 hkg⟩) (fun hHeld => ?_)
                  clear hK K
                  try simp only [Act.put, List.setIfInBounds_toArray, List.set_cons_zero, List.set_cons_succ]
                  refine wpAnyH_done (by kernel_rfl) ?_ _
                  clear hHeld
                  obtain ⟨V5, hV5⟩ : ∃ V, V = V4.setCell ⟨g, x, none⟩ (.slice p1 l1 c1) := ⟨_, rfl⟩
                  have HB5 : Hid (Below W.heap.size W V5) := by show Below _ _ _; rw [hV5]; exact HB4.out.setCell (by have := HSZ.out; simp; omega) _
                  rw [← hV5] at HR4
                  rw [← hV5]
                  clear hV5 HE4 HA0 HB0 HR0 HA1 HB1 HR1 HA2 HB2 HR2 HA3 HB3 HR3 q0 q1
                  go_wp2
                  go_roundw
                  case rel => exact ⟨i + 1, by omega, by go_num, HB5.out, _, by rw [hD.out]; exact HR4.out⟩
                  case measure => simp [intOf]; omega
                exact AllReadyH.nil
              exact AllReadyH.nil
            exact AllReadyH.nil
          refine AllReadyH.cons rfl (fun K hK => ?_) ?_
          · clear hHeld
            go_simp
            obtain ⟨V3, hV⟩ : ∃ V, V = V2.alloc (.cells #[.int .i64 i] 3) := ⟨_, rfl⟩
            have hb2 : Below V2.heap.size V2 V3 := by rw [hV]; go_grown
            have HL3 : Hid (V3.cell? ⟨V2.heap.size, 0, none⟩ = some (.int .i64 i)) := by show _ = _; rw [hV]; exact one_int _ _
            rw [← hV]
            have HB3 := hide (below_step HB2.out hb2)
            have HR3 := hide (HR2.out.later hb2)
            have HA3 := hide (HA2.out.later hb2)
            clear hV hb2 q0 q1
            obtain ⟨q0, q1, _, _⟩ := HA3.out
            refine hK.out _ _ (by first | exact ⟨q0, q1⟩ | (dsimp only; exact ⟨q0, q1⟩) | exact ⟨cell_other q0 hkg, cell_other q1 hkg⟩) (fun hHeld => ?_)
            clear hK K
            try simp only [Act.put, List.setIfInBounds_toArray, List.set_cons_zero, List.set_cons_succ]
            refine wpAnyH_ready (rs := [9]) (by kernel_rfl) (by simp) ?_
            refine AllReadyH.cons rfl (fun K hK => ?_) ?_
            · clear hHeld
              obtain ⟨d0, e0⟩ := HR3.out.cell (v := x) hxm
              go_simp
              clear d0 e0
              refine hK.out _ _ (by first | exact ⟨q0, q1⟩ | (dsimp only; exact ⟨q0, q1⟩) | exact ⟨cell_other q0 hkg, cell_other q1 hkg⟩) (fun hHeld => ?_)
              clear hK K
              try simp only [Act.put, List.setIfInBounds_toArray, List.set_cons_zero, List.set_cons_succ]
              refine wpAnyH_ready (rs := [12]) (by kernel_rfl) (by simp) ?_
              refine AllReadyH.cons rfl (fun K hK => ?_) ?_
              · clear hHeld
                have hrx := HR3.out.2.2 x hxm
                obtain ⟨v1, V4, e4, o4, gr4, at4⟩ := append_int hrx HL3.out (by have := HB3.out.size; have := HSZ.out; omega) (by have := outL_length es i x; omega)
                obtain ⟨p1, l1, c1, rfl⟩ : ∃ p1 l1 c1, v1 = .slice p1 l1 c1 := by obtain ⟨p1, c1, h1, _⟩ := o4.form; exact ⟨_, _, _, h1⟩
                have HB4 : Hid (Below W.heap.size W V4) := below_grown HB3.out hrx (by have := HSZ.out; omega) HB3.out.size gr4
                have HR4 := hide (HR3.out.put hxm o4 gr4 at4)
                have HA4 := hide (HA.out.later HB4.out)
                clear q0 q1
                obtain ⟨q0, q1, _, _⟩ := HA4.out
                have HE4 : Hid (g < V4.heap.size ∧ V4.cell? ⟨g, x, none⟩ = some (rv x) ∧ V4.frozen? ⟨g, x, none⟩ = false) := hide (Rows.slot HR3.out hxm gr4)
                refine step_run_append (by rfl) (.tmp 25) (.tmp 27) 32 (by rfl) 32 (by rfl) (rv x) (.slice (some ⟨V2.heap.size, 0, none⟩) 1 1) (.slice p1 l1 c1) V4 (by rfl) (by rfl) ?_ ?_
                with_reducible exact e4
                clear hrx o4 gr4 at4 e4
                refine hK.out _ _ (by first | exact ⟨q0, q1⟩ | (dsimp only; exact ⟨q0, q1⟩) | exact ⟨cell_other q0 hkg, cell_other q1 hkg⟩) (fun hHeld => ?_)
                clear hK K
                try simp only [Act.put, List.setIfInBounds_toArray]
                refine wpAnyH_take (i := 13) (v := ?v10) rfl (by kernel_rfl) (by kernel_rfl) (by kernel_rfl) (fun _ _ _ h => h) (Or.inl ⟨by rfl, ?hy10⟩) (by assumption) ?rest10
                case hy10 => (intro w hSw; (try dsimp only at hSw); go_simp; try with_reducible rfl)
                try simp only [Act.put]
                refine wpAnyH_ready (rs := [14]) (by kernel_rfl) (by simp) ?_
                refine AllReadyH.cons rfl (fun K hK => ?_) ?_
                · clear hHeld
                  obtain ⟨hgl, d0, e0⟩ := HE4.out
                  go_simp
                  clear d0 e0
                  refine hK.out _ _ (by first | exact ⟨q0, q1⟩ | (dsimp only; exact ⟨q0, q1⟩) | exact ⟨cell_other q0 hkg, cell_other q1 hkg⟩) (fun hHeld => ?_)
                  clear hK K
                  try simp only [Act.put, List.setIfInBounds_toArray, List.set_cons_zero, List.set_cons_succ]
                  refine wpAnyH_done (by kernel_rfl) ?_ _
                  clear hHeld
                  obtain ⟨V5, hV5⟩ : ∃ V, V = V4.setCell ⟨g, x, none⟩ (.slice p1 l1 c1) := ⟨_, rfl⟩
                  have HB5 : Hid (Below W.heap.size W V5) := by show Below _ _ _; rw [hV5]; exact HB4.out.setCell (by have := HSZ.out; simp; omega) _
                  rw [← hV5] at HR4
                  rw [← hV5]
                  clear hV5 HE4 HA0 HB0 HR0 HA1 HB1 HR1 HA2 HB2 HR2 HA3 HB3 HR3 q0 q1
                  go_wp2
                  go_roundw
                  case rel => exact ⟨i + 1, by omega, by go_num, HB5.out, _, by rw [hD.out]; exact HR4.out⟩
                  case measure => simp [intOf]; omega
                exact AllReadyH.nil
              exact AllReadyH.nil
            exact AllReadyH.nil
          exact AllReadyH.nil
        refine AllReadyH.cons rfl (fun K hK => ?_) ?_
        · clear hHeld
          go_simp
          obtain ⟨V2, hV⟩ : ∃ V, V = V1.alloc (.cells #[.int .i64 i] 3) := ⟨_, rfl⟩
          have hb2 : Below V1.heap.size V1 V2 := by rw [hV]; go_grown
          have HL2 : Hid (V2.cell? ⟨V1.heap.size, 0, none⟩ = some (.int .i64 i)) := by show _ = _; rw [hV]; exact one_int _ _
          rw [← hV]
          have HB2 := hide (below_step HB1.out hb2)
          have HR2 := hide (HR1.out.later hb2)
          have HA2 := hide (HA1.out.later hb2)
          clear hV hb2 q0 q1
          obtain ⟨q0, q1, _, _⟩ := HA2.out
          refine hK.out _ _ (by first | exact ⟨q0, q1⟩ | (dsimp only; exact ⟨q0, q1⟩) | exact ⟨cell_other q0 hkg, cell_other q1 hkg⟩) (fun hHeld => ?_)
          clear hK K
          try simp only [Act.put, List.setIfInBounds_toArray, List.set_cons_zero, List.set_cons_succ]
          refine wpAnyH_ready (rs := [7]) (by kernel_rfl) (by simp) ?_
          refine AllReadyH.cons rfl (fun K hK => ?_) ?_
          · clear hHeld
            go_simp
            refine (F.out V2 (HH.out.later HB2.out)).mono ?_
            rintro e V3 ⟨rfl, hb2⟩
            have HB3 := hide (below_step HB2.out hb2)
            have HR3 := hide (HR2.out.later hb2)
            have HA3 := hide (HA2.out.later hb2)
            have HL3 := hide (later hb2 HL2.out)
            clear hb2 q0 q1
            obtain ⟨q0, q1, _, _⟩ := HA3.out
            refine hK.out _ _ (by first | exact ⟨q0, q1⟩ | (dsimp only; exact ⟨q0, q1⟩) | exact ⟨cell_other q0 hkg, cell_other q1 hkg⟩) (fun hHeld => ?_)
            clear hK K
            try simp only [Act.put, List.setIfInBounds_toArray, List.set_cons_zero, List.set_cons_succ]
            refine wpAnyH_take (i := 8) (v := ?v11) rfl (by kernel_rfl) (by kernel_rfl) (by kernel_rfl) (fun _ _ _ h => h) (Or.inl ⟨by rfl, ?hy11⟩) (by assumption) ?rest11
            case hy11 => (intro w hSw; (try dsimp only at hSw); go_simp; try with_reducible rfl)
            try simp only [Act.put, List.setIfInBounds_toArray]
            refine wpAnyH_ready (rs := [9]) (by kernel_rfl) (by simp) ?_
            refine AllReadyH.cons rfl (fun K hK => ?_) ?_
            · clear hHeld
              obtain ⟨d0, e0⟩ := HR3.out.cell (v := x) hxm
              go_simp
              clear d0 e0
              refine hK.out _ _ (by first | exact ⟨q0, q1⟩ | (dsimp only; exact ⟨q0, q1⟩) | exact ⟨cell_other q0 hkg, cell_other q1 hkg⟩) (fun hHeld => ?_)
              clear hK K
              try simp only [Act.put, List.setIfInBounds_toArray, List.set_cons_zero, List.set_cons_succ]
              refine wpAnyH_ready (rs := [12]) (by kernel_rfl) (by simp) ?_
              refine AllReadyH.cons rfl (fun K hK => ?_) ?_
              · clear hHeld
                have hrx := HR3.out.2.2 x hxm
                obtain ⟨v1, V4, e4, o4, gr4, at4⟩ := append_int hrx HL3.out (by have := HB3.out.size; have := HSZ.out; omega) (by have := outL_length es i x; omega)
                obtain ⟨p1, l1, c1, rfl⟩ : ∃ p1 l1 c1, v1 = .slice p1 l1 c1 := by obtain ⟨p1, c1, h1, _⟩ := o4.form; exact ⟨_, _, _, h1⟩
                have HB4 : Hid (Below W.heap.size W V4) := below_grown HB3.out hrx (by have := HSZ.out; omega) HB3.out.size gr4
                have HR4 := hide (HR3.out.put hxm o4 gr4 at4)
                have HA4 := hide (HA.out.later HB4.out)
                clear q0 q1
                obtain ⟨q0, q1, _, _⟩ := HA4.out
                have HE4 : Hid (g < V4.heap.size ∧ V4.cell? ⟨g, x, none⟩ = some (rv x) ∧ V4.frozen? ⟨g, x, none⟩ = false) := hide (Rows.slot HR3.out hxm gr4)
                refine step_run_append (by rfl) (.tmp 25) (.tmp 27) 32 (by rfl) 32 (by rfl) (rv x) (.slice (some ⟨V1.heap.size, 0, none⟩) 1 1) (.slice p1 l1 c1) V4 (by rfl) (by rfl) ?_ ?_
                with_reducible exact e4
                clear hrx o4 gr4 at4 e4
                refine hK.out _ _ (by first | exact ⟨q0, q1⟩ | (dsimp only; exact ⟨q0, q1⟩) | exact ⟨cell_other q0 hkg, cell_other q1 hkg⟩) (fun hHeld => ?_)
                clear hK K
                try simp only [Act.put, List.setIfInBounds_toArray]
                refine wpAnyH_take (i := 13) (v := ?v12) rfl (by kernel_rfl) (by kernel_rfl) (by kernel_rfl) (fun _ _ _ h => h) (Or.inl ⟨by rfl, ?hy12⟩) (by assumption) ?rest12
                case hy12 => (intro w hSw; (try dsimp only at hSw); go_simp; try with_reducible rfl)
                try simp only [Act.put]
                refine wpAnyH_ready (rs := [14]) (by kernel_rfl) (by simp) ?_
                refine AllReadyH.cons rfl (fun K hK => ?_) ?_
                · clear hHeld
                  obtain ⟨hgl, d0, e0⟩ := HE4.out
                  go_simp
                  clear d0 e0
                  refine hK.out _ _ (by first | exact ⟨q0, q1⟩ | (dsimp only; exact ⟨q0, q1⟩) | exact ⟨cell_other q0 hkg, cell_other q1 hkg⟩) (fun hHeld => ?_)
                  clear hK K
                  try simp only [Act.put, List.setIfInBounds_toArray, List.set_cons_zero, List.set_cons_succ]
                  refine wpAnyH_done (by kernel_rfl) ?_ _
                  clear hHeld
                  obtain ⟨V5, hV5⟩ : ∃ V, V = V4.setCell ⟨g, x, none⟩ (.slice p1 l1 c1) := ⟨_, rfl⟩
                  have HB5 : Hid (Below W.heap.size W V5) := by show Below _ _ _; rw [hV5]; exact HB4.out.setCell (by have := HSZ.out; simp; omega) _
                  rw [← hV5] at HR4
                  rw [← hV5]
                  clear hV5 HE4 HA0 HB0 HR0 HA1 HB1 HR1 HA2 HB2 HR2 HA3 HB3 HR3 q0 q1
                  go_wp2
                  go_roundw
                  case rel => exact ⟨i + 1, by omega, by go_num, HB5.out, _, by rw [hD.out]; exact HR4.out⟩
                  case measure => simp [intOf]; omega
                exact AllReadyH.nil
              exact AllReadyH.nil
            exact AllReadyH.nil
          exact AllReadyH.nil
        exact AllReadyH.nil
      refine AllReadyH.cons rfl (fun K hK => ?_) ?_
      · clear hHeld
        go_simp
        obtain ⟨V1, hV⟩ : ∃ V, V = V0.alloc (.cells #[.int .i64 i] 3) := ⟨_, rfl⟩
        have hb2 : Below V0.heap.size V0 V1 := by rw [hV]; go_grown
        have HL1 : Hid (V1.cell? ⟨V0.heap.size, 0, none⟩ = some (.int .i64 i)) := by show _ = _; rw [hV]; exact one_int _ _
        rw [← hV]
        have HB1 := hide (below_step HB0.out hb2)
        have HR1 := hide (HR0.out.later hb2)
        have HA1 := hide (HA0.out.later hb2)
        clear hV hb2 q0 q1
        obtain ⟨q0, q1, _, _⟩ := HA1.out
        refine hK.out _ _ (by first | exact ⟨q0, q1⟩ | (dsimp only; exact ⟨q0, q1⟩) | exact ⟨cell_other q0 hkg, cell_other q1 hkg⟩) (fun hHeld => ?_)
        clear hK K
        try simp only [Act.put, List.setIfInBounds_toArray, List.set_cons_zero, List.set_cons_succ]
        refine wpAnyH_ready (rs := [3]) (by kernel_rfl) (by simp) ?_
        refine AllReadyH.cons rfl (fun K hK => ?_) ?_
        · clear hHeld
          go_simp
          refine (F.out V1 (HH.out.later HB1.out)).mono ?_
          rintro e V2 ⟨rfl, hb2⟩
          have HB2 := hide (below_step HB1.out hb2)
          have HR2 := hide (HR1.out.later hb2)
          have HA2 := hide (HA1.out.later hb2)
          have HL2 := hide (later hb2 HL1.out)
          clear hb2 q0 q1
          obtain ⟨q0, q1, _, _⟩ := HA2.out
          refine hK.out _ _ (by first | exact ⟨q0, q1⟩ | (dsimp only; exact ⟨q0, q1⟩) | exact ⟨cell_other q0 hkg, cell_other q1 hkg⟩) (fun hHeld => ?_)
          clear hK K
          try simp only [Act.put, List.setIfInBounds_toArray, List.set_cons_zero, List.set_cons_succ]
          refine wpAnyH_ready (rs := [7]) (by kernel_rfl) (by simp) ?_
          refine AllReadyH.cons rfl (fun K hK => ?_) ?_
          · clear hHeld
            go_simp
            refine (F.out V2 (HH.out.later HB2.out)).mono ?_
            rintro e V3 ⟨rfl, hb2⟩
            have HB3 := hide (below_step HB2.out hb2)
            have HR3 := hide (HR2.out.later hb2)
            have HA3 := hide (HA2.out.later hb2)
            have HL3 := hide (later hb2 HL2.out)
            clear hb2 q0 q1
            obtain ⟨q0, q1, _, _⟩ := HA3.out
            refine hK.out _ _ (by first | exact ⟨q0, q1⟩ | (dsimp only; exact ⟨q0, q1⟩) | exact ⟨cell_other q0 hkg, cell_other q1 hkg⟩) (fun hHeld => ?_)
            clear hK K
            try simp only [Act.put, List.setIfInBounds_toArray, List.set_cons_zero, List.set_cons_succ]
            refine wpAnyH_take (i := 8) (v := ?v13) rfl (by kernel_rfl) (by kernel_rfl) (by kernel_rfl) (fun _ _ _ h => h) (Or.inl ⟨by rfl, ?hy13⟩) (by assumption) ?rest13
            case hy13 => (intro w hSw; (try dsimp only at hSw); go_simp; try with_reducible rfl)
            try simp only [Act.put, List.setIfInBounds_toArray]
            refine wpAnyH_ready (rs := [9]) (by kernel_rfl) (by simp) ?_
            refine AllReadyH.cons rfl (fun K hK => ?_) ?_
            · clear hHeld
              obtain ⟨d0, e0⟩ := HR3.out.cell (v := x) hxm
              go_simp
              clear d0 e0
              refine hK.out _ _ (by first | exact ⟨q0, q1⟩ | (dsimp only; exact ⟨q0, q1⟩) | exact ⟨cell_other q0 hkg, cell_other q1 hkg⟩) (fun hHeld => ?_)
              clear hK K
              try simp only [Act.put, List.setIfInBounds_toArray, List.set_cons_zero, List.set_cons_succ]
              refine wpAnyH_ready (rs := [12]) (by kernel_rfl) (by simp) ?_
              refine AllReadyH.cons rfl (fun K hK => ?_) ?_
              · clear hHeld
                have hrx := HR3.out.2.2 x hxm
                obtain ⟨v1, V4, e4, o4, gr4, at4⟩ := append_int hrx HL3.out (by have := HB3.out.size; have := HSZ.out; omega) (by have := outL_length es i x; omega)
                obtain ⟨p1, l1, c1, rfl⟩ : ∃ p1 l1 c1, v1 = .slice p1 l1 c1 := by obtain ⟨p1, c1, h1, _⟩ := o4.form; exact ⟨_, _, _, h1⟩
                have HB4 : Hid (Below W.heap.size W V4) := below_grown HB3.out hrx (by have := HSZ.out; omega) HB3.out.size gr4
                have HR4 := hide (HR3.out.put hxm o4 gr4 at4)
                have HA4 := hide (HA.out.later HB4.out)
                clear q0 q1
                obtain ⟨q0, q1, _, _⟩ := HA4.out
                have HE4 : Hid (g < V4.heap.size ∧ V4.cell? ⟨g, x, none⟩ = some (rv x) ∧ V4.frozen? ⟨g, x, none⟩ = false) := hide (Rows.slot HR3.out hxm gr4)
                refine step_run_append (by rfl) (.tmp 25) (.tmp 27) 32 (by rfl) 32 (by rfl) (rv x) (.slice (some ⟨V0.heap.size, 0, none⟩) 1 1) (.slice p1 l1 c1) V4 (by rfl) (by rfl) ?_ ?_
                with_reducible exact e4
                clear hrx o4 gr4 at4 e4
                refine hK.out _ _ (by first | exact ⟨q0, q1⟩ | (dsimp only; exact ⟨q0, q1⟩) | exact ⟨cell_other q0 hkg, cell_other q1 hkg⟩) (fun hHeld => ?_)
                clear hK K
                try simp only [Act.put, List.setIfInBounds_toArray]
                refine wpAnyH_take (i := 13) (v := ?v14) rfl (by kernel_rfl) (by kernel_rfl) (by kernel_rfl) (fun _ _ _ h => h) (Or.inl ⟨by rfl, ?hy14⟩) (by assumption) ?rest14
                case hy14 => (intro w hSw; (try dsimp only at hSw); go_simp; try with_reducible rfl)
                try simp only [Act.put]
                refine wpAnyH_ready (rs := [14]) (by kernel_rfl) (by simp) ?_
                refine AllReadyH.cons rfl (fun K hK => ?_) ?_
                · clear hHeld
                  obtain ⟨hgl, d0, e0⟩ := HE4.out
                  go_simp
                  clear d0 e0
                  refine hK.out _ _ (by first | exact ⟨q0, q1⟩ | (dsimp only; exact ⟨q0, q1⟩) | exact ⟨cell_other q0 hkg, cell_other q1 hkg⟩) (fun hHeld => ?_)
                  clear hK K
                  try simp only [Act.put, List.setIfInBounds_toArray, List.set_cons_zero, List.set_cons_succ]
                  refine wpAnyH_done (by kernel_rfl) ?_ _
                  clear hHeld
                  obtain ⟨V5, hV5⟩ : ∃ V, V = V4.setCell ⟨g, x, none⟩ (.slice p1 l1 c1) := ⟨_, rfl⟩
                  have HB5 : Hid (Below W.heap.size W V5) := by show Below _ _ _; rw [hV5]; exact HB4.out.setCell (by have := HSZ.out; simp; omega) _
                  rw [← hV5] at HR4
                  rw [← hV5]
                  clear hV5 HE4 HA0 HB0 HR0 HA1 HB1 HR1 HA2 HB2 HR2 HA3 HB3 HR3 q0 q1
                  go_wp2
                  go_roundw
                  case rel => exact ⟨i + 1, by omega, by go_num, HB5.out, _, by rw [hD.out]; exact HR4.out⟩
                  case measure => simp [intOf]; omega
                exact AllReadyH.nil
              exact AllReadyH.nil
            exact AllReadyH.nil
          exact AllReadyH.nil
        exact AllReadyH.nil
      exact AllReadyH.nil
    · have hin : i = 2 * es.length := by omega
      have hlt' : ¬ (i : Int) < 2 * es.length := by omega
      rw [hin] at HR
      clear hin
      obtain ⟨rv, hrv⟩ := HR.out
      go_wp2
      go_ret
      refine ⟨g, rfl, ⟨rv, hrv.base ?_⟩, below_step HB.out HBr.out⟩
      have := HK.out
      omega
end Go.Proofs.Ytobkejnlkjieoaa
