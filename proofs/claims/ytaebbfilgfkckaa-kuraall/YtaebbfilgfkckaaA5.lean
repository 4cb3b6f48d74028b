/- The document's outs, in every world. -/
import Derived.Test.YtaebbfilgfkckaaA4
namespace Go.Proofs.Ytaebbfilgfkckaa
open Go.RowKit Go.Sort
open Go
/-- A row of truths. -/
def BRow (w : World) (base g n : Nat) (f : Nat → Bool) : Prop := w.ownsRow base 4 1 (.slice (some ⟨g, 0, none⟩) n n) n ((List.range n).map fun i => .bool (f i))
theorem BRow.later {w w' : World} {base g n : Nat} {f : Nat → Bool} (h : BRow w base g n f) (hb : Below w.heap.size w w') : BRow w' base g n f := World.ownsRow.kept h (grown_below hb) (Or.inr (by simp [Value.ownBlock]))
theorem BRow.cell {w : World} {base g n : Nat} {f : Nat → Bool} (h : BRow w base g n f) {i : Nat} (hi : i < n) : w.cell? ⟨g, i, none⟩ = some (.bool (f i)) ∧ w.frozen? ⟨g, i, none⟩ = false := by
  refine ⟨?_, World.ownsRow.frozenAt h i⟩
  rw [World.ownsRow.cellAt h i (by omega)]
  simp [hi]
theorem BRow.lt {w : World} {base g n : Nat} {f : Nat → Bool} (h : BRow w base g n f) : base ≤ g ∧ g < w.heap.size := World.ownsRow.lt h g rfl
theorem BRow.set {w : World} {base g n : Nat} {f : Nat → Bool} (h : BRow w base g n f) {i : Nat} (_hi : i < n) : BRow (w.setCell ⟨g, i, none⟩ (.bool true)) base g n (fun x => if x = i then true else f x) := by
  have q := (World.ownsRow.stored h i (.bool true)).1
  unfold BRow
  rw [show ((List.range n).map fun x => Value.bool (if x = i then true else f x)) = ((List.range n).map fun x => Value.bool (f x)).set i (.bool true) from ?_]
  · exact q
  · refine List.ext_getElem (by simp) ?_
    intro k h1 h2
    simp only [List.getElem_map, List.getElem_range, List.getElem_set]
    by_cases e : i = k
    · rw [if_pos e, if_pos e.symm]
    · rw [if_neg e, if_neg (fun h => e h.symm)]
theorem BRow.congr {w : World} {base g n : Nat} {f f' : Nat → Bool} (h : BRow w base g n f) (he : ∀ i, i < n → f i = f' i) : BRow w base g n f' := by
  unfold BRow at h ⊢
  rw [show ((List.range n).map fun x => Value.bool (f' x)) = ((List.range n).map fun x => Value.bool (f x)) from ?_]
  · exact h
  · refine List.map_congr_left ?_
    intro i hi
    rw [he i (List.mem_range.1 hi)]
theorem brow_made {w : World} {base g n : Nat} (h : w.ownsRow base 4 1 (.slice (some ⟨g, 0, none⟩) n n) n (madeCells #[.bool false] n).toList) : BRow w base g n (fun _ => false) := by
  unfold BRow
  rw [show ((List.range n).map fun _ => Value.bool false) = (madeCells #[.bool false] n).toList from ?_]
  · exact h
  · rw [toList_madeCells_one]
    refine List.ext_getElem (by simp) ?_
    intro k h1 h2
    simp
theorem eoL_in {es : List Pt} {l : List Int} {h x : Nat} (hl : ((h / 2 : Nat) : Int) ∈ l) (hx : fromL es h = x) : eoL es l (h + 1) = upd (eoL es l h) x (eoL es l h x ++ [(h : Int)]) := by
  funext v
  unfold upd eoL
  rw [List.range_succ, List.filter_append, List.map_append]
  by_cases hv : v = x
  · subst hv; simp only [List.filter_cons, hl, hx]; simp
  · have : ¬ (x : Int) = v := by omega
    simp only [List.filter_cons, hx, this]; simp [hv]
theorem eoL_out {es : List Pt} {l : List Int} {h : Nat} (hl : ¬ ((h / 2 : Nat) : Int) ∈ l) : eoL es l (h + 1) = eoL es l h := by
  funext v
  unfold eoL
  rw [List.range_succ, List.filter_append, List.map_append]
  simp only [List.filter_cons, hl]; simp
theorem eoL_length (es : List Pt) (l : List Int) (h v : Nat) : (eoL es l h v).length ≤ h := by
  unfold eoL
  rw [List.length_map]
  exact Nat.le_trans (List.length_filter_le _ _) (by simp)
theorem in_more {l : List Int} {i z : Nat} (hi : i < l.length) (hz : iat l i = z) (x : Nat) : (if x = z then true else decide ((x : Int) ∈ l.take i)) = decide ((x : Int) ∈ l.take (i + 1)) := by
  have e : l[i] = (z : Int) := by
    rw [← hz]; unfold iat; rw [List.getD_eq_getElem?_getD, List.getElem?_eq_getElem hi]; rfl
  rw [List.take_add_one, List.getElem?_eq_getElem hi, e, Option.toList_some]
  by_cases h : x = z
  · subst h; simp
  · rw [if_neg h]
    have : ¬ (x : Int) = z := by omega
    simp [this]
theorem rows_nil {w : World} {base g n : Nat} (es : List Pt) (l : List Int) (h : w.ownsRow base 25 1 (.slice (some ⟨g, 0, none⟩) n n) n (madeCells #[.slice none 0 0] n).toList) : Rows w base g n (fun _ => .slice none 0 0) (eoL es l 0) := by
  rw [toList_madeCells_one] at h
  refine ⟨?_, fun u v k _ _ e => by simp [Value.ownBlock] at e, fun v _ => IOwns.nil _ _⟩
  rw [show ((List.range n).map fun _ => Value.slice none 0 0) = List.replicate n (.slice none 0 0) from by apply List.ext_getElem <;> simp]
  exact h
set_option maxRecDepth 100000 in
set_option maxHeartbeats 16000000 in
theorem outs34 (m : Nat) (p q : Option Addr) (es : List Pt) (l : List Int) (cp cq : Nat) (w : World) (h : Has w p es) (k : IHas w q l) (hs : subE m es l = 0) : Calls Try.prog 34 #[nv m p es.length cp, .slice q l.length cq] w fun e w' => ∃ g rv, e = .returned (.slice (some ⟨g, 0, none⟩) m m) ∧ Rows w' w.heap.size g m rv (eoL es l (2 * es.length)) ∧ Below w.heap.size w w' := by
  obtain ⟨W, hW, hb, a0⟩ := one_net w m p es.length cp
  obtain ⟨hm, hin, _⟩ := sub_ok hs
  have hll := sub_len hs
  obtain ⟨n0, n1, hes, _⟩ := netB_is hm
  have HM := hide hm
  have HIN := hide hin
  have HH := hide (h.later hb)
  have HK0 := hide (k.later hb)
  have HB := hide hb
  have HA := hide a0
  have hws : w.heap.size < W.heap.size := block_lt_of_cell a0.1
  have hWs : W.heap.size = w.heap.size + 1 := by rw [hW]; simp
  obtain ⟨q0, q1, _, _⟩ := a0
  clear h k hb hm hin
  obtain ⟨j0, hj0, jz0, jz1, jz2⟩ := info_parts info4
  obtain ⟨i0, hi0, hz0, hz1, hz2⟩ := info_parts info41
  go_enter Try.func34, Try.ntmps34
  go_wp2_with (refine wpList_make_full _ rfl (.tmp 11) (.tmp 11) 88 rfl W.heap.size 4 j0 (.bool false) 1 Try.underlying88 hj0 jz0 jz1 .i64 .i64 _ _ es.length rfl rfl rfl rfl ?c1 ?c2 ?c3 ?_)
  case c1 => rw [jz2]; omega
  case c2 => unfold maxLen; omega
  case c3 => exact Nat.le_of_eq (by rw [hW])
  intro w2 hown hgrow
  have hb2 : Below W.heap.size W w2 := by rw [hW]; exact below_made hgrow
  have hgp := brow_made hown
  rw [← hWs] at hgp
  try rw [← hWs]
  obtain ⟨gb, hgb⟩ : ∃ g, W.heap.size = g := ⟨_, rfl⟩
  have HGB := hide hgb
  obtain ⟨kb, hkb⟩ : ∃ kb, w.heap.size = kb := ⟨_, rfl⟩
  have HKB := hide hkb
  have HI0 : Hid (BRow w2 gb gb es.length (fun x => decide ((x : Int) ∈ l.take 0))) := by
    show BRow _ _ _ _ _
    rw [hgb] at hgp
    exact hgp.congr (fun i _ => by simp)
  have HB2 := hide hb2
  try rw [hgb]
  rw [hkb] at HA hws ⊢
  clear hown hgrow hgp hW hWs hb2 hgb hkb q0 q1
  go_wp2_with fail
  go_loopw [6] (fun t wr => ∃ i : Nat, i ≤ l.length ∧ t = .int .i64 i ∧ Hid (Below W.heap.size W wr) ∧ Hid (BRow wr gb gb es.length (fun x => decide ((x : Int) ∈ l.take i)))) (fun t _ => l.length - (intOf t).toNat)
  case atStart => exact ⟨0, by omega, rfl, HB2.out, HI0.out⟩
  case round =>
    obtain ⟨i, hi, rfl, HBr, HR⟩ := hrel
    clear HI0 HB2
    by_cases hlt : i < l.length
    · have j1 : (i : Int) < l.length := by omega
      obtain ⟨e0, e1⟩ := HIN.out i hlt
      obtain ⟨z, hz⟩ : ∃ z : Nat, iat l i = z := ⟨(iat l i).toNat, by omega⟩
      have hzl : z < es.length := by omega
      obtain ⟨bl, ol, rfl, hLl⟩ : ∃ b off, q = some ⟨b, off, none⟩ ∧ ILies W b off l := by
        rcases HK0.out with e | e
        · rw [e] at hlt; simp at hlt
        · exact e
      have c0 := later HBr.out (hLl i hlt)
      rw [hz] at c0
      have HMR := hide (fun x => in_more hlt hz x)
      obtain ⟨d0, d1⟩ := HR.out.cell (i := z) hzl
      have z1 : (z : Int) < es.length := by omega
      have z0 : (0 : Int) ≤ z := by omega
      have nbl : bl ≠ gb := by have h2 : bl < W.heap.size := block_lt_of_cell (hLl i hlt); have := HGB.out; omega
      clear hLl hz e0 e1
      have HX : Hid (Below W.heap.size W (wr.setCell ⟨gb, z, none⟩ (.bool true))) := HBr.out.setCell (by exact Nat.le_of_eq HGB.out) _
      have HY : Hid (BRow (wr.setCell ⟨gb, z, none⟩ (.bool true)) gb gb es.length (fun x => decide ((x : Int) ∈ l.take (i + 1)))) := (HR.out.set hzl).congr fun x _ => HMR.out x
      go_wp2_with fail
      go_roundw
      case rel => exact ⟨i + 1, by omega, by go_num, HX.out, HY.out⟩
      case measure => simp [intOf]; omega
    · have hin : i = l.length := by omega
      have j1 : ¬ (i : Int) < l.length := by omega
      obtain ⟨W1, hW1⟩ : ∃ V, wr = V := ⟨_, rfl⟩
      rw [hW1] at HBr HR ⊢
      have HBR : Hid (BRow W1 gb gb es.length (fun x => decide ((x : Int) ∈ l))) := HR.out.congr fun x _ => by rw [hin, List.take_length]
      have HE := hide (below_step HB.out HBr.out)
      have HH := hide (HH.out.later HBr.out)
      have HA := hide (HA.out.later HBr.out)
      obtain ⟨q0, q1, _, _⟩ := HA.out
      clear HR HBr hin hi hW1
      go_wp2_with (refine wpList_make_full _ rfl (.tmp 26) (.tmp 26) 30 rfl W1.heap.size 25 i0 (.slice none 0 0) 1 Try.underlying30 hi0 hz0 hz1 .i64 .i64 _ _ m rfl rfl rfl rfl ?d1 ?d2 ?d3 ?_)
      case d1 => first | omega | (rw [hz2]; omega)
      case d2 => unfold maxLen; omega
      try (case d3 => exact Nat.le_refl _)
      intro w3 hown hgrow
      have HR2 := hide (rows_nil es l hown)
      have hb3 := below_made hgrow
      have HB2 := hide hb3
      obtain ⟨g, hg⟩ : ∃ g, W1.heap.size = g := ⟨_, rfl⟩
      rw [hg] at HR2 ⊢
      have HSZ : Hid (g = W1.heap.size ∧ kb < g) := ⟨hg.symm, by have := block_lt_of_cell HA.out.1; simp at this; omega⟩
      clear hown hgrow hb3 q0 q1 hg
      go_wp2_with fail
      go_loopw [8] (fun t wr => ∃ i : Nat, i ≤ 2 * es.length ∧ t = .int .i64 i ∧ Hid (Below W1.heap.size W1 wr) ∧ Hid (∃ rv, Rows wr g g m rv (eoL es l i))) (fun t _ => 2 * es.length - (intOf t).toNat)
      case atStart => exact ⟨0, by omega, rfl, HB2.out, _, HR2.out⟩
      case round =>
        clear HR2 HB2
        obtain ⟨i, hi, rfl, HBr, HR⟩ := hrel
        obtain ⟨q0, q1, _, _⟩ := HA.out.later HBr.out
        by_cases hlt : i < 2 * es.length
        · have hlt' : (i : Int) < 2 * es.length := by omega
          obtain ⟨y0, y1⟩ := (HBR.out.later HBr.out).cell (i := i / 2) (by omega)
          by_cases hmem : ((i / 2 : Nat) : Int) ∈ l
          · rw [decide_eq_true hmem] at y0
            have F := hide (fun V hV => from50 m p es cp i V hV hlt (by omega))
            obtain ⟨f0, f1⟩ := fromL_in HM.out i hlt
            obtain ⟨x, hx⟩ : ∃ x : Nat, fromL es i = x := ⟨(fromL es i).toNat, by omega⟩
            have hD := hide (eoL_in hmem hx)
            rw [hx] at F f0 f1
            obtain ⟨rv, hrv⟩ := HR.out
            obtain ⟨d0, e0⟩ := hrv.cell (v := x) (by omega)
            clear hx hmem
            go_upto_region 11 with fail
            refine wp_region_held_drew (S := (fun W' => W'.cell? ⟨kb, 0, none⟩ = some (.int .i64 m) ∧ W'.cell? ⟨kb, 1, none⟩ = some (.slice p es.length cp))) (by kernel_rfl) (by exact ⟨q0, q1⟩) (fun hHeld => ?_)
            obtain ⟨V0, hV0⟩ : ∃ V, V = wr.drew := ⟨_, rfl⟩
            have HB0 : Hid (Below W1.heap.size W1 V0) := by show Below _ _ _; rw [hV0]; exact below_step HBr.out (below_drew _)
            have HR0 : Hid (Rows V0 g g m rv (eoL es l i)) := by show Rows _ _ _ _ _ _; rw [hV0]; exact hrv.later (below_drew _)
            have HA0 := hide (HA.out.later HB0.out)
            have hxm : x < m := by omega
            have hkg : kb ≠ g := by have := HSZ.out; omega
            rw [← hV0] at hHeld ⊢
            clear hV0 hrv HR d0 e0 q0 q1
            obtain ⟨q0, q1, _, _⟩ := HA0.out
            refine wpAnyH_take (i := 0) (v := ?v1) rfl (by kernel_rfl) (by kernel_rfl) (by kernel_rfl) (fun _ _ _ h => h) (Or.inl ⟨by rfl, ?hy1⟩) (by assumption) ?rest1
            case hy1 => (intro w hSw; (try dsimp only at hSw); go_simp; try with_reducible rfl)
            try simp only [Act.put, List.setIfInBounds_toArray]
            refine wpAnyH_take (i := 1) (v := ?v2) rfl (by kernel_rfl) (by kernel_rfl) (by kernel_rfl) (fun _ _ _ h => h) (Or.inl ⟨by rfl, ?hy2⟩) (by assumption) ?rest2
            case hy2 => (intro w hSw; (try dsimp only at hSw); go_simp; try with_reducible rfl)
            try simp only [Act.put]
            refine wpAnyH_take (i := 2) (v := ?v3) rfl (by kernel_rfl) (by kernel_rfl) (by kernel_rfl) (fun _ _ _ h => h) (Or.inl ⟨by rfl, ?hy3⟩) (by assumption) ?rest3
            case hy3 => (intro w hSw; (try dsimp only at hSw); go_simp; try with_reducible rfl)
            try simp only [Act.put]
            refine wpAnyH_take (i := 4) (v := ?v4) rfl (by kernel_rfl) (by kernel_rfl) (by kernel_rfl) (fun _ _ _ h => h) (Or.inl ⟨by rfl, ?hy4⟩) (by assumption) ?rest4
            case hy4 => (intro w hSw; (try dsimp only at hSw); go_simp; try with_reducible rfl)
            try simp only [Act.put]
            refine wpAnyH_take (i := 5) (v := ?v5) rfl (by kernel_rfl) (by kernel_rfl) (by kernel_rfl) (fun _ _ _ h => h) (Or.inl ⟨by rfl, ?hy5⟩) (by assumption) ?rest5
            case hy5 => (intro w hSw; (try dsimp only at hSw); go_simp; try with_reducible rfl)
            try simp only [Act.put]
            refine wpAnyH_take (i := 6) (v := ?v6) rfl (by kernel_rfl) (by kernel_rfl) (by kernel_rfl) (fun _ _ _ h => h) (Or.inl ⟨by rfl, ?hy6⟩) (by assumption) ?rest6
            case hy6 => (intro w hSw; (try dsimp only at hSw); go_simp; try with_reducible rfl)
            try simp only [Act.put]
            refine wpAnyH_take (i := 10) (v := ?v7) rfl (by kernel_rfl) (by kernel_rfl) (by kernel_rfl) (fun _ _ _ h => h) (Or.inl ⟨by rfl, ?hy7⟩) (by assumption) ?rest7
            case hy7 => (intro w hSw; (try dsimp only at hSw); go_simp; try with_reducible rfl)
            try simp only [Act.put]
            refine wpAnyH_ready (rs := [3, 11]) (by kernel_rfl) (by simp) ?_
            refine AllReadyH.cons rfl (fun K hK => ?_) ?_
            · clear hHeld
              go_simp
              refine (F.out V0 (HH.out.later HB0.out)).mono ?_
              rintro e V1 ⟨rfl, hb2⟩
              have HB1 := hide (below_step HB0.out hb2)
              have HR1 := hide (HR0.out.later hb2)
              have HA1 := hide (HA0.out.later hb2)
              clear hb2 q0 q1
              obtain ⟨q0, q1, _, _⟩ := HA1.out
              refine hK.out _ _ (by first | exact ⟨q0, q1⟩ | (dsimp only; exact ⟨q0, q1⟩) | exact ⟨cell_other q0 hkg, cell_other q1 hkg⟩) (fun hHeld => ?_)
              clear hK K
              try simp only [Act.put, List.setIfInBounds_toArray, List.set_cons_zero, List.set_cons_succ]
              refine wpAnyH_ready (rs := [7, 11]) (by kernel_rfl) (by simp) ?_
              refine AllReadyH.cons rfl (fun K hK => ?_) ?_
              · clear hHeld
                go_simp
                refine (F.out V1 (HH.out.later HB1.out)).mono ?_
                rintro e V2 ⟨rfl, hb2⟩
                have HB2 := hide (below_step HB1.out hb2)
                have HR2 := hide (HR1.out.later hb2)
                have HA2 := hide (HA1.out.later hb2)
                clear hb2 q0 q1
                obtain ⟨q0, q1, _, _⟩ := HA2.out
                refine hK.out _ _ (by first | exact ⟨q0, q1⟩ | (dsimp only; exact ⟨q0, q1⟩) | exact ⟨cell_other q0 hkg, cell_other q1 hkg⟩) (fun hHeld => ?_)
                clear hK K
                try simp only [Act.put, List.setIfInBounds_toArray, List.set_cons_zero, List.set_cons_succ]
                refine wpAnyH_take (i := 8) (v := ?v8) rfl (by kernel_rfl) (by kernel_rfl) (by kernel_rfl) (fun _ _ _ h => h) (Or.inl ⟨by rfl, ?hy8⟩) (by assumption) ?rest8
                case hy8 => (intro w hSw; (try dsimp only at hSw); go_simp; try with_reducible rfl)
                try simp only [Act.put, List.setIfInBounds_toArray]
                refine wpAnyH_ready (rs := [9, 11]) (by kernel_rfl) (by simp) ?_
                refine AllReadyH.cons rfl (fun K hK => ?_) ?_
                · clear hHeld
                  obtain ⟨d0, e0⟩ := HR2.out.cell (v := x) hxm
                  go_simp
                  clear d0 e0
                  refine hK.out _ _ (by first | exact ⟨q0, q1⟩ | (dsimp only; exact ⟨q0, q1⟩) | exact ⟨cell_other q0 hkg, cell_other q1 hkg⟩) (fun hHeld => ?_)
                  clear hK K
                  try simp only [Act.put, List.setIfInBounds_toArray, List.set_cons_zero, List.set_cons_succ]
                  refine wpAnyH_ready (rs := [11]) (by kernel_rfl) (by simp) ?_
                  refine AllReadyH.cons rfl (fun K hK => ?_) ?_
                  · clear hHeld
                    go_simp
                    obtain ⟨V3, hV⟩ : ∃ V, V = V2.alloc (.cells #[.int .i64 i] 3) := ⟨_, rfl⟩
                    have hb2 : Below V2.heap.size V2 V3 := by rw [hV]; go_grown
                    have HL3 : Hid (V3.cell? ⟨V2.heap.size, 0, none⟩ = some (.int .i64 i)) := by show _ = _; rw [hV]; exact one_int _ _
                    rw [← hV]
                    have HB3 := hide (below_step HB2.out hb2)
                    have HR3 := hide (HR2.out.later hb2)
                    have HA3 := hide (HA2.out.later hb2)
                    clear hV hb2 q0 q1
                    obtain ⟨q0, q1, _, _⟩ := HA3.out
                    refine hK.out _ _ (by first | exact ⟨q0, q1⟩ | (dsimp only; exact ⟨q0, q1⟩) | exact ⟨cell_other q0 hkg, cell_other q1 hkg⟩) (fun hHeld => ?_)
                    clear hK K
                    try simp only [Act.put, List.setIfInBounds_toArray, List.set_cons_zero, List.set_cons_succ]
                    refine wpAnyH_ready (rs := [12]) (by kernel_rfl) (by simp) ?_
                    refine AllReadyH.cons rfl (fun K hK => ?_) ?_
                    · clear hHeld
                      have hrx := HR3.out.2.2 x hxm
                      obtain ⟨v1, V4, e4, o4, gr4, at4⟩ := append_int hrx HL3.out (by have := HB3.out.size; have := HSZ.out; omega) (by have := eoL_length es l i x; omega)
                      obtain ⟨p1, l1, c1, rfl⟩ : ∃ p1 l1 c1, v1 = .slice p1 l1 c1 := by obtain ⟨p1, c1, h1, _⟩ := o4.form; exact ⟨_, _, _, h1⟩
                      have HB4 : Hid (Below W1.heap.size W1 V4) := below_grown HB3.out hrx (by have := HSZ.out; omega) HB3.out.size gr4
                      have HR4 := hide (HR3.out.put hxm o4 gr4 at4)
                      have HA4 := hide (HA.out.later HB4.out)
                      clear q0 q1
                      obtain ⟨q0, q1, _, _⟩ := HA4.out
                      have HE4 : Hid (g < V4.heap.size ∧ V4.cell? ⟨g, x, none⟩ = some (rv x) ∧ V4.frozen? ⟨g, x, none⟩ = false) := hide (Rows.slot HR3.out hxm gr4)
                      refine step_run_append (by rfl) (.tmp 50) (.tmp 52) 25 (by rfl) 25 (by rfl) (rv x) (.slice (some ⟨V2.heap.size, 0, none⟩) 1 1) (.slice p1 l1 c1) V4 (by rfl) (by rfl) ?_ ?_
                      with_reducible exact e4
                      clear hrx o4 gr4 at4 e4
                      refine hK.out _ _ (by first | exact ⟨q0, q1⟩ | (dsimp only; exact ⟨q0, q1⟩) | exact ⟨cell_other q0 hkg, cell_other q1 hkg⟩) (fun hHeld => ?_)
                      clear hK K
                      try simp only [Act.put, List.setIfInBounds_toArray]
                      refine wpAnyH_take (i := 13) (v := ?v9) rfl (by kernel_rfl) (by kernel_rfl) (by kernel_rfl) (fun _ _ _ h => h) (Or.inl ⟨by rfl, ?hy9⟩) (by assumption) ?rest9
                      case hy9 => (intro w hSw; (try dsimp only at hSw); go_simp; try with_reducible rfl)
                      try simp only [Act.put]
                      refine wpAnyH_ready (rs := [14]) (by kernel_rfl) (by simp) ?_
                      refine AllReadyH.cons rfl (fun K hK => ?_) ?_
                      · clear hHeld
                        obtain ⟨hgl, d0, e0⟩ := HE4.out
                        go_simp
                        clear d0 e0
                        refine hK.out _ _ (by first | exact ⟨q0, q1⟩ | (dsimp only; exact ⟨q0, q1⟩) | exact ⟨cell_other q0 hkg, cell_other q1 hkg⟩) (fun hHeld => ?_)
                        clear hK K
                        try simp only [Act.put, List.setIfInBounds_toArray, List.set_cons_zero, List.set_cons_succ]
                        refine wpAnyH_done (by kernel_rfl) ?_ _
                        clear hHeld
                        obtain ⟨V5, hV5⟩ : ∃ V, V = V4.setCell ⟨g, x, none⟩ (.slice p1 l1 c1) := ⟨_, rfl⟩
                        have HB5 : Hid (Below W1.heap.size W1 V5) := by show Below _ _ _; rw [hV5]; exact HB4.out.setCell (by have := HSZ.out; simp; omega) _
                        rw [← hV5] at HR4
                        rw [← hV5]
                        clear hV5 HE4 HA0 HB0 HR0 HA1 HB1 HR1 HA2 HB2 HR2 HA3 HB3 HR3 q0 q1
                        go_wp2
                        go_roundw
                        case rel => exact ⟨i + 1, by omega, by go_num, HB5.out, _, by rw [hD.out]; exact HR4.out⟩
                        case measure => simp [intOf]; omega
                      exact AllReadyH.nil
                    exact AllReadyH.nil
                  exact AllReadyH.nil
                refine AllReadyH.cons rfl (fun K hK => ?_) ?_
                · clear hHeld
                  go_simp
                  obtain ⟨V3, hV⟩ : ∃ V, V = V2.alloc (.cells #[.int .i64 i] 3) := ⟨_, rfl⟩
                  have hb2 : Below V2.heap.size V2 V3 := by rw [hV]; go_grown
                  have HL3 : Hid (V3.cell? ⟨V2.heap.size, 0, none⟩ = some (.int .i64 i)) := by show _ = _; rw [hV]; exact one_int _ _
                  rw [← hV]
                  have HB3 := hide (below_step HB2.out hb2)
                  have HR3 := hide (HR2.out.later hb2)
                  have HA3 := hide (HA2.out.later hb2)
                  clear hV hb2 q0 q1
                  obtain ⟨q0, q1, _, _⟩ := HA3.out
                  refine hK.out _ _ (by first | exact ⟨q0, q1⟩ | (dsimp only; exact ⟨q0, q1⟩) | exact ⟨cell_other q0 hkg, cell_other q1 hkg⟩) (fun hHeld => ?_)
                  clear hK K
                  try simp only [Act.put, List.setIfInBounds_toArray, List.set_cons_zero, List.set_cons_succ]
                  refine wpAnyH_ready (rs := [9]) (by kernel_rfl) (by simp) ?_
                  refine AllReadyH.cons rfl (fun K hK => ?_) ?_
                  · clear hHeld
                    obtain ⟨d0, e0⟩ := HR3.out.cell (v := x) hxm
                    go_simp
                    clear d0 e0
                    refine hK.out _ _ (by first | exact ⟨q0, q1⟩ | (dsimp only; exact ⟨q0, q1⟩) | exact ⟨cell_other q0 hkg, cell_other q1 hkg⟩) (fun hHeld => ?_)
                    clear hK K
                    try simp only [Act.put, List.setIfInBounds_toArray, List.set_cons_zero, List.set_cons_succ]
                    refine wpAnyH_ready (rs := [12]) (by kernel_rfl) (by simp) ?_
                    refine AllReadyH.cons rfl (fun K hK => ?_) ?_
                    · clear hHeld
                      have hrx := HR3.out.2.2 x hxm
                      obtain ⟨v1, V4, e4, o4, gr4, at4⟩ := append_int hrx HL3.out (by have := HB3.out.size; have := HSZ.out; omega) (by have := eoL_length es l i x; omega)
                      obtain ⟨p1, l1, c1, rfl⟩ : ∃ p1 l1 c1, v1 = .slice p1 l1 c1 := by obtain ⟨p1, c1, h1, _⟩ := o4.form; exact ⟨_, _, _, h1⟩
                      have HB4 : Hid (Below W1.heap.size W1 V4) := below_grown HB3.out hrx (by have := HSZ.out; omega) HB3.out.size gr4
                      have HR4 := hide (HR3.out.put hxm o4 gr4 at4)
                      have HA4 := hide (HA.out.later HB4.out)
                      clear q0 q1
                      obtain ⟨q0, q1, _, _⟩ := HA4.out
                      have HE4 : Hid (g < V4.heap.size ∧ V4.cell? ⟨g, x, none⟩ = some (rv x) ∧ V4.frozen? ⟨g, x, none⟩ = false) := hide (Rows.slot HR3.out hxm gr4)
                      refine step_run_append (by rfl) (.tmp 50) (.tmp 52) 25 (by rfl) 25 (by rfl) (rv x) (.slice (some ⟨V2.heap.size, 0, none⟩) 1 1) (.slice p1 l1 c1) V4 (by rfl) (by rfl) ?_ ?_
                      with_reducible exact e4
                      clear hrx o4 gr4 at4 e4
                      refine hK.out _ _ (by first | exact ⟨q0, q1⟩ | (dsimp only; exact ⟨q0, q1⟩) | exact ⟨cell_other q0 hkg, cell_other q1 hkg⟩) (fun hHeld => ?_)
                      clear hK K
                      try simp only [Act.put, List.setIfInBounds_toArray]
                      refine wpAnyH_take (i := 13) (v := ?v10) rfl (by kernel_rfl) (by kernel_rfl) (by kernel_rfl) (fun _ _ _ h => h) (Or.inl ⟨by rfl, ?hy10⟩) (by assumption) ?rest10
                      case hy10 => (intro w hSw; (try dsimp only at hSw); go_simp; try with_reducible rfl)
                      try simp only [Act.put]
                      refine wpAnyH_ready (rs := [14]) (by kernel_rfl) (by simp) ?_
                      refine AllReadyH.cons rfl (fun K hK => ?_) ?_
                      · clear hHeld
                        obtain ⟨hgl, d0, e0⟩ := HE4.out
                        go_simp
                        clear d0 e0
                        refine hK.out _ _ (by first | exact ⟨q0, q1⟩ | (dsimp only; exact ⟨q0, q1⟩) | exact ⟨cell_other q0 hkg, cell_other q1 hkg⟩) (fun hHeld => ?_)
                        clear hK K
                        try simp only [Act.put, List.setIfInBounds_toArray, List.set_cons_zero, List.set_cons_succ]
                        refine wpAnyH_done (by kernel_rfl) ?_ _
                        clear hHeld
                        obtain ⟨V5, hV5⟩ : ∃ V, V = V4.setCell ⟨g, x, none⟩ (.slice p1 l1 c1) := ⟨_, rfl⟩
                        have HB5 : Hid (Below W1.heap.size W1 V5) := by show Below _ _ _; rw [hV5]; exact HB4.out.setCell (by have := HSZ.out; simp; omega) _
                        rw [← hV5] at HR4
                        rw [← hV5]
                        clear hV5 HE4 HA0 HB0 HR0 HA1 HB1 HR1 HA2 HB2 HR2 HA3 HB3 HR3 q0 q1
                        go_wp2
                        go_roundw
                        case rel => exact ⟨i + 1, by omega, by go_num, HB5.out, _, by rw [hD.out]; exact HR4.out⟩
                        case measure => simp [intOf]; omega
                      exact AllReadyH.nil
                    exact AllReadyH.nil
                  exact AllReadyH.nil
                exact AllReadyH.nil
              refine AllReadyH.cons rfl (fun K hK => ?_) ?_
              · clear hHeld
                go_simp
                obtain ⟨V2, hV⟩ : ∃ V, V = V1.alloc (.cells #[.int .i64 i] 3) := ⟨_, rfl⟩
                have hb2 : Below V1.heap.size V1 V2 := by rw [hV]; go_grown
                have HL2 : Hid (V2.cell? ⟨V1.heap.size, 0, none⟩ = some (.int .i64 i)) := by show _ = _; rw [hV]; exact one_int _ _
                rw [← hV]
                have HB2 := hide (below_step HB1.out hb2)
                have HR2 := hide (HR1.out.later hb2)
                have HA2 := hide (HA1.out.later hb2)
                clear hV hb2 q0 q1
                obtain ⟨q0, q1, _, _⟩ := HA2.out
                refine hK.out _ _ (by first | exact ⟨q0, q1⟩ | (dsimp only; exact ⟨q0, q1⟩) | exact ⟨cell_other q0 hkg, cell_other q1 hkg⟩) (fun hHeld => ?_)
                clear hK K
                try simp only [Act.put, List.setIfInBounds_toArray, List.set_cons_zero, List.set_cons_succ]
                refine wpAnyH_ready (rs := [7]) (by kernel_rfl) (by simp) ?_
                refine AllReadyH.cons rfl (fun K hK => ?_) ?_
                · clear hHeld
                  go_simp
                  refine (F.out V2 (HH.out.later HB2.out)).mono ?_
                  rintro e V3 ⟨rfl, hb2⟩
                  have HB3 := hide (below_step HB2.out hb2)
                  have HR3 := hide (HR2.out.later hb2)
                  have HA3 := hide (HA2.out.later hb2)
                  have HL3 := hide (later hb2 HL2.out)
                  clear hb2 q0 q1
                  obtain ⟨q0, q1, _, _⟩ := HA3.out
                  refine hK.out _ _ (by first | exact ⟨q0, q1⟩ | (dsimp only; exact ⟨q0, q1⟩) | exact ⟨cell_other q0 hkg, cell_other q1 hkg⟩) (fun hHeld => ?_)
                  clear hK K
                  try simp only [Act.put, List.setIfInBounds_toArray, List.set_cons_zero, List.set_cons_succ]
                  refine wpAnyH_take (i := 8) (v := ?v11) rfl (by kernel_rfl) (by kernel_rfl) (by kernel_rfl) (fun _ _ _ h => h) (Or.inl ⟨by rfl, ?hy11⟩) (by assumption) ?rest11
                  case hy11 => (intro w hSw; (try dsimp only at hSw); go_simp; try with_reducible rfl)
                  try simp only [Act.put, List.setIfInBounds_toArray]
                  refine wpAnyH_ready (rs := [9]) (by kernel_rfl) (by simp) ?_
                  refine AllReadyH.cons rfl (fun K hK => ?_) ?_
                  · clear hHeld
                    obtain ⟨d0, e0⟩ := HR3.out.cell (v := x) hxm
                    go_simp
                    clear d0 e0
                    refine hK.out _ _ (by first | exact ⟨q0, q1⟩ | (dsimp only; exact ⟨q0, q1⟩) | exact ⟨cell_other q0 hkg, cell_other q1 hkg⟩) (fun hHeld => ?_)
                    clear hK K
                    try simp only [Act.put, List.setIfInBounds_toArray, List.set_cons_zero, List.set_cons_succ]
                    refine wpAnyH_ready (rs := [12]) (by kernel_rfl) (by simp) ?_
                    refine AllReadyH.cons rfl (fun K hK => ?_) ?_
                    · clear hHeld
                      have hrx := HR3.out.2.2 x hxm
                      obtain ⟨v1, V4, e4, o4, gr4, at4⟩ := append_int hrx HL3.out (by have := HB3.out.size; have := HSZ.out; omega) (by have := eoL_length es l i x; omega)
                      obtain ⟨p1, l1, c1, rfl⟩ : ∃ p1 l1 c1, v1 = .slice p1 l1 c1 := by obtain ⟨p1, c1, h1, _⟩ := o4.form; exact ⟨_, _, _, h1⟩
                      have HB4 : Hid (Below W1.heap.size W1 V4) := below_grown HB3.out hrx (by have := HSZ.out; omega) HB3.out.size gr4
                      have HR4 := hide (HR3.out.put hxm o4 gr4 at4)
                      have HA4 := hide (HA.out.later HB4.out)
                      clear q0 q1
                      obtain ⟨q0, q1, _, _⟩ := HA4.out
                      have HE4 : Hid (g < V4.heap.size ∧ V4.cell? ⟨g, x, none⟩ = some (rv x) ∧ V4.frozen? ⟨g, x, none⟩ = false) := hide (Rows.slot HR3.out hxm gr4)
                      refine step_run_append (by rfl) (.tmp 50) (.tmp 52) 25 (by rfl) 25 (by rfl) (rv x) (.slice (some ⟨V1.heap.size, 0, none⟩) 1 1) (.slice p1 l1 c1) V4 (by rfl) (by rfl) ?_ ?_
                      with_reducible exact e4
                      clear hrx o4 gr4 at4 e4
                      refine hK.out _ _ (by first | exact ⟨q0, q1⟩ | (dsimp only; exact ⟨q0, q1⟩) | exact ⟨cell_other q0 hkg, cell_other q1 hkg⟩) (fun hHeld => ?_)
                      clear hK K
                      try simp only [Act.put, List.setIfInBounds_toArray]
                      refine wpAnyH_take (i := 13) (v := ?v12) rfl (by kernel_rfl) (by kernel_rfl) (by kernel_rfl) (fun _ _ _ h => h) (Or.inl ⟨by rfl, ?hy12⟩) (by assumption) ?rest12
                      case hy12 => (intro w hSw; (try dsimp only at hSw); go_simp; try with_reducible rfl)
                      try simp only [Act.put]
                      refine wpAnyH_ready (rs := [14]) (by kernel_rfl) (by simp) ?_
                      refine AllReadyH.cons rfl (fun K hK => ?_) ?_
                      · clear hHeld
                        obtain ⟨hgl, d0, e0⟩ := HE4.out
                        go_simp
                        clear d0 e0
                        refine hK.out _ _ (by first | exact ⟨q0, q1⟩ | (dsimp only; exact ⟨q0, q1⟩) | exact ⟨cell_other q0 hkg, cell_other q1 hkg⟩) (fun hHeld => ?_)
                        clear hK K
                        try simp only [Act.put, List.setIfInBounds_toArray, List.set_cons_zero, List.set_cons_succ]
                        refine wpAnyH_done (by kernel_rfl) ?_ _
                        clear hHeld
                        obtain ⟨V5, hV5⟩ : ∃ V, V = V4.setCell ⟨g, x, none⟩ (.slice p1 l1 c1) := ⟨_, rfl⟩
                        have HB5 : Hid (Below W1.heap.size W1 V5) := by show Below _ _ _; rw [hV5]; exact HB4.out.setCell (by have := HSZ.out; simp; omega) _
                        rw [← hV5] at HR4
                        rw [← hV5]
                        clear hV5 HE4 HA0 HB0 HR0 HA1 HB1 HR1 HA2 HB2 HR2 HA3 HB3 HR3 q0 q1
                        go_wp2
                        go_roundw
                        case rel => exact ⟨i + 1, by omega, by go_num, HB5.out, _, by rw [hD.out]; exact HR4.out⟩
                        case measure => simp [intOf]; omega
                      exact AllReadyH.nil
                    exact AllReadyH.nil
                  exact AllReadyH.nil
                exact AllReadyH.nil
              exact AllReadyH.nil
            refine AllReadyH.cons rfl (fun K hK => ?_) ?_
            · clear hHeld
              go_simp
              obtain ⟨V1, hV⟩ : ∃ V, V = V0.alloc (.cells #[.int .i64 i] 3) := ⟨_, rfl⟩
              have hb2 : Below V0.heap.size V0 V1 := by rw [hV]; go_grown
              have HL1 : Hid (V1.cell? ⟨V0.heap.size, 0, none⟩ = some (.int .i64 i)) := by show _ = _; rw [hV]; exact one_int _ _
              rw [← hV]
              have HB1 := hide (below_step HB0.out hb2)
              have HR1 := hide (HR0.out.later hb2)
              have HA1 := hide (HA0.out.later hb2)
              clear hV hb2 q0 q1
              obtain ⟨q0, q1, _, _⟩ := HA1.out
              refine hK.out _ _ (by first | exact ⟨q0, q1⟩ | (dsimp only; exact ⟨q0, q1⟩) | exact ⟨cell_other q0 hkg, cell_other q1 hkg⟩) (fun hHeld => ?_)
              clear hK K
              try simp only [Act.put, List.setIfInBounds_toArray, List.set_cons_zero, List.set_cons_succ]
              refine wpAnyH_ready (rs := [3]) (by kernel_rfl) (by simp) ?_
              refine AllReadyH.cons rfl (fun K hK => ?_) ?_
              · clear hHeld
                go_simp
                refine (F.out V1 (HH.out.later HB1.out)).mono ?_
                rintro e V2 ⟨rfl, hb2⟩
                have HB2 := hide (below_step HB1.out hb2)
                have HR2 := hide (HR1.out.later hb2)
                have HA2 := hide (HA1.out.later hb2)
                have HL2 := hide (later hb2 HL1.out)
                clear hb2 q0 q1
                obtain ⟨q0, q1, _, _⟩ := HA2.out
                refine hK.out _ _ (by first | exact ⟨q0, q1⟩ | (dsimp only; exact ⟨q0, q1⟩) | exact ⟨cell_other q0 hkg, cell_other q1 hkg⟩) (fun hHeld => ?_)
                clear hK K
                try simp only [Act.put, List.setIfInBounds_toArray, List.set_cons_zero, List.set_cons_succ]
                refine wpAnyH_ready (rs := [7]) (by kernel_rfl) (by simp) ?_
                refine AllReadyH.cons rfl (fun K hK => ?_) ?_
                · clear hHeld
                  go_simp
                  refine (F.out V2 (HH.out.later HB2.out)).mono ?_
                  rintro e V3 ⟨rfl, hb2⟩
                  have HB3 := hide (below_step HB2.out hb2)
                  have HR3 := hide (HR2.out.later hb2)
                  have HA3 := hide (HA2.out.later hb2)
                  have HL3 := hide (later hb2 HL2.out)
                  clear hb2 q0 q1
                  obtain ⟨q0, q1, _, _⟩ := HA3.out
                  refine hK.out _ _ (by first | exact ⟨q0, q1⟩ | (dsimp only; exact ⟨q0, q1⟩) | exact ⟨cell_other q0 hkg, cell_other q1 hkg⟩) (fun hHeld => ?_)
                  clear hK K
                  try simp only [Act.put, List.setIfInBounds_toArray, List.set_cons_zero, List.set_cons_succ]
                  refine wpAnyH_take (i := 8) (v := ?v13) rfl (by kernel_rfl) (by kernel_rfl) (by kernel_rfl) (fun _ _ _ h => h) (Or.inl ⟨by rfl, ?hy13⟩) (by assumption) ?rest13
                  case hy13 => (intro w hSw; (try dsimp only at hSw); go_simp; try with_reducible rfl)
                  try simp only [Act.put, List.setIfInBounds_toArray]
                  refine wpAnyH_ready (rs := [9]) (by kernel_rfl) (by simp) ?_
                  refine AllReadyH.cons rfl (fun K hK => ?_) ?_
                  · clear hHeld
                    obtain ⟨d0, e0⟩ := HR3.out.cell (v := x) hxm
                    go_simp
                    clear d0 e0
                    refine hK.out _ _ (by first | exact ⟨q0, q1⟩ | (dsimp only; exact ⟨q0, q1⟩) | exact ⟨cell_other q0 hkg, cell_other q1 hkg⟩) (fun hHeld => ?_)
                    clear hK K
                    try simp only [Act.put, List.setIfInBounds_toArray, List.set_cons_zero, List.set_cons_succ]
                    refine wpAnyH_ready (rs := [12]) (by kernel_rfl) (by simp) ?_
                    refine AllReadyH.cons rfl (fun K hK => ?_) ?_
                    · clear hHeld
                      have hrx := HR3.out.2.2 x hxm
                      obtain ⟨v1, V4, e4, o4, gr4, at4⟩ := append_int hrx HL3.out (by have := HB3.out.size; have := HSZ.out; omega) (by have := eoL_length es l i x; omega)
                      obtain ⟨p1, l1, c1, rfl⟩ : ∃ p1 l1 c1, v1 = .slice p1 l1 c1 := by obtain ⟨p1, c1, h1, _⟩ := o4.form; exact ⟨_, _, _, h1⟩
                      have HB4 : Hid (Below W1.heap.size W1 V4) := below_grown HB3.out hrx (by have := HSZ.out; omega) HB3.out.size gr4
                      have HR4 := hide (HR3.out.put hxm o4 gr4 at4)
                      have HA4 := hide (HA.out.later HB4.out)
                      clear q0 q1
                      obtain ⟨q0, q1, _, _⟩ := HA4.out
                      have HE4 : Hid (g < V4.heap.size ∧ V4.cell? ⟨g, x, none⟩ = some (rv x) ∧ V4.frozen? ⟨g, x, none⟩ = false) := hide (Rows.slot HR3.out hxm gr4)
                      refine step_run_append (by rfl) (.tmp 50) (.tmp 52) 25 (by rfl) 25 (by rfl) (rv x) (.slice (some ⟨V0.heap.size, 0, none⟩) 1 1) (.slice p1 l1 c1) V4 (by rfl) (by rfl) ?_ ?_
                      with_reducible exact e4
                      clear hrx o4 gr4 at4 e4
                      refine hK.out _ _ (by first | exact ⟨q0, q1⟩ | (dsimp only; exact ⟨q0, q1⟩) | exact ⟨cell_other q0 hkg, cell_other q1 hkg⟩) (fun hHeld => ?_)
                      clear hK K
                      try simp only [Act.put, List.setIfInBounds_toArray]
                      refine wpAnyH_take (i := 13) (v := ?v14) rfl (by kernel_rfl) (by kernel_rfl) (by kernel_rfl) (fun _ _ _ h => h) (Or.inl ⟨by rfl, ?hy14⟩) (by assumption) ?rest14
                      case hy14 => (intro w hSw; (try dsimp only at hSw); go_simp; try with_reducible rfl)
                      try simp only [Act.put]
                      refine wpAnyH_ready (rs := [14]) (by kernel_rfl) (by simp) ?_
                      refine AllReadyH.cons rfl (fun K hK => ?_) ?_
                      · clear hHeld
                        obtain ⟨hgl, d0, e0⟩ := HE4.out
                        go_simp
                        clear d0 e0
                        refine hK.out _ _ (by first | exact ⟨q0, q1⟩ | (dsimp only; exact ⟨q0, q1⟩) | exact ⟨cell_other q0 hkg, cell_other q1 hkg⟩) (fun hHeld => ?_)
                        clear hK K
                        try simp only [Act.put, List.setIfInBounds_toArray, List.set_cons_zero, List.set_cons_succ]
                        refine wpAnyH_done (by kernel_rfl) ?_ _
                        clear hHeld
                        obtain ⟨V5, hV5⟩ : ∃ V, V = V4.setCell ⟨g, x, none⟩ (.slice p1 l1 c1) := ⟨_, rfl⟩
                        have HB5 : Hid (Below W1.heap.size W1 V5) := by show Below _ _ _; rw [hV5]; exact HB4.out.setCell (by have := HSZ.out; simp; omega) _
                        rw [← hV5] at HR4
                        rw [← hV5]
                        clear hV5 HE4 HA0 HB0 HR0 HA1 HB1 HR1 HA2 HB2 HR2 HA3 HB3 HR3 q0 q1
                        go_wp2
                        go_roundw
                        case rel => exact ⟨i + 1, by omega, by go_num, HB5.out, _, by rw [hD.out]; exact HR4.out⟩
                        case measure => simp [intOf]; omega
                      exact AllReadyH.nil
                    exact AllReadyH.nil
                  exact AllReadyH.nil
                exact AllReadyH.nil
              exact AllReadyH.nil
            exact AllReadyH.nil
          · rw [decide_eq_false hmem] at y0
            have hD := hide (eoL_out (es := es) hmem)
            clear hmem
            go_wp2
            go_roundw
            case rel => exact ⟨i + 1, by omega, by go_num, HBr.out, by rw [hD.out]; exact HR.out⟩
            case measure => simp [intOf]; omega
        · have hin : i = 2 * es.length := by omega
          have hlt' : ¬ (i : Int) < 2 * es.length := by omega
          rw [hin] at HR
          clear hin
          obtain ⟨rv, hrv⟩ := HR.out
          go_wp2
          go_ret
          refine ⟨g, rfl, ⟨rv, hrv.base ?_⟩, below_step HE.out HBr.out⟩
          have := HE.out.size
          have := HKB.out
          have := HSZ.out
          omega
end Go.Proofs.Ytaebbfilgfkckaa
