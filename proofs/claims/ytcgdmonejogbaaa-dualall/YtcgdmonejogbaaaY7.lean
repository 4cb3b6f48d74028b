/- rot.Same and the document's Same, in every world. -/
import Derived.Test.YtcgdmonejogbaaaY5
import Derived.Test.YtcgdmonejogbaaaX3
import Derived.Test.YtcgdmonejogbaaaC4
open List renaming setIfInBounds_toArray → lD, set_cons_zero → lE, set_cons_succ → lF
namespace Go.Proofs.Ytcgdmonejogbaaa
open Go.RowKit Go.Sort
open Go
/-- A list of its own into a row. -/
theorem Rows.lay {w w' : World} {B g n a : Nat} {rv : Nat → Value} {L : Nat → List Int} {l' : List Int} {v' : Value} (h : Rows w B g n rv L) (_ha : a < n) (hb : Below w.heap.size w w') (hB : B ≤ w.heap.size) (o : IOwns w' w.heap.size v' l') : Rows (w'.setCell ⟨g, a, none⟩ v') B g n (upd rv a v') (upd L a l') := by
  have h' := h.later hb
  obtain ⟨h1, h2, h3⟩ := h'
  obtain ⟨cur, hg⟩ := row_kind h1
  refine ⟨?_, ?_, ?_⟩
  · have q := (World.ownsRow.stored h1 a v').1
    rw [show ((List.range n).map (upd rv a v')) = ((List.range n).map rv).set a v' from ?_]
    · exact q
    apply List.ext_getElem
    · simp
    intro i h4 h5
    simp only [List.getElem_map, List.getElem_range, List.getElem_set]
    by_cases hia : a = i
    · subst hia; simp [upd]
    · rw [if_neg hia, upd_other _ _ (fun e => hia e.symm)]
  · intro u v k hu hv' e1 e2
    by_cases hua : u = a <;> by_cases hva : v = a
    · omega
    · rw [hua, upd_same] at e1
      rw [upd_other _ _ hva] at e2
      have x1 := (World.ownsRow.lt o k e1).1
      have x2 := (World.ownsRow.lt (h.2.2 v hv') k e2).2
      omega
    · rw [hva, upd_same] at e2
      rw [upd_other _ _ hua] at e1
      have x1 := (World.ownsRow.lt o k e2).1
      have x2 := (World.ownsRow.lt (h.2.2 u hu) k e1).2
      omega
    · rw [upd_other _ _ hua] at e1
      rw [upd_other _ _ hva] at e2
      exact h2 u v k hu hv' e1 e2
  · intro v hv'
    by_cases hva : v = a
    · rw [hva, upd_same, upd_same]
      exact IOwns.base (ownsRow_setCell_other (a := ⟨g, a, none⟩) o (row_apart hg o (by decide)) _) hB
    · rw [upd_other _ _ hva, upd_other _ _ hva]
      exact ownsRow_setCell_other (a := ⟨g, a, none⟩) (h3 v hv') (row_apart hg (h3 v hv') (by decide)) _
theorem Rows.congr {w : World} {B g n : Nat} {rv : Nat → Value} {L L' : Nat → List Int} (h : Rows w B g n rv L) (he : ∀ v, v < n → L v = L' v) : Rows w B g n rv L' := ⟨h.1, h.2.1, fun v hv => by rw [← he v hv]; exact h.2.2 v hv⟩
/-- Rows are a rotation that lies in memory. -/
theorem Rows.has {w : World} {B g n : Nat} {rv : Nat → Value} {L : Nat → List Int} {rs : List (List Int)} (h : Rows w B g n rv L) (hn : rs.length = n) (hL : ∀ v, v < n → L v = lat rs v) (hl : ∀ v, v < n → (lat rs v).length ≤ maxLen) : RHas w (some ⟨g, 0, none⟩) rs := by
  refine Or.inr ⟨g, 0, rfl, fun v hv => ?_⟩
  have hv' : v < n := by omega
  obtain ⟨p, c, e, m, hcap, hnil, _⟩ := (h.2.2 v hv').form
  rw [hL v hv'] at e m
  refine ⟨p, c, ?_, m, hl v hv', by rw [← hL v hv']; exact hcap, hnil⟩
  rw [Nat.zero_add, (h.cell hv').1, e]
theorem lat_map {rs : List (List Int)} (f : List Int → List Int) {v : Nat} (hv : v < rs.length) : lat (rs.map f) v = f (lat rs v) := by
  unfold lat
  rw [List.getD_eq_getElem?_getD, List.getD_eq_getElem?_getD, List.getElem?_map, List.getElem?_eq_getElem hv]
  rfl
theorem ihas_drop {w : World} {b off : Nat} {l : List Int} {a : Nat} (h : ILies w b off l) : IHas w (some ⟨b, off + a, none⟩) (l.drop a) := by
  refine Or.inr ⟨b, off + a, rfl, fun j hj => ?_⟩
  rw [List.length_drop] at hj
  have := h (a + j) (by omega)
  rw [show off + a + j = off + (a + j) by omega, this]
  congr 2
  unfold iat
  rw [List.getD_eq_getElem?_getD, List.getD_eq_getElem?_getD, List.getElem?_drop]
theorem ihas_take {w : World} {b off : Nat} {l : List Int} {a : Nat} (h : ILies w b off l) : IHas w (some ⟨b, off, none⟩) (l.take a) := by
  refine Or.inr ⟨b, off, rfl, fun j hj => ?_⟩
  rw [List.length_take] at hj
  rw [h j (by omega)]
  congr 2
  unfold iat
  rw [List.getD_eq_getElem?_getD, List.getD_eq_getElem?_getD, List.getElem?_take, if_pos (by omega)]
set_option maxRecDepth 100000 in
set_option maxHeartbeats 16000000 in
theorem turned54 (q : Option Addr) (rs : List (List Int)) (cq : Nat) (w : World) (hr : RHas w q rs) (hn : rs.length ≤ 100000) (hl : ∀ v, v < rs.length → (lat rs v).length ≤ 90000) : Calls Try.prog 81 #[.slice q rs.length cq] w fun e w' => ∃ g rv, e = .returned (.slice (some ⟨g, 0, none⟩) rs.length rs.length) ∧ Rows w' w.heap.size g rs.length rv (fun v => turnL (lat rs v)) ∧ Below w.heap.size w w' := by
  obtain ⟨i0, hi0, hz0, hz1, hz2⟩ := info_parts info41
  have HR := hide hr
  have HLL := hide hl
  clear hr hl
  go_enter Try.func81, Try.ntmps81
  go_wp2_with (refine wpList_make_full _ rfl (.tmp 8) (.tmp 8) 26 rfl w.heap.size 44 i0 (.slice none 0 0) 1 Try.underlying26 hi0 hz0 hz1 .i64 .i64 _ _ rs.length rfl rfl rfl rfl ?c1 ?c2 ?c3 ?_)
  case c1 => rw [hz2]; omega
  case c2 => unfold maxLen; omega
  case c3 => exact Nat.le_refl _
  intro w2 hown hgrow
  have HB2 := hide (below_made hgrow)
  have HR2 : Hid (Rows w2 w.heap.size w.heap.size rs.length (fun _ => .slice none 0 0) (fun v => if v < 0 then turnL (lat rs v) else [])) := (rows_made [] hown).congr (fun v _ => by simp [outL])
  obtain ⟨g, hg⟩ : ∃ g, w.heap.size = g := ⟨_, rfl⟩
  have HG := hide hg
  rw [show Rows w2 w.heap.size w.heap.size rs.length (fun _ => Value.slice none 0 0) (fun v => if v < 0 then turnL (lat rs v) else []) = Rows w2 w.heap.size g rs.length (fun _ => Value.slice none 0 0) (fun v => if v < 0 then turnL (lat rs v) else []) by rw [hg]] at HR2
  try rw [hg]
  clear hown hgrow hg hi0 hz0 hz1 hz2 i0
  go_wp2_with fail
  go_loopw [12] (fun t12 wr => ∃ (v : Nat) (rv : Nat → Value), v ≤ rs.length ∧ t12 = .int .i64 v ∧ Hid (Below w.heap.size w wr) ∧ Hid (Rows wr w.heap.size g rs.length rv (fun u => if u < v then turnL (lat rs u) else []))) (fun t12 _ => rs.length - (intOf t12).toNat)
  case atStart => exact ⟨0, _, by omega, rfl, HB2.out, HR2.out⟩
  case round =>
    obtain ⟨v, rv, hv, rfl, HBr, HRr⟩ := hrel
    clear HB2 HR2
    by_cases hlt : v < rs.length
    · obtain ⟨b1, o1, a1, k1, rfl, c0W, m1, z1⟩ := HR.out.at_ hlt
      have c0 := later HBr.out c0W
      have e1 : (v : Int) < rs.length := by omega
      have hl9 := HLL.out v hlt
      have HSTEP : Hid (∀ (V : World) (rv' : Nat → Value) (x : List Int), x = turnL (lat rs v) → Rows V w.heap.size g rs.length rv' (upd (fun u => if u < v then turnL (lat rs u) else []) v x) → Rows V w.heap.size g rs.length rv' (fun u => if u < v + 1 then turnL (lat rs u) else [])) := fun V rv' x hx hR => hR.congr (fun u _ => by
        by_cases hu : u = v
        · subst hu; rw [upd_same, if_pos (by omega), hx]
        · rw [upd_other _ _ hu]
          by_cases h : u < v
          · rw [if_pos h, if_pos (by omega)]
          · rw [if_neg h, if_neg (by omega)])
      have hkc := z1.2.1
      clear z1 c0W
      rcases m1 with hnil | ⟨b, off, rfl, hL⟩
      · have hl0 : (lat rs v).length = 0 := by rw [hnil]; rfl
        have HN := hide hnil
        rw [hl0] at c0
        clear hnil hl0 hl9 hkc
        go_wp2
        go_roundw
        case rel => exact ⟨v + 1, rv, by omega, by go_num, HBr.out, HRr.out.congr (fun u _ => by
          by_cases hu : u = v
          · subst hu; rw [if_neg (by omega), if_pos (by omega), HN.out]; rfl
          · by_cases h : u < v
            · rw [if_pos h, if_pos (by omega)]
            · rw [if_neg h, if_neg (by omega)])⟩
        case measure => simp [intOf]; omega
      · by_cases h0 : (lat rs v).length = 0
        · have HN : Hid (lat rs v = []) := List.eq_nil_of_length_eq_zero h0
          rw [h0] at c0
          clear h0 hl9 hL hkc
          go_wp2
          go_roundw
          case rel => exact ⟨v + 1, rv, by omega, by go_num, HBr.out, HRr.out.congr (fun u _ => by
            by_cases hu : u = v
            · subst hu; rw [if_neg (by omega), if_pos (by omega), HN.out]; rfl
            · by_cases h : u < v
              · rw [if_pos h, if_pos (by omega)]
              · rw [if_neg h, if_neg (by omega)])⟩
          case measure => simp [intOf]; omega
        · have hp : 0 < (lat rs v).length := by omega
          have HLI := hide hL
          have MN := hide (min74 (some ⟨b, off, none⟩) (lat rs v) k1 wr hp (by unfold maxLen; omega) (Or.inr ⟨b, off, rfl, hL.later HBr.out⟩))
          obtain ⟨l, hll⟩ : ∃ l, lat rs v = l := ⟨_, rfl⟩
          have HLV := hide hll
          rw [hll] at c0 hl9 hp MN HSTEP HLI hkc
          have p0 : (l.length : Int) > 0 := by omega
          have ha := lowAt_lt hp
          have HFI : Hid (∀ j, j < lowAt l → iat l j ≠ iat l (lowAt l)) := fun j hj => by have := loN_first l (l.length - 1) j hj; unfold lowAt; omega
          have HTL : Hid (turnL l = l.drop (lowAt l) ++ l.take (lowAt l)) := rfl
          obtain ⟨a, hla⟩ : ∃ a, lowAt l = a := ⟨_, rfl⟩
          rw [hla] at MN ha HTL HFI
          obtain ⟨x, hx⟩ : ∃ x, iat l a = x := ⟨_, rfl⟩
          have HXX := hide hx
          rw [hx] at MN HFI
          have i1 : (a : Int) ≤ l.length := by omega
          have i2 : (0 : Int) ≤ a := by omega
          have i3 : (l.length : Int) - a ≥ 0 := by omega
          have i4 : (l.length : Int) ≤ k1 := by omega
          have i5 : (a : Int) ≤ k1 := by omega
          have hak : a ≤ l.length := by omega
          have hak1 : a ≤ k1 := by omega
          have hka : ¬ k1 = a := by omega
          clear h0 hll hL hla hx
          go_wp2_with fail
          refine MN.out.mono ?_
          rintro e w3 ⟨rfl, hb3⟩
          have IX := hide (index73 (some ⟨b, off, none⟩) l k1 a x w3 ha HXX.out HFI.out (by unfold maxLen; omega) (Or.inr ⟨b, off, rfl, (HLI.out.later HBr.out).later hb3⟩))
          have HB3 := hide (below_step HBr.out hb3)
          have HR3 := hide (HRr.out.later hb3)
          clear hb3 MN c0
          go_wp2_with fail
          refine IX.out.mono ?_
          rintro e w4 ⟨rfl, hb4⟩
          have HB4 := hide (below_step HB3.out hb4)
          have HR4 := hide (HR3.out.later hb4)
          clear hb4 IX HB3 HR3 HBr HRr
          go_upto_region 7 with fail
          obtain ⟨V0, hV0⟩ : ∃ V, V = w4.drew := ⟨_, rfl⟩
          have HB5 : Hid (Below w.heap.size w V0) := by show Below _ _ _; rw [hV0]; exact below_step HB4.out (below_drew _)
          have HR5 : Hid (Rows V0 w.heap.size g rs.length rv (fun u => if u < v then turnL (lat rs u) else [])) := by show Rows _ _ _ _ _ _; rw [hV0]; exact HR4.out.later (below_drew _)
          refine wp_region_held_drew (S := (fun _ => True)) (by kernel_rfl) trivial (fun hHeld => ?_)
          rw [← hV0]
          clear hV0 HB4 HR4
          change wpAnyH Try.prog .any _ _ _ 12 #[false, false, false, false, false, false, false, false, false, false, false, false] _ _
          refine wpAnyH_take (i := 0) (v := ?v1) rfl (by kernel_rfl) (by kernel_rfl) (by kernel_rfl) (fun _ _ _ h => h) (Or.inl ⟨by rfl, ?hy1⟩) (by assumption) ?rest1
          case hy1 => (intro w hSw; (try dsimp only at hSw); go_simp; try with_reducible rfl)
          try simp only [Act.put, lD, lE]
          refine wpAnyH_take (i := 1) (v := ?v2) rfl (by kernel_rfl) (by kernel_rfl) (by kernel_rfl) (fun _ _ _ h => h) (Or.inl ⟨by rfl, ?hy2⟩) (by assumption) ?rest2
          case hy2 => (intro w hSw; (try dsimp only at hSw); go_simp; try with_reducible rfl)
          try simp only [Act.put, lD, lE, lF]
          refine wpAnyH_take (i := 2) (v := ?v3) rfl (by kernel_rfl) (by kernel_rfl) (by kernel_rfl) (fun _ _ _ h => h) (Or.inl ⟨by rfl, ?hy3⟩) (by assumption) ?rest3
          case hy3 => (intro w hSw; (try dsimp only at hSw); go_simp; try with_reducible rfl)
          try simp only [Act.put, lD, lE, lF]
          refine wpAnyH_take (i := 3) (v := ?v4) rfl (by kernel_rfl) (by kernel_rfl) (by kernel_rfl) (fun _ _ _ h => h) (Or.inl ⟨by rfl, ?hy4⟩) (by assumption) ?rest4
          case hy4 => (intro w hSw; (try dsimp only at hSw); go_simp; try with_reducible rfl)
          try simp only [Act.put, lD, lE, lF]
          refine wpAnyH_take (i := 4) (v := ?v5) rfl (by kernel_rfl) (by kernel_rfl) (by kernel_rfl) (fun _ _ _ h => h) (Or.inl ⟨by rfl, ?hy5⟩) (by assumption) ?rest5
          case hy5 => (intro w hSw; (try dsimp only at hSw); go_simp; try with_reducible rfl)
          try simp only [Act.put, lD, lE, lF]
          refine wpAnyH_take (i := 5) (v := ?v6) rfl (by kernel_rfl) (by kernel_rfl) (by kernel_rfl) (fun _ _ _ h => h) (Or.inl ⟨by rfl, ?hy6⟩) (by assumption) ?rest6
          case hy6 => (intro w hSw; (try dsimp only at hSw); go_simp; try with_reducible rfl)
          try simp only [Act.put, lD, lE, lF]
          refine wpAnyH_take (i := 6) (v := ?v7) rfl (by kernel_rfl) (by kernel_rfl) (by kernel_rfl) (fun _ _ _ h => h) (Or.inl ⟨by rfl, ?hy7⟩) (by assumption) ?rest7
          case hy7 => (intro w hSw; (try dsimp only at hSw); go_simp; try with_reducible rfl)
          try simp only [Act.put, lD, lE, lF]
          refine wpAnyH_take (i := 7) (v := ?v8) rfl (by kernel_rfl) (by kernel_rfl) (by kernel_rfl) (fun _ _ _ h => h) (Or.inl ⟨by rfl, ?hy8⟩) (by assumption) ?rest8
          case hy8 => (intro w hSw; (try dsimp only at hSw); go_simp; try with_reducible rfl)
          try simp only [Act.put, lD, lE, lF]
          refine wpAnyH_ready (rs := [8]) (by kernel_rfl) (by simp) ?_
          refine AllReadyH.cons rfl (fun K hK => ?_) ?_
          · clear hHeld
            go_simp
            obtain ⟨V1, hV1⟩ : ∃ V, V = V0.alloc (.cells #[.slice (some ⟨b, off + a, none⟩) (l.length - a) (k1 - a), .slice (some ⟨b, off, none⟩) a k1] 44) := ⟨_, rfl⟩
            have hb6 : Below V0.heap.size V0 V1 := by rw [hV1]; go_grown
            have d1 : V1.cell? ⟨V0.heap.size, 0, none⟩ = some (.slice (some ⟨b, off + a, none⟩) (l.length - a) (k1 - a)) := by rw [hV1]; go_cell
            have d2 : V1.cell? ⟨V0.heap.size, 1, none⟩ = some (.slice (some ⟨b, off, none⟩) a k1) := by rw [hV1]; go_cell
            have HB6 := hide (below_step HB5.out hb6)
            have HR6 := hide (HR5.out.later hb6)
            have CC := hide (concat75 V0.heap.size (some ⟨b, off + a, none⟩) (some ⟨b, off, none⟩) (l.drop a) (l.take a) (k1 - a) k1 V1 (by rw [List.length_drop]; exact d1) (by rw [List.length_take, Nat.min_eq_left hak]; exact d2) (ihas_drop (HLI.out.later HB6.out)) (ihas_take (HLI.out.later HB6.out)) (fun h => by cases h) (fun h => by cases h) (by rw [List.length_drop, List.length_take]; omega) (by rw [List.length_drop, List.length_take]; omega))
            rw [← hV1]
            clear hV1 d1 d2 hb6 HB5 HR5
            refine hK.out _ _ (trivial) (fun hHeld => ?_)
            clear hK K
            try simp only [lD, lE, lF]
            refine wpAnyH_ready (rs := [9]) (by kernel_rfl) (by simp) ?_
            refine AllReadyH.cons rfl (fun K hK => ?_) ?_
            · clear hHeld
              go_simp
              refine CC.out.mono ?_
              rintro e V2 ⟨v1, rfl, o1', hb7⟩
              obtain ⟨p7, l7, c7, rfl⟩ : ∃ p7 l7 c7, v1 = .slice p7 l7 c7 := by obtain ⟨p7, c7, h7, _⟩ := o1'.form; exact ⟨_, _, _, h7⟩
              have HB7 := hide (below_step HB6.out hb7)
              have HLAY := hide (HR6.out.lay hlt hb7 HB6.out.size o1')
              have HCE := hide ((HR6.out.later hb7).cell hlt)
              have HGE : Hid (w.heap.size ≤ g) := HR6.out.size.1
              clear CC hb7 o1' HB6 HR6
              refine hK.out _ _ (trivial) (fun hHeld => ?_)
              clear hK K
              try simp only [lD, lE, lF]
              refine wpAnyH_take (i := 10) (v := ?v9) rfl (by kernel_rfl) (by kernel_rfl) (by kernel_rfl) (fun _ _ _ h => h) (Or.inl ⟨by rfl, ?hy9⟩) (by assumption) ?rest9
              case hy9 => (intro w hSw; (try dsimp only at hSw); go_simp; try with_reducible rfl)
              try simp only [Act.put, lD, lE, lF]
              refine wpAnyH_ready (rs := [11]) (by kernel_rfl) (by simp) ?_
              refine AllReadyH.cons rfl (fun K hK => ?_) ?_
              · clear hHeld
                obtain ⟨d0, f0⟩ := HCE.out
                go_simp
                clear d0 f0
                refine hK.out _ _ (trivial) (fun hHeld => ?_)
                clear hK K
                try simp only [lD, lE, lF]
                refine wpAnyH_done (by kernel_rfl) ?_ _
                clear hHeld
                obtain ⟨V3, hV3⟩ : ∃ V, V = V2.setCell ⟨g, v, none⟩ (.slice p7 l7 c7) := ⟨_, rfl⟩
                have HB8 : Hid (Below w.heap.size w V3) := by show Below _ _ _; rw [hV3]; exact HB7.out.setCell (p := ⟨g, v, none⟩) HGE.out _
                have HR8 := hide (HSTEP.out _ _ _ HTL.out.symm HLAY.out)
                rw [← hV3] at HR8
                rw [← hV3]
                clear hV3 HLAY HB7
                go_wp2
                go_roundw
                case rel => exact ⟨v + 1, _, by omega, by go_num, HB8.out, HR8.out⟩
                case measure => simp [intOf]; omega
              exact AllReadyH.nil
            exact AllReadyH.nil
          exact AllReadyH.nil
    · have hve : v = rs.length := by omega
      have e1 : ¬ (v : Int) < rs.length := by omega
      have HF := hide (HRr.out.congr (L' := fun u => turnL (lat rs u)) (fun u hu => by rw [if_pos (by omega)]))
      clear hve
      go_wp2
      go_ret
      exact ⟨g, rfl, ⟨rv, HF.out⟩, HBr.out⟩
end Go.Proofs.Ytcgdmonejogbaaa
namespace Go.Proofs.Ytcgdmonejogbaaa
open Go.RowKit Go.Sort
open Go
/-- A rotation, each list from its least number on. -/
def canonL (rs : List (List Int)) : List (List Int) := rs.map turnL
theorem canonL_length (rs : List (List Int)) : (canonL rs).length = rs.length := by simp [canonL]
theorem lat_canon {rs : List (List Int)} {v : Nat} (hv : v < rs.length) : lat (canonL rs) v = turnL (lat rs v) := lat_map turnL hv
/-- What a rotation's lists hold is bounded. -/
theorem rot_is {n : Int} {es : List Pt} {rs : List (List Int)} (h : rotI n es rs = 0) : netB n es = true ∧ (rs.length : Int) = n ∧ holdsP es rs := by
  unfold rotI at h
  by_cases hm : netB n es = true
  · rw [if_pos hm] at h
    by_cases hn : (rs.length : Int) = n
    · rw [if_pos hn] at h
      by_cases hh : holdsB es rs = true
      · exact ⟨hm, hn, of_decide_eq_true hh⟩
      · rw [if_neg hh] at h; omega
    · rw [if_neg hn] at h; omega
  · rw [if_neg hm] at h; omega
theorem lat_le_flat {rs : List (List Int)} {v : Nat} (hv : v < rs.length) : (lat rs v).length ≤ rs.flatten.length := by
  have : lat rs v ∈ rs := by
    unfold lat
    rw [List.getD_eq_getElem?_getD, List.getElem?_eq_getElem hv]
    exact List.getElem_mem hv
  exact (List.sublist_flatten_of_mem this).length_le
theorem rot_bounds {n : Int} {es : List Pt} {rs : List (List Int)} (h : rotI n es rs = 0) : rs.length ≤ 1024 ∧ ∀ v, v < rs.length → (lat rs v).length ≤ 6144 := by
  obtain ⟨h1, h2, h3⟩ := rot_is h
  obtain ⟨n0, n1, hes, _⟩ := netB_is h1
  refine ⟨by omega, fun v hv => ?_⟩
  have := lat_le_flat hv
  have := h3.2
  omega
end Go.Proofs.Ytcgdmonejogbaaa
