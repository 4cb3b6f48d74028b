/- Merge, in every world. -/
import Derived.Test.YtmmbbfmkhbengaaN6
namespace Go.Proofs.Ytmmbbfmkhbengaa
open Go.RowKit Go.Sort
open Go

def mrg (v w : Nat) : Int := if v < w then (w : Int) - 1 else w
def mergeL (m u v : Nat) : List Int := ((List.range m).map (mrg v)).set v (mrg v u)
theorem mergeL_length (m u v : Nat) : (mergeL m u v).length = m := by simp [mergeL]
theorem mergeL_at {m u v j : Nat} (hj : j < m) : iat (mergeL m u v) j = if v = j then mrg v u else mrg v j := by
  unfold mergeL
  rw [iat_set _ _ _ _ (by simpa using hj), iat_map _ _ 0 (by simpa using hj), List.getD_eq_getElem?_getD, List.getElem?_range hj]
  rfl
def mergE (n : Int) (es : List Pt) (u v : Int) : Int := if netB n es then (if belowB u n && belowB v n then (if u = v then 1 else 0) else 2) else 1
def MergePost (n : Int) (es : List Pt) (u v : Int) (w : World) (e : Ending) (w' : World) : Prop :=
  (mergE n es u v = 0 ∧ ∃ g h, e = .returned (.tuple #[nv (n - 1) (some ⟨g, 0, none⟩) es.length es.length, .slice (some ⟨h, 0, none⟩) n.toNat n.toNat, .int .i64 0]) ∧ PRow w' w.heap.size g es.length (rename es (mergeL n.toNat u.toNat v.toNat)) ∧ IRow w' w.heap.size h n.toNat (mergeL n.toNat u.toNat v.toNat)) ∨ (mergE n es u v ≠ 0 ∧ e = .returned (.tuple #[nv 0 none 0 0, .slice none 0 0, .int .i64 (mergE n es u v)]))
theorem mergE_is {n : Int} {es : List Pt} {u v : Int} (h : mergE n es u v = 0) : netB n es = true ∧ (0 ≤ u ∧ u < n) ∧ (0 ≤ v ∧ v < n) ∧ u ≠ v := by
  unfold mergE at h
  by_cases k : netB n es = true
  · rw [if_pos k] at h
    by_cases k2 : (belowB u n && belowB v n) = true
    · rw [if_pos k2] at h
      simp only [Bool.and_eq_true] at k2
      by_cases k3 : u = v
      · rw [if_pos k3] at h; omega
      · exact ⟨k, belowB_is k2.1, belowB_is k2.2, k3⟩
    · rw [if_neg k2] at h; omega
  · rw [if_neg k] at h; omega

set_option maxRecDepth 100000 in
set_option maxHeartbeats 8000000 in
theorem merge31 (n : Int) (p : Option Addr) (es : List Pt) (cp : Nat) (u v : Int) (w : World) (h : Has w p es) : Calls Try.prog 31 #[nv n p es.length cp, .int .i64 u, .int .i64 v] w fun e w' => MergePost n es u v w e w' ∧ Below w.heap.size w w' := by
  obtain ⟨W, hW, hb, a0, b0⟩ := two_nets w n p es.length cp
  have M := hide (may13 n p es cp W (h.later hb))
  have HH := hide (h.later hb)
  have HB := hide hb
  have HA := hide a0
  have HN := hide b0
  obtain ⟨q0, q1, _, _⟩ := a0
  clear h hb b0
  obtain ⟨i0, hi0, hz0, hz1, hz2⟩ := info_parts info3
  cases hm : netB n es
  · have hS : Hid (mergE n es u v = 1) := by show _ = _; unfold mergE; rw [hm]; rfl
    rw [hm] at M
    go_enter Try.func31, Try.ntmps31
    go_wp2_with fail
    rw [← hW]
    clear hW
    go_wp2_with fail
    refine M.out.mono ?_
    rintro e w1 ⟨rfl, hb1⟩
    have HB1 := hide (below_step HB.out hb1)
    have HN1 := hide (HN.out.later hb1)
    have HA1 := hide (HA.out.later hb1)
    have HH1 := hide (HH.out.later hb1)
    clear q0 q1 hb1 HA HN HB HH M
    obtain ⟨q0, q1, _, _⟩ := HA1.out
    obtain ⟨r0, r1, r2, r3⟩ := HN1.out
    go_wp2
    obtain ⟨V, hV⟩ : ∃ V, V = (w1.setCell ⟨w.heap.size + 1, 0, none⟩ (.int .i64 0)).setCell ⟨w.heap.size + 1, 1, none⟩ (.slice none 0 0) := ⟨_, rfl⟩
    have kV : NOwn V (w.heap.size + 1) 0 none 0 0 := by rw [hV]; exact HN1.out.set 0 none 0 0
    have bV : Below w.heap.size w V := by rw [hV]; exact (HB1.out.setCell (by simp) _).setCell (by simp) _
    rw [← hV]
    exact bodyPost_ret (ret_net3 Try.results31 rfl rfl rfl kV) rfl ⟨Or.inr ⟨by rw [hS.out]; omega, by rw [hS.out]; rfl⟩, bV⟩
  rw [hm] at M
  obtain ⟨n0, n1, hes, hends⟩ := netB_is hm
  have HE := hide hends
  clear hends
  obtain ⟨m, rfl⟩ : ∃ m : Nat, n = m := ⟨n.toNat, by omega⟩
  have U := below36 u m
  have V := below36 v m
  cases hu : belowB u m
  · have hS : Hid (mergE m es u v = 2) := by show _ = _; unfold mergE; rw [hm, hu]; rfl
    rw [hu] at U
    go_enter Try.func31, Try.ntmps31
    go_wp2_with fail
    rw [← hW]
    clear hW
    go_wp2_with fail
    refine M.out.mono ?_
    rintro e w1 ⟨rfl, hb1⟩
    have HB1 := hide (below_step HB.out hb1)
    have HN1 := hide (HN.out.later hb1)
    have HA1 := hide (HA.out.later hb1)
    have HH1 := hide (HH.out.later hb1)
    clear q0 q1 hb1 HA HN HB HH M
    obtain ⟨q0, q1, _, _⟩ := HA1.out
    obtain ⟨r0, r1, r2, r3⟩ := HN1.out
    go_wp2_with (go_at_call 36; with_reducible refine (U _).mono ?_; rintro e w' ⟨rfl, hw⟩; have hw := hw.symm; subst hw)
    obtain ⟨V, hV⟩ : ∃ V, V = (w1.setCell ⟨w.heap.size + 1, 0, none⟩ (.int .i64 0)).setCell ⟨w.heap.size + 1, 1, none⟩ (.slice none 0 0) := ⟨_, rfl⟩
    have kV : NOwn V (w.heap.size + 1) 0 none 0 0 := by rw [hV]; exact HN1.out.set 0 none 0 0
    have bV : Below w.heap.size w V := by rw [hV]; exact (HB1.out.setCell (by simp) _).setCell (by simp) _
    rw [← hV]
    exact bodyPost_ret (ret_net3 Try.results31 rfl rfl rfl kV) rfl ⟨Or.inr ⟨by rw [hS.out]; omega, by rw [hS.out]; rfl⟩, bV⟩
  rw [hu] at U
  cases hv : belowB v m
  · have hS : Hid (mergE m es u v = 2) := by show _ = _; unfold mergE; rw [hm, hu, hv]; rfl
    rw [hv] at V
    go_enter Try.func31, Try.ntmps31
    go_wp2_with fail
    rw [← hW]
    clear hW
    go_wp2_with fail
    refine M.out.mono ?_
    rintro e w1 ⟨rfl, hb1⟩
    have HB1 := hide (below_step HB.out hb1)
    have HN1 := hide (HN.out.later hb1)
    have HA1 := hide (HA.out.later hb1)
    have HH1 := hide (HH.out.later hb1)
    clear q0 q1 hb1 HA HN HB HH M
    obtain ⟨q0, q1, _, _⟩ := HA1.out
    obtain ⟨r0, r1, r2, r3⟩ := HN1.out
    go_wp2_with (go_at_call 36; first | (with_reducible refine (U _).mono ?_; rintro e w' ⟨rfl, hw⟩; have hw := hw.symm; subst hw) | (with_reducible refine (V _).mono ?_; rintro e w' ⟨rfl, hw⟩; have hw := hw.symm; subst hw))
    obtain ⟨V, hV⟩ : ∃ V, V = (w1.setCell ⟨w.heap.size + 1, 0, none⟩ (.int .i64 0)).setCell ⟨w.heap.size + 1, 1, none⟩ (.slice none 0 0) := ⟨_, rfl⟩
    have kV : NOwn V (w.heap.size + 1) 0 none 0 0 := by rw [hV]; exact HN1.out.set 0 none 0 0
    have bV : Below w.heap.size w V := by rw [hV]; exact (HB1.out.setCell (by simp) _).setCell (by simp) _
    rw [← hV]
    exact bodyPost_ret (ret_net3 Try.results31 rfl rfl rfl kV) rfl ⟨Or.inr ⟨by rw [hS.out]; omega, by rw [hS.out]; rfl⟩, bV⟩
  rw [hv] at V
  by_cases huv : u = v
  · have hS : Hid (mergE m es u v = 1) := by show _ = _; simp [mergE, hm, hv, huv]
    subst huv
    go_enter Try.func31, Try.ntmps31
    go_wp2_with fail
    rw [← hW]
    clear hW
    go_wp2_with fail
    refine M.out.mono ?_
    rintro e w1 ⟨rfl, hb1⟩
    have HB1 := hide (below_step HB.out hb1)
    have HN1 := hide (HN.out.later hb1)
    have HA1 := hide (HA.out.later hb1)
    have HH1 := hide (HH.out.later hb1)
    clear q0 q1 hb1 HA HN HB HH M
    obtain ⟨q0, q1, _, _⟩ := HA1.out
    obtain ⟨r0, r1, r2, r3⟩ := HN1.out
    go_wp2_with (go_at_call 36; with_reducible refine (U _).mono ?_; rintro e w' ⟨rfl, hw⟩; have hw := hw.symm; subst hw)
    obtain ⟨V, hV⟩ : ∃ V, V = (w1.setCell ⟨w.heap.size + 1, 0, none⟩ (.int .i64 0)).setCell ⟨w.heap.size + 1, 1, none⟩ (.slice none 0 0) := ⟨_, rfl⟩
    have kV : NOwn V (w.heap.size + 1) 0 none 0 0 := by rw [hV]; exact HN1.out.set 0 none 0 0
    have bV : Below w.heap.size w V := by rw [hV]; exact (HB1.out.setCell (by simp) _).setCell (by simp) _
    rw [← hV]
    exact bodyPost_ret (ret_net3 Try.results31 rfl rfl rfl kV) rfl ⟨Or.inr ⟨by rw [hS.out]; omega, by rw [hS.out]; rfl⟩, bV⟩
  have hS : Hid (mergE m es u v = 0) := by show _ = _; simp [mergE, hm, hu, hv, huv]
  have huvb : (u == v) = false := by simpa using huv
  obtain ⟨u0, u1⟩ := belowB_is hu
  obtain ⟨v0, v1⟩ := belowB_is hv
  obtain ⟨un, rfl⟩ : ∃ un : Nat, u = un := ⟨u.toNat, by omega⟩
  obtain ⟨vn, rfl⟩ : ∃ vn : Nat, v = vn := ⟨v.toNat, by omega⟩
  go_enter Try.func31, Try.ntmps31
  go_wp2_with fail
  rw [← hW]
  clear hW
  go_wp2_with fail
  refine M.out.mono ?_
  rintro e w1 ⟨rfl, hb1⟩
  have HB1 := hide (below_step HB.out hb1)
  have HN1 := hide (HN.out.later hb1)
  have HA1 := hide (HA.out.later hb1)
  have HH1 := hide (HH.out.later hb1)
  clear q0 q1 hb1 HA HN HB HH M
  obtain ⟨q0, q1, _, _⟩ := HA1.out
  go_wp2_with (first | (go_at_call 36; first | (with_reducible refine (U _).mono ?_; rintro e w' ⟨rfl, hw⟩; have hw := hw.symm; subst hw) | (with_reducible refine (V _).mono ?_; rintro e w' ⟨rfl, hw⟩; have hw := hw.symm; subst hw)) | (refine wpList_make_full _ rfl (.tmp 33) (.tmp 33) 25 rfl w1.heap.size 3 i0 (.int .i64 0) 1 Try.underlying25 hi0 hz0 hz1 .i64 .i64 _ _ m rfl rfl rfl rfl ?c1 ?c2 ?c3 ?_))
  case c1 => rw [hz2]; omega
  case c2 => unfold maxLen; omega
  case c3 => exact Nat.le_refl _
  intro w2 hown hgrow
  have HR2 := hide (irow_made hown)
  have HB2 := hide (below_made hgrow)
  have hws : w.heap.size + 1 < w1.heap.size := block_lt_of_cell HN1.out.1
  clear hown hgrow q0 q1 U V
  go_wp2_with fail
  go_loopw [37] (fun t wr => ∃ i : Nat, i ≤ m ∧ t = .int .i64 i ∧ Hid (Below w1.heap.size w1 wr) ∧ Hid (∃ r, IRow wr w1.heap.size w1.heap.size m r ∧ ∀ j, j < i → iat r j = mrg vn j)) (fun t _ => m - (intOf t).toNat)
  case atStart => exact ⟨0, by omega, rfl, HB2.out, _, HR2.out, fun j hj => by omega⟩
  case round =>
    obtain ⟨i, hi, rfl, HBr, HR⟩ := hrel
    obtain ⟨r, hr, hall⟩ := HR.out
    have HR' := hide hr
    have HAl := hide hall
    clear hr hall HR
    by_cases hlt : i < m
    · obtain ⟨c0, f0⟩ := HR'.out.cell hlt
      by_cases hvi : vn < i
      · have hM : Hid (mrg vn i = (i : Int) - 1) := by show _ = _; unfold mrg; rw [if_pos hvi]
        have hvi' : (vn : Int) < i := by omega
        go_wp2
        go_roundw
        case rel =>
          refine ⟨i + 1, by omega, by go_num, (HBr.out.setCell (by simp) _).setCell (by simp) _, _, (HR'.out.set i _).set i _, more (fun j hj => ?_) ?_⟩
          · rw [iat_set _ _ _ _ (by rw [List.length_set, HR'.out.1]; omega), if_neg (by omega), iat_set _ _ _ _ (by rw [HR'.out.1]; omega), if_neg (by omega)]; exact HAl.out j hj
          · rw [iat_set _ _ _ _ (by rw [List.length_set, HR'.out.1]; omega), if_pos rfl, hM.out]
        case measure => simp [intOf]; omega
      · have hM : Hid (mrg vn i = (i : Int)) := by show _ = _; unfold mrg; rw [if_neg hvi]
        have hvi' : ¬ (vn : Int) < i := by omega
        go_wp2
        go_roundw
        case rel =>
          refine ⟨i + 1, by omega, by go_num, HBr.out.setCell (by simp) _, _, HR'.out.set i _, more (fun j hj => ?_) ?_⟩
          · rw [iat_set _ _ _ _ (by rw [HR'.out.1]; omega), if_neg (by omega)]; exact HAl.out j hj
          · rw [iat_set _ _ _ _ (by rw [HR'.out.1]; omega), if_pos rfl, hM.out]
        case measure => simp [intOf]; omega
    · have hin : i = m := by omega
      subst hin
      obtain ⟨c0, f0⟩ := HR'.out.cell (j := un) (by omega)
      obtain ⟨c1, f1⟩ := HR'.out.cell (j := vn) (by omega)
      have hru : Hid (iat r un = mrg vn un) := HAl.out un (by omega)
      rw [hru.out] at c0
      have hL : Hid (r.set vn (mrg vn un) = mergeL i un vn) := by
        refine iat_ext (by rw [List.length_set, HR'.out.1, mergeL_length]) fun j hj => ?_
        rw [List.length_set, HR'.out.1] at hj
        rw [iat_set _ _ _ _ (by rw [HR'.out.1]; exact hj), mergeL_at hj]
        by_cases e : vn = j
        · rw [if_pos e, if_pos e]
        · rw [if_neg e, if_neg e]; exact HAl.out j hj
      have hLl := mergeL_length i un vn
      have HML : Hid (mergeL ((i : Nat) : Int).toNat ((un : Nat) : Int).toNat ((vn : Nat) : Int).toNat = mergeL i un vn) := by show _ = _; rw [Int.toNat_natCast, Int.toNat_natCast, Int.toNat_natCast]
      obtain ⟨X, hX⟩ : ∃ X, mrg vn un = X := ⟨_, rfl⟩
      rw [hX] at c0 hL
      obtain ⟨ML, hML⟩ : ∃ ML, mergeL i un vn = ML := ⟨_, rfl⟩
      rw [hML] at hL hLl HML
      clear hX hML
      obtain ⟨w3, hw3⟩ : ∃ w3, w3 = wr.setCell ⟨w1.heap.size, vn, none⟩ (.int .i64 X) := ⟨_, rfl⟩
      have HR3 : Hid (IRow w3 w1.heap.size w1.heap.size i ML) := by show IRow _ _ _ _ _; rw [hw3, ← hL.out]; exact HR'.out.set vn X
      have hb3 : Below w1.heap.size w1 w3 := by rw [hw3]; exact HBr.out.setCell (by simp) _
      have HB3 := hide (below_step HB1.out hb3)
      have HA3 := hide (HA1.out.later hb3)
      have HN3 := hide (HN1.out.later hb3)
      have HH3 := hide (HH1.out.later hb3)
      have hs3 := hb3.size
      have PK : Hid (∀ w4, Below w3.heap.size w3 w4 → Calls Try.prog 50 #[.slice p es.length cp, .slice (some ⟨w1.heap.size, 0, none⟩) i i] w4 fun e w' => ∃ g, e = .returned (.slice (some ⟨g, 0, none⟩) es.length es.length) ∧ PRow w' w4.heap.size g es.length (rename es ML) ∧ Below w4.heap.size w4 w') := fun w4 h4 => by
        have := renamed50 p (some ⟨w1.heap.size, 0, none⟩) es ML cp i w4 (by omega) (fun j hj => by rw [hLl]; exact HE.out j hj) (HH3.out.later h4) (HR3.out.has.later h4)
        rw [hLl] at this; exact this
      obtain ⟨r0, r1, r2, r3⟩ := HN3.out
      obtain ⟨q0, q1, _, _⟩ := HA3.out
      have hwr : IntKind.i64.wrap ((i : Int) - 1) = (i : Int) - 1 := by unfold IntKind.wrap; simp [IntKind.bits]; omega
      clear hb3
      go_wp2_with fail
      rw [show wr.setCell ⟨w1.heap.size, vn, none⟩ (.int .i64 X) = w3 from hw3.symm]
      clear hw3
      go_region_held3 (fun W => W.cell? ⟨w.heap.size, 0, none⟩ = some (.int .i64 i) ∧ W.cell? ⟨w.heap.size, 1, none⟩ = some (.slice p es.length cp))
        (first | exact ⟨HA3.out.1, HA3.out.2.1⟩ | exact ⟨HA4.out.1, HA4.out.2.1⟩ | exact ⟨other2 HA4.out.1 (by simp), other2 HA4.out.2.1 (by simp)⟩)
        (first | (go_at_call 50; refine (PK.out _ (by go_grown)).mono ?_; rintro e w4 ⟨g4, rfl, hr4, hb4'⟩; have hb4 : Below w3.heap.size w3 w4 := below_step (below_drew w3) hb4'; clear hb4'; have HA4 := hide (HA3.out.later hb4); have HN4 := hide (HN3.out.later hb4); have HR4 : Hid (PRow w4 w3.heap.size g4 es.length (rename es ML)) := hr4; have HI4 := hide (HR3.out.later hb4); have HB4 := hide (below_step HB3.out hb4); clear hb4 hr4; obtain ⟨s0, s1, s2, s3⟩ := HN4.out))
      rename_i hHeld
      clear hHeld
      have hg4 := HR4.out.lt
      obtain ⟨V, hV⟩ : ∃ V, V = (w4.setCell ⟨w.heap.size + 1, 0, none⟩ (.int .i64 ((i : Int) - 1))).setCell ⟨w.heap.size + 1, 1, none⟩ (.slice (some ⟨g4, 0, none⟩) es.length es.length) := ⟨_, rfl⟩
      have kV : NOwn V (w.heap.size + 1) ((i : Int) - 1) (some ⟨g4, 0, none⟩) es.length es.length := by rw [hV]; exact HN4.out.set _ _ _ _
      have bV : Below w.heap.size w V := by rw [hV]; exact (HB4.out.setCell (by simp) _).setCell (by simp) _
      have rV : PRow V w.heap.size g4 es.length (rename es ML) := by rw [hV]; exact (prow_other (prow_other HR4.out (by omega) _) (by omega) _).base (by omega)
      have oV : IRow V w.heap.size w1.heap.size i ML := by rw [hV]; exact (irow_other (irow_other HI4.out (by omega) _) (by omega) _).base (by omega)
      rw [← hV]
      go_wp2_with fail
      exact bodyPost_ret (ret_net3 Try.results31 rfl rfl rfl kV) rfl ⟨Or.inl ⟨hS.out, g4, w1.heap.size, by rw [Int.toNat_natCast]; rfl, by rw [HML.out]; exact rV, by rw [HML.out, Int.toNat_natCast]; exact oV⟩, bV⟩
end Go.Proofs.Ytmmbbfmkhbengaa
