/- That WeighAll answers true to every list of words, in every world whose tables are laid. -/
import Derived.Test.YthmnmkolekgjoaaGreatDoorW17
import Derived.Test.YthmnmkolekgjoaaGreatDoorWSums
import Derived.Lib.QuietBelow
import Derived.Deep.AppendLies
namespace Go.Proofs.YthmnmkolekgjoaaGreatDoor
open Go.RowKit Go.Sort
open Go

theorem or_below {w w' : World} (h : w' = w) : Below w.heap.size w w' := by subst h; exact Below.refl _ _

set_option maxRecDepth 100000 in
set_option maxHeartbeats 1000000 in
theorem of10zero (p : Option Addr) (cap : Nat) (w : World) : Calls Tryz.prog 10 #[.slice p 0 cap] w fun e w' => e = .returned (.slice none 0 0) ∧ w' = w := by
  go_enter Tryz.func10, Tryz.ntmps10
  go_wp2
  go_loopw [3, 4] (fun v t wr => v = .slice none 0 0 ∧ t = .int .i64 0 ∧ wr = w) (fun _ t _ => 0)
  case atStart => exact ⟨rfl, rfl, rfl⟩
  case round =>
    obtain ⟨rfl, rfl, rfl⟩ := hrel
    go_wp2
    go_ret
    exact ⟨rfl, rfl⟩

set_option maxRecDepth 100000 in
set_option maxHeartbeats 1000000 in
theorem all_zero (p : Option Addr) (cap : Nat) (w : World) (hV : Vars w) : Calls Tryz.prog 3 #[.slice p 0 cap] w fun e w' => e = .returned (.bool true) ∧ Below w.heap.size w w' := by
  have HG := Lib.hid (begun9 w hV)
  clear hV
  go_enter Tryz.func3, Tryz.ntmps3
  go_wp2_with fail
  refine HG.out.mono ?_
  rintro e w1 ⟨rfl, hb⟩
  have HB := Lib.hid hb
  clear hb
  go_wp2_with fail
  refine (of10zero _ _ _).mono ?_
  rintro e w2 ⟨rfl, rfl⟩
  go_wp2
  go_loopw [4] (fun t wr => t = .int .i64 0 ∧ wr = w2) (fun t _ => 0)
  case atStart => exact ⟨rfl, rfl⟩
  case round =>
    obtain ⟨rfl, rfl⟩ := hrel
    go_wp2
    go_ret
    exact ⟨rfl, HB.out⟩

set_option maxRecDepth 100000 in
set_option maxHeartbeats 4000000 in
theorem all_walk (b off len cap : Nat) (zs : List Int) (w : World) (hpos : 0 < len) (hz : len ≤ zs.length) (hreach : len * 8 ≤ 140737488351232) (hc : ∀ j : Nat, j < len → w.cell? ⟨b, off + j, none⟩ = some (.int .u64 (zs.getD j 0))) (hbw : b < w.heap.size)
    (hwz : ∀ z ∈ zs, z.toNat < 18446744073709551616) (hV : Vars w) : Calls Tryz.prog 3 #[.slice (some ⟨b, off, none⟩) len cap] w fun e w' => e = .returned (.bool true) ∧ Below w.heap.size w w' := by
  have HG := Lib.hid (begun9 w hV)
  have HT := Lib.hid hV.tabs
  have HC := Lib.hid hc
  have HW := Lib.hid hwz
  clear hV hc hwz
  go_enter Tryz.func3, Tryz.ntmps3
  go_wp2_with fail
  refine HG.out.mono ?_
  rintro e w1 ⟨rfl, hb⟩
  have HB := Lib.hid hb
  clear hb
  go_wp2_with fail
  refine (of10 b off len cap zs w1 hz hreach (fun j hj => by rw [HB.out.cell (p := ⟨b, off + j, none⟩) hbw]; exact HC.out j hj) (Or.inr (Nat.lt_of_lt_of_le hbw HB.out.size))).mono ?_
  rintro e w2 ⟨v, rfl, hown, hb2⟩
  obtain ⟨g, cp, rfl, hg1, hg2⟩ := World.ownsRow.form hown hpos
  have HX : Hid (∀ j : Nat, j < len → w2.cell? ⟨g, j, none⟩ = some (.float .f64 (zs.getD j 0).toNat)) := fun j hj => by
    rw [World.ownsRow.cellAt hown j (by omega)]
    unfold flts
    rw [List.getElem?_map, List.getElem?_take, if_pos hj, List.getElem?_eq_getElem (by omega)]
    simp [List.getD_eq_getElem?_getD, List.getElem?_eq_getElem (show j < zs.length by omega)]
  have HZ : Hid (∀ j : Nat, j < len → (zs.getD j 0).toNat < 18446744073709551616) := fun j hj => by
    rw [List.getD_eq_getElem?_getD, List.getElem?_eq_getElem (show j < zs.length by omega)]
    exact HW.out _ (List.getElem_mem _)
  have HB2 : Hid (Below w.heap.size w w2) := HB.out.trans (hb2.mono HB.out.size)
  have HT2 : Hid (Tabs w2) := HT.out.below HB2.out
  clear hb2 hown HW HC
  go_wp2
  go_loopw [4] (fun t wr => ∃ i : Nat, i ≤ len ∧ i ≤ 30 ∧ t = .int .i64 i ∧ Below w2.heap.size w2 wr) (fun t _ => len - (intOf t).toNat)
  case atStart => exact ⟨0, Nat.zero_le _, Nat.zero_le _, rfl, Below.refl _ _⟩
  case round =>
    obtain ⟨i, hi, hi30, rfl, hbr⟩ := hrel
    by_cases hlt : i < len
    · by_cases hl3 : i < 30
      · obtain ⟨x, hx⟩ : ∃ x, (zs.getD i 0).toNat = x := ⟨_, rfl⟩
        have ck : wr.cell? ⟨g, i, none⟩ = some (.float .f64 x) := by
          rw [hbr.cell (p := ⟨g, i, none⟩) hg2, ← hx]; exact HX.out i hlt
        have x64 : x < 18446744073709551616 := by rw [← hx]; exact HZ.out i hlt
        have HTr : Hid (Tabs wr) := HT2.out.below hbr
        have HBr := Lib.hid hbr
        clear hbr
        go_wp2_with fail
        have k0 := cell_regrown ck
        have c11 : ∀ d os, Calls Tryz.prog 11 #[.float .f64 x] (grow (redrawn wr d) os) fun e w'' => e = .returned (.bool (goodB x)) ∧ ∃ p : Regrown, w'' = grow (redrawn wr p.d) p.os := fun d os => Calls.regrown_of ((good11 x _).mono fun _ _ h => ⟨h.1, or_below h.2⟩)
        have c12 : ∀ d os, Calls Tryz.prog 12 #[.float .f64 x] (grow (redrawn wr d) os) fun e w'' => e = .returned (.bool (goodB x)) ∧ ∃ p : Regrown, w'' = grow (redrawn wr p.d) p.os := fun d os => Calls.regrown_of ((good12 x _).mono fun _ _ h => ⟨h.1, or_below h.2⟩)
        have c14 : ∀ d os, Calls Tryz.prog 14 #[.float .f64 x] (grow (redrawn wr d) os) fun e w'' => e = .returned (.float .f64 (cleanN x)) ∧ ∃ p : Regrown, w'' = grow (redrawn wr p.d) p.os := fun d os => Calls.regrown_of ((clean14 x _).mono fun _ _ h => ⟨h.1, or_below h.2⟩)
        have c15 : ∀ d os, Calls Tryz.prog 15 #[.float .f64 x] (grow (redrawn wr d) os) fun e w'' => e = .returned (.float .f64 (cleanN x)) ∧ ∃ p : Regrown, w'' = grow (redrawn wr p.d) p.os := fun d os => Calls.regrown_of ((clean15 x _).mono fun _ _ h => ⟨h.1, or_below h.2⟩)
        have c13 : ∀ y z d os, Calls Tryz.prog 13 #[.float .f64 y, .float .f64 z] (grow (redrawn wr d) os) fun e w'' => e = .returned (.bool ((y : Int) == (z : Int))) ∧ ∃ p : Regrown, w'' = grow (redrawn wr p.d) p.os := fun y z d os => Calls.regrown_of ((bits13 y z _).mono fun _ _ h => ⟨h.1, or_below h.2⟩)
        have c16 : ∀ d os, Calls Tryz.prog 16 #[.float .f64 x] (grow (redrawn wr d) os) fun e w'' => e = .returned (.string (textOf x)) ∧ ∃ p : Regrown, w'' = grow (redrawn wr p.d) p.os := fun d os => Calls.regrown_of (textAll16 x x64 _ (HTr.out.below (below_regrown wr d os)))
        have c17 : ∀ d os, Calls Tryz.prog 17 #[.float .f64 x] (grow (redrawn wr d) os) fun e w'' => e = .returned (.string (textOf x)) ∧ ∃ p : Regrown, w'' = grow (redrawn wr p.d) p.os := fun d os => Calls.regrown_of (textAll17 x x64 _ (HTr.out.below (below_regrown wr d os)))
        refine wp_region_quiet_below (by kernel_rfl) (by kernel_rfl) ?_
        repeat (quiet_step (first | exact c11 _ _ | exact c12 _ _ | exact c14 _ _ | exact c15 _ _ | exact c13 _ _ _ _ | exact c16 _ _ | exact c17 _ _))
        refine wpQuiet_nil ?_
        intro wq hw'
        have HBq : Hid (Below w2.heap.size w2 wq) := by
          obtain ⟨⟨dq, osq⟩, hw''⟩ := hw'
          rw [hw'']
          exact HBr.out.trans ((below_regrown wr dq osq).mono HBr.out.size)
        clear hw' c11 c12 c13 c14 c15 c16 c17 k0 HBr HTr ck
        go_wp2
        go_loopw [5] (fun t wr => ∃ k : Nat, k ≤ len ∧ k ≤ 30 ∧ t = .int .i64 k ∧ Below w2.heap.size w2 wr) (fun t _ => len - (intOf t).toNat)
        case atStart => exact ⟨0, Nat.zero_le _, Nat.zero_le _, rfl, HBq.out⟩
        case round =>
          obtain ⟨k, hk, hk30, rfl, hbk⟩ := hrel
          by_cases hkt : k < len
          · by_cases hk3 : k < 30
            · obtain ⟨y, hy⟩ : ∃ y, (zs.getD k 0).toNat = y := ⟨_, rfl⟩
              have ci : wr.cell? ⟨g, i, none⟩ = some (.float .f64 x) := by
                rw [hbk.cell (p := ⟨g, i, none⟩) hg2, ← hx]; exact HX.out i hlt
              have ck : wr.cell? ⟨g, k, none⟩ = some (.float .f64 y) := by
                rw [hbk.cell (p := ⟨g, k, none⟩) hg2, ← hy]; exact HX.out k hkt
              have HBk := Lib.hid hbk
              clear hy hbk
              go_wp2_with fail
              have k0 := cell_regrown ci
              have k1 := cell_regrown ck
              have c18 : ∀ d os, Calls Tryz.prog 18 #[.float .f64 x, .float .f64 y] (grow (redrawn wr d) os) fun e w'' => e = .returned (.float .f64 (addN x y)) ∧ ∃ p : Regrown, w'' = grow (redrawn wr p.d) p.os := fun d os => Calls.regrown_of ((add18 x y _).mono fun _ _ h => ⟨h.1, below_or h.2⟩)
              have c19 : ∀ d os, Calls Tryz.prog 19 #[.float .f64 x, .float .f64 y] (grow (redrawn wr d) os) fun e w'' => e = .returned (.float .f64 (addN x y)) ∧ ∃ p : Regrown, w'' = grow (redrawn wr p.d) p.os := fun d os => Calls.regrown_of ((add19 x y _).mono fun _ _ h => ⟨h.1, below_or h.2⟩)
              have c13 : ∀ y z d os, Calls Tryz.prog 13 #[.float .f64 y, .float .f64 z] (grow (redrawn wr d) os) fun e w'' => e = .returned (.bool ((y : Int) == (z : Int))) ∧ ∃ p : Regrown, w'' = grow (redrawn wr p.d) p.os := fun y z d os => Calls.regrown_of ((bits13 y z _).mono fun _ _ h => ⟨h.1, or_below h.2⟩)
              have c20 : ∀ d os, Calls Tryz.prog 20 #[.float .f64 x, .float .f64 y] (grow (redrawn wr d) os) fun e w'' => e = .returned (.bool (lessB x y)) ∧ ∃ p : Regrown, w'' = grow (redrawn wr p.d) p.os := fun d os => Calls.regrown_of ((less20 x y _).mono fun _ _ h => ⟨h.1, or_below h.2⟩)
              have c21 : ∀ d os, Calls Tryz.prog 21 #[.float .f64 x, .float .f64 y] (grow (redrawn wr d) os) fun e w'' => e = .returned (.bool (lessB x y)) ∧ ∃ p : Regrown, w'' = grow (redrawn wr p.d) p.os := fun d os => Calls.regrown_of ((less21 x y _).mono fun _ _ h => ⟨h.1, or_below h.2⟩)
              refine wp_region_quiet_below (by kernel_rfl) (by kernel_rfl) ?_
              repeat (quiet_step (first | exact c18 _ _ | exact c19 _ _ | exact c13 _ _ _ _ | exact c20 _ _ | exact c21 _ _))
              refine wpQuiet_nil ?_
              intro wk hw'
              have HBw : Hid (Below w2.heap.size w2 wk) := by
                obtain ⟨⟨dq, osq⟩, hw''⟩ := hw'
                rw [hw'']
                exact HBk.out.trans ((below_regrown wr dq osq).mono HBk.out.size)
              clear hw' c18 c19 c13 c20 c21 k0 k1 HBk ci ck
              go_wp2
              go_roundw
              case rel => exact ⟨k + 1, by omega, by omega, by go_num, HBw.out⟩
              case measure => simp [intOf]; omega
            · have HBk := Lib.hid hbk
              clear hbk
              go_wp2
              go_roundw
              case rel => exact ⟨i + 1, by omega, by omega, by go_num, HBk.out⟩
              case measure => simp [intOf]; omega
          · have HBk := Lib.hid hbk
            clear hbk
            go_wp2
            go_roundw
            case rel => exact ⟨i + 1, by omega, by omega, by go_num, HBk.out⟩
            case measure => simp [intOf]; omega
      · go_wp2
        go_ret
        exact ⟨rfl, HB2.out.trans (hbr.mono HB2.out.size)⟩
    · go_wp2
      go_ret
      exact ⟨rfl, HB2.out.trans (hbr.mono HB2.out.size)⟩
end Go.Proofs.YthmnmkolekgjoaaGreatDoor
