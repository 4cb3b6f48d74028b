/- Split, in every world. -/
import Derived.Test.YtmmbbfmkhbengaaN6
import Derived.Laws.IdiomCopy
namespace Go.Proofs.Ytmmbbfmkhbengaa
open Go.RowKit Go.Sort
open Go

theorem owns_setCells {base g cap n : Nat} {e : TypeId} {size : Nat} : ∀ (vs : List Value) (o : Nat) (w : World) (xs : List Value), w.ownsRow base e size (.slice (some ⟨g, 0, none⟩) n cap) n xs → o + vs.length ≤ xs.length → (w.setCells g o vs).ownsRow base e size (.slice (some ⟨g, 0, none⟩) n cap) n (xs.take o ++ vs ++ xs.drop (o + vs.length))
  | [], o, w, xs, h, _ => by
    simp only [World.setCells, List.append_nil, List.length_nil, Nat.add_zero, List.take_append_drop]
    exact h
  | v :: r, o, w, xs, h, hl => by
    have hl' : o + (r.length + 1) ≤ xs.length := by simpa using hl
    have ih := owns_setCells (base := base) (g := g) (cap := cap) (n := n) (e := e) (size := size) r (o + 1) (w.setCell ⟨g, o, none⟩ v) (xs.set o v) (World.ownsRow.stored h o v).1 (by rw [List.length_set]; omega)
    simp only [World.setCells]
    rw [list_seg_step xs o v r hl'] at ih
    exact ih
theorem grown_setCells {g : Nat} : ∀ (vs : List Value) (o : Nat) (w w0 : World) (B : Nat), Below B w0 w → B ≤ g → Below B w0 (w.setCells g o vs)
  | [], _, _, _, _, h, _ => h
  | v :: r, o, w, w0, B, h, hB => grown_setCells r (o + 1) _ w0 B (h.setCell (by exact hB) v) hB
theorem cells_one : ∀ (ps : List Pt), ∀ v ∈ cells ps, v.oneCell' = true
  | [], v, h => by simp [cells] at h
  | p :: r, v, h => by
    simp only [cells, List.mem_cons] at h
    rcases h with rfl | rfl | h
    · rfl
    · rfl
    · exact cells_one r v h
theorem run_copy22 (w : World) (ty : TypeId) (base g b off cp : Nat) (es : List Pt) (hsrc : Lies w b off es) (hR : PRow w base g (es.length + 1) (List.replicate (es.length + 1) ⟨0, 0⟩)) :
    (Builtin.copy_ #[22, 22] ty #[.slice (some ⟨g, 0, none⟩) (es.length + 1) (es.length + 1), .slice (some ⟨b, off, none⟩) es.length cp]).run Try.prog w = .ok (goInt es.length) (w.setCells g 0 (cells es)) ∧ PRow (w.setCells g 0 (cells es)) base g (es.length + 1) (es ++ [⟨0, 0⟩]) := by
  have hcl := cells_length es
  have hlist : ∀ j v, (cells es)[j]? = some v → w.cell? ((⟨b, off, none⟩ : Addr).add j) = some v := by
    intro j v hj
    have hjl : j < es.length * 2 := by
      have := (List.getElem?_eq_some_iff.1 hj).1
      omega
    rw [Go.WideShapes.add_plain]
    rcases Nat.mod_two_eq_zero_or_one j with h | h
    · obtain ⟨i, rfl⟩ : ∃ i, j = i * 2 := ⟨j / 2, by omega⟩
      have k := (cells_at es i (by omega)).1
      rw [k] at hj
      cases hj
      exact (hsrc i (by omega)).1
    · obtain ⟨i, rfl⟩ : ∃ i, j = i * 2 + 1 := ⟨j / 2, by omega⟩
      have k := (cells_at es i (by omega)).2
      rw [k] at hj
      cases hj
      rw [show off + (i * 2 + 1) = off + i * 2 + 1 by omega]
      exact (hsrc i (by omega)).2
  have hl := run_loadCells_list (P := Try.prog) w ⟨b, off, none⟩ (cells es) hlist
  have hrow : w.ownsRow base 60 2 (.slice (some ⟨g, 0, none⟩) (es.length + 1) (es.length + 1)) (es.length + 1) (cells (List.replicate (es.length + 1) ⟨0, 0⟩)) := by
    have := hR.2
    unfold Owns at this
    rw [hR.1] at this
    exact this
  have hrl : (cells (List.replicate (es.length + 1) (⟨0, 0⟩ : Pt))).length = (es.length + 1) * 2 := by rw [cells_length, List.length_replicate]
  have hst := run_storeCells_cells (P := Try.prog) g 0 (cells es) 0 w (fun j hj => by
    rw [Nat.zero_add, World.ownsRow.cellAt hrow j (by omega), List.getElem?_eq_getElem (by omega)]
    rfl) (fun j _ => by rw [Nat.zero_add]; exact World.ownsRow.frozenAt hrow j) (cells_one es)
  obtain ⟨i0, hi0, hz0, hz1, hz2⟩ := info_parts info60
  refine ⟨?_, ?_⟩
  · have hmin : Nat.min es.length (es.length + 1) = es.length := by show min _ _ = _; omega
    rw [hcl] at hl
    simp [Builtin.copy_, run_underlying Try.underlying22, Builtin.lenOf, Builtin.firstCells, sizeOf, typeInfo, hi0, hz1, hmin, hl, hst]
  · refine ⟨by simp, ?_⟩
    have k := owns_setCells (cells es) 0 w _ hrow (by omega)
    rw [Nat.zero_add, List.take_zero, List.nil_append, cells_zero, hcl, List.drop_replicate, show (es.length + 1) * 2 - es.length * 2 = 2 by omega] at k
    unfold Owns
    rw [cells_append, List.length_append]
    exact k
def splitE (n : Int) (es : List Pt) (e : Int) : Int := if netB n es then (if belowB e es.length then (if fitsB (n + 1) ((es.length : Int) + 1) then 0 else 3) else 2) else 1
def splitL (n : Int) (es : List Pt) (e : Nat) : List Pt := ((es ++ [(⟨0, 0⟩ : Pt)]).set e ⟨(at' es e).x, n⟩).set es.length ⟨n, (at' es e).y⟩
theorem splitL_length (n : Int) (es : List Pt) (e : Nat) : (splitL n es e).length = es.length + 1 := by simp [splitL]
def SplitPost (n : Int) (es : List Pt) (e0 : Int) (w : World) (e : Ending) (w' : World) : Prop :=
  (splitE n es e0 = 0 ∧ ∃ g, e = .returned (.tuple #[nv (n + 1) (some ⟨g, 0, none⟩) (es.length + 1) (es.length + 1), .int .i64 0]) ∧ PRow w' w.heap.size g (es.length + 1) (splitL n es e0.toNat)) ∨ (splitE n es e0 ≠ 0 ∧ e = .returned (.tuple #[nv 0 none 0 0, .int .i64 (splitE n es e0)]))
theorem splitE_is {n : Int} {es : List Pt} {e : Int} (h : splitE n es e = 0) : netB n es = true ∧ (0 ≤ e ∧ e < es.length) ∧ n + 1 ≤ 1024 ∧ (es.length : Int) + 1 ≤ 3072 := by
  unfold splitE at h
  by_cases k : netB n es = true
  · rw [if_pos k] at h
    by_cases k2 : belowB e es.length = true
    · rw [if_pos k2] at h
      by_cases k3 : fitsB (n + 1) ((es.length : Int) + 1) = true
      · simp [fitsB] at k3
        exact ⟨k, belowB_is k2, k3.1, by omega⟩
      · rw [if_neg k3] at h; omega
    · rw [if_neg k2] at h; omega
  · rw [if_neg k] at h; omega

set_option maxRecDepth 100000 in
set_option maxHeartbeats 8000000 in
theorem split29 (n : Int) (p : Option Addr) (es : List Pt) (cp : Nat) (e0 : Int) (w : World) (h : Has w p es) : Calls Try.prog 29 #[nv n p es.length cp, .int .i64 e0] w fun e w' => SplitPost n es e0 w e w' ∧ Below w.heap.size w w' := by
  obtain ⟨W, hW, hb, a0, b0⟩ := two_nets w n p es.length cp
  have M := hide (may13 n p es cp W (h.later hb))
  have HH := hide (h.later hb)
  have HB := hide hb
  have HA := hide a0
  have HN := hide b0
  obtain ⟨q0, q1, _, _⟩ := a0
  clear h hb b0
  obtain ⟨i0, hi0, hz0, hz1, hz2⟩ := info_parts info60
  cases hm : netB n es
  · have hS : Hid (splitE n es e0 = 1) := by show _ = _; simp [splitE, hm]
    rw [hm] at M
    go_enter Try.func29, Try.ntmps29
    go_wp2_with fail
    rw [← hW]
    clear hW
    go_wp2_with fail
    refine M.out.mono ?_
    rintro e w1 ⟨rfl, hb1⟩
    have HB1 := hide (below_step HB.out hb1)
    have HN1 := hide (HN.out.later hb1)
    have HA1 := hide (HA.out.later hb1)
    have HH1 := hide (HH.out.later hb1)
    clear q0 q1 hb1 HA HN HB HH M
    obtain ⟨q0, q1, _, _⟩ := HA1.out
    obtain ⟨r0, r1, r2, r3⟩ := HN1.out
    go_wp2
    obtain ⟨V, hV⟩ : ∃ V, V = (w1.setCell ⟨w.heap.size + 1, 0, none⟩ (.int .i64 0)).setCell ⟨w.heap.size + 1, 1, none⟩ (.slice none 0 0) := ⟨_, rfl⟩
    have kV : NOwn V (w.heap.size + 1) 0 none 0 0 := by rw [hV]; exact HN1.out.set 0 none 0 0
    have bV : Below w.heap.size w V := by rw [hV]; exact (HB1.out.setCell (by simp) _).setCell (by simp) _
    rw [← hV]
    exact bodyPost_ret (ret_net Try.results29 rfl rfl kV) rfl ⟨Or.inr ⟨by rw [hS.out]; omega, by rw [hS.out]; rfl⟩, bV⟩
  rw [hm] at M
  obtain ⟨n0, n1, hes, _⟩ := netB_is hm
  have U := below36 e0 es.length
  have F := fits35 (n + 1) ((es.length : Int) + 1)
  cases hu : belowB e0 es.length
  · have hS : Hid (splitE n es e0 = 2) := by show _ = _; simp [splitE, hm, hu]
    rw [hu] at U
    go_enter Try.func29, Try.ntmps29
    go_wp2_with fail
    rw [← hW]
    clear hW
    go_wp2_with fail
    refine M.out.mono ?_
    rintro e w1 ⟨rfl, hb1⟩
    have HB1 := hide (below_step HB.out hb1)
    have HN1 := hide (HN.out.later hb1)
    have HA1 := hide (HA.out.later hb1)
    have HH1 := hide (HH.out.later hb1)
    clear q0 q1 hb1 HA HN HB HH M
    obtain ⟨q0, q1, _, _⟩ := HA1.out
    obtain ⟨r0, r1, r2, r3⟩ := HN1.out
    go_wp2_with (go_at_call 36; with_reducible refine (U _).mono ?_; rintro e w' ⟨rfl, hw⟩; have hw := hw.symm; subst hw)
    obtain ⟨V, hV⟩ : ∃ V, V = (w1.setCell ⟨w.heap.size + 1, 0, none⟩ (.int .i64 0)).setCell ⟨w.heap.size + 1, 1, none⟩ (.slice none 0 0) := ⟨_, rfl⟩
    have kV : NOwn V (w.heap.size + 1) 0 none 0 0 := by rw [hV]; exact HN1.out.set 0 none 0 0
    have bV : Below w.heap.size w V := by rw [hV]; exact (HB1.out.setCell (by simp) _).setCell (by simp) _
    rw [← hV]
    exact bodyPost_ret (ret_net Try.results29 rfl rfl kV) rfl ⟨Or.inr ⟨by rw [hS.out]; omega, by rw [hS.out]; rfl⟩, bV⟩
  rw [hu] at U
  cases hf : fitsB (n + 1) ((es.length : Int) + 1)
  · have hS : Hid (splitE n es e0 = 3) := by show _ = _; simp [splitE, hm, hu, hf]
    rw [hf] at F
    go_enter Try.func29, Try.ntmps29
    go_wp2_with fail
    rw [← hW]
    clear hW
    go_wp2_with fail
    refine M.out.mono ?_
    rintro e w1 ⟨rfl, hb1⟩
    have HB1 := hide (below_step HB.out hb1)
    have HN1 := hide (HN.out.later hb1)
    have HA1 := hide (HA.out.later hb1)
    have HH1 := hide (HH.out.later hb1)
    clear q0 q1 hb1 HA HN HB HH M
    obtain ⟨q0, q1, _, _⟩ := HA1.out
    obtain ⟨r0, r1, r2, r3⟩ := HN1.out
    go_wp2_with (first | (go_at_call 36; with_reducible refine (U _).mono ?_; rintro e w' ⟨rfl, hw⟩; have hw := hw.symm; subst hw) | (go_at_call 35; with_reducible refine (F _).mono ?_; rintro e w' ⟨rfl, hw⟩; have hw := hw.symm; subst hw))
    obtain ⟨V, hV⟩ : ∃ V, V = (w1.setCell ⟨w.heap.size + 1, 0, none⟩ (.int .i64 0)).setCell ⟨w.heap.size + 1, 1, none⟩ (.slice none 0 0) := ⟨_, rfl⟩
    have kV : NOwn V (w.heap.size + 1) 0 none 0 0 := by rw [hV]; exact HN1.out.set 0 none 0 0
    have bV : Below w.heap.size w V := by rw [hV]; exact (HB1.out.setCell (by simp) _).setCell (by simp) _
    rw [← hV]
    exact bodyPost_ret (ret_net Try.results29 rfl rfl kV) rfl ⟨Or.inr ⟨by rw [hS.out]; omega, by rw [hS.out]; rfl⟩, bV⟩
  rw [hf] at F
  have hS : Hid (splitE n es e0 = 0) := by show _ = _; simp [splitE, hm, hu, hf]
  obtain ⟨u0, u1⟩ := belowB_is hu
  obtain ⟨en, rfl⟩ : ∃ en : Nat, e0 = en := ⟨e0.toNat, by omega⟩
  have hen : en < es.length := by omega
  go_enter Try.func29, Try.ntmps29
  go_wp2_with fail
  rw [← hW]
  clear hW
  go_wp2_with fail
  refine M.out.mono ?_
  rintro e w1 ⟨rfl, hb1⟩
  have HB1 := hide (below_step HB.out hb1)
  have HN1 := hide (HN.out.later hb1)
  have HA1 := hide (HA.out.later hb1)
  have HH1 := hide (HH.out.later hb1)
  clear q0 q1 hb1 HA HN HB HH M
  obtain ⟨q0, q1, _, _⟩ := HA1.out
  rcases HH1.out with h | ⟨b, off, rfl, hL1⟩
  · subst h; simp at hen
  have HL1 := hide hL1
  clear hL1
  go_wp2_with (first | (go_at_call 36; with_reducible refine (U _).mono ?_; rintro e w' ⟨rfl, hw⟩; have hw := hw.symm; subst hw) | (go_at_call 35; with_reducible refine (F _).mono ?_; rintro e w' ⟨rfl, hw⟩; have hw := hw.symm; subst hw) | (refine wpList_make_full _ rfl (.tmp 31) (.tmp 31) 22 rfl w1.heap.size 60 i0 (.agg #[.int .i64 0, .int .i64 0]) 2 Try.underlying22 hi0 hz0 hz1 .i64 .i64 _ _ (es.length + 1) rfl rfl (by simp) (by simp) ?c1 ?c2 ?c3 ?_))
  case c1 => rw [hz2]; omega
  case c2 => unfold maxLen; omega
  case c3 => exact Nat.le_refl _
  intro w2 hown hgrow
  have hr2 := prow_made hown
  have hb2 := below_made hgrow
  have HB2 := hide (below_step HB1.out hb2)
  have HA2 := hide (HA1.out.later hb2)
  have HN2 := hide (HN1.out.later hb2)
  have HL2 := hide (HL1.out.later hb2)
  have hws : w.heap.size + 1 < w1.heap.size := block_lt_of_cell HN1.out.1
  obtain ⟨hcp, hr3⟩ : (∀ ty, (Builtin.copy_ #[22, 22] ty #[.slice (some ⟨w1.heap.size, 0, none⟩) (es.length + 1) (es.length + 1), .slice (some ⟨b, off, none⟩) es.length cp]).run Try.prog w2 = .ok (goInt es.length) (w2.setCells w1.heap.size 0 (cells es))) ∧ PRow (w2.setCells w1.heap.size 0 (cells es)) w1.heap.size w1.heap.size (es.length + 1) (es ++ [⟨0, 0⟩]) := ⟨fun ty => (run_copy22 w2 ty w1.heap.size w1.heap.size b off cp es HL2.out hr2).1, (run_copy22 w2 0 w1.heap.size w1.heap.size b off cp es HL2.out hr2).2⟩
  have hb3 : Below w1.heap.size w1 (w2.setCells w1.heap.size 0 (cells es)) := grown_setCells _ _ _ _ _ hb2 (Nat.le_refl _)
  obtain ⟨w3, hw3⟩ : ∃ w3, w3 = w2.setCells w1.heap.size 0 (cells es) := ⟨_, rfl⟩
  rw [← hw3] at hcp hr3 hb3
  have HR3 := hide hr3
  have HBw3 := hide hb3
  have HB3 := hide (below_step HB1.out hb3)
  have HA3 := hide (HA1.out.later hb3)
  have HN3 := hide (HN1.out.later hb3)
  have HL3 := hide (HL1.out.later hb3)
  have hnb : b < w1.heap.size := block_lt_of_cell (HL1.out en hen).1
  clear hown hgrow hr2 hr3 hb2 hb3 q0 q1 U F hw3
  obtain ⟨q0, q1, _, _⟩ := HA2.out
  go_wp2_with fail
  clear q0 q1
  obtain ⟨d0, d1⟩ := HL3.out en hen
  have hSL : Hid (splitL n es ((en : Nat) : Int).toNat = ((es ++ [(⟨0, 0⟩ : Pt)]).set en ⟨(at' es en).x, n⟩).set es.length ⟨n, (at' es en).y⟩) := by show _ = _; rw [Int.toNat_natCast]; rfl
  obtain ⟨r, hr⟩ : ∃ r, at' es en = r := ⟨_, rfl⟩
  rw [hr] at d0 d1 hSL
  have HRR := hide hr
  clear hr
  obtain ⟨q0, q1, _, _⟩ := HA3.out
  obtain ⟨c0, c1, c2, c3⟩ := HR3.out.cell (j := en) (by omega)
  obtain ⟨y0, hy0⟩ : ∃ y, at' (es ++ [(⟨0, 0⟩ : Pt)]) en = y := ⟨_, rfl⟩
  rw [hy0] at c0 c1
  clear hy0
  have e1 : (en : Int) < es.length := by omega
  have e2 : (en : Int) < (es.length : Int) + 1 := by omega
  have nA : w.heap.size ≠ w1.heap.size := by omega
  have nB : b ≠ w1.heap.size := by omega
  have CC : Hid ((w3.cell? ⟨w.heap.size, 0, none⟩ = some (.int .i64 n) ∧ w3.cell? ⟨w.heap.size, 1, none⟩ = some (.slice (some ⟨b, off, none⟩) es.length cp)) ∧ w3.cell? ⟨b, off + en * 2, none⟩ = some (.int .i64 r.x)) := ⟨⟨q0, q1⟩, d0⟩
  go_region_held3 (fun W => (W.cell? ⟨w.heap.size, 0, none⟩ = some (.int .i64 n) ∧ W.cell? ⟨w.heap.size, 1, none⟩ = some (.slice (some ⟨b, off, none⟩) es.length cp)) ∧ W.cell? ⟨b, off + en * 2, none⟩ = some (.int .i64 r.x))
    (first | exact CC.out | exact ⟨⟨other2 CC.out.1.1 nA, other2 CC.out.1.2 nA⟩, other2 CC.out.2 nB⟩)
    (first | fail)
  rename_i hHeld
  clear hHeld
  obtain ⟨V, hV⟩ : ∃ V, V = ((w3.setCell ⟨w1.heap.size, en * 2, none⟩ (.int .i64 r.x)).setCell ⟨w1.heap.size, en * 2 + 1, none⟩ (.int .i64 n)).drew := ⟨_, rfl⟩
  have hbV : Below w1.heap.size w1 V := by rw [hV]; exact ((HBw3.out.setCell (by simp) _).setCell (by simp) _).drew
  have HRV : Hid (PRow V w1.heap.size w1.heap.size (es.length + 1) ((es ++ [(⟨0, 0⟩ : Pt)]).set en ⟨r.x, n⟩)) := by show PRow _ _ _ _ _; rw [hV]; exact (HR3.out.set en ⟨r.x, n⟩).later (below_drew _)
  have HBV := hide (below_step HB1.out hbV)
  have HAV := hide (HA1.out.later hbV)
  have HNV := hide (HN1.out.later hbV)
  have HLV := hide (HL1.out.later hbV)
  have HBw := hide hbV
  rw [show ((w3.setCell ⟨w1.heap.size, en * 2, none⟩ (.int .i64 r.x)).setCell ⟨w1.heap.size, en * 2 + 1, none⟩ (.int .i64 n)).drew = V from hV.symm]
  clear hV hbV c0 c1 c2 c3 d0 d1 q0 q1 CC HR3 HA3 HN3 HL3 HB3 HA2 HN2 HL2 HB2
  go_wp2_with fail
  obtain ⟨_, d1⟩ := HLV.out en hen
  have hrr : at' es en = r := HRR.out
  rw [hrr] at d1
  clear hrr
  obtain ⟨q0, q1, _, _⟩ := HAV.out
  obtain ⟨c0, c1, c2, c3⟩ := HRV.out.cell (j := es.length) (by omega)
  obtain ⟨y1, hy1⟩ : ∃ y, at' ((es ++ [(⟨0, 0⟩ : Pt)]).set en ⟨r.x, n⟩) es.length = y := ⟨_, rfl⟩
  rw [hy1] at c0 c1
  clear hy1
  have e3 : (es.length : Int) < (es.length : Int) + 1 := by omega
  have CC : Hid ((V.cell? ⟨w.heap.size, 0, none⟩ = some (.int .i64 n) ∧ V.cell? ⟨w.heap.size, 1, none⟩ = some (.slice (some ⟨b, off, none⟩) es.length cp)) ∧ V.cell? ⟨b, off + en * 2 + 1, none⟩ = some (.int .i64 r.y)) := ⟨⟨q0, q1⟩, d1⟩
  go_region_held3 (fun W => (W.cell? ⟨w.heap.size, 0, none⟩ = some (.int .i64 n) ∧ W.cell? ⟨w.heap.size, 1, none⟩ = some (.slice (some ⟨b, off, none⟩) es.length cp)) ∧ W.cell? ⟨b, off + en * 2 + 1, none⟩ = some (.int .i64 r.y))
    (first | exact CC.out | exact ⟨⟨other2 CC.out.1.1 nA, other2 CC.out.1.2 nA⟩, other2 CC.out.2 nB⟩)
    (first | fail)
  rename_i hHeld
  clear hHeld
  obtain ⟨X, hX⟩ : ∃ X, X = ((V.setCell ⟨w1.heap.size, es.length * 2, none⟩ (.int .i64 n)).setCell ⟨w1.heap.size, es.length * 2 + 1, none⟩ (.int .i64 r.y)).drew := ⟨_, rfl⟩
  have hbX : Below w1.heap.size w1 X := by rw [hX]; exact ((HBw.out.setCell (by simp) _).setCell (by simp) _).drew
  have HRX : Hid (PRow X w1.heap.size w1.heap.size (es.length + 1) (((es ++ [(⟨0, 0⟩ : Pt)]).set en ⟨r.x, n⟩).set es.length ⟨n, r.y⟩)) := by show PRow _ _ _ _ _; rw [hX]; exact (HRV.out.set es.length ⟨n, r.y⟩).later (below_drew _)
  have HBX := hide (below_step HB1.out hbX)
  have HAX := hide (HA1.out.later hbX)
  have HNX := hide (HN1.out.later hbX)
  rw [show ((V.setCell ⟨w1.heap.size, es.length * 2, none⟩ (.int .i64 n)).setCell ⟨w1.heap.size, es.length * 2 + 1, none⟩ (.int .i64 r.y)).drew = X from hX.symm]
  clear hX hbX c0 c1 c2 c3 d1 q0 q1 CC HRV HAV HNV HLV HBV
  obtain ⟨q0, q1, _, _⟩ := HAX.out
  obtain ⟨r0, r1, r2, r3⟩ := HNX.out
  go_wp2_with fail
  obtain ⟨Z, hZ⟩ : ∃ Z, Z = (X.setCell ⟨w.heap.size + 1, 0, none⟩ (.int .i64 (n + 1))).setCell ⟨w.heap.size + 1, 1, none⟩ (.slice (some ⟨w1.heap.size, 0, none⟩) (es.length + 1) (es.length + 1)) := ⟨_, rfl⟩
  have kZ : NOwn Z (w.heap.size + 1) (n + 1) (some ⟨w1.heap.size, 0, none⟩) (es.length + 1) (es.length + 1) := by rw [hZ]; exact HNX.out.set _ _ _ _
  have bZ : Below w.heap.size w Z := by rw [hZ]; exact (HBX.out.setCell (by simp) _).setCell (by simp) _
  have rZ : PRow Z w.heap.size w1.heap.size (es.length + 1) (splitL n es ((en : Nat) : Int).toNat) := by rw [hZ, hSL.out]; exact (prow_other (prow_other HRX.out (by omega) _) (by omega) _).base (by omega)
  rw [← hZ]
  exact bodyPost_ret (ret_net Try.results29 rfl rfl kZ) rfl ⟨Or.inl ⟨hS.out, w1.heap.size, rfl, rZ⟩, bZ⟩
end Go.Proofs.Ytmmbbfmkhbengaa
