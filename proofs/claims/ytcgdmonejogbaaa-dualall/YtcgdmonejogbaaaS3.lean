/- dual.Split, in every world. -/
import Derived.Test.YtcgdmonejogbaaaY15
import Derived.Test.YtcgdmonejogbaaaV2
import Derived.Test.YtcgdmonejogbaaaU3
import Derived.Test.YtcgdmonejogbaaaW5
import Derived.Test.YtcgdmonejogbaaaW1
import Derived.Test.YtcgdmonejogbaaaY8
import Derived.Deep.DeepCutAuto
import Derived.Deep.QuietTactic
open List renaming getElem_toArray → lA, getElem_cons_zero → lB, getElem_cons_succ → lC, setIfInBounds_toArray → lD, set_cons_zero → lE, set_cons_succ → lF
/- Pure: an edge split within a rotation: faces, their lengths, components, genus. -/
namespace Go.Proofs.Ytcgdmonejogbaaa
open Go.RowKit Go.Sort
open Go
variable {n : Nat} {es : List Pt} {rs : List (List Int)} {e : Nat}
/-- A half-edge's name behind the split, and whose place a half-edge behind it has. -/
def spV (m e x : Nat) : Nat := if x = 2 * e + 1 then 2 * m + 1 else x
def spZ (m e : Nat) (z : Int) : Int := if z = ((2 * e + 1 : Nat) : Int) then ((2 * m + 1 : Nat) : Int) else z
def spR (es : List Pt) (rs : List (List Int)) (e : Nat) : List (List Int) := rs.map (fun l => l.map (spZ es.length e)) ++ [[((2 * e + 1 : Nat) : Int), ((2 * es.length : Nat) : Int)]]
theorem spR_length : (spR es rs e).length = rs.length + 1 := by simp [spR]
theorem spR_at {v : Nat} (hv : v < rs.length) : lat (spR es rs e) v = (lat rs v).map (spZ es.length e) := by
  unfold spR
  rw [lat_app (by simpa using hv), lat_map _ hv]
theorem spR_top : lat (spR es rs e) rs.length = [((2 * e + 1 : Nat) : Int), ((2 * es.length : Nat) : Int)] := by
  unfold spR
  rw [lat_snoc, if_neg (by simp), if_pos (by simp)]
theorem spV_lt {m x : Nat} (hx : x < 2 * m) : spV m e x < 2 * (m + 1) := by unfold spV; split <;> omega
theorem spZ_nat {m : Nat} {z : Int} (h : 0 ≤ z) : (spZ m e z).toNat = spV m e z.toNat ∧ 0 ≤ spZ m e z := by
  unfold spZ spV
  split
  · rw [if_pos (by omega)]; omega
  · rw [if_neg (by omega)]; exact ⟨rfl, h⟩
theorem split_at {j : Nat} (he : e < es.length) (hj : j < es.length + 1) : at' (splitL n es e) j = if j = es.length then ⟨(n : Int), (at' es e).y⟩ else if j = e then ⟨(at' es e).x, (n : Int)⟩ else at' es j := by
  unfold splitL
  rw [at_set _ _ _ _ (by simpa using hj)]
  by_cases h1 : es.length = j
  · rw [if_pos h1, if_pos h1.symm]
  · rw [if_neg h1, if_neg (fun h => h1 h.symm), at_set _ _ _ _ (by simpa using hj)]
    by_cases h2 : e = j
    · rw [if_pos h2, if_pos h2.symm]
    · rw [if_neg h2, if_neg (fun h => h2 h.symm)]
      unfold at'
      rw [List.getD_eq_getElem?_getD, List.getD_eq_getElem?_getD, List.getElem?_append, if_pos (by omega)]
theorem split_from {x : Nat} (he : e < es.length) (hx : x < 2 * es.length) : fromL (splitL n es e) (spV es.length e x) = fromL es x := by
  unfold spV
  split
  · rename_i hxe
    unfold fromL
    rw [if_neg (by omega), if_neg (by omega), show (2 * es.length + 1) / 2 = es.length by omega, split_at he (by omega), if_pos rfl, show x / 2 = e by omega]
  · rename_i hxe
    have k := split_at (n := n) he (show x / 2 < es.length + 1 by omega)
    rw [if_neg (show ¬ x / 2 = es.length by omega)] at k
    unfold fromL
    rw [k]
    by_cases h2 : x / 2 = e
    · rw [if_pos h2, if_pos (show x % 2 = 0 by omega), if_pos (show x % 2 = 0 by omega), h2]
    · rw [if_neg h2]
theorem split_new (he : e < es.length) : fromL (splitL n es e) (2 * e + 1) = n ∧ fromL (splitL n es e) (2 * es.length) = n := by
  refine ⟨?_, ?_⟩
  · unfold fromL
    rw [if_neg (by omega), show (2 * e + 1) / 2 = e by omega, split_at he (by omega), if_neg (by omega), if_pos rfl]
  · unfold fromL
    rw [if_pos (by omega), show 2 * es.length / 2 = es.length by omega, split_at he (by omega), if_pos rfl]
theorem split_flat : (spR es rs e).flatten = rs.flatten.map (spZ es.length e) ++ [((2 * e + 1 : Nat) : Int), ((2 * es.length : Nat) : Int)] := by
  unfold spR
  rw [List.flatten_append]
  congr 1
  · induction rs with
    | nil => rfl
    | cons l r ih => simp only [List.map_cons, List.flatten_cons, List.map_append, ih]
theorem flat_in {rs : List (List Int)} {x : Int} (h : x ∈ rs.flatten) : ∃ v, v < rs.length ∧ x ∈ lat rs v := by
  obtain ⟨l, hl, hx⟩ := List.mem_flatten.1 h
  obtain ⟨v, hv, e1⟩ := List.mem_iff_getElem.1 hl
  exact ⟨v, hv, by rw [lat_get hv, e1]; exact hx⟩
theorem split_holds (h : holdsP es rs) (hl : rs.length = n) (he : e < es.length) : holdsP (splitL n es e) (spR es rs e) := by
  obtain ⟨h1, h2, h3⟩ := holds_iff.1 h
  have hin : ∀ x ∈ rs.flatten, 0 ≤ x ∧ x < 2 * es.length := fun x hx => by
    obtain ⟨v, hv, hm⟩ := flat_in hx
    have := h1 v hv x hm
    omega
  refine holds_iff.2 ⟨fun v hv x hx => ?_, ?_, ?_⟩
  · rw [spR_length] at hv
    rw [splitL_length]
    by_cases hvn : v < rs.length
    · rw [spR_at hvn] at hx
      obtain ⟨y, hy, rfl⟩ := List.mem_map.1 hx
      obtain ⟨y0, y1, y2⟩ := h1 v hvn y hy
      obtain ⟨z1, z2⟩ := spZ_nat (m := es.length) (e := e) y0
      refine ⟨z2, ?_, ?_⟩
      · have := spV_lt (e := e) (show y.toNat < 2 * es.length by omega)
        omega
      · rw [z1, split_from he (by omega)]; exact y2
    · have hve : v = rs.length := by omega
      subst hve
      rw [spR_top] at hx
      obtain ⟨s1, s2⟩ := split_new (n := n) he
      rcases List.mem_cons.1 hx with rfl | hx
      · refine ⟨by omega, by omega, ?_⟩
        rw [Int.toNat_natCast, s1, hl]
      · have := List.mem_singleton.1 hx
        subst this
        refine ⟨by omega, by omega, ?_⟩
        rw [Int.toNat_natCast, s2, hl]
  · rw [split_flat, List.nodup_append]
    refine ⟨?_, ?_, fun a ha b hb hab => ?_⟩
    · unfold List.Nodup
      rw [List.pairwise_map]
      refine List.Pairwise.imp_of_mem ?_ h2
      intro a b ha hb hab heq
      have b1 := hin a ha
      have b2 := hin b hb
      unfold spZ at heq
      split at heq <;> split at heq <;> omega
    · simp; omega
    · subst hab
      obtain ⟨y, hy, rfl⟩ := List.mem_map.1 ha
      have b1 := hin y hy
      have : spZ es.length e y = ((2 * e + 1 : Nat) : Int) ∨ spZ es.length e y = ((2 * es.length : Nat) : Int) := by simpa using hb
      unfold spZ at this
      split at this <;> omega
  · rw [split_flat, List.length_append, List.length_map, h3, splitL_length]
    simp
    omega
theorem map_iat {l : List Int} {f : Int → Int} {i : Nat} (hi : i < l.length) : iat (l.map f) i = f (iat l i) := iat_map f l 0 hi
theorem split_rot (h : rotI n es rs = 0) (he : splitE n es e = 0) : netB (n + 1 : Nat) (splitL n es e) = true ∧ rotI (n + 1 : Nat) (splitL n es e) (spR es rs e) = 0 := by
  obtain ⟨h1, h2, h3⟩ := rot_is h
  obtain ⟨_, k2, k3, k4⟩ := splitE_is he
  have hel : e < es.length := by omega
  obtain ⟨n0, n1, n2, hE⟩ := netB_is h1
  have hm : netB (n + 1 : Nat) (splitL n es e) = true := by
    unfold netB
    rw [Bool.and_eq_true, Bool.and_eq_true]
    refine ⟨⟨by simp; omega, by unfold fitsB; rw [splitL_length]; simp; omega⟩, ?_⟩
    rw [List.all_eq_true]
    intro x hx
    obtain ⟨j, hj, ej⟩ := List.mem_iff_getElem.1 hx
    rw [splitL_length] at hj
    have e1 : at' (splitL n es e) j = x := by
      unfold at'
      rw [List.getD_eq_getElem?_getD, List.getElem?_eq_getElem (by rw [splitL_length]; exact hj), ej]
      rfl
    rw [← e1, split_at hel hj]
    have he2 := hE e hel
    unfold edB belowB
    split
    · simp; omega
    · split
      · simp; omega
      · have := hE j (by omega)
        simp; omega
  refine ⟨hm, ?_⟩
  unfold rotI holdsB
  rw [if_pos hm, if_pos (by rw [spR_length]; omega), decide_eq_true (split_holds h3 (by omega) hel)]
  rfl
end Go.Proofs.Ytcgdmonejogbaaa
/- net.Split, carried from the net seat. -/
namespace Go.Proofs.Ytcgdmonejogbaaa
open Go.RowKit Go.Sort
open Go
set_option maxRecDepth 100000 in
set_option maxHeartbeats 8000000 in
theorem split29 (n : Int) (p : Option Addr) (es : List Pt) (cp : Nat) (e0 : Int) (w : World) (h : Has w p es) : Calls Try.prog 56 #[nv n p es.length cp, .int .i64 e0] w fun e w' => SplitPost n es e0 w e w' ∧ Below w.heap.size w w' := by
  obtain ⟨W, hW, hb, a0, b0⟩ := two_nets w n p es.length cp
  have M := hide (may13 n p es cp W (h.later hb))
  have HH := hide (h.later hb)
  have HB := hide hb
  have HA := hide a0
  have HN := hide b0
  obtain ⟨q0, q1, _, _⟩ := a0
  clear h hb b0
  obtain ⟨i0, hi0, hz0, hz1, hz2⟩ := info_parts info60
  cases hm : netB n es
  · have hS : Hid (splitE n es e0 = 1) := by show _ = _; simp [splitE, hm]
    rw [hm] at M
    go_enter Try.func56, Try.ntmps56
    go_wp2_with fail
    rw [← hW]
    clear hW
    go_wp2_with fail
    refine M.out.mono ?_
    rintro e w1 ⟨rfl, hb1⟩
    have HB1 := hide (below_step HB.out hb1)
    have HN1 := hide (HN.out.later hb1)
    have HA1 := hide (HA.out.later hb1)
    have HH1 := hide (HH.out.later hb1)
    clear q0 q1 hb1 HA HN HB HH M
    obtain ⟨q0, q1, _, _⟩ := HA1.out
    obtain ⟨r0, r1, r2, r3⟩ := HN1.out
    go_wp2
    obtain ⟨V, hV⟩ : ∃ V, V = (w1.setCell ⟨w.heap.size + 1, 0, none⟩ (.int .i64 0)).setCell ⟨w.heap.size + 1, 1, none⟩ (.slice none 0 0) := ⟨_, rfl⟩
    have kV : NOwn V (w.heap.size + 1) 0 none 0 0 := by rw [hV]; exact HN1.out.set 0 none 0 0
    have bV : Below w.heap.size w V := by rw [hV]; exact (HB1.out.setCell (by simp) _).setCell (by simp) _
    rw [← hV]
    exact bodyPost_ret (ret_net Try.results56 rfl rfl kV) rfl ⟨Or.inr ⟨by rw [hS.out]; omega, by rw [hS.out]; rfl⟩, bV⟩
  rw [hm] at M
  obtain ⟨n0, n1, hes, _⟩ := netB_is hm
  have U := below36 e0 es.length
  have F := fits35 (n + 1) ((es.length : Int) + 1)
  cases hu : belowB e0 es.length
  · have hS : Hid (splitE n es e0 = 2) := by show _ = _; simp [splitE, hm, hu]
    rw [hu] at U
    go_enter Try.func56, Try.ntmps56
    go_wp2_with fail
    rw [← hW]
    clear hW
    go_wp2_with fail
    refine M.out.mono ?_
    rintro e w1 ⟨rfl, hb1⟩
    have HB1 := hide (below_step HB.out hb1)
    have HN1 := hide (HN.out.later hb1)
    have HA1 := hide (HA.out.later hb1)
    have HH1 := hide (HH.out.later hb1)
    clear q0 q1 hb1 HA HN HB HH M
    obtain ⟨q0, q1, _, _⟩ := HA1.out
    obtain ⟨r0, r1, r2, r3⟩ := HN1.out
    go_wp2_with (go_at_call 78; with_reducible refine (U _).mono ?_; rintro e w' ⟨rfl, hw⟩; have hw := hw.symm; subst hw)
    obtain ⟨V, hV⟩ : ∃ V, V = (w1.setCell ⟨w.heap.size + 1, 0, none⟩ (.int .i64 0)).setCell ⟨w.heap.size + 1, 1, none⟩ (.slice none 0 0) := ⟨_, rfl⟩
    have kV : NOwn V (w.heap.size + 1) 0 none 0 0 := by rw [hV]; exact HN1.out.set 0 none 0 0
    have bV : Below w.heap.size w V := by rw [hV]; exact (HB1.out.setCell (by simp) _).setCell (by simp) _
    rw [← hV]
    exact bodyPost_ret (ret_net Try.results56 rfl rfl kV) rfl ⟨Or.inr ⟨by rw [hS.out]; omega, by rw [hS.out]; rfl⟩, bV⟩
  rw [hu] at U
  cases hf : fitsB (n + 1) ((es.length : Int) + 1)
  · have hS : Hid (splitE n es e0 = 3) := by show _ = _; simp [splitE, hm, hu, hf]
    rw [hf] at F
    go_enter Try.func56, Try.ntmps56
    go_wp2_with fail
    rw [← hW]
    clear hW
    go_wp2_with fail
    refine M.out.mono ?_
    rintro e w1 ⟨rfl, hb1⟩
    have HB1 := hide (below_step HB.out hb1)
    have HN1 := hide (HN.out.later hb1)
    have HA1 := hide (HA.out.later hb1)
    have HH1 := hide (HH.out.later hb1)
    clear q0 q1 hb1 HA HN HB HH M
    obtain ⟨q0, q1, _, _⟩ := HA1.out
    obtain ⟨r0, r1, r2, r3⟩ := HN1.out
    go_wp2_with (first | (go_at_call 78; with_reducible refine (U _).mono ?_; rintro e w' ⟨rfl, hw⟩; have hw := hw.symm; subst hw) | (go_at_call 77; with_reducible refine (F _).mono ?_; rintro e w' ⟨rfl, hw⟩; have hw := hw.symm; subst hw))
    obtain ⟨V, hV⟩ : ∃ V, V = (w1.setCell ⟨w.heap.size + 1, 0, none⟩ (.int .i64 0)).setCell ⟨w.heap.size + 1, 1, none⟩ (.slice none 0 0) := ⟨_, rfl⟩
    have kV : NOwn V (w.heap.size + 1) 0 none 0 0 := by rw [hV]; exact HN1.out.set 0 none 0 0
    have bV : Below w.heap.size w V := by rw [hV]; exact (HB1.out.setCell (by simp) _).setCell (by simp) _
    rw [← hV]
    exact bodyPost_ret (ret_net Try.results56 rfl rfl kV) rfl ⟨Or.inr ⟨by rw [hS.out]; omega, by rw [hS.out]; rfl⟩, bV⟩
  rw [hf] at F
  have hS : Hid (splitE n es e0 = 0) := by show _ = _; simp [splitE, hm, hu, hf]
  obtain ⟨u0, u1⟩ := belowB_is hu
  obtain ⟨en, rfl⟩ : ∃ en : Nat, e0 = en := ⟨e0.toNat, by omega⟩
  have hen : en < es.length := by omega
  go_enter Try.func56, Try.ntmps56
  go_wp2_with fail
  rw [← hW]
  clear hW
  go_wp2_with fail
  refine M.out.mono ?_
  rintro e w1 ⟨rfl, hb1⟩
  have HB1 := hide (below_step HB.out hb1)
  have HN1 := hide (HN.out.later hb1)
  have HA1 := hide (HA.out.later hb1)
  have HH1 := hide (HH.out.later hb1)
  clear q0 q1 hb1 HA HN HB HH M
  obtain ⟨q0, q1, _, _⟩ := HA1.out
  rcases HH1.out with h | ⟨b, off, rfl, hL1⟩
  · subst h; simp at hen
  have HL1 := hide hL1
  clear hL1
  go_wp2_with (first | (go_at_call 78; with_reducible refine (U _).mono ?_; rintro e w' ⟨rfl, hw⟩; have hw := hw.symm; subst hw) | (go_at_call 77; with_reducible refine (F _).mono ?_; rintro e w' ⟨rfl, hw⟩; have hw := hw.symm; subst hw) | (refine wpList_make_full _ rfl (.tmp 31) (.tmp 31) 22 rfl w1.heap.size 64 i0 (.agg #[.int .i64 0, .int .i64 0]) 2 Try.underlying22 hi0 hz0 hz1 .i64 .i64 _ _ (es.length + 1) rfl rfl (by simp) (by simp) ?c1 ?c2 ?c3 ?_))
  case c1 => rw [hz2]; omega
  case c2 => unfold maxLen; omega
  case c3 => exact Nat.le_refl _
  intro w2 hown hgrow
  have hr2 := prow_made hown
  have hb2 := below_made hgrow
  have HB2 := hide (below_step HB1.out hb2)
  have HA2 := hide (HA1.out.later hb2)
  have HN2 := hide (HN1.out.later hb2)
  have HL2 := hide (HL1.out.later hb2)
  have hws : w.heap.size + 1 < w1.heap.size := block_lt_of_cell HN1.out.1
  obtain ⟨hcp, hr3⟩ : (∀ ty, (Builtin.copy_ #[22, 22] ty #[.slice (some ⟨w1.heap.size, 0, none⟩) (es.length + 1) (es.length + 1), .slice (some ⟨b, off, none⟩) es.length cp]).run Try.prog w2 = .ok (goInt es.length) (w2.setCells w1.heap.size 0 (cells es))) ∧ PRow (w2.setCells w1.heap.size 0 (cells es)) w1.heap.size w1.heap.size (es.length + 1) (es ++ [⟨0, 0⟩]) := ⟨fun ty => (run_copy22 w2 ty w1.heap.size w1.heap.size b off cp es HL2.out hr2).1, (run_copy22 w2 0 w1.heap.size w1.heap.size b off cp es HL2.out hr2).2⟩
  have hb3 : Below w1.heap.size w1 (w2.setCells w1.heap.size 0 (cells es)) := grown_setCells _ _ _ _ _ hb2 (Nat.le_refl _)
  obtain ⟨w3, hw3⟩ : ∃ w3, w3 = w2.setCells w1.heap.size 0 (cells es) := ⟨_, rfl⟩
  rw [← hw3] at hcp hr3 hb3
  have HR3 := hide hr3
  have HBw3 := hide hb3
  have HB3 := hide (below_step HB1.out hb3)
  have HA3 := hide (HA1.out.later hb3)
  have HN3 := hide (HN1.out.later hb3)
  have HL3 := hide (HL1.out.later hb3)
  have hnb : b < w1.heap.size := block_lt_of_cell (HL1.out en hen).1
  clear hown hgrow hr2 hr3 hb2 hb3 q0 q1 U F hw3
  obtain ⟨q0, q1, _, _⟩ := HA2.out
  go_wp2_with fail
  clear q0 q1
  obtain ⟨d0, d1⟩ := HL3.out en hen
  have hSL : Hid (splitL n es ((en : Nat) : Int).toNat = ((es ++ [(⟨0, 0⟩ : Pt)]).set en ⟨(at' es en).x, n⟩).set es.length ⟨n, (at' es en).y⟩) := by show _ = _; rw [Int.toNat_natCast]; rfl
  obtain ⟨r, hr⟩ : ∃ r, at' es en = r := ⟨_, rfl⟩
  rw [hr] at d0 d1 hSL
  have HRR := hide hr
  clear hr
  obtain ⟨q0, q1, _, _⟩ := HA3.out
  obtain ⟨c0, c1, c2, c3⟩ := HR3.out.cell (j := en) (by omega)
  obtain ⟨y0, hy0⟩ : ∃ y, at' (es ++ [(⟨0, 0⟩ : Pt)]) en = y := ⟨_, rfl⟩
  rw [hy0] at c0 c1
  clear hy0
  have e1 : (en : Int) < es.length := by omega
  have e2 : (en : Int) < (es.length : Int) + 1 := by omega
  have nA : w.heap.size ≠ w1.heap.size := by omega
  have nB : b ≠ w1.heap.size := by omega
  have CC : Hid ((w3.cell? ⟨w.heap.size, 0, none⟩ = some (.int .i64 n) ∧ w3.cell? ⟨w.heap.size, 1, none⟩ = some (.slice (some ⟨b, off, none⟩) es.length cp)) ∧ w3.cell? ⟨b, off + en * 2, none⟩ = some (.int .i64 r.x)) := ⟨⟨q0, q1⟩, d0⟩
  go_region_held3 (fun W => (W.cell? ⟨w.heap.size, 0, none⟩ = some (.int .i64 n) ∧ W.cell? ⟨w.heap.size, 1, none⟩ = some (.slice (some ⟨b, off, none⟩) es.length cp)) ∧ W.cell? ⟨b, off + en * 2, none⟩ = some (.int .i64 r.x))
    (first | exact CC.out | exact ⟨⟨other2 CC.out.1.1 nA, other2 CC.out.1.2 nA⟩, other2 CC.out.2 nB⟩)
    (first | fail)
  rename_i hHeld
  clear hHeld
  obtain ⟨V, hV⟩ : ∃ V, V = ((w3.setCell ⟨w1.heap.size, en * 2, none⟩ (.int .i64 r.x)).setCell ⟨w1.heap.size, en * 2 + 1, none⟩ (.int .i64 n)).drew := ⟨_, rfl⟩
  have hbV : Below w1.heap.size w1 V := by rw [hV]; exact ((HBw3.out.setCell (by simp) _).setCell (by simp) _).drew
  have HRV : Hid (PRow V w1.heap.size w1.heap.size (es.length + 1) ((es ++ [(⟨0, 0⟩ : Pt)]).set en ⟨r.x, n⟩)) := by show PRow _ _ _ _ _; rw [hV]; exact (HR3.out.set en ⟨r.x, n⟩).later (below_drew _)
  have HBV := hide (below_step HB1.out hbV)
  have HAV := hide (HA1.out.later hbV)
  have HNV := hide (HN1.out.later hbV)
  have HLV := hide (HL1.out.later hbV)
  have HBw := hide hbV
  rw [show ((w3.setCell ⟨w1.heap.size, en * 2, none⟩ (.int .i64 r.x)).setCell ⟨w1.heap.size, en * 2 + 1, none⟩ (.int .i64 n)).drew = V from hV.symm]
  clear hV hbV c0 c1 c2 c3 d0 d1 q0 q1 CC HR3 HA3 HN3 HL3 HB3 HA2 HN2 HL2 HB2
  go_wp2_with fail
  obtain ⟨_, d1⟩ := HLV.out en hen
  have hrr : at' es en = r := HRR.out
  rw [hrr] at d1
  clear hrr
  obtain ⟨q0, q1, _, _⟩ := HAV.out
  obtain ⟨c0, c1, c2, c3⟩ := HRV.out.cell (j := es.length) (by omega)
  obtain ⟨y1, hy1⟩ : ∃ y, at' ((es ++ [(⟨0, 0⟩ : Pt)]).set en ⟨r.x, n⟩) es.length = y := ⟨_, rfl⟩
  rw [hy1] at c0 c1
  clear hy1
  have e3 : (es.length : Int) < (es.length : Int) + 1 := by omega
  have CC : Hid ((V.cell? ⟨w.heap.size, 0, none⟩ = some (.int .i64 n) ∧ V.cell? ⟨w.heap.size, 1, none⟩ = some (.slice (some ⟨b, off, none⟩) es.length cp)) ∧ V.cell? ⟨b, off + en * 2 + 1, none⟩ = some (.int .i64 r.y)) := ⟨⟨q0, q1⟩, d1⟩
  go_region_held3 (fun W => (W.cell? ⟨w.heap.size, 0, none⟩ = some (.int .i64 n) ∧ W.cell? ⟨w.heap.size, 1, none⟩ = some (.slice (some ⟨b, off, none⟩) es.length cp)) ∧ W.cell? ⟨b, off + en * 2 + 1, none⟩ = some (.int .i64 r.y))
    (first | exact CC.out | exact ⟨⟨other2 CC.out.1.1 nA, other2 CC.out.1.2 nA⟩, other2 CC.out.2 nB⟩)
    (first | fail)
  rename_i hHeld
  clear hHeld
  obtain ⟨X, hX⟩ : ∃ X, X = ((V.setCell ⟨w1.heap.size, es.length * 2, none⟩ (.int .i64 n)).setCell ⟨w1.heap.size, es.length * 2 + 1, none⟩ (.int .i64 r.y)).drew := ⟨_, rfl⟩
  have hbX : Below w1.heap.size w1 X := by rw [hX]; exact ((HBw.out.setCell (by simp) _).setCell (by simp) _).drew
  have HRX : Hid (PRow X w1.heap.size w1.heap.size (es.length + 1) (((es ++ [(⟨0, 0⟩ : Pt)]).set en ⟨r.x, n⟩).set es.length ⟨n, r.y⟩)) := by show PRow _ _ _ _ _; rw [hX]; exact (HRV.out.set es.length ⟨n, r.y⟩).later (below_drew _)
  have HBX := hide (below_step HB1.out hbX)
  have HAX := hide (HA1.out.later hbX)
  have HNX := hide (HN1.out.later hbX)
  rw [show ((V.setCell ⟨w1.heap.size, es.length * 2, none⟩ (.int .i64 n)).setCell ⟨w1.heap.size, es.length * 2 + 1, none⟩ (.int .i64 r.y)).drew = X from hX.symm]
  clear hX hbX c0 c1 c2 c3 d1 q0 q1 CC HRV HAV HNV HLV HBV
  obtain ⟨q0, q1, _, _⟩ := HAX.out
  obtain ⟨r0, r1, r2, r3⟩ := HNX.out
  go_wp2_with fail
  obtain ⟨Z, hZ⟩ : ∃ Z, Z = (X.setCell ⟨w.heap.size + 1, 0, none⟩ (.int .i64 (n + 1))).setCell ⟨w.heap.size + 1, 1, none⟩ (.slice (some ⟨w1.heap.size, 0, none⟩) (es.length + 1) (es.length + 1)) := ⟨_, rfl⟩
  have kZ : NOwn Z (w.heap.size + 1) (n + 1) (some ⟨w1.heap.size, 0, none⟩) (es.length + 1) (es.length + 1) := by rw [hZ]; exact HNX.out.set _ _ _ _
  have bZ : Below w.heap.size w Z := by rw [hZ]; exact (HBX.out.setCell (by simp) _).setCell (by simp) _
  have rZ : PRow Z w.heap.size w1.heap.size (es.length + 1) (splitL n es ((en : Nat) : Int).toNat) := by rw [hZ, hSL.out]; exact (prow_other (prow_other HRX.out (by omega) _) (by omega) _).base (by omega)
  rw [← hZ]
  exact bodyPost_ret (ret_net Try.results56 rfl rfl kZ) rfl ⟨Or.inl ⟨hS.out, w1.heap.size, rfl, rZ⟩, bZ⟩
end Go.Proofs.Ytcgdmonejogbaaa
namespace Go.Proofs.Ytcgdmonejogbaaa
open Go.RowKit Go.Sort
open Go
def spF (es : List Pt) (rs : List (List Int)) (e : Nat) : List (List Int) := rs.map (fun l => l.map (spZ es.length e))
theorem spF_length {es : List Pt} {rs : List (List Int)} {e : Nat} : (spF es rs e).length = rs.length := by simp [spF]
theorem lit_two (w : World) (e m : Nat) : IOwns (w.alloc (.cells #[.int .i64 (2 * (e : Int) + 1), .int .i64 (2 * (m : Int))] 3)) w.heap.size (.slice (some ⟨w.heap.size, 0, none⟩) 2 2) [((2 * e + 1 : Nat) : Int), ((2 * m : Nat) : Int)] := by
  have e1 : ((2 * e + 1 : Nat) : Int) = 2 * (e : Int) + 1 := by omega
  have e2 : ((2 * m : Nat) : Int) = 2 * (m : Int) := by omega
  rw [e1, e2]
  exact ⟨rfl, Or.inr ⟨w.heap.size, 2, _, rfl, Nat.le_refl _, heap_alloc_new w _, Nat.le_refl _, by unfold maxLen; omega, rfl, rfl⟩⟩
theorem append_lst26 {w : World} {base g n : Nat} {v x : Value} {xs : List Value} (o : w.ownsRow base 44 1 v n xs) (hk : w.cell? ⟨g, 0, none⟩ = some x) (hx : x.oneCell' = true) (hb : base ≤ w.heap.size) (hl : n ≤ 2000000) :
    ∃ v' w', (Builtin.append_ #[26, 26] 26 #[v, .slice (some ⟨g, 0, none⟩) 1 1]).run Try.prog w = .ok v' w' ∧ w'.ownsRow base 44 1 v' (n + 1) (xs ++ [x]) ∧ w.grownBy w' v.ownBlock ∧ (v'.ownBlock = v.ownBlock ∨ v'.ownBlock = some w.heap.size) := by
  obtain ⟨i0, hi0, hz0, hz1, hz2⟩ := info_parts info41
  have hnews : ∀ j u, [x][j]? = some u → w.cell? ((⟨g, 0, none⟩ : Addr).add j) = some u := by
    intro j u hj
    cases j with
    | zero => simp at hj; subst hj; exact hk
    | succ k => simp at hj
  obtain ⟨v', w', h1, h2, h3, _, h5⟩ := run_append_own_at (P := Try.prog) w base 26 26 44 i0 (.slice none 0 0) 1 24 Try.underlying26 hi0 hz0 hz1 hz2 rfl (by decide) v n xs o ⟨g, 0, none⟩ 1 1 [x] rfl hnews (by simp [hx]) (by unfold maxLen; omega) (by omega) hb
  exact ⟨v', w', h1, h2, h3, h5⟩
set_option maxRecDepth 100000 in
theorem FB.push26 {w : World} {B : Nat} {fv : Value} {F : List (List Int)} {rv : Nat → Value} {L : List Int} {a : Option Addr} {b c : Nat} (h : FB w B fv F rv) (hB : B ≤ w.heap.size) (hx : IOwns w B (.slice a b c) L) (hn : ∀ u j, u < F.length → (Value.slice a b c).ownBlock = some j → (rv u).ownBlock ≠ some j) (hl : F.length ≤ 1000000) :
    ∃ p1 l1 c1 D, (Builtin.append_ #[26, 26] 26 #[fv, .slice (some ⟨w.heap.size, 0, none⟩) 1 1]).run Try.prog (w.alloc (.cells #[.slice a b c] 44)) = .ok (.slice p1 l1 c1) D ∧ l1 = F.length + 1 ∧ FB D B (.slice p1 l1 c1) (F ++ [L]) (upd rv F.length (.slice a b c)) ∧ Below B w D ∧ (∀ v l, IOwns w B v l → IOwns D B v l) := by
  have hb1 : Below w.heap.size w (w.alloc (.cells #[.slice a b c] 44)) := by go_grown
  have h1 := h.later hb1
  have hB1 : B ≤ (w.alloc (.cells #[.slice a b c] 44)).heap.size := Nat.le_trans hB hb1.size
  obtain ⟨v1, D, e1, o1, gr, at1⟩ := append_lst26 (g := w.heap.size) (x := .slice a b c) h1.lst (by go_cell) rfl hB1 (by omega)
  obtain ⟨p1, c1, hv1, _, _⟩ := World.ownsRow.form o1 (by omega)
  subst hv1
  have down : ∀ v l, IOwns (w.alloc (.cells #[.slice a b c] 44)) B v l → IOwns D B v l := fun v l o => by
    refine World.ownsRow.kept o gr ?_
    cases hb : v.ownBlock with
    | none => exact Or.inl rfl
    | some j => exact Or.inr (fun e => lst_apart h1.lst o e.symm hb)
  have hlen : (F ++ [L]).length = F.length + 1 := by simp
  refine ⟨some ⟨p1, 0, none⟩, F.length + 1, c1, D, e1, rfl, ⟨?_, ?_, ?_⟩, below_grown (hb1.mono hB) h1.lst (Nat.le_refl _) hB1 gr, fun v l o => down v l (o.later hb1)⟩
  · rw [hlen, show ((List.range (F.length + 1)).map (upd rv F.length (.slice a b c))) = (List.range F.length).map rv ++ [.slice a b c] from ?_]
    · exact o1
    rw [List.range_succ, List.map_append, List.map_cons, List.map_nil, upd_same]
    congr 1
    apply List.map_congr_left
    intro i hi
    have := List.mem_range.1 hi
    exact upd_other _ _ (by omega)
  · rw [hlen]
    intro u v j hu hv e2 e3
    by_cases hu' : u = F.length <;> by_cases hv' : v = F.length
    · omega
    · rw [hu', upd_same] at e2
      rw [upd_other _ _ hv'] at e3
      exact absurd e3 (hn v j (by omega) e2)
    · rw [hv', upd_same] at e3
      rw [upd_other _ _ hu'] at e2
      exact absurd e2 (hn u j (by omega) e3)
    · rw [upd_other _ _ hu'] at e2
      rw [upd_other _ _ hv'] at e3
      exact h.uniq u v j (by omega) (by omega) e2 e3
  · rw [hlen]
    intro v hv
    rw [lat_snoc]
    by_cases hv' : v = F.length
    · rw [hv', upd_same, if_neg (by omega), if_pos rfl]
      exact down _ _ (hx.later hb1)
    · rw [upd_other _ _ hv', if_pos (by omega)]
      exact down _ _ (h1.own v (by omega))
theorem rows_fb {w : World} {B g : Nat} {rv : Nat → Value} {es : List Pt} {rs : List (List Int)} {e : Nat} (h : Rows w B g rs.length rv (fun v => lat (spF es rs e) v)) : FB w B (.slice (some ⟨g, 0, none⟩) rs.length rs.length) (spF es rs e) rv :=
  ⟨by rw [spF_length]; exact h.1, by rw [spF_length]; exact h.2.1, by rw [spF_length]; exact h.2.2⟩
theorem rows_has {w : World} {B l1 c1 : Nat} {p1 : Option Addr} {rv : Nat → Value} {es : List Pt} {rs : List (List Int)} {e : Nat} (h : FB w B (.slice p1 l1 c1) (spF es rs e ++ [[((2 * e + 1 : Nat) : Int), ((2 * es.length : Nat) : Int)]]) rv) (hl : l1 = rs.length + 1) (hb : ∀ v, v < (spR es rs e).length → (lat (spR es rs e) v).length ≤ 6144) : RHas w p1 (spR es rs e) := by
  have h' : FB w B (.slice p1 (spR es rs e).length c1) (spR es rs e) rv := by rw [spR_length, ← hl]; exact h
  exact h'.has fun v hv => by have := hb v hv; unfold maxLen; omega
/-- The lists, the half-edge's other name put in. -/
theorem split_rows {es : List Pt} {rs : List (List Int)} {e b : Nat} (h : holdsP es rs) (he : e < es.length) (hb : (at' es e).y = b) : b < rs.length → ((2 * e + 1 : Nat) : Int) ∈ lat rs b ∧ ∀ v, v < rs.length → upd (fun v => lat rs v) b ((lat rs b).set ((lat rs b).idxOf ((2 * e + 1 : Nat) : Int)) ((2 * es.length + 1 : Nat) : Int)) v = lat (spF es rs e) v := by
  intro hbl
  obtain ⟨h1, h2, h3⟩ := holds_iff.1 h
  have f2 : fromL es (2 * e + 1) = b := by unfold fromL; rw [if_neg (by omega), show (2 * e + 1) / 2 = e by omega, hb]
  have hin : ((2 * e + 1 : Nat) : Int) ∈ lat rs b := by
    obtain ⟨u, i, hu, hi, e1, _⟩ := real_at h (show 2 * e + 1 < 2 * es.length by omega)
    have := (real_in h hu hi).2.2
    rw [e1, Int.toNat_natCast, f2] at this
    have : b = u := by omega
    subst this
    rw [← e1]
    exact iat_mem hi
  refine ⟨hin, fun v hv => ?_⟩
  have ev : lat (spF es rs e) v = (lat rs v).map (spZ es.length e) := lat_map _ hv
  rw [ev]
  obtain ⟨k1, k2, k3⟩ := idxOf_at hin
  by_cases hvb : v = b
  · subst hvb
    rw [upd_same]
    have hnd := lat_nodup h2 hv
    refine iat_ext (by simp) fun j hj => ?_
    rw [List.length_set] at hj
    rw [map_iat hj]
    by_cases hjk : j = (lat rs v).idxOf ((2 * e + 1 : Nat) : Int)
    · subst hjk
      rw [iat_put k1, k2]
      unfold spZ
      rw [if_pos rfl]
    · rw [iat_put_ne hjk]
      unfold spZ
      rw [if_neg]
      intro hx
      exact hjk (iat_inj hnd hj k1 (by rw [hx, k2]))
  · rw [upd_other _ _ hvb]
    have : ∀ x ∈ lat rs v, spZ es.length e x = x := fun x hx => by
      unfold spZ
      rw [if_neg]
      intro hxe
      have := (h1 v hv x hx).2.2
      rw [hxe, Int.toNat_natCast, f2] at this
      omega
    exact ((List.map_congr_left this).trans (List.map_id' _)).symm
set_option maxRecDepth 100000 in
set_option maxHeartbeats 16000000 in
theorem split18no (n : Int) (p : Option Addr) (es : List Pt) (cp : Nat) (q : Option Addr) (rs : List (List Int)) (cq : Nat) (e : Int) (w : World) (h : Has w p es) (hr : RHas w q rs) (h0 : ¬ rotI n es rs = 0) : Calls Try.prog 18 #[nv n p es.length cp, .slice q rs.length cq, .int .i64 e] w fun r w' => r = .returned (.tuple #[nv 0 none 0 0, .slice none 0 0, .int .i64 (rotI n es rs)]) ∧ Below w.heap.size w w' := by
  obtain ⟨W, hW, hb0, a0, b0⟩ := two_nets w n p es.length cp
  have M := hide (mayR13 n p es cp q rs cq W (h.later hb0) (hr.later hb0))
  have HB := hide hb0
  have HN := hide b0
  obtain ⟨q0, q1, _, _⟩ := a0
  obtain ⟨x, hx⟩ : ∃ x, rotI n es rs = x := ⟨_, rfl⟩
  rw [hx] at M h0 ⊢
  have t1 : (x == 0) = false := by simp [h0]
  clear h hr hb0 b0 hx
  go_enter Try.func18, Try.ntmps18
  go_wp2_with fail
  rw [← hW]
  clear hW
  go_wp2_with fail
  refine M.out.mono ?_
  rintro e w1 ⟨rfl, hb1⟩
  have HB1 := hide (below_step HB.out hb1)
  have HN1 := hide (HN.out.later hb1)
  obtain ⟨r0, r1, r2, r3⟩ := HN1.out
  clear hb1 q0 q1 M
  go_wp2
  obtain ⟨V, hV⟩ : ∃ V, V = (w1.setCell ⟨w.heap.size + 1, 0, none⟩ (.int .i64 0)).setCell ⟨w.heap.size + 1, 1, none⟩ (.slice none 0 0) := ⟨_, rfl⟩
  have kV : NOwn V (w.heap.size + 1) 0 none 0 0 := by rw [hV]; exact HN1.out.set 0 none 0 0
  have bV : Below w.heap.size w V := by rw [hV]; exact (HB1.out.setCell (by simp) _).setCell (by simp) _
  rw [← hV]
  exact bodyPost_ret (ret_net3 Try.results18 rfl rfl rfl kV) rfl ⟨rfl, bV⟩
set_option maxRecDepth 100000 in
set_option maxHeartbeats 16000000 in
theorem split18off (n : Int) (p : Option Addr) (es : List Pt) (cp : Nat) (q : Option Addr) (rs : List (List Int)) (cq : Nat) (e : Int) (w : World) (h : Has w p es) (hr : RHas w q rs) (h0 : rotI n es rs = 0) (he : splitE n es e ≠ 0) : Calls Try.prog 18 #[nv n p es.length cp, .slice q rs.length cq, .int .i64 e] w fun r w' => r = .returned (.tuple #[nv 0 none 0 0, .slice none 0 0, .int .i64 (splitE n es e)]) ∧ Below w.heap.size w w' := by
  obtain ⟨W, hW, hb0, a0, b0⟩ := two_nets w n p es.length cp
  have M := hide (mayR13 n p es cp q rs cq W (h.later hb0) (hr.later hb0))
  rw [h0] at M
  have HB := hide hb0
  have HH := hide (h.later hb0)
  have HN := hide b0
  have HA := hide a0
  obtain ⟨q0, q1, _, _⟩ := a0
  clear h hr hb0 b0
  go_enter Try.func18, Try.ntmps18
  go_wp2_with fail
  rw [← hW]
  clear hW
  go_wp2_with fail
  refine M.out.mono ?_
  rintro r w1 ⟨rfl, hb1⟩
  have HB1 := hide (below_step HB.out hb1)
  have HN1 := hide (HN.out.later hb1)
  clear q0 q1 M
  obtain ⟨q0, q1, _, _⟩ := HA.out.later hb1
  have SP := hide (split29 n p es cp e w1 (HH.out.later hb1))
  clear hb1
  go_wp2_with fail
  refine SP.out.mono ?_
  rintro r w2 ⟨hpost, hb2⟩
  rcases hpost with ⟨hz, _⟩ | ⟨_, rfl⟩
  · exact absurd hz he
  obtain ⟨x, hx⟩ : ∃ x, splitE n es e = x := ⟨_, rfl⟩
  rw [hx] at he
  have t1 : (x == 0) = false := by simp [he]
  have HX := hide hx
  rw [hx]
  have HB2 := hide (below_step HB1.out hb2)
  have HN2 := hide (HN1.out.later hb2)
  clear hx hb2 q0 q1 SP
  go_upto_region 5 with fail
  obtain ⟨U, hU⟩ : ∃ U, U = w2.alloc (nbx 0 none 0 0) := ⟨_, rfl⟩
  have hbU : Below w2.heap.size w2 U := by rw [hU]; go_grown
  rw [← hU]
  have HBU := hide (below_step HB2.out hbU)
  have HNU := hide (HN2.out.later hbU)
  clear hU hbU
  obtain ⟨r0, r1, r2, r3⟩ := HNU.out
  go_wp2
  obtain ⟨V, hV⟩ : ∃ V, V = (U.setCell ⟨w.heap.size + 1, 0, none⟩ (.int .i64 0)).setCell ⟨w.heap.size + 1, 1, none⟩ (.slice none 0 0) := ⟨_, rfl⟩
  have kV : NOwn V (w.heap.size + 1) 0 none 0 0 := by rw [hV]; exact HNU.out.set 0 none 0 0
  have bV : Below w.heap.size w V := by rw [hV]; exact (HBU.out.setCell (by simp) _).setCell (by simp) _
  rw [← hV]
  exact bodyPost_ret (ret_net3 Try.results18 rfl rfl rfl kV) rfl ⟨by rw [HX.out]; rfl, bV⟩
set_option maxRecDepth 100000 in
set_option maxHeartbeats 16000000 in
theorem split18 (n : Nat) (p : Option Addr) (es : List Pt) (cp : Nat) (q : Option Addr) (rs : List (List Int)) (cq : Nat) (e : Nat) (w : World) (h : Has w p es) (hr : RHas w q rs) (h0 : rotI n es rs = 0) (he : splitE n es e = 0) : Calls Try.prog 18 #[nv n p es.length cp, .slice q rs.length cq, .int .i64 e] w fun r w' => ∃ g g5 rv, r = .returned (.tuple #[nv ((n : Int) + 1) (some ⟨g, 0, none⟩) (es.length + 1) (es.length + 1), .slice (some ⟨g5, 0, none⟩) (rs.length + 1) (rs.length + 1), .int .i64 0]) ∧ PRow w' w.heap.size g (es.length + 1) (splitL n es e) ∧ Rows w' w.heap.size g5 (rs.length + 1) rv (fun v => lat (canonL (spR es rs e)) v) ∧ Below w.heap.size w w' := by
  obtain ⟨W, hW, hb0, a0, b0⟩ := two_nets w n p es.length cp
  have M := hide (mayR13 n p es cp q rs cq W (h.later hb0) (hr.later hb0))
  rw [h0] at M
  obtain ⟨hm1, hlr, hho⟩ := rot_is h0
  obtain ⟨n0, n1, hes, hE⟩ := netB_is hm1
  obtain ⟨_, hse, _, _⟩ := splitE_is he
  have hel : e < es.length := by omega
  have hxy := hE e hel
  obtain ⟨b, hby⟩ : ∃ b : Nat, (at' es e).y = b := ⟨(at' es e).y.toNat, by omega⟩
  have hbl : b < rs.length := by omega
  obtain ⟨hmem, hrows⟩ := split_rows hho hel hby hbl
  obtain ⟨k1, k2, _⟩ := idxOf_at hmem
  obtain ⟨hrl, hrb⟩ := rot_bounds h0
  have HRS : Hid (rotI ((n : Int) + 1) (splitL n es e) (spR es rs e) = 0) := by show _ = _; rw [show ((n : Int) + 1) = ((n + 1 : Nat) : Int) from by omega]; exact (split_rot h0 he).2
  have HROW := hide hrows
  have HIX := hide (idxI_in hmem)
  have HWS : Hid (W.heap.size = w.heap.size + 2) := by show _ = _; rw [hW]; simp
  have HH := hide (h.later hb0)
  have HR := hide (hr.later hb0)
  have HB := hide hb0
  have HNW := hide b0
  have HA := hide a0
  have HBY := hide hby
  have HE := hide he
  obtain ⟨ki, hki⟩ : ∃ k, (lat rs b).idxOf ((2 * e + 1 : Nat) : Int) = k := ⟨_, rfl⟩
  rw [hki] at k1 k2 HIX HROW
  have HK2 := hide k2
  obtain ⟨q0, q1, _, _⟩ := a0
  have hlb := hrb b hbl
  clear h hr hb0 b0 h0 he hm1 hlr hho hrows hmem hby hki k2 hE
  go_enter Try.func18, Try.ntmps18
  go_wp2_with fail
  rw [← hW]
  clear hW
  go_wp2_with fail
  refine M.out.mono ?_
  rintro r w1 ⟨rfl, hb1⟩
  have HB1 := hide (below_step HB.out hb1)
  have HN1 := hide (HNW.out.later hb1)
  have HA1 := hide (HA.out.later hb1)
  have HH1 := hide (HH.out.later hb1)
  have HR1 := hide (HR.out.later hb1)
  have HW1 : Hid (w.heap.size + 2 ≤ w1.heap.size) := by show _ ≤ _; rw [← HWS.out]; exact hb1.size
  clear q0 q1 M HA HNW HH HR HB HWS
  obtain ⟨q0, q1, _, _⟩ := HA1.out
  have SP := hide (split29 n p es cp e w1 HH1.out)
  clear hb1
  go_wp2_with fail
  refine SP.out.mono ?_
  rintro r w2 ⟨hpost, hb2⟩
  rcases hpost with ⟨_, g, rfl, hP⟩ | ⟨hz, _⟩
  case inr => exact absurd HE.out hz
  rw [Int.toNat_natCast] at hP
  have HGG : Hid (w.heap.size + 2 ≤ g) := by show _ ≤ _; have h1 := (World.ownsRow.lt hP.2 g rfl).1; have h2 := HW1.out; omega
  clear q0 q1 SP
  go_upto_region 5 with fail
  obtain ⟨kc, hkc⟩ : ∃ k, w2.heap.size = k := ⟨_, rfl⟩
  obtain ⟨U, hU⟩ : ∃ U, U = w2.alloc (nbx ((n : Int) + 1) (some ⟨g, 0, none⟩) (es.length + 1) (es.length + 1)) := ⟨_, rfl⟩
  have hbU : Below w2.heap.size w2 U := by rw [hU]; go_grown
  have HK : Hid (NOwn U kc ((n : Int) + 1) (some ⟨g, 0, none⟩) (es.length + 1) (es.length + 1)) := by show NOwn _ _ _ _ _ _; rw [hU, ← hkc]; exact ⟨by go_cell, by go_cell, by simp [go_sem], by simp [go_sem]⟩
  rw [← hU]
  try rw [hkc]
  have HBU := hide (below_step HB1.out (below_step hb2 hbU))
  have hw1U : Below w1.heap.size w1 U := below_step hb2 hbU
  have HN := hide (HN1.out.later hw1U)
  have HAU := hide (HA1.out.later hw1U)
  have HHU := hide (HH1.out.later hw1U)
  have HRU := hide (HR1.out.later hw1U)
  have HKU : Hid (w.heap.size + 1 < U.heap.size) := block_lt_of_cell HN.out.1
  have HP : Hid (PRow U w.heap.size g (es.length + 1) (splitL n es e)) := (hP.later hbU).base HB1.out.size
  clear hU hbU hkc hP hb2 hw1U HN1 HA1 HH1 HR1 HB1
  obtain ⟨q0, q1, _, _⟩ := HAU.out
  have d1 : IntKind.i64.wrap (2 * (e : Int)) = 2 * e := by rw [IntKind.wrap_i64]; omega
  have d2 : IntKind.i64.wrap (2 * (e : Int) + 1) = 2 * e + 1 := by rw [IntKind.wrap_i64]; omega
  have d3 : IntKind.i64.wrap (2 * (es.length : Int)) = 2 * es.length := by rw [IntKind.wrap_i64]; omega
  have d4 : IntKind.i64.wrap (2 * (es.length : Int) + 1) = 2 * es.length + 1 := by rw [IntKind.wrap_i64]; omega
  have G1 := cell_regrown q1
  go_upto_region 7 with fail
  refine wp_region_quiet_below (by kernel_rfl) (by kernel_rfl) ?_
  repeat (go_big_quiet_step (fail))
  refine wpQuiet_nil ?_
  intro w3 hw'
  have hb3 : Below U.heap.size U w3 := by
    obtain ⟨⟨dq, osq⟩, hw''⟩ := hw'
    rw [hw'']
    exact below_regrown U dq osq
  have HB3 := hide hb3
  have CP := hide (copied57 q rs cq w3 (HRU.out.later hb3) (by omega) (fun u hu => by have := hrb u hu; omega))
  clear hw' G1 q0 q1 hb3
  go_wp2_with fail
  refine CP.out.mono ?_
  rintro r w4 ⟨gl, rv, rfl, hrw4, hb4⟩
  have HB4 := hide (below_step HB3.out hb4)
  have HR4 : Hid (Rows w4 U.heap.size gl rs.length rv (fun v => lat rs v)) := hrw4.base HB3.out.size
  clear CP hrw4 hb4 HB3
  obtain ⟨q0, q1, _, _⟩ := HAU.out.later HB4.out
  rcases (HHU.out.later HB4.out) with hn | ⟨be, oe, rfl, le⟩
  · rw [hn] at hel; simp at hel
  obtain ⟨_, q6⟩ := le e hel
  rw [HBY.out] at q6
  obtain ⟨c0, c1⟩ := HR4.out.cell hbl
  have own : IOwns w4 U.heap.size (rv b) (lat rs b) := HR4.out.2.2 b hbl
  obtain ⟨gb, cb, hrvb, hgb, hgc⟩ := World.ownsRow.form own (by omega)
  rw [hrvb] at c0 own
  have HRV := hide hrvb
  have HOW := hide own
  have IX := hide (index58 (some ⟨gb, 0, none⟩) (lat rs b) cb ((2 * e + 1 : Nat) : Int) w4 (by omega) (Or.inr ⟨gb, 0, rfl, own.lies⟩))
  rw [HIX.out] at IX
  rw [show ((2 * e + 1 : Nat) : Int) = 2 * (e : Int) + 1 from by omega] at IX
  have b1 : (b : Int) < rs.length := by omega
  have b2 : (e : Int) < es.length := by omega
  have b3 : (ki : Int) < (lat rs b).length := by omega
  clear own le hrvb
  go_wp2_with fail
  refine IX.out.mono ?_
  rintro r w5 ⟨rfl, hb5⟩
  have HR5 := hide (HR4.out.later hb5)
  have HB5 := hide (below_step HB4.out hb5)
  have HO5 := hide (HOW.out.later hb5)
  have u0 := HO5.out.at_ k1
  have u1 := HO5.out.frozen ki
  rw [HK2.out] at u0
  clear IX hb5 q0 q1 q6 c0 c1 HB4 HR4 HOW
  obtain ⟨X, hX⟩ : ∃ X, X = w5.setCell ⟨gb, ki, none⟩ (.int .i64 (2 * (es.length : Int) + 1)) := ⟨_, rfl⟩
  have hgu : U.heap.size ≤ gb := (World.ownsRow.lt HO5.out gb rfl).1
  have HBX : Hid (Below U.heap.size U X) := by show Below _ _ _; rw [hX]; exact HB5.out.setCell (p := ⟨gb, ki, none⟩) hgu _
  have HRX : Hid (Rows X U.heap.size gl rs.length rv (fun v => lat (spF es rs e) v)) := by
    show Rows _ _ _ _ _ _
    refine (Rows.turn (w := w5) (w' := X) (l' := (lat rs b).set ki ((2 * es.length + 1 : Nat) : Int)) HR5.out hbl ?_ ?_).congr HROW.out
    · rw [HRV.out, hX, show (2 * (es.length : Int) + 1) = ((2 * es.length + 1 : Nat) : Int) from by omega]
      have := HO5.out.set ki ((2 * es.length + 1 : Nat) : Int)
      rw [List.length_set] at this
      exact this
    · rw [hX, HRV.out]
      exact Frame.set _ _ _ rfl
  go_upto_region 11 with fail
  rw [← hX]
  clear hX u0 u1 HO5 HR5 HB5
  obtain ⟨s0, s1, _, _⟩ := HK.out.later (below_step HBX.out (below_drew X))
  refine wp_region_held_drew (S := (fun V => V.cell? ⟨kc, 0, none⟩ = some (.int .i64 ((n : Int) + 1)) ∧ V.cell? ⟨kc, 1, none⟩ = some (.slice (some ⟨g, 0, none⟩) (es.length + 1) (es.length + 1)))) (by kernel_rfl) ⟨s0, s1⟩ (fun hHeld => ?_)
  obtain ⟨V0, hV0⟩ : ∃ V, V = X.drew := ⟨_, rfl⟩
  have HB0 : Hid (Below U.heap.size U V0) := by show Below _ _ _; rw [hV0]; exact below_step HBX.out (below_drew _)
  have HR0 : Hid (Rows V0 U.heap.size gl rs.length rv (fun v => lat (spF es rs e) v)) := by show Rows _ _ _ _ _ _; rw [hV0]; exact HRX.out.later (below_drew _)
  rw [← hV0] at hHeld s0 s1 ⊢
  clear hV0 HBX HRX
  refine wpAnyH_take (i := 0) (v := ?v1) rfl (by kernel_rfl) (by kernel_rfl) (by kernel_rfl) (fun _ _ _ h => h) (Or.inl ⟨by rfl, ?hy1⟩) (by assumption) ?rest1
  case hy1 => (intro w hSw; (try dsimp only at hSw); go_simp; try with_reducible rfl)
  try simp only [Act.put, lA, lB, lD, lE, lF]
  refine wpAnyH_take (i := 1) (v := ?v2) rfl (by kernel_rfl) (by kernel_rfl) (by kernel_rfl) (fun _ _ _ h => h) (Or.inl ⟨by rfl, ?hy2⟩) (by assumption) ?rest2
  case hy2 => (intro w hSw; (try dsimp only at hSw); go_simp; try with_reducible rfl)
  try simp only [Act.put, lA, lB, lC, lD, lE, lF]
  refine wpAnyH_take (i := 2) (v := ?v3) rfl (by kernel_rfl) (by kernel_rfl) (by kernel_rfl) (fun _ _ _ h => h) (Or.inl ⟨by rfl, ?hy3⟩) (by assumption) ?rest3
  case hy3 => (intro w hSw; (try dsimp only at hSw); go_simp; try with_reducible rfl)
  try simp only [Act.put, lA, lB, lC, lD, lE, lF]
  refine wpAnyH_take (i := 3) (v := ?v4) rfl (by kernel_rfl) (by kernel_rfl) (by kernel_rfl) (fun _ _ _ h => h) (Or.inl ⟨by rfl, ?hy4⟩) (by assumption) ?rest4
  case hy4 => (intro w hSw; (try dsimp only at hSw); go_simp; try with_reducible rfl)
  try simp only [Act.put, lA, lB, lC, lD, lE, lF]
  refine wpAnyH_ready (rs := [4]) (by kernel_rfl) (by simp) ?_
  refine ready_cons ({ dst := some 64, op := Op.buildSlice 44 2 #[(0, Operand.tmp 62), (1, Operand.tmp 63)], type := 44, pos := "dual.go:94", after := #[{ on := 2, ground := Ground.data }, { on := 3, ground := Ground.data }], guard := none }) rfl rfl (fun K hK => ?_) ?_
  · clear hHeld
    go_simp
    obtain ⟨V1, hV⟩ : ∃ V, V = V0.alloc (.cells #[.int .i64 (2 * (e : Int) + 1), .int .i64 (2 * (es.length : Int))] 3) := ⟨_, rfl⟩
    obtain ⟨kl, hkl⟩ : ∃ k, V0.heap.size = k := ⟨_, rfl⟩
    have hb2 : Below V0.heap.size V0 V1 := by rw [hV]; go_grown
    have HL1 : Hid (IOwns V1 U.heap.size (.slice (some ⟨kl, 0, none⟩) 2 2) [((2 * e + 1 : Nat) : Int), ((2 * es.length : Nat) : Int)]) := by rw [hV, ← hkl]; exact (lit_two V0 e es.length).base HB0.out.size
    rw [← hV, hkl]
    have HB1 := hide (HB0.out.trans (hb2.mono HB0.out.size))
    have HR1 := hide (HR0.out.later hb2)
    have HU1 : Hid (∀ u j, u < (spF es rs e).length → (Value.slice (some ⟨kl, 0, none⟩) 2 2).ownBlock = some j → (rv u).ownBlock ≠ some j) := fun u j hu hj hk => by have h1 := HR0.out.all_lt u j (by rw [spF_length] at hu; exact hu) hk; have h2 : kl = j := (by simpa [Value.ownBlock] using hj); omega
    clear hV hb2 hkl HR0
    clear s0 s1
    obtain ⟨s0, s1, _, _⟩ := HK.out.later HB1.out
    refine hK.out _ _ (by first | with_reducible exact ⟨s0, s1⟩ | (dsimp only; with_reducible exact ⟨s0, s1⟩)) (fun hHeld => ?_)
    clear hK K
    try simp only [Act.put, lA, lB, lC, lD, lE, lF]
    refine wpAnyH_ready (rs := [5]) (by kernel_rfl) (by simp) ?_
    refine ready_cons ({ dst := some 65, op := Op.buildSlice 26 1 #[(0, Operand.tmp 64)], type := 26, pos := "dual.go:94", after := #[{ on := 4, ground := Ground.data }], guard := none }) rfl rfl (fun K hK => ?_) ?_
    · clear hHeld
      go_simp
      obtain ⟨p1, l1, c1, V3, e5, hl1, fb3, bd3, dn3⟩ := (rows_fb HR1.out).push26 HB1.out.size HL1.out HU1.out (by rw [spF_length]; omega)
      rw [spF_length] at hl1
      subst hl1
      have HB3 : Hid (Below U.heap.size U V3) := HB1.out.trans bd3
      have HF3 := hide fb3
      obtain ⟨V2, hV⟩ : ∃ V, V = V1.alloc (.cells #[.slice (some ⟨kl, 0, none⟩) 2 2] 44) := ⟨_, rfl⟩
      have hb2 : Below V1.heap.size V1 V2 := by rw [hV]; go_grown
      rw [← hV] at e5
      obtain ⟨kb, hkb⟩ : ∃ k, V1.heap.size = k := ⟨_, rfl⟩
      rw [hkb] at e5
      rw [← hV, hkb]
      have HB2 := hide (HB1.out.trans (hb2.mono HB1.out.size))
      clear hV hb2 hkb fb3 bd3 dn3 HR1 HL1 HU1
      clear s0 s1
      obtain ⟨s0, s1, _, _⟩ := HK.out.later HB2.out
      refine hK.out _ _ (by first | with_reducible exact ⟨s0, s1⟩ | (dsimp only; with_reducible exact ⟨s0, s1⟩)) (fun hHeld => ?_)
      clear hK K
      try simp only [Act.put, lA, lB, lC, lD, lE, lF]
      refine wpAnyH_ready (rs := [6]) (by kernel_rfl) (by simp) ?_
      refine ready_cons ({ dst := some 66, op := Op.call { callee := Callee.builtin Builtin.append, args := #[Operand.tmp 61, Operand.tmp 65], argTypes := #[26, 26] }, type := 26, pos := "dual.go:94", after := #[{ on := 1, ground := Ground.data }, { on := 5, ground := Ground.data }], guard := none }) rfl rfl (fun K hK => ?_) ?_
      · clear hHeld
        refine oper_append (.tmp 61) (.tmp 65) 26 rfl 26 rfl (.slice (some ⟨gl, 0, none⟩) rs.length rs.length) (.slice (some ⟨kb, 0, none⟩) 1 1) (.slice p1 (rs.length + 1) c1) V3 (by rfl) (by rfl) ?_ ?_
        with_reducible exact e5
        clear e5
        clear s0 s1
        obtain ⟨s0, s1, _, _⟩ := HK.out.later HB3.out
        refine hK.out _ _ (by first | with_reducible exact ⟨s0, s1⟩ | (dsimp only; with_reducible exact ⟨s0, s1⟩)) (fun hHeld => ?_)
        clear hK K
        try simp only [Act.put, lD, lE, lF]
        refine wpAnyH_ready (rs := [7]) (by kernel_rfl) (by simp) ?_
        refine ready_cons ({ dst := some 67, op := Op.call { callee := Callee.value (Operand.func 52), args := #[Operand.tmp 60, Operand.tmp 66], argTypes := #[24, 26] }, type := 78, pos := "dual.go:94", after := #[{ on := 0, ground := Ground.data }, { on := 6, ground := Ground.data }, { on := 6, ground := Ground.chain }], guard := none }) rfl rfl (fun K hK => ?_) ?_
        · clear hHeld
          go_simp
          have CN := canon28 ((n : Int) + 1) (some ⟨g, 0, none⟩) (splitL n es e) (es.length + 1) p1 (spR es rs e) c1 V3 (HP.out.later HB3.out).has (rows_has HF3.out rfl (rot_bounds HRS.out).2) HRS.out
          rw [splitL_length, spR_length] at CN
          refine CN.mono ?_
          rintro r V4 ⟨g5, rv5, rfl, hr5, hb5⟩
          have HB4 := hide (HB3.out.trans (hb5.mono HB3.out.size))
          have HR4 := hide (hr5.base HB3.out.size)
          clear hb5 hr5 CN
          clear s0 s1
          obtain ⟨s0, s1, _, _⟩ := HK.out.later HB4.out
          refine hK.out _ _ (by first | with_reducible exact ⟨s0, s1⟩ | (dsimp only; with_reducible exact ⟨s0, s1⟩)) (fun hHeld => ?_)
          clear hK K
          try simp only [Act.put, lA, lB, lC, lD, lE, lF]
          refine wpAnyH_take (i := 8) (v := ?v5) rfl (by kernel_rfl) (by kernel_rfl) (by kernel_rfl) (fun _ _ _ h => h) (Or.inl ⟨by rfl, ?hy5⟩) (by assumption) ?rest5
          case hy5 => (intro w hSw; (try dsimp only at hSw); go_simp; try with_reducible rfl)
          try simp only [Act.put, lA, lB, lC, lD, lE, lF]
          refine wpAnyH_take (i := 9) (v := ?v6) rfl (by kernel_rfl) (by kernel_rfl) (by kernel_rfl) (fun _ _ _ h => h) (Or.inl ⟨by rfl, ?hy6⟩) (by assumption) ?rest6
          case hy6 => (intro w hSw; (try dsimp only at hSw); go_simp; try with_reducible rfl)
          try simp only [Act.put, lA, lB, lC, lD, lE, lF]
          refine wpAnyH_take (i := 10) (v := ?v7) rfl (by kernel_rfl) (by kernel_rfl) (by kernel_rfl) (fun _ _ _ h => h) (Or.inl ⟨by rfl, ?hy7⟩) (by assumption) ?rest7
          case hy7 => (intro w hSw; (try dsimp only at hSw); go_simp; try with_reducible rfl)
          try simp only [Act.put, lA, lB, lC, lD, lE, lF]
          refine wpAnyH_take (i := 11) (v := ?v8) rfl (by kernel_rfl) (by kernel_rfl) (by kernel_rfl) (fun _ _ _ h => h) (Or.inl ⟨by rfl, ?hy8⟩) (by assumption) ?rest8
          case hy8 => (intro w hSw; (try dsimp only at hSw); go_simp; try with_reducible rfl)
          try simp only [Act.put, lA, lB, lC, lD, lE, lF]
          refine wpAnyH_take (i := 12) (v := ?v9) rfl (by kernel_rfl) (by kernel_rfl) (by kernel_rfl) (fun _ _ _ h => h) (Or.inl ⟨by rfl, ?hy9⟩) (by assumption) ?rest9
          case hy9 => (intro w hSw; (try dsimp only at hSw); go_simp; try with_reducible rfl)
          try simp only [Act.put, lA, lB, lC, lD, lE, lF]
          refine wpAnyH_done (by kernel_rfl) ?_ _
          clear hHeld
          obtain ⟨r0, r1, r2, r3⟩ := HN.out.later HB4.out
          go_wp2_with fail
          obtain ⟨Z, hZ⟩ : ∃ Z, Z = (V4.setCell ⟨w.heap.size + 1, 0, none⟩ (.int .i64 ((n : Int) + 1))).setCell ⟨w.heap.size + 1, 1, none⟩ (.slice (some ⟨g, 0, none⟩) (es.length + 1) (es.length + 1)) := ⟨_, rfl⟩
          have kZ : NOwn Z (w.heap.size + 1) ((n : Int) + 1) (some ⟨g, 0, none⟩) (es.length + 1) (es.length + 1) := by rw [hZ]; exact (HN.out.later HB4.out).set _ _ _ _
          have bZ : Below w.heap.size w Z := by rw [hZ]; exact ((below_step HBU.out HB4.out).setCell (by simp) _).setCell (by simp) _
          have rZ : PRow Z w.heap.size g (es.length + 1) (splitL n es e) := by rw [hZ]; exact (prow_other (prow_other (HP.out.later HB4.out) (by have := HGG.out; omega) _) (by have := HGG.out; omega) _)
          have yZ : Rows Z w.heap.size g5 (rs.length + 1) rv5 (fun v => lat (canonL (spR es rs e)) v) := by rw [hZ]; exact ((HR4.out.other HKU.out _).other HKU.out _).base HBU.out.size
          rw [← hZ]
          exact bodyPost_ret (ret_net3 Try.results18 rfl rfl rfl kZ) rfl ⟨g, g5, rv5, rfl, rZ, yZ, bZ⟩
        exact AllReadyH.nil
      exact AllReadyH.nil
    exact AllReadyH.nil
  exact AllReadyH.nil
end Go.Proofs.Ytcgdmonejogbaaa
