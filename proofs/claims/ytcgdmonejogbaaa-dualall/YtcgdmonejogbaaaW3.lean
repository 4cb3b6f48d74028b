/- dual.faceOf, in every world: the face of a corner. -/
import Derived.Test.YtcgdmonejogbaaaW1
/- Places in lists; corners: isCorner, in every world. -/
namespace Go.Proofs.Ytcgdmonejogbaaa
open Go.RowKit Go.Sort
open Go
/-- Where x stands first, or -1. -/
def idxI (l : List Int) (x : Int) : Int := if x ∈ l then (l.idxOf x : Nat) else -1
theorem idxOf_at {l : List Int} {x : Int} (h : x ∈ l) : l.idxOf x < l.length ∧ iat l (l.idxOf x) = x ∧ ∀ j, j < l.idxOf x → iat l j ≠ x := by
  have hlt : l.idxOf x < l.length := List.idxOf_lt_length_iff.2 h
  refine ⟨hlt, ?_, fun j hj e => ?_⟩
  · unfold iat
    rw [List.getD_eq_getElem?_getD, List.getElem?_eq_getElem hlt]
    exact List.getElem_idxOf hlt
  · have hjl : j < l.length := by omega
    have := List.not_of_lt_findIdx (xs := l) (p := (· == x)) hj
    unfold iat at e
    rw [List.getD_eq_getElem?_getD, List.getElem?_eq_getElem hjl] at e
    simp at this
    exact this (by simpa using e)
theorem idxI_in {l : List Int} {x : Int} (h : x ∈ l) : idxI l x = (l.idxOf x : Nat) := by unfold idxI; rw [if_pos h]
theorem idxI_out {l : List Int} {x : Int} (h : x ∉ l) : idxI l x = -1 := by unfold idxI; rw [if_neg h]
set_option maxRecDepth 100000 in
set_option maxHeartbeats 4000000 in
theorem index58 (p : Option Addr) (l : List Int) (cp : Nat) (x : Int) (w : World) (hl : l.length ≤ 1000000) (h : IHas w p l) : Calls Try.prog 58 #[.slice p l.length cp, .int .i64 x] w fun e w' => e = .returned (.int .i64 (idxI l x)) ∧ Below w.heap.size w w' := by
  by_cases hx : x ∈ l
  · obtain ⟨h1, h2, h3⟩ := idxOf_at hx
    rw [idxI_in hx]
    exact index73 p l cp _ x w h1 h2 h3 (by unfold maxLen; omega) h
  · rw [idxI_out hx]
    have HN : Hid (∀ j, j < l.length → iat l j ≠ x) := fun j hj e => hx (by rw [← e]; exact iat_mem hj)
    have HI := hide h
    clear h hx
    go_enter Try.func58, Try.ntmps58
    go_wp2_with fail
    go_loopw [8] (fun t8 wr => ∃ k : Nat, k ≤ l.length ∧ t8 = .int .i64 k ∧ Hid (Below w.heap.size w wr)) (fun t8 _ => l.length - (intOf t8).toNat)
    case atStart => exact ⟨0, by omega, rfl, Below.refl _ _⟩
    case round =>
      obtain ⟨k, hk, rfl, HB⟩ := hrel
      by_cases hka : k < l.length
      · rcases HI.out with hn | ⟨b, off, rfl, hL⟩
        · rw [hn] at hka; simp at hka
        have c1 := later HB.out (hL k hka)
        have e2 : (k : Int) < l.length := by omega
        have hne := HN.out k hka
        obtain ⟨y, hy⟩ : ∃ y, iat l k = y := ⟨_, rfl⟩
        rw [hy] at c1 hne
        have t1 : (x == y) = false := beq_eq_false_iff_ne.2 (fun e => hne e.symm)
        clear hy hne hL
        go_wp2
        go_roundw
        case rel => exact ⟨k + 1, by omega, by go_num, HB.out⟩
        case measure => simp [intOf]; omega
      · have e2 : ¬ (k : Int) < l.length := by omega
        go_wp2
        go_ret
        exact ⟨rfl, HB.out⟩
set_option maxRecDepth 100000 in
set_option maxHeartbeats 4000000 in
theorem contains79 (p : Option Addr) (l : List Int) (cp : Nat) (x : Int) (w : World) (hl : l.length ≤ 1000000) (h : IHas w p l) : Calls Try.prog 79 #[.slice p l.length cp, .int .i64 x] w fun e w' => e = .returned (.bool (decide (x ∈ l))) ∧ Below w.heap.size w w' := by
  have IX := hide (index58 p l cp x w hl h)
  by_cases hx : x ∈ l
  · rw [decide_eq_true hx]
    rw [idxI_in hx] at IX
    obtain ⟨k, hk⟩ : ∃ k, l.idxOf x = k := ⟨_, rfl⟩
    rw [hk] at IX
    clear h hx hk
    go_enter Try.func79, Try.ntmps79
    go_wp2_with fail
    refine IX.out.mono ?_
    rintro e w1 ⟨rfl, hb⟩
    have HB := hide hb
    have e1 : (k : Int) ≥ 0 := by omega
    clear hb IX
    go_wp2
    go_ret
    exact ⟨rfl, HB.out⟩
  · rw [decide_eq_false hx]
    rw [idxI_out hx] at IX
    clear h hx
    go_enter Try.func79, Try.ntmps79
    go_wp2_with fail
    refine IX.out.mono ?_
    rintro e w1 ⟨rfl, hb⟩
    have HB := hide hb
    clear hb IX
    go_wp2
    go_ret
    exact ⟨rfl, HB.out⟩
/-- A corner. -/
abbrev cv (v a : Int) : Value := .agg #[.int .i64 v, .int .i64 a]
abbrev cbx (v a : Int) : Obj := .cells #[.int .i64 v, .int .i64 a] 28
theorem one_corner (w : World) (v a : Int) : ∃ W, W = w.alloc (cbx v a) ∧ Below w.heap.size w W ∧ W.cell? ⟨w.heap.size, 0, none⟩ = some (.int .i64 v) ∧ W.cell? ⟨w.heap.size, 1, none⟩ = some (.int .i64 a) :=
  ⟨_, rfl, by go_grown, by go_cell, by go_cell⟩
def corB (rs : List (List Int)) (v a : Int) : Bool := decide (0 ≤ v ∧ v < rs.length) && (decide (a ∈ lat rs v.toNat) || (decide ((lat rs v.toNat).length = 0) && decide (a = -1)))
set_option maxRecDepth 100000 in
set_option maxHeartbeats 8000000 in
theorem corner48 (q : Option Addr) (rs : List (List Int)) (cq : Nat) (v a : Int) (w : World) (hr : RHas w q rs) (hl : ∀ u, u < rs.length → (lat rs u).length ≤ 1000000) : Calls Try.prog 48 #[.slice q rs.length cq, cv v a] w fun e w' => e = .returned (.bool (corB rs v a)) ∧ Below w.heap.size w w' := by
  obtain ⟨W, hW, hb, q0, q1⟩ := one_corner w v a
  have HR := hide (hr.later hb)
  have HB := hide hb
  by_cases h1 : v < 0
  · have hc : corB rs v a = false := by unfold corB; rw [decide_eq_false (by omega)]; rfl
    rw [hc]
    clear hr hb hc
    go_enter Try.func48, Try.ntmps48
    go_upto_region 1 with fail
    rw [← hW]
    clear hW
    go_wp2
    go_ret
    exact ⟨rfl, HB.out⟩
  by_cases h2 : v ≥ (rs.length : Int)
  · have hc : corB rs v a = false := by unfold corB; rw [decide_eq_false (by omega)]; rfl
    rw [hc]
    clear hr hb hc
    go_enter Try.func48, Try.ntmps48
    go_upto_region 1 with fail
    rw [← hW]
    clear hW
    go_wp2
    go_ret
    exact ⟨rfl, HB.out⟩
  obtain ⟨u, rfl⟩ : ∃ u : Nat, v = u := ⟨v.toNat, by omega⟩
  have hu : u < rs.length := by omega
  have e1 : (u : Int) < rs.length := by omega
  obtain ⟨b1, o1, a1, k1, rfl, c0, m1, z1, _⟩ := HR.out.at_ hu
  have CN := hide (contains79 a1 (lat rs u) k1 a W (hl u hu) m1)
  have hc : corB rs u a = (decide (a ∈ lat rs u) || (decide ((lat rs u).length = 0) && decide (a = -1))) := by
    unfold corB
    rw [decide_eq_true (show (0 : Int) ≤ u ∧ (u : Int) < rs.length by omega), Int.toNat_natCast]
    rfl
  rw [hc]
  obtain ⟨l, hll⟩ : ∃ l, lat rs u = l := ⟨_, rfl⟩
  rw [hll] at CN c0 z1 ⊢
  clear hr hb hc hl m1 HR hll
  by_cases h3 : a ∈ l
  · rw [decide_eq_true h3] at CN ⊢
    clear h3
    go_enter Try.func48, Try.ntmps48
    go_upto_region 1 with fail
    rw [← hW]
    clear hW
    go_wp2_with fail
    refine CN.out.mono ?_
    rintro e w1 ⟨rfl, hb1⟩
    have HB1 := hide (below_step HB.out hb1)
    clear CN hb1
    go_wp2
    go_ret
    exact ⟨rfl, HB1.out⟩
  · rw [decide_eq_false h3] at CN ⊢
    clear h3
    by_cases h4 : l.length = 0
    · rw [decide_eq_true h4]
      rw [h4] at CN c0
      have t0 : (((0 : Nat) : Int) == 0) = true := rfl
      by_cases h5 : a = -1
      · have t5 : (a == -1) = true := by simp [h5]
        rw [decide_eq_true h5]
        clear h4 h5
        go_enter Try.func48, Try.ntmps48
        go_upto_region 1 with fail
        rw [← hW]
        clear hW
        go_wp2_with fail
        refine CN.out.mono ?_
        rintro e w1 ⟨rfl, hb1⟩
        have HB1 := hide (below_step HB.out hb1)
        obtain ⟨q1'⟩ : Nonempty (w1.cell? ⟨w.heap.size, 1, none⟩ = some (.int .i64 a)) := ⟨later hb1 q1⟩
        clear CN hb1
        go_wp2
        go_ret
        exact ⟨rfl, HB1.out⟩
      · have t5 : (a == -1) = false := by simp [h5]
        rw [decide_eq_false h5]
        clear h4 h5
        go_enter Try.func48, Try.ntmps48
        go_upto_region 1 with fail
        rw [← hW]
        clear hW
        go_wp2_with fail
        refine CN.out.mono ?_
        rintro e w1 ⟨rfl, hb1⟩
        have HB1 := hide (below_step HB.out hb1)
        have q1' := later hb1 q1
        clear CN hb1
        go_wp2
        go_ret
        exact ⟨rfl, HB1.out⟩
    · rw [decide_eq_false h4]
      have t0 : ((l.length : Int) == 0) = false := beq_eq_false_iff_ne.2 (by omega)
      clear h4
      go_enter Try.func48, Try.ntmps48
      go_upto_region 1 with fail
      rw [← hW]
      clear hW
      go_wp2_with fail
      refine CN.out.mono ?_
      rintro e w1 ⟨rfl, hb1⟩
      have HB1 := hide (below_step HB.out hb1)
      clear CN hb1
      go_wp2
      go_ret
      exact ⟨rfl, HB1.out⟩
end Go.Proofs.Ytcgdmonejogbaaa
namespace Go.Proofs.Ytcgdmonejogbaaa
open Go.RowKit Go.Sort
open Go
/-- One more than the greatest of the first k. -/
def mxN (O : List Int) : Nat → Int
  | 0 => 0
  | k + 1 => if mxN O k < iat O k + 1 then iat O k + 1 else mxN O k
theorem mxN_in (O : List Int) (B : Int) (hB : 0 ≤ B) (h : ∀ j, j < O.length → iat O j < B) : ∀ k, k ≤ O.length → 0 ≤ mxN O k ∧ mxN O k ≤ B
  | 0, _ => ⟨by simp [mxN], by simpa [mxN] using hB⟩
  | k + 1, hk => by
    have ih := mxN_in O B hB h k (by omega)
    have := h k (by omega)
    unfold mxN
    split <;> omega
/-- The face of a corner, by the half-edges' faces. -/
def faceI (rs : List (List Int)) (O : List Int) (v : Nat) (a : Int) : Int := if (lat rs v).length = 0 then mxN O O.length + (emptyN rs v).length else iat O (iat (lat rs v) (((lat rs v).idxOf a + 1) % (lat rs v).length)).toNat
set_option maxRecDepth 100000 in
set_option maxHeartbeats 8000000 in
theorem face49 (q t : Option Addr) (rs : List (List Int)) (cq : Nat) (O : List Int) (co v : Nat) (a : Int) (w : World) (hr : RHas w q rs) (hO : IHas w t O) (hOl : O.length ≤ 100000) (hOb : ∀ j, j < O.length → 0 ≤ iat O j ∧ iat O j < 100000) (hv : v < rs.length) (hn : rs.length ≤ 100000) (hl : ∀ u, u < rs.length → (lat rs u).length ≤ 100000) (hin : ∀ j, j < (lat rs v).length → 0 ≤ iat (lat rs v) j ∧ iat (lat rs v) j < O.length) (hc : corB rs v a = true) (hcap : rs.length ≤ cq) : Calls Try.prog 49 #[.slice q rs.length cq, .slice t O.length co, cv v a] w fun e w' => e = .returned (.int .i64 (faceI rs O v a)) ∧ Below w.heap.size w w' := by
  obtain ⟨W, hW, hb, q0, q1⟩ := one_corner w v a
  have HR := hide (hr.later hb)
  have HO := hide (hO.later hb)
  have HB := hide hb
  obtain ⟨b1, o1, a1, k1, rfl, c0, m1, z1, _⟩ := HR.out.at_ hv
  have e1 : (v : Int) < rs.length := by omega
  by_cases h0 : (lat rs v).length = 0
  · have hf : faceI rs O v a = mxN O O.length + (emptyN rs v).length := by unfold faceI; rw [if_pos h0]
    rw [hf]
    rw [h0] at c0
    have HMX := hide (mxN_in O 100000 (by omega) fun j hj => by have := hOb j hj; omega)
    have HOb := hide hOb
    obtain ⟨R, hR⟩ : ∃ R, mxN O O.length + ((emptyN rs v).length : Int) = R := ⟨_, rfl⟩
    rw [hR]
    have HRR := hide hR
    have hvi : ¬ (v : Int) = cq := by omega
    clear hr hO hb m1 hin hc hf hR hOb h0
    go_enter Try.func49, Try.ntmps49
    go_upto_region 1 with fail
    rw [← hW]
    clear hW
    go_wp2_with fail
    go_loopw [8, 37] (fun t8 t37 wr => ∃ k : Nat, k ≤ O.length ∧ t8 = .int .i64 (mxN O k) ∧ t37 = .int .i64 k ∧ Hid (Below W.heap.size W wr)) (fun _ t37 _ => O.length - (intOf t37).toNat)
    case atStart => exact ⟨0, by omega, rfl, rfl, Below.refl _ _⟩
    case round =>
      obtain ⟨k, hk, rfl, rfl, HBr⟩ := hrel
      by_cases hkl : k < O.length
      · rcases HO.out with hn | ⟨b2, o2, rfl, l2⟩
        · rw [hn] at hkl; simp at hkl
        have d0 := later HBr.out (l2 k hkl)
        have k1 : (k : Int) < O.length := by omega
        obtain ⟨x1, x2⟩ := HMX.out k (by omega)
        have x3 := HOb.out k hkl
        have HST : Hid (mxN O (k + 1) = if mxN O k < iat O k + 1 then iat O k + 1 else mxN O k) := rfl
        obtain ⟨x, hx⟩ : ∃ x, mxN O k = x := ⟨_, rfl⟩
        obtain ⟨y, hy⟩ : ∃ y, iat O k = y := ⟨_, rfl⟩
        rw [hx] at x1 x2 HST ⊢
        rw [hy] at d0 x3 HST
        clear hx hy l2
        go_wp2
        go_roundw
        case rel => exact ⟨k + 1, by omega, by rw [HST.out], by go_num, HBr.out⟩
        case measure => simp [intOf]; omega
      · have hke : k = O.length := by omega
        have k1 : ¬ (k : Int) < O.length := by omega
        rw [hke]
        have x12 := HMX.out O.length (by omega)
        have q0' := later HBr.out q0
        obtain ⟨X, hX⟩ : ∃ X, mxN O O.length = X := ⟨_, rfl⟩
        rw [hX] at x12 ⊢
        have HX := hide hX
        have hcl : (v : Int) ≤ cq := by omega
        clear hX hke hkl
        go_wp2_with fail
        obtain ⟨Wa, hWa⟩ : ∃ x, x = wr := ⟨_, rfl⟩
        subst hWa
        have HBA := HBr
        clear HBr q0'
        go_loopw [8, 51] (fun t8 t51 wr => ∃ u : Nat, u ≤ v ∧ t8 = .int .i64 (X + (emptyN rs u).length) ∧ t51 = .int .i64 u ∧ Hid (Below W.heap.size W wr)) (fun _ t51 _ => v - (intOf t51).toNat)
        case atStart => exact ⟨0, by omega, by simp [emptyN], rfl, HBA.out⟩
        case round =>
          obtain ⟨u, hu, rfl, rfl, HBu⟩ := hrel
          by_cases huv : u < v
          · obtain ⟨b3, o3, a3, k3, e3, c3W, _⟩ := HR.out.at_ (v := u) (by omega)
            injection e3 with e3
            injection e3 with eb eo
            subst eb eo
            have c3 := later HBu.out c3W
            have u1 : (u : Int) < v := by omega
            have HEN : Hid (emptyN rs (u + 1) = if (lat rs u).length = 0 then emptyN rs u ++ [[]] else emptyN rs u) := rfl
            have hev := emptyN_le rs u
            clear c3W
            by_cases hl0 : (lat rs u).length = 0
            · rw [if_pos hl0] at HEN
              rw [hl0] at c3
              have HEL : Hid ((emptyN rs (u + 1)).length = (emptyN rs u).length + 1) := by show _ = _; rw [HEN.out]; simp
              obtain ⟨E, hE⟩ : ∃ E, (emptyN rs u).length = E := ⟨_, rfl⟩
              rw [hE] at HEL hev ⊢
              clear hl0 hE
              go_wp2
              go_roundw
              case rel => exact ⟨u + 1, by omega, by rw [HEL.out]; go_num, by go_num, HBu.out⟩
              case measure => simp [intOf]; omega
            · rw [if_neg hl0] at HEN
              have t1 : (((lat rs u).length : Int) == 0) = false := beq_eq_false_iff_ne.2 (by omega)
              clear hl0
              go_wp2
              go_roundw
              case rel => exact ⟨u + 1, by omega, by rw [HEN.out], by go_num, HBu.out⟩
              case measure => simp [intOf]; omega
          · have hue : u = v := by omega
            have u1 : ¬ (u : Int) < v := by omega
            rw [hue, ← HX.out, HRR.out]
            clear hue huv
            go_wp2
            go_ret
            exact ⟨rfl, below_step HB.out HBu.out⟩
  · have hf : faceI rs O v a = iat O (iat (lat rs v) (((lat rs v).idxOf a + 1) % (lat rs v).length)).toNat := by unfold faceI; rw [if_neg h0]
    have ha : a ∈ lat rs v := by
      unfold corB at hc
      rw [Int.toNat_natCast, decide_eq_false h0] at hc
      simpa [hv] using hc
    rw [hf]
    have hlv := hl v hv
    have IX := hide (index58 a1 (lat rs v) k1 a W (by omega) m1)
    rw [idxI_in ha] at IX
    obtain ⟨i1, i2, _⟩ := idxOf_at ha
    have hmod : ((lat rs v).idxOf a + 1) % (lat rs v).length < (lat rs v).length := Nat.mod_lt _ (by omega)
    obtain ⟨i, hi⟩ : ∃ i, (lat rs v).idxOf a = i := ⟨_, rfl⟩
    rw [hi] at IX i1 hmod ⊢
    obtain ⟨x0, x1⟩ := hin _ hmod
    have HIA := hide m1
    have HRM : Hid (Int.tmod ((i : Int) + 1) (lat rs v).length = (((i + 1) % (lat rs v).length : Nat) : Int)) := by
      show _ = _
      rw [Int.tmod_eq_emod_of_nonneg (by omega)]
      have := Int.natCast_emod (i + 1) (lat rs v).length
      rw [this]; rfl
    obtain ⟨l, hll⟩ : ∃ l, lat rs v = l := ⟨_, rfl⟩
    rw [hll] at c0 IX HIA i1 hmod x0 x1 hlv HRM h0 ⊢
    obtain ⟨r, hr2⟩ : ∃ r, (i + 1) % l.length = r := ⟨_, rfl⟩
    rw [hr2] at hmod x0 x1 HRM ⊢
    obtain ⟨x, hx⟩ : ∃ x : Nat, iat l r = x := ⟨(iat l r).toNat, by omega⟩
    have HX := hide hx
    rw [hx] at x1
    rw [show (iat l r).toNat = x by omega]
    obtain ⟨y, hy⟩ : ∃ y, iat O x = y := ⟨_, rfl⟩
    rw [hy]
    have HY := hide hy
    have hrem := HRM.out
    have j1 : (i : Int) < l.length := by omega
    have j2 : (r : Int) < l.length := by omega
    have j3 : ¬ (l.length : Int) = 0 := by omega
    have j4 : (l.length : Int) > 0 := by omega
    clear hr hO hb m1 hin hc hf hOb ha hi hll hr2 hx hy hl i2 x0
    go_enter Try.func49, Try.ntmps49
    go_upto_region 1 with fail
    rw [← hW]
    clear hW
    go_wp2_with fail
    refine IX.out.mono ?_
    rintro e w1 ⟨rfl, hb1⟩
    have HB1 := hide hb1
    rcases HIA.out.later hb1 with hnl | ⟨b2, o2, rfl, l2⟩
    · exact absurd hmod (by rw [hnl]; simp)
    rcases HO.out.later hb1 with hnl | ⟨b3, o3, rfl, l3⟩
    · rw [hnl] at x1; simp at x1; omega
    have d0 := l2 r hmod
    rw [HX.out] at d0
    have d1 := l3 x (by omega)
    rw [HY.out] at d1
    clear hb1 l2 l3 IX
    go_wp2
    go_ret
    exact ⟨rfl, below_step HB.out HB1.out⟩
end Go.Proofs.Ytcgdmonejogbaaa
