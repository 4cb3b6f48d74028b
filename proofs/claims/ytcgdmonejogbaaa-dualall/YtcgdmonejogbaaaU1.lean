/- The document's Next: the next half-edges along faces, as rot.nexts has them. -/
import Derived.Test.YtcgdmonejogbaaaY15
import Derived.Deep.DeepCutAuto
import Derived.Deep.QuietTactic
/- The law's behind, the document's Twin; the lengths of two lists of faces, counted against each other. -/
namespace Go.Proofs.Ytcgdmonejogbaaa
open Go.RowKit Go.Sort
open Go
set_option maxRecDepth 100000 in
set_option maxHeartbeats 4000000 in
theorem twin25 (h : Nat) (w : World) (hh : h ≤ 1000000) : Calls Try.prog 40 #[.int .i64 h] w fun e w' => e = .returned (.int .i64 (tw h : Nat)) ∧ Below w.heap.size w w' := by
  have hq : Int.tmod (h : Int) 2 = ((h % 2 : Nat) : Int) := by
    rw [Int.tmod_eq_emod_of_nonneg (by omega)]
    omega
  unfold tw
  by_cases h2 : h % 2 = 0
  · rw [if_pos h2]
    have t1 : (Int.tmod (h : Int) 2 == 0) = true := by rw [hq, h2]; rfl
    have t2 : Int.tmod (h : Int) 2 = 0 := by rw [hq, h2]; rfl
    clear hq
    go_enter Try.func40, Try.ntmps40
    go_wp2
    go_ret
    exact ⟨by go_num, Below.refl _ _⟩
  · rw [if_neg h2]
    have t1 : (Int.tmod (h : Int) 2 == 0) = false := by rw [hq]; simp; omega
    have t2 : ¬ Int.tmod (h : Int) 2 = 0 := by rw [hq]; omega
    have t3 : 1 ≤ h := by omega
    clear hq
    go_enter Try.func40, Try.ntmps40
    go_wp2
    go_ret
    exact ⟨by go_num, Below.refl _ _⟩
theorem list_iat {A B : List Int} (hl : A.length = B.length) (h : ∀ i, i < A.length → iat A i = iat B i) : A = B := by
  refine List.ext_getElem hl fun i h1 h2 => ?_
  have := h i h1
  unfold iat at this
  rw [List.getD_eq_getElem?_getD, List.getD_eq_getElem?_getD, List.getElem?_eq_getElem h1, List.getElem?_eq_getElem h2] at this
  simpa using this
end Go.Proofs.Ytcgdmonejogbaaa
namespace Go.Proofs.Ytcgdmonejogbaaa
open Go.RowKit Go.Sort
open Go
/-- What stands behind each half-edge, when the first j of the list are over. -/
def bhRow (l : List Int) (N : List Int) : Nat → List Int
  | 0 => N
  | j + 1 => (bhRow l N j).set (iat l j).toNat (iat l ((j + 1) % l.length))
def bhN (rs : List (List Int)) (m : Nat) : Nat → List Int
  | 0 => List.replicate m 0
  | v + 1 => bhRow (lat rs v) (bhN rs m v) (lat rs v).length
theorem bhRow_length (l N : List Int) : ∀ j, (bhRow l N j).length = N.length
  | 0 => rfl
  | j + 1 => by simp only [bhRow, List.length_set]; exact bhRow_length l N j
theorem bhN_length (rs : List (List Int)) (m : Nat) : ∀ v, (bhN rs m v).length = m
  | 0 => by simp [bhN]
  | v + 1 => by simp only [bhN]; rw [bhRow_length]; exact bhN_length rs m v
theorem bhRow_nx {l N N' : List Int} {E : Nat} (hl : ∀ j, j < l.length → 0 ≤ iat l j ∧ iat l j < 2 * E) (h1 : N.length = 2 * E) (h2 : N'.length = 2 * E) (hN : ∀ x, x < 2 * E → iat N x = iat N' (tw x)) : ∀ j, j ≤ l.length → ∀ x, x < 2 * E → iat (bhRow l N j) x = iat (nxRow l N' j) (tw x)
  | 0, _, x, hx => hN x hx
  | j + 1, hj, x, hx => by
    have ih := bhRow_nx hl h1 h2 hN j (by omega) x hx
    have hb := hl j (by omega)
    have ht := tw_lt hx
    unfold bhRow nxRow
    rw [iat_set _ _ _ _ (by rw [bhRow_length, h1]; exact hx), iat_set _ _ _ _ (by rw [nxRow_length, h2]; exact ht)]
    have e : twn (iat l j) = (tw (iat l j).toNat : Nat) := by rw [← twn_tw]; congr 1; omega
    rw [e, Int.toNat_natCast]
    by_cases h : (iat l j).toNat = x
    · rw [if_pos h, if_pos (by rw [h])]
    · rw [if_neg h, if_neg (fun e2 => h (tw_inj e2))]
      exact ih
theorem bhN_nx {rs : List (List Int)} {E : Nat} (hl : ∀ v, v < rs.length → ∀ j, j < (lat rs v).length → 0 ≤ iat (lat rs v) j ∧ iat (lat rs v) j < 2 * E) : ∀ v, v ≤ rs.length → ∀ x, x < 2 * E → iat (bhN rs (2 * E) v) x = iat (nxN rs (2 * E) v) (tw x)
  | 0, _, x, hx => by
    unfold bhN nxN
    rw [iat_fill hx, iat_fill (tw_lt hx)]
  | v + 1, hv, x, hx => by
    unfold bhN nxN
    exact bhRow_nx (hl v (by omega)) (bhN_length _ _ _) (nxN_length _ _ _) (bhN_nx hl v (by omega)) _ (Nat.le_refl _) x hx
/-- Of the first h the next ones are laid. -/
def nuN (B : List Int) (m : Nat) : Nat → List Int
  | 0 => List.replicate m 0
  | h + 1 => (nuN B m h).set h (iat B (tw h))
theorem nuN_length (B : List Int) (m : Nat) : ∀ h, (nuN B m h).length = m
  | 0 => by simp [nuN]
  | h + 1 => by simp only [nuN, List.length_set]; exact nuN_length B m h
theorem nuN_at (B : List Int) (m : Nat) : ∀ h, h ≤ m → ∀ x, x < h → iat (nuN B m h) x = iat B (tw x)
  | 0, _, x, hx => by omega
  | h + 1, hh, x, hx => by
    unfold nuN
    rw [iat_set _ _ _ _ (by rw [nuN_length]; omega)]
    by_cases e : h = x
    · rw [if_pos e, e]
    · rw [if_neg e]; exact nuN_at B m h (by omega) x (by omega)
theorem nuN_is {rs : List (List Int)} {E : Nat} (hl : ∀ v, v < rs.length → ∀ j, j < (lat rs v).length → 0 ≤ iat (lat rs v) j ∧ iat (lat rs v) j < 2 * E) : nuN (bhN rs (2 * E) rs.length) (2 * E) (2 * E) = nxN rs (2 * E) rs.length := by
  refine list_iat (by rw [nuN_length, nxN_length]) fun i hi => ?_
  rw [nuN_length] at hi
  rw [nuN_at _ _ _ (Nat.le_refl _) i hi, bhN_nx hl _ (Nat.le_refl _) _ (tw_lt hi), tw_tw]
set_option maxRecDepth 100000 in
set_option maxHeartbeats 16000000 in
theorem next69 (n : Int) (p : Option Addr) (es : List Pt) (cp : Nat) (q : Option Addr) (rs : List (List Int)) (cq : Nat) (w : World) (hr : RHas w q rs) (hn : rs.length ≤ 100000) (hE : es.length ≤ 90000) (hl : ∀ v, v < rs.length → (lat rs v).length ≤ 90000) (hb : ∀ v, v < rs.length → ∀ j, j < (lat rs v).length → 0 ≤ iat (lat rs v) j ∧ iat (lat rs v) j < 2 * es.length) : Calls Try.prog 74 #[nv n p es.length cp, .slice q rs.length cq] w fun e w' => ∃ g, e = .returned (.slice (some ⟨g, 0, none⟩) (2 * es.length) (2 * es.length)) ∧ IRow w' w.heap.size g (2 * es.length) (nxN rs (2 * es.length) rs.length) ∧ Below w.heap.size w w' := by
  obtain ⟨W, hW, hb0, a0⟩ := one_net w n p es.length cp
  obtain ⟨i0, hi0, hz0, hz1, hz2⟩ := info_parts info3
  have HR := hide (hr.later hb0)
  have HLL := hide hl
  have HBB := hide hb
  have HB0 := hide hb0
  have HNU := hide (nuN_is hb)
  obtain ⟨q0, q1, _, _⟩ := a0
  have q1' := q1
  clear hr hl hb hb0
  go_enter Try.func74, Try.ntmps74
  go_wp2_with (refine wpList_make_full _ rfl (.tmp 13) (.tmp 13) 44 rfl W.heap.size 3 i0 (.int .i64 0) 1 Try.underlying44 hi0 hz0 hz1 .i64 .i64 _ _ (2 * es.length) rfl rfl rfl rfl ?c1 ?c2 ?c3 ?_)
  case c1 => rw [hz2]; omega
  case c2 => unfold maxLen; omega
  case c3 => exact Nat.le_of_eq (by rw [hW])
  intro w2 hown hgrow
  have hb2 : Below W.heap.size W w2 := by rw [hW]; exact below_made hgrow
  have hgp := irow_made hown
  have hsW : W.heap.size = w.heap.size + 1 := by rw [hW]; simp
  rw [← hsW] at hgp
  try rw [← hsW]
  obtain ⟨g, hg⟩ : ∃ g, W.heap.size = g := ⟨_, rfl⟩
  obtain ⟨m, hm⟩ : ∃ m, 2 * es.length = m := ⟨_, rfl⟩
  have HM := hide hm
  have HG0 : Hid (IRow w2 W.heap.size g m (bhN rs m 0)) := by
    show IRow _ _ _ _ _
    rw [← hm]
    rw [hg] at hgp ⊢
    exact hgp
  have HB2 := hide hb2
  try rw [hg]
  rw [hm] at HNU ⊢
  have hm2 : m ≤ 180000 := by omega
  clear hown hgrow hgp hb2 hsW hg hW q0 q1 q1' hm
  go_wp2_with fail
  go_loopw [6] (fun t6 wr => ∃ v : Nat, v ≤ rs.length ∧ t6 = .int .i64 v ∧ Hid (Below W.heap.size W wr) ∧ Hid (IRow wr W.heap.size g m (bhN rs m v))) (fun t6 _ => rs.length - (intOf t6).toNat)
  case atStart => exact ⟨0, by omega, rfl, HB2.out, HG0.out⟩
  case round =>
    obtain ⟨v, hv, rfl, HBr, HGr⟩ := hrel
    clear HB2 HG0
    by_cases hlt : v < rs.length
    · obtain ⟨b1, o1, a1, k1, rfl, c0W, m1, z1⟩ := HR.out.at_ hlt
      have e1 : (v : Int) < rs.length := by omega
      have HIA : Hid (∀ V, Below W.heap.size W V → IHas V a1 (lat rs v)) := fun V hV => m1.later hV
      have HC0 := hide c0W
      have hl9 := HLL.out v hlt
      have HBL := hide (HBB.out v hlt)
      have HNX : Hid (bhN rs m (v + 1) = bhRow (lat rs v) (bhN rs m v) (lat rs v).length) := rfl
      obtain ⟨l, hll⟩ : ∃ l, lat rs v = l := ⟨_, rfl⟩
      obtain ⟨N, hN⟩ : ∃ N, bhN rs m v = N := ⟨_, rfl⟩
      rw [hll] at HC0 HIA hl9 HBL HNX
      rw [hN] at HNX HGr
      clear m1 z1 c0W hll hN
      go_wp2_with fail
      go_loopw [7] (fun t7 wj => ∃ j : Nat, j ≤ l.length ∧ t7 = .int .i64 j ∧ Hid (Below W.heap.size W wj) ∧ Hid (IRow wj W.heap.size g m (bhRow l N j))) (fun t7 _ => l.length - (intOf t7).toNat)
      case atStart => exact ⟨0, by omega, rfl, HBr.out, HGr.out⟩
      case round =>
        obtain ⟨j, hj, rfl, HBj, HGj⟩ := hrel
        clear HBr HGr
        have c0 := later HBj.out HC0.out
        by_cases hjl : j < l.length
        · rcases HIA.out _ HBj.out with h | ⟨b2, o2, rfl, l2⟩
          · rw [h] at hjl; simp at hjl
          obtain ⟨x0, x1⟩ := HBL.out j hjl
          have hmod : (j + 1) % l.length < l.length := Nat.mod_lt _ (by omega)
          have c1 := l2 j hjl
          have c2 := l2 ((j + 1) % l.length) hmod
          have HST : Hid (bhRow l N (j + 1) = (bhRow l N j).set (iat l j).toNat (iat l ((j + 1) % l.length))) := rfl
          obtain ⟨k, hk⟩ : ∃ k : Nat, iat l j = k := ⟨(iat l j).toNat, by omega⟩
          rw [hk] at c1 HST x1
          rw [Int.toNat_natCast] at HST
          have hkm : k < m := by have := HM.out; omega
          obtain ⟨y, hy⟩ : ∃ y, iat l ((j + 1) % l.length) = y := ⟨_, rfl⟩
          rw [hy] at c2 HST
          obtain ⟨r, hr⟩ : ∃ r, (j + 1) % l.length = r := ⟨_, rfl⟩
          have hrem : Int.tmod ((j : Int) + 1) l.length = (r : Int) := by
            rw [Int.tmod_eq_emod_of_nonneg (by omega), ← hr]
            have := Int.natCast_emod (j + 1) l.length
            rw [this]; rfl
          rw [hr] at c2 hmod
          obtain ⟨d0, f0⟩ := HGj.out.cell hkm
          have j1 : (j : Int) < l.length := by omega
          have j2 : (r : Int) < l.length := by omega
          have j3 : (k : Int) < m := by omega
          have j4 : ¬ (l.length : Int) = 0 := by omega
          have j5 : (0 : Int) ≤ j := by omega
          have j6 : (0 : Int) ≤ r := by omega
          have j7 : (0 : Int) ≤ k := by omega
          have j8 : (0 : Int) ≤ v := by omega
          obtain ⟨Z, hZ⟩ : ∃ Z, Z = (wr.setCell ⟨g, k, none⟩ (.int .i64 y)).drew := ⟨_, rfl⟩
          have HSET : Hid (IRow Z W.heap.size g m (bhRow l N (j + 1))) := by
            show IRow _ _ _ _ _
            rw [hZ, HST.out]
            exact (HGj.out.set k y).later (by go_grown)
          have HBS : Hid (Below W.heap.size W Z) := by
            show Below _ _ _
            rw [hZ]
            exact below_step (HBj.out.setCell (p := ⟨g, k, none⟩) HGj.out.lt.1 _) (by go_grown)
          clear l2 hk hy hr x0 x1
          go_upto_region 8 with fail
          go_region
          rw [← hZ]
          clear hZ
          go_wp2
          go_roundw
          case rel => exact ⟨j + 1, by omega, by go_num, HBS.out, HSET.out⟩
          case measure => simp [intOf]; omega
        · have hje : j = l.length := by omega
          have j1 : ¬ (j : Int) < l.length := by omega
          go_wp2
          go_roundw
          case rel => exact ⟨v + 1, by omega, by go_num, HBj.out, by show IRow _ _ _ _ _; rw [HNX.out, ← hje]; exact HGj.out⟩
          case measure => simp [intOf]; omega
    · have hve : v = rs.length := by omega
      have e1 : ¬ (v : Int) < rs.length := by omega
      rw [hve] at HGr
      clear hve hlt
      obtain ⟨B, hB⟩ : ∃ B, bhN rs m rs.length = B := ⟨_, rfl⟩
      rw [hB] at HGr HNU
      clear hB
      go_wp2_with (refine wpList_make_full _ rfl (.tmp 54) (.tmp 54) 44 rfl wr.heap.size 3 i0 (.int .i64 0) 1 Try.underlying44 hi0 hz0 hz1 .i64 .i64 _ _ m rfl rfl rfl rfl ?c1 ?c2 ?c3 ?_)
      case c1 => omega
      case c2 => unfold maxLen; omega
      intro w3 hown hgrow
      have hgp := irow_made hown
      obtain ⟨g2, hg2⟩ : ∃ g, wr.heap.size = g := ⟨_, rfl⟩
      have HN0 : Hid (IRow w3 wr.heap.size g2 m (nuN B m 0)) := by
        show IRow _ _ _ _ _
        rw [hg2] at hgp ⊢
        exact hgp
      have HB3 := hide (below_made hgrow)
      obtain ⟨Wb, hWb⟩ : ∃ x, x = wr := ⟨_, rfl⟩
      subst hWb
      have HBW := hide HBr.out
      have HGW := hide HGr.out
      try rw [hg2]
      clear hown hgrow hgp hg2 HBr HGr hi0 hz0 hz1 hz2 i0
      go_wp2_with fail
      go_loopw [9] (fun t9 wr => ∃ h : Nat, h ≤ m ∧ t9 = .int .i64 h ∧ Hid (Below Wb.heap.size Wb wr) ∧ Hid (IRow wr Wb.heap.size g2 m (nuN B m h))) (fun t9 _ => m - (intOf t9).toNat)
      case atStart => exact ⟨0, by omega, rfl, HB3.out, HN0.out⟩
      case round =>
        obtain ⟨h, hh, rfl, HBh, HNh⟩ := hrel
        clear HB3 HN0
        by_cases hlt : h < m
        · have e2 : (h : Int) < m := by omega
          have TW := hide (twin25 h wr (by omega))
          have HST : Hid (nuN B m (h + 1) = (nuN B m h).set h (iat B (tw h))) := rfl
          have ht : tw h < m := by have := HM.out; have := tw_lt (h := h) (m := es.length) (by omega); omega
          obtain ⟨t, htt⟩ : ∃ t, tw h = t := ⟨_, rfl⟩
          rw [htt] at TW HST ht
          clear htt
          go_wp2_with fail
          refine TW.out.mono ?_
          rintro e w5 ⟨rfl, hb5⟩
          have HB5 := hide (below_step HBh.out hb5)
          have HN5 := hide (HNh.out.later hb5)
          obtain ⟨d0, f0⟩ := (HGW.out.later HB5.out).cell ht
          obtain ⟨d1, f1⟩ := HN5.out.cell hlt
          obtain ⟨y, hy⟩ : ∃ y, iat B t = y := ⟨_, rfl⟩
          rw [hy] at d0 HST
          have e3 : (t : Int) < m := by omega
          have HSET := hide (HN5.out.set h y)
          have HBS : Hid (Below Wb.heap.size Wb (w5.setCell ⟨g2, h, none⟩ (.int .i64 y))) := HB5.out.setCell (p := ⟨g2, h, none⟩) HN5.out.lt.1 _
          rw [← HST.out] at HSET
          clear TW hb5 HBh HNh hy HN5
          go_wp2
          go_roundw
          case rel => exact ⟨h + 1, by omega, by go_num, HBS.out, HSET.out⟩
          case measure => simp [intOf]; omega
        · have hhe : h = m := by omega
          have e2 : ¬ (h : Int) < m := by omega
          rw [hhe, HNU.out] at HNh
          have HF : Hid (IRow wr w.heap.size g2 m (nxN rs m rs.length)) := HNh.out.base (by have := HBW.out.size; have := HB0.out.size; omega)
          have HBF := hide (below_step HB0.out (below_step HBW.out HBh.out))
          clear hhe HNh HBh
          go_wp2
          go_ret
          exact ⟨g2, by rw [HM.out]; rfl, by rw [HM.out]; exact HF.out, HBF.out⟩
end Go.Proofs.Ytcgdmonejogbaaa
