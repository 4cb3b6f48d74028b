/- The document's Sub of a rotation, in every world. -/
import Derived.Test.YtcgdmonejogbaaaY15
import Derived.Test.YtcgdmonejogbaaaY8
import Derived.Test.YtcgdmonejogbaaaR2
import Derived.Deep.DeepCutAuto
open List renaming getElem_toArray → lA, getElem_cons_zero → lB, getElem_cons_succ → lC, setIfInBounds_toArray → lD, set_cons_zero → lE, set_cons_succ → lF
namespace Go.Proofs.Ytcgdmonejogbaaa
open Go.RowKit Go.Sort
open Go
theorem pl_in {l : List Int} {m j : Nat} (hs : errL l m = 0) (hj : j < m) : -1 ≤ iat (plN l m l.length) j ∧ iat (plN l m l.length) j < l.length := by
  obtain ⟨h1, h2⟩ := plN_at (l := l) (m := m) (i := l.length) (fun k hk => errN_all _ hs k hk) j hj
  by_cases h : ∃ k, k < l.length ∧ iat l k = (j : Int)
  · obtain ⟨k, hk, e⟩ := h
    have := h1 k hk e
    omega
  · have := h2 fun k hk e => h ⟨k, hk, e⟩
    omega
/-- Where the edges go, one more than their numbers. -/
def atN (l : List Int) (m i : Nat) : List Int := (plN l m i).map (· + 1)
theorem atN_zero (l : List Int) (m : Nat) : atN l m 0 = List.replicate m 0 := by simp [atN, plN]
theorem atN_step (l : List Int) (m i : Nat) : (atN l m i).set (iat l i).toNat ((i : Int) + 1) = atN l m (i + 1) := by
  show _ = ((plN l m i).set (iat l i).toNat (i : Int)).map (· + 1)
  rw [List.map_set]
  rfl
theorem atN_at (l : List Int) {m i j : Nat} (hj : j < m) : iat (atN l m i) j = iat (plN l m i) j + 1 := by
  unfold atN
  rw [iat_map (fun x => x + 1) _ 0 (by rw [plN_length]; exact hj)]
  rfl
set_option maxRecDepth 100000 in
set_option maxHeartbeats 32000000 in
theorem sub50r (n : Nat) (p : Option Addr) (es : List Pt) (cp : Nat) (q : Option Addr) (rs : List (List Int)) (cq : Nat) (t : Option Addr) (l : List Int) (ct : Nat) (w : World) (h : Has w p es) (hr : RHas w q rs) (hl : l.length ≤ 90000) (hk : IHas w t l) (h0 : rotI n es rs = 0) (hs : errL l es.length = 0) : Calls Try.prog 67 #[nv n p es.length cp, .slice q rs.length cq, .slice t l.length ct] w fun e w' => ∃ q' c g5 rv, e = .returned (.tuple #[nv n q' l.length c, .slice (some ⟨g5, 0, none⟩) rs.length rs.length, .int .i64 0]) ∧ Has w' q' (pick es l) ∧ (∀ a, q' = some a → w.heap.size + 2 ≤ a.block) ∧ Rows w' w.heap.size g5 rs.length rv (fun v => turnL (rnL (plN l es.length l.length) (lat rs v))) ∧ Below w.heap.size w w' := by
  obtain ⟨W, hW, hb0, a0, b0⟩ := two_nets w n p es.length cp
  obtain ⟨n0, n1, hes, _⟩ := netB_is (rot_is h0).1
  have HBND : Hid (∀ j, j < l.length → 0 ≤ iat l j ∧ iat l j < es.length) := chosen_in hs
  have M := hide (sub50 n p t es l cp ct W hl hs HBND.out (h.later hb0) (hk.later hb0))
  obtain ⟨hrl, hrb⟩ := rot_bounds h0
  have HRB := hide hrb
  have HIN : Hid (∀ v, v < rs.length → ∀ j, j < (lat rs v).length → 0 ≤ iat (lat rs v) j ∧ iat (lat rs v) j < 2 * es.length) := fun v hv j hj => by have := (holds_iff.1 (rot_is h0).2.2).1 v hv _ (iat_mem hj); exact ⟨this.1, this.2.1⟩
  have HPL : Hid (∀ j, j < es.length → -1 ≤ iat (plN l es.length l.length) j ∧ iat (plN l es.length l.length) j < l.length) := fun j hj => pl_in hs hj
  have HK := hide (hk.later hb0)
  have HR := hide (hr.later hb0)
  have HB := hide hb0
  have HN := hide b0
  have HA := hide a0
  have HWS : Hid (W.heap.size = w.heap.size + 2) := by show _ = _; rw [hW]; simp
  obtain ⟨i0, hi0, hz0, hz1, hz2⟩ := info_parts info3
  obtain ⟨i1, hi1, hy0, hy1, hy2⟩ := info_parts info41
  obtain ⟨q0, q1, _, _⟩ := a0
  clear h hr hk hb0 b0 h0 hrb hs
  go_enter Try.func67, Try.ntmps67
  go_wp2_with fail
  rw [← hW]
  clear hW
  go_wp2_with fail
  refine M.out.mono ?_
  rintro r w1 ⟨qe, ce, rfl, ho, hb1⟩
  clear M q0 q1
  go_upto_region 2 with fail
  obtain ⟨kc, hkc⟩ : ∃ k, w1.heap.size = k := ⟨_, rfl⟩
  obtain ⟨U, hU⟩ : ∃ U, U = w1.alloc (nbx n qe l.length ce) := ⟨_, rfl⟩
  have hbU : Below w1.heap.size w1 U := by rw [hU]; go_grown
  have HKC : Hid (NOwn U kc n qe l.length ce) := by show NOwn _ _ _ _ _ _; rw [hU, ← hkc]; exact ⟨by go_cell, by go_cell, by simp [go_sem], by simp [go_sem]⟩
  rw [← hU]
  try rw [hkc]
  have hwu : Below W.heap.size W U := below_step hb1 hbU
  have HBU := hide (below_step HB.out hwu)
  have HNU := hide (HN.out.later hwu)
  have HAU := hide (HA.out.later hwu)
  have HKU := hide (HK.out.later hwu)
  have HRU := hide (HR.out.later hwu)
  have HPU : Hid (Has U qe (pick es l)) := by
    have hf := ho.form
    obtain ⟨p', c', e', hh, _⟩ := hf
    injection e' with e1 _ _
    subst e1
    exact hh.later hbU
  have HKN : Hid (kc ≠ w.heap.size + 1 ∧ w.heap.size + 1 < U.heap.size) := ⟨by have h1 := hb1.size; have h2 := HWS.out; omega, by have h1 := hwu.size; have h2 := HWS.out; omega⟩
  have HQE : Hid (∀ a, qe = some a → w.heap.size + 2 ≤ a.block) := fun a ha => by
    subst ha
    have h1 := (World.ownsRow.lt ho a.block rfl).1
    have h2 := HWS.out
    omega
  clear hU hbU hkc ho hb1 hwu HK HR HN HA HB
  obtain ⟨q0, q1, _, _⟩ := HAU.out
  obtain ⟨m, hm⟩ : ∃ m, es.length = m := ⟨_, rfl⟩
  rw [hm] at HBND HIN HPL hes q1
  have HMM := hide hm
  go_wp2_with (refine wpList_make_full _ rfl (.tmp 29) (.tmp 29) 44 rfl U.heap.size 3 i0 (.int .i64 0) 1 Try.underlying44 hi0 hz0 hz1 .i64 .i64 _ _ m rfl rfl rfl rfl ?c1 ?c2 ?c3 ?_)
  case c1 => rw [hz2]; omega
  case c2 => unfold maxLen; omega
  case c3 => exact Nat.le_refl _
  intro w2 hown hgrow
  have hgp := irow_made hown
  obtain ⟨ga, hga⟩ : ∃ g, U.heap.size = g := ⟨_, rfl⟩
  have HG0 : Hid (IRow w2 U.heap.size ga m (atN l m 0)) := by
    show IRow _ _ _ _ _
    rw [atN_zero]
    rw [hga] at hgp ⊢
    exact hgp
  have HB2 := hide (below_made hgrow)
  try rw [hga]
  clear hown hgrow hgp hga hi0 hz0 hz1 hz2 i0 q0 q1
  go_wp2_with fail
  go_loopw [12] (fun t12 wr => ∃ i : Nat, i ≤ l.length ∧ t12 = .int .i64 i ∧ Hid (Below U.heap.size U wr) ∧ Hid (IRow wr U.heap.size ga m (atN l m i))) (fun t12 _ => l.length - (intOf t12).toNat)
  case atStart => exact ⟨0, by omega, rfl, HB2.out, HG0.out⟩
  case round =>
    obtain ⟨i, hi, rfl, HBr, HGr⟩ := hrel
    clear HB2 HG0
    by_cases hil : i < l.length
    · rcases HKU.out.later HBr.out with hn | ⟨b2, o2, rfl, l2⟩
      · rw [hn] at hil; simp at hil
      have c0 := l2 i hil
      obtain ⟨x0, x1⟩ := HBND.out i hil
      obtain ⟨x, hx⟩ : ∃ x : Nat, iat l i = x := ⟨(iat l i).toNat, by omega⟩
      rw [hx] at c0 x1
      obtain ⟨d0, f0⟩ := HGr.out.cell (j := x) (by omega)
      have hst := atN_step l m i
      rw [hx, Int.toNat_natCast] at hst
      have HSET : Hid (IRow (wr.setCell ⟨ga, x, none⟩ (.int .i64 ((i : Int) + 1))) U.heap.size ga m (atN l m (i + 1))) := by show IRow _ _ _ _ _; rw [← hst]; exact HGr.out.set x ((i : Int) + 1)
      have HBS : Hid (Below U.heap.size U (wr.setCell ⟨ga, x, none⟩ (.int .i64 ((i : Int) + 1)))) := HBr.out.setCell (p := ⟨ga, x, none⟩) HGr.out.lt.1 _
      have j1 : (i : Int) < l.length := by omega
      have j2 : (x : Int) < m := by omega
      clear l2 hx hst HGr
      go_wp2
      go_roundw
      case rel => exact ⟨i + 1, by omega, by go_num, HBS.out, HSET.out⟩
      case measure => simp [intOf]; omega
    · have hie : i = l.length := by omega
      have j1 : ¬ (i : Int) < l.length := by omega
      rw [hie] at HGr
      clear hie
      obtain ⟨wb, hwb⟩ : ∃ z, z = wr := ⟨_, rfl⟩
      subst hwb
      have HAT0 := hide HGr.out
      have HBB := hide HBr.out
      go_wp2_with (refine wpList_make_full _ rfl (.tmp 46) (.tmp 46) 26 rfl wb.heap.size 44 i1 (.slice none 0 0) 1 Try.underlying26 hi1 hy0 hy1 .i64 .i64 _ _ rs.length rfl rfl rfl rfl ?c1 ?c2 ?c3 ?_)
      all_goals first | (intro w3 hown hgrow) | omega | (unfold maxLen; omega) | exact Nat.le_refl _ | (rw [hy2]; omega)
      have HB3 := hide (below_made hgrow)
      obtain ⟨T, hT⟩ : ∃ T, plN l m l.length = T := ⟨_, rfl⟩
      rw [hT] at HPL
      have HTY : Hid (∀ j, j < m → iat (atN l m l.length) j = iat T j + 1) := fun j hj => by rw [← hT]; exact atN_at l hj
      have HTT := hide hT
      have hr2 : Rows w3 wb.heap.size wb.heap.size rs.length (fun _ => .slice none 0 0) (rnA T rs 0 0) := (rows_made [] hown).congr (fun v _ => by simp [outL, rnA, rnRow])
      obtain ⟨g, hg⟩ : ∃ g, wb.heap.size = g := ⟨_, rfl⟩
      have HR2 : Hid (Rows w3 wb.heap.size g rs.length (fun _ => .slice none 0 0) (rnA T rs 0 0)) := by show Rows _ _ _ _ _ _; rw [← hg]; exact hr2
      have HSZ : Hid (wb.heap.size = wb.heap.size ∧ wb.heap.size = g ∧ True) := ⟨rfl, hg, trivial⟩
      try rw [hg]
      have HRW := hide (HRU.out.later HBB.out)
      clear hown hgrow hi1 hy0 hy1 hy2 i1 hr2 hg hT HGr HBr hil hi j1
      go_wp2_with fail
      go_loopw [14] (fun t14 wr => ∃ (v : Nat) (rv : Nat → Value), v ≤ rs.length ∧ t14 = .int .i64 v ∧ Hid (Below wb.heap.size wb wr) ∧ Hid (Rows wr wb.heap.size g rs.length rv (rnA T rs v 0))) (fun t14 _ => rs.length - (intOf t14).toNat)
      case atStart => exact ⟨0, _, by omega, rfl, HB3.out, HR2.out⟩
      case round =>
        obtain ⟨v, rv0, hv, rfl, HBr, HRr⟩ := hrel
        clear HB3 HR2
        by_cases hlt : v < rs.length
        · obtain ⟨b1, o1, a1, k1, rfl, c0W, m1, _, _, _⟩ := HRW.out.at_ hlt
          have e1 : (v : Int) < rs.length := by omega
          have hlb := HRB.out v hlt
          obtain ⟨la, hla⟩ : ∃ l, (lat rs v).length = l := ⟨_, rfl⟩
          rw [hla] at c0W hlb
          have HLA := hide hla
          have HC0 : Hid (∀ V, Below wb.heap.size wb V → V.cell? ⟨b1, o1 + v, none⟩ = some (.slice a1 la k1)) := fun V hV => later hV c0W
          have HM1 : Hid (∀ V, Below wb.heap.size wb V → IHas V a1 (lat rs v)) := fun V hV => m1.later hV
          have HAT : Hid (∀ j, rnA T rs v j v = rnRow T (lat rs v) j) := rnA_at T rs v
          have HNX : Hid (∀ u, rnA T rs v la u = rnA T rs (v + 1) 0 u) := fun u => by rw [← HLA.out]; exact rnA_next T rs v u
          have HOT : Hid (∀ j j' u, u ≠ v → rnA T rs v j u = rnA T rs v j' u) := fun j j' u hu => by unfold rnA; rw [if_neg hu, if_neg hu]
          clear m1 c0W hla
          go_wp2_with fail
          go_loopw [15] (fun t15 wj => ∃ (j : Nat) (rv : Nat → Value), j ≤ la ∧ t15 = .int .i64 j ∧ Hid (Below wb.heap.size wb wj) ∧ Hid (Rows wj wb.heap.size g rs.length rv (rnA T rs v j))) (fun t15 _ => la - (intOf t15).toNat)
          case atStart => exact ⟨0, _, by omega, rfl, HBr.out, HRr.out⟩
          case round =>
            obtain ⟨j, rv, hj, rfl, HBj, HRj⟩ := hrel
            clear HBr HRr
            have c0 := HC0.out _ HBj.out
            by_cases hjl : j < la
            · rcases HM1.out _ HBj.out with hn2 | ⟨b2, o2, rfl, l2⟩
              · have := HLA.out; rw [hn2] at this; simp at this; omega
              have hjl' : j < (lat rs v).length := by rw [HLA.out]; exact hjl
              have c1 := l2 j hjl'
              obtain ⟨x0, x1⟩ := HIN.out v hlt j hjl'
              obtain ⟨k, hk⟩ : ∃ k : Nat, iat (lat rs v) j = k := ⟨(iat (lat rs v) j).toNat, by omega⟩
              rw [hk] at c1 x1
              have HST : Hid (rnRow T (lat rs v) (j + 1) = if 0 ≤ iat T (k / 2) then rnRow T (lat rs v) j ++ [2 * iat T (k / 2) + (k % 2 : Nat)] else rnRow T (lat rs v) j) := by
                show _ = _
                have : rnRow T (lat rs v) (j + 1) = if 0 ≤ iat T ((iat (lat rs v) j).toNat / 2) then rnRow T (lat rs v) j ++ [2 * iat T ((iat (lat rs v) j).toNat / 2) + ((iat (lat rs v) j).toNat % 2 : Nat)] else rnRow T (lat rs v) j := rfl
                rw [this, hk, Int.toNat_natCast]
              have hkm : k / 2 < m := by omega
              obtain ⟨p0, p1⟩ := HPL.out (k / 2) hkm
              obtain ⟨y, hy⟩ : ∃ y, iat T (k / 2) + 1 = y := ⟨_, rfl⟩
              have HYV : Hid (∀ V, Below wb.heap.size wb V → V.cell? ⟨ga, k / 2, none⟩ = some (.int .i64 y)) := fun V hV => by
                have := ((HAT0.out.later hV).cell hkm).1
                rw [HTY.out _ hkm, hy] at this
                exact this
              have hty : iat T (k / 2) = y - 1 := by omega
              rw [hty] at HST p0 p1
              have hd : Int.tdiv (k : Int) 2 = ((k / 2 : Nat) : Int) := by rw [Int.tdiv_eq_ediv_of_nonneg (by omega)]; exact (Int.natCast_ediv k 2).symm
              have hrm : Int.tmod (k : Int) 2 = ((k % 2 : Nat) : Int) := by rw [Int.tmod_eq_emod_of_nonneg (by omega)]; exact (Int.natCast_emod k 2).symm
              have hr2 : k % 2 < 2 := Nat.mod_lt _ (by omega)
              obtain ⟨s, hs⟩ : ∃ s, k % 2 = s := ⟨_, rfl⟩
              obtain ⟨e, he⟩ : ∃ e, k / 2 = e := ⟨_, rfl⟩
              rw [hs] at hrm hr2 HST
              rw [he] at hd HYV hkm
              have c2 := HYV.out _ HBj.out
              have j1 : (j : Int) < la := by omega
              have j2 : (e : Int) < m := by omega
              have hyb : 0 ≤ y ∧ y ≤ 90000 := by omega
              have hyb1 := hyb.1
              have hyb2 := hyb.2
              clear l2 hk hy hs x0 hty hyb he
              by_cases hyn : y > 0
              · rw [if_pos (by omega)] at HST
                have wE : IntKind.i64.wrap (e : Int) = e := by rw [IntKind.wrap_i64]; omega
                have wS : IntKind.i64.wrap (s : Int) = s := by rw [IntKind.wrap_i64]; omega
                have wE0 : (0 : Int) ≤ e := by omega
                have w1' : IntKind.i64.wrap (y - 1) = y - 1 := by rw [IntKind.wrap_i64]; omega
                have w2' : IntKind.i64.wrap (2 * (y - 1)) = 2 * (y - 1) := by rw [IntKind.wrap_i64]; omega
                have w3' : IntKind.i64.wrap (2 * (y - 1) + (s : Int)) = 2 * (y - 1) + s := by rw [IntKind.wrap_i64]; omega
                have HPUT : Hid (∀ (V : World) (rv' : Nat → Value), Rows V wb.heap.size g rs.length rv' (upd (rnA T rs v j) v (rnA T rs v j v ++ [2 * (y - 1) + (s : Int)])) → Rows V wb.heap.size g rs.length rv' (rnA T rs v (j + 1))) := fun V rv' h => h.congr fun u _ => by
                  by_cases hu : u = v
                  · rw [hu, upd_same, HAT.out, HAT.out, HST.out]
                  · rw [upd_other _ _ hu]; exact HOT.out _ _ u hu
                have HS : Hid (∀ V, Below wb.heap.size wb V → V.cell? ⟨ga, e, none⟩ = some (.int .i64 y)) := HYV.out
                have hk0 : ga ≠ g := by
                  have h1 : ga < wb.heap.size := block_lt_of_cell (HS.out wb (Below.refl _ _))
                  have h3 := HSZ.out.2.1
                  omega
                go_upto_region 18 with fail
                clear c0 c1 c2
                obtain ⟨V0, hV0⟩ : ∃ V, V = wr.drew := ⟨_, rfl⟩
                have HB0 : Hid (Below wb.heap.size wb V0) := by show Below _ _ _; rw [hV0]; exact below_step HBj.out (below_drew _)
                have HR0 : Hid (Rows V0 wb.heap.size g rs.length rv (rnA T rs v j)) := by show Rows _ _ _ _ _ _; rw [hV0]; exact HRj.out.later (below_drew _)
                have s0 := HS.out _ HB0.out
                refine wp_region_held_drew (S := (fun V => V.cell? ⟨ga, e, none⟩ = some (.int .i64 y))) (by kernel_rfl) (by rw [← hV0]; exact s0) (fun hHeld => ?_)
                rw [← hV0] at hHeld ⊢
                clear hV0 HBj HRj
                refine wpAnyH_take (i := 0) (v := ?v1) rfl (by kernel_rfl) (by kernel_rfl) (by kernel_rfl) (fun _ _ _ h => h) (Or.inl ⟨by rfl, ?hy1⟩) (by assumption) ?rest1
                case hy1 => (intro w hSw; (try dsimp only at hSw); go_simp; try with_reducible rfl)
                try simp only [Act.put, lA, lB, lD, lE, lF]
                refine wpAnyH_take (i := 1) (v := ?v2) rfl (by kernel_rfl) (by kernel_rfl) (by kernel_rfl) (fun _ _ _ h => h) (Or.inl ⟨by rfl, ?hy2⟩) (by assumption) ?rest2
                case hy2 => (intro w hSw; (try dsimp only at hSw); go_simp; try with_reducible rfl)
                try simp only [Act.put, lA, lB, lC, lD, lE, lF]
                refine wpAnyH_take (i := 2) (v := ?v3) rfl (by kernel_rfl) (by kernel_rfl) (by kernel_rfl) (fun _ _ _ h => h) (Or.inl ⟨by rfl, ?hy3⟩) (by assumption) ?rest3
                case hy3 => (intro w hSw; (try dsimp only at hSw); go_simp; try with_reducible rfl)
                try simp only [Act.put, lA, lB, lC, lD, lE, lF]
                refine wpAnyH_take (i := 3) (v := ?v4) rfl (by kernel_rfl) (by kernel_rfl) (by kernel_rfl) (fun _ _ _ h => h) (Or.inl ⟨by rfl, ?hy4⟩) (by assumption) ?rest4
                case hy4 => (intro w hSw; (try dsimp only at hSw); go_simp; try with_reducible rfl)
                try simp only [Act.put, lA, lB, lC, lD, lE, lF]
                refine wpAnyH_take (i := 4) (v := ?v5) rfl (by kernel_rfl) (by kernel_rfl) (by kernel_rfl) (fun _ _ _ h => h) (Or.inl ⟨by rfl, ?hy5⟩) (by assumption) ?rest5
                case hy5 => (intro w hSw; (try dsimp only at hSw); go_simp; try with_reducible rfl)
                try simp only [Act.put, lA, lB, lC, lD, lE, lF]
                refine wpAnyH_take (i := 6) (v := ?v6) rfl (by kernel_rfl) (by kernel_rfl) (by kernel_rfl) (fun _ _ _ h => h) (Or.inl ⟨by rfl, ?hy6⟩) (by assumption) ?rest6
                case hy6 => (intro w hSw; (try dsimp only at hSw); go_simp; try with_reducible rfl)
                try simp only [Act.put, lA, lB, lC, lD, lE, lF]
                refine wpAnyH_take (i := 7) (v := ?v7) rfl (by kernel_rfl) (by kernel_rfl) (by kernel_rfl) (fun _ _ _ h => h) (Or.inl ⟨by rfl, ?hy7⟩) (by assumption) ?rest7
                case hy7 => (intro w hSw; (try dsimp only at hSw); go_simp; try with_reducible rfl)
                try simp only [Act.put, lA, lB, lC, lD, lE, lF]
                refine wpAnyH_take (i := 8) (v := ?v8) rfl (by kernel_rfl) (by kernel_rfl) (by kernel_rfl) (fun _ _ _ h => h) (Or.inl ⟨by rfl, ?hy8⟩) (by assumption) ?rest8
                case hy8 => (intro w hSw; (try dsimp only at hSw); go_simp; try with_reducible rfl)
                try simp only [Act.put, lA, lB, lC, lD, lE, lF]
                refine wpAnyH_take (i := 9) (v := ?v9) rfl (by kernel_rfl) (by kernel_rfl) (by kernel_rfl) (fun _ _ _ h => h) (Or.inl ⟨by rfl, ?hy9⟩) (by assumption) ?rest9
                case hy9 => (intro w hSw; (try dsimp only at hSw); go_simp; try with_reducible rfl)
                try simp only [Act.put, lA, lB, lC, lD, lE, lF]
                refine wpAnyH_take (i := 10) (v := ?v10) rfl (by kernel_rfl) (by kernel_rfl) (by kernel_rfl) (fun _ _ _ h => h) (Or.inl ⟨by rfl, ?hy10⟩) (by assumption) ?rest10
                case hy10 => (intro w hSw; (try dsimp only at hSw); go_simp; try with_reducible rfl)
                try simp only [Act.put, lA, lB, lC, lD, lE, lF]
                refine wpAnyH_take (i := 11) (v := ?v11) rfl (by kernel_rfl) (by kernel_rfl) (by kernel_rfl) (fun _ _ _ h => h) (Or.inl ⟨by rfl, ?hy11⟩) (by assumption) ?rest11
                case hy11 => (intro w hSw; (try dsimp only at hSw); go_simp; try with_reducible rfl)
                try simp only [Act.put, lA, lB, lC, lD, lE, lF]
                refine wpAnyH_take (i := 12) (v := ?v12) rfl (by kernel_rfl) (by kernel_rfl) (by kernel_rfl) (fun _ _ _ h => h) (Or.inl ⟨by rfl, ?hy12⟩) (by assumption) ?rest12
                case hy12 => (intro w hSw; (try dsimp only at hSw); go_simp; try with_reducible rfl)
                try simp only [Act.put, lA, lB, lC, lD, lE, lF]
                refine wpAnyH_take (i := 13) (v := ?v13) rfl (by kernel_rfl) (by kernel_rfl) (by kernel_rfl) (fun _ _ _ h => h) (Or.inl ⟨by rfl, ?hy13⟩) (by assumption) ?rest13
                case hy13 => (intro w hSw; (try dsimp only at hSw); go_simp; try with_reducible rfl)
                try simp only [Act.put, lA, lB, lC, lD, lE, lF]
                refine wpAnyH_take (i := 14) (v := ?v14) rfl (by kernel_rfl) (by kernel_rfl) (by kernel_rfl) (fun _ _ _ h => h) (Or.inl ⟨by rfl, ?hy14⟩) (by assumption) ?rest14
                case hy14 => (intro w hSw; (try dsimp only at hSw); go_simp; try with_reducible rfl)
                try simp only [Act.put, lA, lB, lC, lD, lE, lF]
                refine wpAnyH_take (i := 15) (v := ?v15) rfl (by kernel_rfl) (by kernel_rfl) (by kernel_rfl) (fun _ _ _ h => h) (Or.inl ⟨by rfl, ?hy15⟩) (by assumption) ?rest15
                case hy15 => (intro w hSw; (try dsimp only at hSw); go_simp; try with_reducible rfl)
                try simp only [Act.put, lA, lB, lC, lD, lE, lF]
                refine wpAnyH_ready (rs := [5, 16]) (by kernel_rfl) (by simp) ?_
                refine ready_cons ({ dst := some 81, op := Op.load 44 (Operand.tmp 80), type := 44, pos := "ref.go:150", after := #[{ on := 4, ground := Ground.data }], guard := none }) rfl rfl (fun K hK => ?_) ?_
                · clear hHeld
                  obtain ⟨d0, _⟩ := HR0.out.cell (v := v) hlt
                  refine wp_val (v := ?vl100) (w2 := V0) ?hl100 ?_
                  case hl100 => (go_simp; try with_reducible rfl)
                  clear d0
                  refine hK.out _ _ (by first | with_reducible exact s0 | (dsimp only; with_reducible exact s0) | exact cell_other s0 hk0) (fun hHeld => ?_)
                  clear hK K
                  try simp only [Act.put, lD, lE, lF]
                  refine wpAnyH_ready (rs := [16]) (by kernel_rfl) (by simp) ?_
                  refine ready_cons ({ dst := some 92, op := Op.buildSlice 44 1 #[(0, Operand.tmp 91)], type := 44, pos := "ref.go:150", after := #[{ on := 15, ground := Ground.data }], guard := none }) rfl rfl (fun K hK => ?_) ?_
                  · clear hHeld
                    go_simp
                    obtain ⟨V1, hV⟩ : ∃ V, V = V0.alloc (.cells #[.int .i64 (2 * (y - 1) + s)] 3) := ⟨_, rfl⟩
                    obtain ⟨kl, hkl⟩ : ∃ k, V0.heap.size = k := ⟨_, rfl⟩
                    have hb2 : Below V0.heap.size V0 V1 := by rw [hV]; go_grown
                    have HL1 : Hid (V1.cell? ⟨kl, 0, none⟩ = some (.int .i64 (2 * (y - 1) + s))) := by show _ = _; rw [hV, ← hkl]; exact one_int _ _
                    rw [← hV, hkl]
                    have HB1 := hide (below_step HB0.out hb2)
                    have HR1 := hide (HR0.out.later hb2)
                    clear hV hb2 hkl
                    clear s0
                    have s0 := HS.out _ HB1.out
                    refine hK.out _ _ (by first | with_reducible exact s0 | (dsimp only; with_reducible exact s0) | exact cell_other s0 hk0) (fun hHeld => ?_)
                    clear hK K
                    try simp only [Act.put, lA, lB, lC, lD, lE, lF]
                    refine wpAnyH_ready (rs := [17]) (by kernel_rfl) (by simp) ?_
                    refine ready_cons ({ dst := some 93, op := Op.call { callee := Callee.builtin Builtin.append, args := #[Operand.tmp 81, Operand.tmp 92], argTypes := #[44, 44] }, type := 44, pos := "ref.go:150", after := #[{ on := 5, ground := Ground.data }, { on := 16, ground := Ground.data }], guard := none }) rfl rfl (fun K hK => ?_) ?_
                    · clear hHeld
                      have hrx := HR1.out.2.2 v hlt
                      obtain ⟨v1, V2, e4, o4, gr4, at4⟩ := append_int hrx HL1.out (by have := HB1.out.size; have := HSZ.out.1; have := HSZ.out.2.1; omega) (by rw [HAT.out]; have := rnRow_le T (lat rs v) j; have := HLA.out; omega)
                      obtain ⟨p1, l1, c1, rfl⟩ : ∃ p1 l1 c1, v1 = .slice p1 l1 c1 := by obtain ⟨p1, c1, h1, _⟩ := o4.form; exact ⟨_, _, _, h1⟩
                      have HB2 : Hid (Below wb.heap.size wb V2) := below_grown HB1.out hrx (by have := HSZ.out.1; have := HSZ.out.2.1; omega) HB1.out.size gr4
                      have HR2 := hide (HR1.out.put hlt o4 gr4 at4)
                      clear s0
                      have s0 := HS.out _ HB2.out
                      have HE2 : Hid (g < V2.heap.size ∧ V2.cell? ⟨g, v, none⟩ = some (rv v) ∧ V2.frozen? ⟨g, v, none⟩ = false) := hide (Rows.slot HR1.out hlt gr4)
                      refine oper_append (.tmp 81) (.tmp 92) 44 rfl 44 rfl (rv v) (.slice (some ⟨kl, 0, none⟩) 1 1) (.slice p1 l1 c1) V2 (by rfl) (by rfl) ?_ ?_
                      with_reducible exact e4
                      clear hrx o4 gr4 at4 e4
                      refine hK.out _ _ (by first | with_reducible exact s0 | (dsimp only; with_reducible exact s0) | exact cell_other s0 hk0) (fun hHeld => ?_)
                      clear hK K
                      try simp only [Act.put, lD, lE, lF]
                      refine wpAnyH_take (i := 18) (v := ?v16) rfl (by kernel_rfl) (by kernel_rfl) (by kernel_rfl) (fun _ _ _ h => h) (Or.inl ⟨by rfl, ?hy16⟩) (by assumption) ?rest16
                      case hy16 => (intro w hSw; (try dsimp only at hSw); go_simp; try with_reducible rfl)
                      try simp only [Act.put, lA, lB, lC, lD, lE, lF]
                      refine wpAnyH_ready (rs := [19]) (by kernel_rfl) (by simp) ?_
                      refine ready_cons ({ dst := none, op := Op.store 44 (Operand.tmp 94) (Operand.tmp 93), type := 0, pos := "ref.go:150", after := #[{ on := 18, ground := Ground.data }, { on := 17, ground := Ground.data }, { on := 17, ground := Ground.chain }, { on := 0, ground := Ground.phase }, { on := 1, ground := Ground.phase }, { on := 2, ground := Ground.phase }, { on := 3, ground := Ground.phase }, { on := 4, ground := Ground.phase }, { on := 5, ground := Ground.phase }, { on := 6, ground := Ground.phase }, { on := 7, ground := Ground.phase }, { on := 8, ground := Ground.phase }, { on := 9, ground := Ground.phase }, { on := 10, ground := Ground.phase }, { on := 11, ground := Ground.phase }, { on := 12, ground := Ground.phase }, { on := 13, ground := Ground.phase }, { on := 14, ground := Ground.phase }, { on := 15, ground := Ground.phase }, { on := 16, ground := Ground.phase }, { on := 17, ground := Ground.phase }], guard := none }) rfl rfl (fun K hK => ?_) ?_
                      · clear hHeld
                        obtain ⟨hgl, d0, e0⟩ := HE2.out
                        go_simp
                        clear d0 e0
                        refine hK.out _ _ (by first | with_reducible exact s0 | (dsimp only; with_reducible exact s0) | exact cell_other s0 hk0) (fun hHeld => ?_)
                        clear hK K
                        try simp only [Act.put, lA, lB, lC, lD, lE, lF]
                        refine wpAnyH_done (by kernel_rfl) ?_ _
                        clear hHeld
                        obtain ⟨V5, hV5⟩ : ∃ V, V = V2.setCell ⟨g, v, none⟩ (.slice p1 l1 c1) := ⟨_, rfl⟩
                        have HB5 : Hid (Below wb.heap.size wb V5) := by show Below _ _ _; rw [hV5]; exact HB2.out.setCell (p := ⟨g, v, none⟩) (show wb.heap.size ≤ g by have := HSZ.out.2.1; omega) _
                        rw [← hV5] at HR2
                        rw [← hV5]
                        have HR6 := hide (HPUT.out _ _ HR2.out)
                        clear hV5 HE2 HB0 HR0 HB1 HR1 HB2 HR2 s0
                        go_wp2
                        go_roundw
                        case rel => exact ⟨j + 1, _, by omega, by go_num, HB5.out, HR6.out⟩
                        case measure => simp [intOf]; omega
                      exact AllReadyH.nil
                    exact AllReadyH.nil
                  exact AllReadyH.nil
                refine ready_cons ({ dst := some 92, op := Op.buildSlice 44 1 #[(0, Operand.tmp 91)], type := 44, pos := "ref.go:150", after := #[{ on := 15, ground := Ground.data }], guard := none }) rfl rfl (fun K hK => ?_) ?_
                · clear hHeld
                  go_simp
                  obtain ⟨V1, hV⟩ : ∃ V, V = V0.alloc (.cells #[.int .i64 (2 * (y - 1) + s)] 3) := ⟨_, rfl⟩
                  obtain ⟨kl, hkl⟩ : ∃ k, V0.heap.size = k := ⟨_, rfl⟩
                  have hb2 : Below V0.heap.size V0 V1 := by rw [hV]; go_grown
                  have HL1 : Hid (V1.cell? ⟨kl, 0, none⟩ = some (.int .i64 (2 * (y - 1) + s))) := by show _ = _; rw [hV, ← hkl]; exact one_int _ _
                  rw [← hV, hkl]
                  have HB1 := hide (below_step HB0.out hb2)
                  have HR1 := hide (HR0.out.later hb2)
                  clear hV hb2 hkl
                  clear s0
                  have s0 := HS.out _ HB1.out
                  refine hK.out _ _ (by first | with_reducible exact s0 | (dsimp only; with_reducible exact s0) | exact cell_other s0 hk0) (fun hHeld => ?_)
                  clear hK K
                  try simp only [Act.put, lA, lB, lC, lD, lE, lF]
                  refine wpAnyH_ready (rs := [5]) (by kernel_rfl) (by simp) ?_
                  refine ready_cons ({ dst := some 81, op := Op.load 44 (Operand.tmp 80), type := 44, pos := "ref.go:150", after := #[{ on := 4, ground := Ground.data }], guard := none }) rfl rfl (fun K hK => ?_) ?_
                  · clear hHeld
                    obtain ⟨d0, _⟩ := HR1.out.cell (v := v) hlt
                    refine wp_val (v := ?vl101) (w2 := V1) ?hl101 ?_
                    case hl101 => (go_simp; try with_reducible rfl)
                    clear d0
                    refine hK.out _ _ (by first | with_reducible exact s0 | (dsimp only; with_reducible exact s0) | exact cell_other s0 hk0) (fun hHeld => ?_)
                    clear hK K
                    try simp only [Act.put, lD, lE, lF]
                    refine wpAnyH_ready (rs := [17]) (by kernel_rfl) (by simp) ?_
                    refine ready_cons ({ dst := some 93, op := Op.call { callee := Callee.builtin Builtin.append, args := #[Operand.tmp 81, Operand.tmp 92], argTypes := #[44, 44] }, type := 44, pos := "ref.go:150", after := #[{ on := 5, ground := Ground.data }, { on := 16, ground := Ground.data }], guard := none }) rfl rfl (fun K hK => ?_) ?_
                    · clear hHeld
                      have hrx := HR1.out.2.2 v hlt
                      obtain ⟨v1, V2, e4, o4, gr4, at4⟩ := append_int hrx HL1.out (by have := HB1.out.size; have := HSZ.out.1; have := HSZ.out.2.1; omega) (by rw [HAT.out]; have := rnRow_le T (lat rs v) j; have := HLA.out; omega)
                      obtain ⟨p1, l1, c1, rfl⟩ : ∃ p1 l1 c1, v1 = .slice p1 l1 c1 := by obtain ⟨p1, c1, h1, _⟩ := o4.form; exact ⟨_, _, _, h1⟩
                      have HB2 : Hid (Below wb.heap.size wb V2) := below_grown HB1.out hrx (by have := HSZ.out.1; have := HSZ.out.2.1; omega) HB1.out.size gr4
                      have HR2 := hide (HR1.out.put hlt o4 gr4 at4)
                      clear s0
                      have s0 := HS.out _ HB2.out
                      have HE2 : Hid (g < V2.heap.size ∧ V2.cell? ⟨g, v, none⟩ = some (rv v) ∧ V2.frozen? ⟨g, v, none⟩ = false) := hide (Rows.slot HR1.out hlt gr4)
                      refine oper_append (.tmp 81) (.tmp 92) 44 rfl 44 rfl (rv v) (.slice (some ⟨kl, 0, none⟩) 1 1) (.slice p1 l1 c1) V2 (by rfl) (by rfl) ?_ ?_
                      with_reducible exact e4
                      clear hrx o4 gr4 at4 e4
                      refine hK.out _ _ (by first | with_reducible exact s0 | (dsimp only; with_reducible exact s0) | exact cell_other s0 hk0) (fun hHeld => ?_)
                      clear hK K
                      try simp only [Act.put, lD, lE, lF]
                      refine wpAnyH_take (i := 18) (v := ?v17) rfl (by kernel_rfl) (by kernel_rfl) (by kernel_rfl) (fun _ _ _ h => h) (Or.inl ⟨by rfl, ?hy17⟩) (by assumption) ?rest17
                      case hy17 => (intro w hSw; (try dsimp only at hSw); go_simp; try with_reducible rfl)
                      try simp only [Act.put, lA, lB, lC, lD, lE, lF]
                      refine wpAnyH_ready (rs := [19]) (by kernel_rfl) (by simp) ?_
                      refine ready_cons ({ dst := none, op := Op.store 44 (Operand.tmp 94) (Operand.tmp 93), type := 0, pos := "ref.go:150", after := #[{ on := 18, ground := Ground.data }, { on := 17, ground := Ground.data }, { on := 17, ground := Ground.chain }, { on := 0, ground := Ground.phase }, { on := 1, ground := Ground.phase }, { on := 2, ground := Ground.phase }, { on := 3, ground := Ground.phase }, { on := 4, ground := Ground.phase }, { on := 5, ground := Ground.phase }, { on := 6, ground := Ground.phase }, { on := 7, ground := Ground.phase }, { on := 8, ground := Ground.phase }, { on := 9, ground := Ground.phase }, { on := 10, ground := Ground.phase }, { on := 11, ground := Ground.phase }, { on := 12, ground := Ground.phase }, { on := 13, ground := Ground.phase }, { on := 14, ground := Ground.phase }, { on := 15, ground := Ground.phase }, { on := 16, ground := Ground.phase }, { on := 17, ground := Ground.phase }], guard := none }) rfl rfl (fun K hK => ?_) ?_
                      · clear hHeld
                        obtain ⟨hgl, d0, e0⟩ := HE2.out
                        go_simp
                        clear d0 e0
                        refine hK.out _ _ (by first | with_reducible exact s0 | (dsimp only; with_reducible exact s0) | exact cell_other s0 hk0) (fun hHeld => ?_)
                        clear hK K
                        try simp only [Act.put, lA, lB, lC, lD, lE, lF]
                        refine wpAnyH_done (by kernel_rfl) ?_ _
                        clear hHeld
                        obtain ⟨V5, hV5⟩ : ∃ V, V = V2.setCell ⟨g, v, none⟩ (.slice p1 l1 c1) := ⟨_, rfl⟩
                        have HB5 : Hid (Below wb.heap.size wb V5) := by show Below _ _ _; rw [hV5]; exact HB2.out.setCell (p := ⟨g, v, none⟩) (show wb.heap.size ≤ g by have := HSZ.out.2.1; omega) _
                        rw [← hV5] at HR2
                        rw [← hV5]
                        have HR6 := hide (HPUT.out _ _ HR2.out)
                        clear hV5 HE2 HB0 HR0 HB1 HR1 HB2 HR2 s0
                        go_wp2
                        go_roundw
                        case rel => exact ⟨j + 1, _, by omega, by go_num, HB5.out, HR6.out⟩
                        case measure => simp [intOf]; omega
                      exact AllReadyH.nil
                    exact AllReadyH.nil
                  exact AllReadyH.nil
                exact AllReadyH.nil
              · rw [if_neg (by omega)] at HST
                have HR9 : Hid (Rows wr wb.heap.size g rs.length rv (rnA T rs v (j + 1))) := HRj.out.congr fun u _ => by
                  by_cases hu : u = v
                  · rw [hu, HAT.out, HAT.out, HST.out]
                  · exact HOT.out _ _ u hu
                clear HRj
                go_wp2
                go_roundw
                case rel => exact ⟨j + 1, _, by omega, by go_num, HBj.out, HR9.out⟩
                case measure => simp [intOf]; omega
            · have hje : j = la := by omega
              have j1 : ¬ (j : Int) < la := by omega
              have HR9 : Hid (Rows wr wb.heap.size g rs.length rv (rnA T rs (v + 1) 0)) := HRj.out.congr fun u _ => by rw [hje]; exact HNX.out u
              clear HRj hje
              go_wp2
              go_roundw
              case rel => exact ⟨v + 1, _, by omega, by go_num, HBj.out, HR9.out⟩
              case measure => simp [intOf]; omega
        · have e1 : ¬ (v : Int) < rs.length := by omega
          have hve : v = rs.length := by omega
          have HRM : Hid (RHas wr (some ⟨g, 0, none⟩) (rs.map (rnL T))) := by
            refine HRr.out.has (by simp) (fun u hu => ?_) (fun u hu => ?_)
            · rw [lat_map _ hu]; unfold rnA; rw [if_pos (by omega)]
            · rw [lat_map _ hu]; have := HRB.out u hu; have := rnRow_le T (lat rs u) (lat rs u).length; unfold rnL maxLen; omega
          have CN : Hid (∀ V, Below wr.heap.size wr V → Calls Try.prog 63 #[.slice (some ⟨g, 0, none⟩) rs.length rs.length] V fun e w' => ∃ g9 rv9, e = .returned (.slice (some ⟨g9, 0, none⟩) rs.length rs.length) ∧ Rows w' V.heap.size g9 rs.length rv9 (fun v => turnL (rnL T (lat rs v))) ∧ Below V.heap.size V w') := fun V hV => by
            have := canon49 (some ⟨g, 0, none⟩) (rs.map (rnL T)) rs.length V (HRM.out.later hV) (by simp; omega) (fun u hu => by rw [List.length_map] at hu; rw [lat_map _ hu]; have := HRB.out u hu; have := rnRow_le T (lat rs u) (lat rs u).length; unfold rnL; omega)
            rw [List.length_map] at this
            exact this.mono fun e w' ⟨g9, rv9, h1, h2, h3⟩ => ⟨g9, rv9, h1, h2.congr fun u hu => by rw [lat_map _ hu], h3⟩
          have HUW := hide (below_step HBB.out HBr.out)
          have HSK : Hid (∀ V, Below U.heap.size U V → V.cell? ⟨kc, 0, none⟩ = some (.int .i64 n) ∧ V.cell? ⟨kc, 1, none⟩ = some (.slice qe l.length ce)) := fun V hV => by obtain ⟨x0, x1, _, _⟩ := HKC.out.later hV; exact ⟨x0, x1⟩
          clear hve HRM HRr
          go_upto_region 19 with fail
          obtain ⟨k0, k1⟩ := HSK.out _ HUW.out
          go_region_held3 (fun V => V.cell? ⟨kc, 0, none⟩ = some (.int .i64 n) ∧ V.cell? ⟨kc, 1, none⟩ = some (.slice qe l.length ce))
            (first | exact HSK.out _ (below_step HUW.out (below_drew wr)) | exact HSK.out _ HUW.out | exact HSK.out _ HV9.out | exact ⟨other2 (HSK.out _ HV9.out).1 HKN.out.1, other2 (HSK.out _ HV9.out).2 HKN.out.1⟩)
            (first | (go_at_call 63; refine (CN.out _ (below_drew wr)).mono ?_; rintro e w9 ⟨g9, rv9, rfl, hr9, hb9⟩; have HV9 := hide (below_step HUW.out (below_step (below_drew wr) hb9)); have HR9 := hide (hr9.base HUW.out.size); clear hb9 hr9 k0 k1; obtain ⟨k0, k1⟩ := HSK.out _ HV9.out; obtain ⟨r0, r1, r2, r3⟩ := HNU.out.later HV9.out))
          rename_i hHeld
          clear hHeld
          obtain ⟨Z, hZ⟩ : ∃ Z, Z = (w9.setCell ⟨w.heap.size + 1, 0, none⟩ (.int .i64 n)).setCell ⟨w.heap.size + 1, 1, none⟩ (.slice qe l.length ce) := ⟨_, rfl⟩
          have kZ : NOwn Z (w.heap.size + 1) n qe l.length ce := by rw [hZ]; exact (HNU.out.later HV9.out).set _ _ _ _
          have bZ : Below w.heap.size w Z := by rw [hZ]; exact ((below_step HBU.out HV9.out).setCell (by simp) _).setCell (by simp) _
          have hasZ : Has Z qe (pick es l) := by
            have f1 : Frame w9 Z (fun i => i = w.heap.size + 1) := by rw [hZ]; exact (Frame.set (p := fun i => i = w.heap.size + 1) w9 ⟨w.heap.size + 1, 0, none⟩ _ rfl).trans (Frame.set (p := fun i => i = w.heap.size + 1) _ ⟨w.heap.size + 1, 1, none⟩ _ rfl)
            exact f1.has (HPU.out.later HV9.out) fun a ha => Or.inr fun e => by have := HQE.out a ha; omega
          have yZ : Rows Z w.heap.size g9 rs.length rv9 (fun v => turnL (rnL (plN l es.length l.length) (lat rs v))) := by
            rw [hZ, HMM.out, HTT.out]
            exact ((HR9.out.other HKN.out.2 _).other HKN.out.2 _).base HBU.out.size
          rw [← hZ]
          clear hZ HR9 HV9 HPU k0 k1 r0 r1 r2 r3
          go_wp2_with fail
          exact bodyPost_ret (ret_net3 Try.results67 rfl rfl rfl kZ) rfl ⟨qe, ce, g9, rv9, rfl, hasZ, fun a ha => by have := HQE.out a ha; omega, yZ, bZ⟩
end Go.Proofs.Ytcgdmonejogbaaa
