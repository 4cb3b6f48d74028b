/- Sides, in every world. -/
import Derived.Test.YtghffodjffkijaaB5
import Derived.Test.YtghffodjffkijaaD5
namespace Go.Proofs.Ytghffodjffkijaa
open Go.RowKit Go.Sort
open Go

/-- The sides of the first nodes. -/
def sdL (Fa : List Int) (n : Nat) : Nat → List Int
  | 0 => List.replicate n 0
  | j + 1 => (sdL Fa n j).set j (iat Fa j % 2)
theorem sdL_len (Fa : List Int) (n : Nat) : ∀ j, (sdL Fa n j).length = n
  | 0 => by simp [sdL]
  | j + 1 => by simp only [sdL, List.length_set]; exact sdL_len Fa n j
theorem sdL_at (Fa : List Int) (n v : Nat) (hv : v < n) : ∀ j, j ≤ n → iat (sdL Fa n j) v = if v < j then iat Fa v % 2 else 0
  | 0, _ => by simp [sdL, iat, hv]
  | j + 1, hj => by
    simp only [sdL]
    by_cases e : v = j
    · subst e
      rw [iat_put (by rw [sdL_len]; exact hv), if_pos (by omega)]
    · rw [iat_put_ne e, sdL_at Fa n v hv j (by omega)]
      by_cases h : v < j
      · rw [if_pos h, if_pos (by omega)]
      · rw [if_neg h, if_neg (by omega)]
/-- The ends of an edge are on one side. -/
def alike (es : List Pt) (Fa : List Int) (e : Nat) : Prop := iat Fa (at' es e).x.toNat % 2 = iat Fa (at' es e).y.toNat % 2
def cloL (es : List Pt) (st : St) (h : Nat) : List Int :=
  (clo es st ((iat st.Fa (toL es h).toNat).toNat + (iat st.Fa (fromL es h).toNat).toNat) (toL es h).toNat (fromL es h).toNat [(h : Int)] []).1 ++ (clo es st ((iat st.Fa (toL es h).toNat).toNat + (iat st.Fa (fromL es h).toNat).toNat) (toL es h).toNat (fromL es h).toNat [(h : Int)] []).2.reverse
/-- What Sides answers: the sides, or the way round that the first edge closes whose ends are on one side. -/
def SidesPost (w : World) (B m : Nat) (es : List Pt) (st : St) (a b : Value) : Prop :=
  ((∀ e, e < es.length → ¬ alike es st.Fa e) ∧ b = nilS ∧ ∃ g, a = .slice (some ⟨g, 0, none⟩) m m ∧ IRow w B g m (sdL st.Fa m m)) ∨
  ∃ e, e < es.length ∧ (∀ i, i < e → ¬ alike es st.Fa i) ∧ alike es st.Fa e ∧ a = nilS ∧ IOwns w B b (cloL es st (2 * e))
set_option maxRecDepth 100000 in
set_option maxHeartbeats 4000000 in
theorem sides28no (n : Int) (p : Option Addr) (es : List Pt) (cp : Nat) (w : World) (h : Has w p es) (hm : netB n es = false) : Calls Try.prog 28 #[nv n p es.length cp] w fun e w' => e = .returned (.tuple #[nilS, nilS, .int .i64 1]) ∧ Below w.heap.size w w' := by
  obtain ⟨W, hW, hb, a0⟩ := one_net w n p es.length cp
  have M := hide (may13 n p es cp W (h.later hb))
  rw [hm] at M
  have HB := hide hb
  clear h hb a0 hm
  go_enter Try.func28, Try.ntmps28
  go_wp2_with fail
  rw [← hW]
  clear hW
  refine M.out.mono ?_
  rintro e w1 ⟨rfl, hb1⟩
  have HB1 := hide (below_step HB.out hb1)
  clear hb1 M
  go_wp2
  go_ret3
  exact ⟨rfl, HB1.out⟩
set_option maxRecDepth 100000 in
set_option maxHeartbeats 8000000 in
theorem sides28 (m : Nat) (p : Option Addr) (es : List Pt) (cp : Nat) (w : World) (h : Has w p es) (hm : netB m es = true) : Calls Try.prog 28 #[nv m p es.length cp] w fun e w' => ∃ a b, e = .returned (.tuple #[a, b, .int .i64 0]) ∧ SidesPost w' w.heap.size m es (everyN es m m) a b ∧ Below w.heap.size w w' := by
  obtain ⟨W, hW, hb, a0⟩ := one_net w m p es.length cp
  obtain ⟨n0, n1, hes, hE⟩ := netB_is hm
  have HE := hide hE
  clear hE
  have M := hide (may13 m p es cp W (h.later hb))
  rw [hm] at M
  have HOK := hide (everyN_ok hm m (Nat.le_refl _))
  have HM := hide hm
  have HC := hide (everyN_shut hm m (Nat.le_refl _))
  have HH := hide (h.later hb)
  have HB := hide hb
  have HA := hide a0
  have hws : w.heap.size < W.heap.size := block_lt_of_cell a0.1
  obtain ⟨S, hS⟩ : ∃ S, everyN es m m = S := ⟨_, rfl⟩
  have HEV := hide (fun V hV => everywhere43 m p es cp V hV hm)
  rw [hS] at HOK HEV HC ⊢
  obtain ⟨i0, hi0, hz0, hz1, hz2⟩ := info_parts info3
  clear h hb a0 hm hS
  go_enter Try.func28, Try.ntmps28
  go_wp2_with fail
  rw [← hW]
  clear hW
  refine M.out.mono ?_
  rintro e w1 ⟨rfl, hb1⟩
  have EV := hide (HEV.out w1 (HH.out.later hb1))
  have HA1 := hide (HA.out.later hb1)
  obtain ⟨q0, q1, _, _⟩ := HA1.out
  have HB1 := hide hb1
  clear hb1 M HEV
  go_wp2_with fail
  refine EV.out.mono ?_
  rintro e w2 ⟨v, rfl, ⟨vo, gb, gf, rfl, ho, hby, hfa, _, _, _⟩, hb2⟩
  obtain ⟨po, co, hvo, _⟩ := ho.form
  subst hvo
  obtain ⟨X, hX⟩ : ∃ X, X = w2.alloc (.cells #[.slice po S.O.length co, .slice (some ⟨gb, 0, none⟩) m m, .slice (some ⟨gf, 0, none⟩) m m, nilS] 35) := ⟨_, rfl⟩
  have hbX : Below w2.heap.size w2 X := by rw [hX]; go_grown
  have HXX : Hid (X.ownsRow 0 35 4 (.slice (some ⟨w2.heap.size, 0, none⟩) 1 1) 1 [.slice po S.O.length co, .slice (some ⟨gb, 0, none⟩) m m, .slice (some ⟨gf, 0, none⟩) m m, nilS]) := by show World.ownsRow _ _ _ _ _ _ _; rw [hX]; exact box35 _ _ _ _ _
  have HO := hide (ho.later hbX)
  have HBY := hide (hby.later hbX)
  have HFA := hide (hfa.later hbX)
  have hbWX := below_step HB1.out (below_step hb2 hbX)
  have HAX := hide (HA.out.later hbWX)
  have HBWX := hide hbWX
  have HBX := hide (below_step HB.out hbWX)
  have HA2 := hide (HA.out.later (below_step HB1.out hb2))
  clear q0 q1 EV ho hby hfa hb2
  obtain ⟨q0, q1, _, _⟩ := HA2.out
  have z1 : w.heap.size < w2.heap.size := block_lt_of_cell q0
  have z2 : w.heap.size ≠ w2.heap.size := by omega
  go_wp2_with (refine wpList_make_full _ rfl (.tmp 17) (.tmp 17) 33 rfl (w2.alloc (.cells #[.slice po S.O.length co, .slice (some ⟨gb, 0, none⟩) m m, .slice (some ⟨gf, 0, none⟩) m m, nilS] 35)).heap.size 3 i0 (.int .i64 0) 1 Try.underlying33 hi0 hz0 hz1 .i64 .i64 _ _ m rfl rfl rfl rfl ?c1 ?c2 ?c3 ?_)
  case c1 => rw [hz2]; omega
  case c2 => unfold maxLen; omega
  case c3 => exact Nat.le_refl _
  intro w3 hown hgrow
  have sX : X.heap.size = w2.heap.size + 1 := by rw [hX]; simp
  rw [← hX] at hgrow
  rw [show w2.heap.size + 1 = X.heap.size from sX.symm] at hown ⊢
  have HR3 := hide (irow_made hown)
  have HB3 := hide (below_made hgrow)
  clear hown hgrow hX hbX hbWX q0 q1 z1 z2
  obtain ⟨_, _, x2, _, _, _, _, _⟩ := box_cells (box_later HXX.out HB3.out)
  have sw : w.heap.size ≤ X.heap.size := HBX.out.size
  obtain ⟨kt, hkt⟩ : ∃ kt, w2.heap.size = kt := ⟨_, rfl⟩
  rw [hkt] at HXX x2 ⊢
  obtain ⟨g, hg⟩ : ∃ g, X.heap.size = g := ⟨_, rfl⟩
  rw [hg] at HR3 ⊢
  have HG := hide hg
  clear hkt hg sX
  have hcn := HOK.out.cnt
  go_wp2_with fail
  clear x2
  go_loopw [22] (fun t22 wr => ∃ j : Nat, j ≤ m ∧ t22 = .int .i64 j ∧ Hid (Below X.heap.size X wr) ∧ Hid (IRow wr g g m (sdL S.Fa m j))) (fun t22 _ => m - (intOf t22).toNat)
  case atStart => exact ⟨0, by omega, rfl, HB3.out, HR3.out⟩
  case round =>
    obtain ⟨j, hj, rfl, HBr, HR⟩ := hrel
    have hgB : X.heap.size ≤ g := by rw [HG.out]; exact Nat.le_refl _
    by_cases hlt : j < m
    · have i1 : (j : Int) < m := by omega
      have i2 : (0 : Int) ≤ j := by omega
      obtain ⟨y0, _⟩ := (HFA.out.later HBr.out).cell hlt
      obtain ⟨r0, r1⟩ := HR.out.cell hlt
      have hf0 := HC.out.2 j hlt
      have HSD : Hid (sdL S.Fa m (j + 1) = (sdL S.Fa m j).set j (iat S.Fa j % 2)) := rfl
      obtain ⟨f, hf⟩ : ∃ f, iat S.Fa j = f := ⟨_, rfl⟩
      rw [hf] at y0 hf0 HSD
      have hmod : f.tmod 2 = f % 2 := Int.tmod_eq_emod_of_nonneg hf0
      clear hf
      go_wp2
      go_roundw
      case rel => exact ⟨j + 1, by omega, by go_num, HBr.out.setCell hgB _, by show IRow _ _ _ _ _; rw [HSD.out, ← hmod]; exact HR.out.set j _⟩
      case measure => simp [intOf]; omega
    · have hjn : j = m := by omega
      have i1 : ¬ (j : Int) < m := by omega
      rw [hjn] at HR i1 ⊢
      clear hjn hj hlt
      obtain ⟨q0, q1, _, _⟩ := HAX.out.later HBr.out
      go_wp2_with fail
      clear q0 q1
      have HR0 := hide HR.out
      have HBr0 := hide HBr.out
      go_loopw [36] (fun t36 wr => ∃ e : Nat, e ≤ es.length ∧ t36 = .int .i64 e ∧ Hid (∀ i, i < e → ¬ alike es S.Fa i) ∧ Hid (Below X.heap.size X wr) ∧ Hid (IRow wr g g m (sdL S.Fa m m))) (fun t36 _ => es.length - (intOf t36).toNat)
      case atStart => exact ⟨0, by omega, rfl, fun i hi => by omega, HBr0.out, HR0.out⟩
      case round =>
        obtain ⟨e, he, rfl, HN, HBs, HRs⟩ := hrel
        by_cases hlt : e < es.length
        · have hq : ∃ b off, p = some ⟨b, off, none⟩ ∧ Lies W b off es := by
            rcases HH.out with h0 | h0
            · subst h0; simp at hlt
            · exact h0
          obtain ⟨b, off, rfl, hLW⟩ := hq
          have hbWX : Below W.heap.size W wr := below_step HBWX.out HBs.out
          obtain ⟨c0, c1⟩ := hLW.later hbWX e hlt
          obtain ⟨f0, f1, f2, f3⟩ := HE.out e hlt
          have HAL : Hid (alike es S.Fa e ↔ iat S.Fa (at' es e).x.toNat % 2 = iat S.Fa (at' es e).y.toNat % 2) := Iff.rfl
          have HTO : Hid (toL es (2 * e) = (at' es e).y ∧ fromL es (2 * e) = (at' es e).x) := by
            unfold toL fromL
            rw [if_pos (by omega), if_pos (by omega), show 2 * e / 2 = e by omega]
            exact ⟨rfl, rfl⟩
          obtain ⟨x, hx⟩ : ∃ x : Nat, (at' es e).x = x := ⟨(at' es e).x.toNat, by omega⟩
          obtain ⟨y, hy⟩ : ∃ y : Nat, (at' es e).y = y := ⟨(at' es e).y.toNat, by omega⟩
          rw [hx] at c0 HAL HTO f0 f1
          rw [hy] at c1 HAL HTO f2 f3
          simp only [Int.toNat_natCast] at HAL
          have hxm : x < m := by omega
          have hym : y < m := by omega
          have i1 : (e : Int) < es.length := by omega
          have i2 : (0 : Int) ≤ e := by omega
          have i3 : (x : Int) < m := by omega
          have i4 : (0 : Int) ≤ x := by omega
          have i5 : (y : Int) < m := by omega
          have i6 : (0 : Int) ≤ y := by omega
          have nb : b < wr.heap.size := block_lt_of_cell c0
          clear hx hy hLW hbWX
          go_upto_region 13 with fail
          obtain ⟨V, hV⟩ : ∃ V, V = wr.alloc (.cells #[.int .i64 x, .int .i64 y] 49) := ⟨_, rfl⟩
          have hbV : Below wr.heap.size wr V := by rw [hV]; go_grown
          have v0 : V.cell? ⟨wr.heap.size, 0, none⟩ = some (.int .i64 x) := by rw [hV]; go_cell
          have v1 : V.cell? ⟨wr.heap.size, 1, none⟩ = some (.int .i64 y) := by rw [hV]; go_cell
          have HBV := hide (below_step HBs.out hbV)
          have HRV := hide (HRs.out.later hbV)
          rw [← hV]
          clear hV hbV c0 c1 nb
          obtain ⟨r0, _⟩ := HRV.out.cell hxm
          obtain ⟨r1, _⟩ := HRV.out.cell hym
          rw [sdL_at S.Fa m x hxm m (Nat.le_refl _), if_pos hxm] at r0
          rw [sdL_at S.Fa m y hym m (Nat.le_refl _), if_pos hym] at r1
          obtain ⟨fx, hfx⟩ : ∃ z, iat S.Fa x % 2 = z := ⟨_, rfl⟩
          obtain ⟨fy, hfy⟩ : ∃ z, iat S.Fa y % 2 = z := ⟨_, rfl⟩
          rw [hfx] at r0 HAL
          rw [hfy] at r1 HAL
          clear hfx hfy
          by_cases hA : fx = fy
          · have t1 : (fx == fy) = true := by simp [hA]
            go_quiet (fail)
            clear v0 v1 r0 r1
            obtain ⟨Z, hZ⟩ : ∃ Z, Z = V.drewN nq := ⟨_, rfl⟩
            have hbZ : Below V.heap.size V Z := by rw [hZ]; exact below_drewN (Below.refl _ _)
            have hbXZ := below_step HBV.out hbZ
            have HBZ := hide hbXZ
            rw [← hZ]
            have h2 : ((2 * e : Nat) : Int) = 2 * (e : Int) := by omega
            have CL : Hid (Calls Try.prog 48 #[nv m (some ⟨b, off, none⟩) es.length cp, tv (.slice po S.O.length co) (.slice (some ⟨gb, 0, none⟩) m m) (.slice (some ⟨gf, 0, none⟩) m m) nilS, .int .i64 (2 * (e : Int))] Z fun e' w' => ∃ v, e' = .returned v ∧ IOwns w' Z.heap.size v (cloL es S (2 * e)) ∧ Below Z.heap.size Z w') := by
              show Calls _ _ _ _ _
              have hh : 2 * e < 2 * es.length := by omega
              have fx0 := HC.out.2 x hxm
              have fy0 := HC.out.2 y hym
              have hr := (HC.out.1.all (2 * e) x y hh HTO.out.2 HTO.out.1 fx0).2
              unfold cloL
              rw [HTO.out.1, HTO.out.2, ← h2]
              simp only [Int.toNat_natCast]
              exact closed48 m _ es cp po S.O.length co gb gf w1.heap.size (2 * e) S Z (HH.out.later (below_step HBWX.out hbXZ)) HM.out (HBY.out.later hbXZ) (HFA.out.later hbXZ) HC.out.1.tree (fun v hv => by have := HOK.out.val v hv; omega) hh y x HTO.out.1 HTO.out.2 fy0 fx0 hr.symm
            obtain ⟨q0, q1, _, _⟩ := HAX.out.later hbXZ
            obtain ⟨x0, x1, x2, x3, _, _, _, _⟩ := box_cells (box_later HXX.out hbXZ)
            clear hZ hbZ hbXZ h2
            go_wp2_with fail
            refine CL.out.mono ?_
            rintro e' w9 ⟨v, rfl, o9, hb9⟩
            have HO9 := hide o9
            have HB9 := hide hb9
            clear o9 hb9 CL q0 q1 x0 x1 x2 x3
            go_wp2
            go_ret3
            exact ⟨_, _, rfl, Or.inr ⟨e, hlt, HN.out, HAL.out.mpr hA, rfl, HO9.out.base (Nat.le_trans sw HBZ.out.size)⟩, below_step HBX.out (below_step HBZ.out HB9.out)⟩
          · have t1 : (fx == fy) = false := by simp [hA]
            go_quiet (fail)
            clear v0 v1 r0 r1
            go_wp2
            go_roundw
            case rel => exact ⟨e + 1, by omega, by go_num, fun i hi => by
              by_cases ei : i = e
              · rw [ei, HAL.out]; exact hA
              · exact HN.out i (by omega), below_drewN HBV.out, HRV.out.later (below_drewN (Below.refl _ _))⟩
            case measure => simp [intOf]; omega
        · have hen : e = es.length := by omega
          have i1 : ¬ (e : Int) < es.length := by omega
          rw [hen] at HN ⊢
          clear hen
          go_wp2
          go_ret3
          exact ⟨_, _, rfl, Or.inl ⟨HN.out, rfl, g, rfl, HRs.out.base (by rw [← HG.out]; exact sw)⟩, below_step HBX.out HBs.out⟩
end Go.Proofs.Ytghffodjffkijaa
