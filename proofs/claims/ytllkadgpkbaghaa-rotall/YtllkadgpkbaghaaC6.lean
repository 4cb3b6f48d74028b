/- Parts, in every world. -/
import Derived.Test.YtllkadgpkbaghaaC5
namespace Go.Proofs.Ytllkadgpkbaghaa
open Go.RowKit Go.Sort
open Go


/-- How many components have begun among the first nodes of a tour. -/
def pcnt (O By : List Int) : Nat → Nat
  | 0 => 0
  | j + 1 => if iat By (iat O j).toNat < 0 then pcnt O By j + 1 else pcnt O By j
/-- The components that they are told to be in. -/
def plab (O By : List Int) (n : Nat) : Nat → List Int
  | 0 => List.replicate n 0
  | j + 1 => (plab O By n j).set (iat O j).toNat ((pcnt O By (j + 1) : Int) - 1)
theorem pcnt_le (O By : List Int) : ∀ j, pcnt O By j ≤ j
  | 0 => Nat.le_refl _
  | j + 1 => by
    have := pcnt_le O By j
    simp only [pcnt]
    split <;> omega
set_option maxRecDepth 100000 in
set_option maxHeartbeats 4000000 in
theorem parts15no (n : Int) (p : Option Addr) (es : List Pt) (cp : Nat) (w : World) (h : Has w p es) (hm : netB n es = false) : Calls Try.prog 58 #[nv n p es.length cp] w fun e w' => e = .returned (.tuple #[nilS, .int .i64 0, .int .i64 1]) ∧ Below w.heap.size w w' := by
  obtain ⟨W, hW, hb, a0⟩ := one_net w n p es.length cp
  have M := hide (may13 n p es cp W (h.later hb))
  rw [hm] at M
  have HB := hide hb
  clear h hb a0 hm
  go_enter Try.func58, Try.ntmps58
  go_wp2_with fail
  rw [← hW]
  clear hW
  refine M.out.mono ?_
  rintro e w1 ⟨rfl, hb1⟩
  have HB1 := hide (below_step HB.out hb1)
  clear hb1 M
  go_wp2
  go_ret3
  exact ⟨rfl, HB1.out⟩
set_option maxRecDepth 100000 in
set_option maxHeartbeats 8000000 in
theorem parts15 (m : Nat) (p : Option Addr) (es : List Pt) (cp : Nat) (w : World) (h : Has w p es) (hm : netB m es = true) : Calls Try.prog 58 #[nv m p es.length cp] w fun e w' => ∃ g, e = .returned (.tuple #[.slice (some ⟨g, 0, none⟩) m m, .int .i64 (pcnt (everyN es m m).O (everyN es m m).By (everyN es m m).O.length : Nat), .int .i64 0]) ∧ IRow w' w.heap.size g m (plab (everyN es m m).O (everyN es m m).By m (everyN es m m).O.length) ∧ Below w.heap.size w w' := by
  obtain ⟨W, hW, hb, a0⟩ := one_net w m p es.length cp
  obtain ⟨n0, n1, hes, _⟩ := netB_is hm
  have M := hide (may13 m p es cp W (h.later hb))
  rw [hm] at M
  have HOK := hide (everyN_ok hm m (Nat.le_refl _))
  have HM := hide hm
  have HH := hide (h.later hb)
  have HB := hide hb
  have HA := hide a0
  have hws : w.heap.size < W.heap.size := block_lt_of_cell a0.1
  obtain ⟨S, hS⟩ : ∃ S, everyN es m m = S := ⟨_, rfl⟩
  have HEV := hide (fun V hV => everywhere43 m p es cp V hV hm)
  rw [hS] at HOK HEV ⊢
  obtain ⟨i0, hi0, hz0, hz1, hz2⟩ := info_parts info3
  clear h hb a0 hm hS
  go_enter Try.func58, Try.ntmps58
  go_wp2_with fail
  rw [← hW]
  clear hW
  refine M.out.mono ?_
  rintro e w1 ⟨rfl, hb1⟩
  have EV := hide (HEV.out w1 (HH.out.later hb1))
  have HA1 := hide (HA.out.later hb1)
  obtain ⟨q0, q1, _, _⟩ := HA1.out
  have HB1 := hide hb1
  clear hb1 M HEV
  go_wp2_with fail
  refine EV.out.mono ?_
  rintro e w2 ⟨v, rfl, ⟨vo, gb, gf, rfl, ho, hby, hfa, _, _, _⟩, hb2⟩
  obtain ⟨po, co, hvo, _⟩ := ho.form
  subst hvo
  obtain ⟨X, hX⟩ : ∃ X, X = w2.alloc (.cells #[.slice po S.O.length co, .slice (some ⟨gb, 0, none⟩) m m, .slice (some ⟨gf, 0, none⟩) m m, nilS] 93) := ⟨_, rfl⟩
  have hbX : Below w2.heap.size w2 X := by rw [hX]; go_grown
  have HXX : Hid (X.ownsRow 0 93 4 (.slice (some ⟨w2.heap.size, 0, none⟩) 1 1) 1 [.slice po S.O.length co, .slice (some ⟨gb, 0, none⟩) m m, .slice (some ⟨gf, 0, none⟩) m m, nilS]) := by show World.ownsRow _ _ _ _ _ _ _; rw [hX]; exact box35 _ _ _ _ _
  have HO := hide (ho.later hbX)
  have HBY := hide (hby.later hbX)
  have hbWX := below_step HB1.out (below_step hb2 hbX)
  have HAX := hide (HA.out.later hbWX)
  have HBX := hide (below_step HB.out hbWX)
  have HA2 := hide (HA.out.later (below_step HB1.out hb2))
  clear q0 q1 EV ho hby hfa hb2
  obtain ⟨q0, q1, _, _⟩ := HA2.out
  have z1 : w.heap.size < w2.heap.size := block_lt_of_cell q0
  have z2 : w.heap.size ≠ w2.heap.size := by omega
  go_wp2_with (refine wpList_make_full _ rfl (.tmp 16) (.tmp 16) 27 rfl (w2.alloc (.cells #[.slice po S.O.length co, .slice (some ⟨gb, 0, none⟩) m m, .slice (some ⟨gf, 0, none⟩) m m, nilS] 93)).heap.size 3 i0 (.int .i64 0) 1 Try.underlying27 hi0 hz0 hz1 .i64 .i64 _ _ m rfl rfl rfl rfl ?c1 ?c2 ?c3 ?_)
  case c1 => rw [hz2]; omega
  case c2 => unfold maxLen; omega
  case c3 => exact Nat.le_refl _
  intro w3 hown hgrow
  have sX : X.heap.size = w2.heap.size + 1 := by rw [hX]; simp
  rw [← hX] at hgrow
  rw [show w2.heap.size + 1 = X.heap.size from sX.symm] at hown ⊢
  have HR3 := hide (irow_made hown)
  have HB3 := hide (below_made hgrow)
  clear hown hgrow hX hbX hbWX q0 q1 z1 z2
  obtain ⟨x0, x1, _, _, _, _, _, _⟩ := box_cells (box_later HXX.out HB3.out)
  have sw : w.heap.size ≤ X.heap.size := HBX.out.size
  obtain ⟨kt, hkt⟩ : ∃ kt, w2.heap.size = kt := ⟨_, rfl⟩
  rw [hkt] at HXX x0 x1 ⊢
  obtain ⟨g, hg⟩ : ∃ g, X.heap.size = g := ⟨_, rfl⟩
  rw [hg] at HR3 ⊢
  have HG := hide hg
  clear hkt hg sX
  have hcn := HOK.out.cnt
  go_wp2_with fail
  clear x0 x1
  go_loopw [7, 21] (fun t7 t21 wr => ∃ j : Nat, j ≤ S.O.length ∧ t7 = .int .i64 (pcnt S.O S.By j : Nat) ∧ t21 = .int .i64 j ∧ Hid (Below X.heap.size X wr) ∧ Hid (IRow wr g g m (plab S.O S.By m j))) (fun _ t21 _ => S.O.length - (intOf t21).toNat)
  case atStart => exact ⟨0, by omega, rfl, rfl, HB3.out, HR3.out⟩
  case round =>
    obtain ⟨j, hj, rfl, rfl, HBr, HR⟩ := hrel
    by_cases hlt : j < S.O.length
    · have i1 : (j : Int) < S.O.length := by omega
      have i2 : (0 : Int) ≤ j := by omega
      obtain ⟨u0, u1⟩ := HOK.out.mem j hlt
      have ho := HO.out.later HBr.out
      obtain ⟨bo, cc, hbo, _, _, _⟩ := iowns_block ho (by omega)
      simp only [Value.slice.injEq, true_and] at hbo
      obtain ⟨rfl, rfl⟩ := hbo
      have o1 := ho.at_ hlt
      have hpl := pcnt_le S.O S.By j
      have HPC : Hid (pcnt S.O S.By (j + 1) = if iat S.By (iat S.O j).toNat < 0 then pcnt S.O S.By j + 1 else pcnt S.O S.By j) := rfl
      have HPL : Hid (plab S.O S.By m (j + 1) = (plab S.O S.By m j).set (iat S.O j).toNat ((pcnt S.O S.By (j + 1) : Int) - 1)) := rfl
      obtain ⟨v, hv⟩ : ∃ v : Nat, iat S.O j = v := ⟨(iat S.O j).toNat, by omega⟩
      rw [hv] at o1 u0 u1 HPC HPL
      rw [Int.toNat_natCast] at HPC HPL
      have hvm : v < m := by omega
      obtain ⟨_, x1, _, _, _, _, _, _⟩ := box_cells (box_later HXX.out HBr.out)
      obtain ⟨y0, _⟩ := (HBY.out.later HBr.out).cell hvm
      obtain ⟨r0, r1⟩ := HR.out.cell hvm
      have k1 : (v : Int) < m := by omega
      have k2 : (0 : Int) ≤ v := by omega
      have hgB : X.heap.size ≤ g := by rw [HG.out]; exact Nat.le_refl _
      obtain ⟨c, hc⟩ : ∃ c, pcnt S.O S.By j = c := ⟨_, rfl⟩
      rw [hc] at hpl HPC ⊢
      clear ho hv hc
      by_cases hneg : iat S.By v < 0
      · rw [if_pos hneg] at HPC
        rw [HPC.out] at HPL
        obtain ⟨b, hb⟩ : ∃ b, iat S.By v = b := ⟨_, rfl⟩
        rw [hb] at y0 hneg
        clear hb
        go_wp2
        go_roundw
        case rel => exact ⟨j + 1, by omega, by rw [HPC.out]; go_num, by go_num, HBr.out.setCell hgB _, by show IRow _ _ _ _ _; rw [HPL.out, show ((c + 1 : Nat) : Int) - 1 = c by omega]; first | exact HR.out.set v _ | (have := HR.out.set v (c : Int); simpa using this)⟩
        case measure => simp [intOf]; omega
      · rw [if_neg hneg] at HPC
        rw [HPC.out] at HPL
        obtain ⟨b, hb⟩ : ∃ b, iat S.By v = b := ⟨_, rfl⟩
        rw [hb] at y0 hneg
        clear hb
        go_wp2
        go_roundw
        case rel => exact ⟨j + 1, by omega, by rw [HPC.out], by go_num, HBr.out.setCell hgB _, by show IRow _ _ _ _ _; rw [HPL.out]; exact HR.out.set v _⟩
        case measure => simp [intOf]; omega
    · have hjn : j = S.O.length := by omega
      have i1 : ¬ (j : Int) < S.O.length := by omega
      rw [hjn] at HR ⊢
      clear hjn
      go_wp2
      go_ret3
      exact ⟨g, rfl, HR.out.base (by rw [← HG.out]; exact sw), below_step HBX.out HBr.out⟩
end Go.Proofs.Ytllkadgpkbaghaa
