/- The document's Degrees. -/
import Derived.Test.YtmmbbfmkhbengaaV1
import Derived.Test.YtmmbbfmkhbengaaN7
namespace Go.Proofs.Ytmmbbfmkhbengaa
open Go.RowKit Go.Sort
open Go


/-- Degrees, half-edge by half-edge. -/
def dgH (es : List Pt) (m : Nat) : Nat → List Int
  | 0 => List.replicate m 0
  | h + 1 => bump (dgH es m h) (fromL es h).toNat
theorem dgH_even (es : List Pt) (m : Nat) : ∀ i, dgH es m (2 * i) = degN es m i
  | 0 => rfl
  | i + 1 => by
    have ih := dgH_even es m i
    rw [show 2 * (i + 1) = 2 * i + 1 + 1 by omega]
    simp only [dgH, degN]
    rw [ih]
    have e1 : fromL es (2 * i) = (at' es i).x := by unfold fromL; rw [if_pos (by omega), show 2 * i / 2 = i by omega]
    have e2 : fromL es (2 * i + 1) = (at' es i).y := by unfold fromL; rw [if_neg (by omega), show (2 * i + 1) / 2 = i by omega]
    rw [e1, e2]
theorem dgH_length (es : List Pt) (m : Nat) : ∀ h, (dgH es m h).length = m
  | 0 => by simp [dgH]
  | h + 1 => by simp [dgH, bump_length, dgH_length es m h]
theorem dgH_in (es : List Pt) (m : Nat) : ∀ h j, j < m → 0 ≤ iat (dgH es m h) j ∧ iat (dgH es m h) j ≤ h
  | 0, j, hj => by simp only [dgH]; rw [iat_replicate _ _ _ hj]; omega
  | h + 1, j, hj => by
    have ih := dgH_in es m h j hj
    have hl := dgH_length es m h
    simp only [dgH]
    rw [bump_at _ _ _ (by omega)]
    split <;> omega
theorem fromL_in {m : Int} {es : List Pt} (hm : netB m es = true) (h : Nat) (hl : h < 2 * es.length) : 0 ≤ fromL es h ∧ fromL es h < m := by
  obtain ⟨_, _, _, hE⟩ := netB_is hm
  have := hE (h / 2) (by omega)
  unfold fromL
  split <;> omega
set_option maxRecDepth 100000 in
set_option maxHeartbeats 4000000 in
theorem degrees40 (m : Nat) (p : Option Addr) (es : List Pt) (cp : Nat) (w : World) (h : Has w p es) (hm : netB m es = true) : Calls Try.prog 41 #[nv m p es.length cp] w fun e w' => ∃ g, e = .returned (.slice (some ⟨g, 0, none⟩) m m) ∧ IRow w' w.heap.size g m (degN es m es.length) ∧ Below w.heap.size w w' := by
  obtain ⟨W, hW, hb, a0⟩ := one_net w m p es.length cp
  obtain ⟨n0, n1, hes, _⟩ := netB_is hm
  have HM := hide hm
  have HH := hide (h.later hb)
  have HB := hide hb
  have HA := hide a0
  have hws : w.heap.size < W.heap.size := block_lt_of_cell a0.1
  have hWs : W.heap.size = w.heap.size + 1 := by rw [hW]; simp
  clear h hb a0 hm
  obtain ⟨i0, hi0, hz0, hz1, hz2⟩ := info_parts info3
  go_enter Try.func41, Try.ntmps41
  go_wp2_with (refine wpList_make_full _ rfl (.tmp 6) (.tmp 6) 25 rfl (w.alloc (nbx m p es.length cp)).heap.size 3 i0 (.int .i64 0) 1 Try.underlying25 hi0 hz0 hz1 .i64 .i64 _ _ m rfl rfl rfl rfl ?c1 ?c2 ?c3 ?_)
  case c1 => rw [hz2]; omega
  case c2 => unfold maxLen; omega
  case c3 => exact Nat.le_refl _
  intro w2 hown hgrow
  have hgrow' : W.grownBy w2 none := by rw [hW]; exact hgrow
  have HR2 := hide (irow_made hown)
  have hb2 := below_made hgrow'
  have HB2 := hide hb2
  have HSZ := hide hWs
  clear hown hgrow hgrow' hb2 hW hWs
  go_wp2_with fail
  obtain ⟨g, hg⟩ : ∃ g, w.heap.size + 1 = g := ⟨_, rfl⟩
  obtain ⟨kb, hkb⟩ : ∃ kb, w.heap.size = kb := ⟨_, rfl⟩
  rw [hg] at HR2 HSZ ⊢
  rw [hkb] at HA hws ⊢
  have HK := hide (And.intro hg hkb)
  clear hg hkb
  go_loopw [4] (fun t wr => ∃ i : Nat, i ≤ 2 * es.length ∧ t = .int .i64 i ∧ Hid (Below W.heap.size W wr) ∧ Hid (IRow wr g g m (dgH es m i))) (fun t _ => 2 * es.length - (intOf t).toNat)
  case atStart => exact ⟨0, by omega, rfl, HB2.out, HR2.out⟩
  case round =>
    obtain ⟨i, hi, rfl, HBr, HR⟩ := hrel
    obtain ⟨q0, q1, _, _⟩ := HA.out.later HBr.out
    by_cases hlt : i < 2 * es.length
    · have F := hide (from50 m p es cp i wr (HH.out.later HBr.out) hlt (by omega))
      obtain ⟨f0, f1⟩ := fromL_in HM.out i hlt
      have hD : Hid (dgH es m (i + 1) = bump (dgH es m i) (fromL es i).toNat) := rfl
      obtain ⟨x, hx⟩ : ∃ x : Nat, fromL es i = x := ⟨(fromL es i).toNat, by omega⟩
      rw [hx] at F hD f0 f1
      rw [Int.toNat_natCast] at hD
      have bx := dgH_in es m i x (by omega)
      obtain ⟨D, hDD⟩ : ∃ D, dgH es m i = D := ⟨_, rfl⟩
      rw [hDD] at hD HR bx
      have hlt' : (i : Int) < 2 * es.length := by omega
      clear hx hDD
      go_wp2_with fail
      refine F.out.mono ?_
      rintro e w3 ⟨rfl, hb3⟩
      have HR3 := hide (HR.out.later hb3)
      have HB3 := hide (below_step HBr.out hb3)
      obtain ⟨d0, e0⟩ := HR3.out.cell (j := x) (by omega)
      have hgB : W.heap.size ≤ g := by rw [HSZ.out]; exact Nat.le_refl _
      clear hb3 F q0 q1
      go_wp2
      go_roundw
      case rel => exact ⟨i + 1, by omega, by go_num, HB3.out.setCell hgB _, by show IRow _ _ _ _ _; rw [hD.out]; exact HR3.out.set x _⟩
      case measure => simp [intOf]; omega
    · have hin : i = 2 * es.length := by omega
      have hlt' : ¬ (i : Int) < 2 * es.length := by omega
      rw [hin, dgH_even] at HR
      clear hin
      go_wp2
      go_ret
      refine ⟨g, rfl, HR.out.base ?_, below_step HB.out HBr.out⟩
      have := HK.out
      omega
end Go.Proofs.Ytmmbbfmkhbengaa
