/- What the statements' Of gives: the floating words of a list of bits. -/
import Derived.Test.YthmnmkolekgjoaaGreatDoorW16
import Derived.OwnWalk
namespace Go.Proofs.YthmnmkolekgjoaaGreatDoor
open Go.RowKit
open Go

theorem info27 : (Tryz.prog.info? 27).map (fun i => (i.zero, i.size, i.bytes)) = some (some (.float .f64 0), 1, 8) := by kernel_rfl
def flts (zs : List Int) : List Value := zs.map fun z => Value.float .f64 z.toNat

theorem flts_snoc (zs : List Int) (k : Nat) (z : Int) (hz : zs.getD k 0 = z) (h : k < zs.length) : flts (zs.take (k + 1)) = flts (zs.take k) ++ [.float .f64 z.toNat] := by
  unfold flts
  rw [take_snoc zs k z hz h, List.map_append]; rfl

set_option maxRecDepth 100000 in
set_option maxHeartbeats 1000000 in
theorem of10 (b off len cap : Nat) (zs : List Int) (w : World) (hz : len ≤ zs.length) (hreach : len * 8 ≤ 140737488351232) (hc : ∀ j : Nat, j < len → w.cell? ⟨b, off + j, none⟩ = some (.int .u64 (zs.getD j 0))) (hbw : len = 0 ∨ b < w.heap.size) :
    Calls Tryz.prog 10 #[.slice (some ⟨b, off, none⟩) len cap] w fun e w' => ∃ v, e = .returned v ∧ w'.ownsRow w.heap.size 27 1 v len (flts (zs.take len)) ∧ Below w.heap.size w w' := by
  obtain ⟨i0, hi, hz0, hz1, hz2⟩ := info_parts info27
  have HC := Lib.hid hc
  have HI := Lib.hid hi
  have hfr := xFrom
  clear hc hi
  go_enter Tryz.func10, Tryz.ntmps10
  go_wp2
  go_loopw [3, 4] (fun v t wr => ∃ k : Nat, k ≤ len ∧ t = .int .i64 k ∧ wr.ownsRow w.heap.size 27 1 v k (flts (zs.take k)) ∧ Below w.heap.size w wr) (fun _ t _ => len - (intOf t).toNat)
  case atStart => exact ⟨0, Nat.zero_le _, rfl, World.ownsRow_nil _ _ _ _, Below.refl _ _⟩
  case round =>
    obtain ⟨k, hk, rfl, hown, hbl⟩ := hrel
    by_cases hlt : k < len
    · obtain ⟨z, hz'⟩ : ∃ z, zs.getD k 0 = z := ⟨_, rfl⟩
      have ck : wr.cell? ⟨b, off + k, none⟩ = some (.int .u64 z) := by
        rw [hbl.cell (p := ⟨b, off + k, none⟩) (by simp only; omega), ← hz']; exact HC.out k hlt
      have HS := Lib.hid (flts_snoc zs k z hz' (by omega))
      have hsz := hbl.size
      have HB := Lib.hid hbl
      clear hz' hbl
      go_wp2_with (at_builtin; refine wpList_append_own _ rfl (.tmp 11) (.tmp 17) 24 rfl w.heap.size 27 i0 (.float .f64 0) 1 8 Tryz.underlying24 HI.out hz0 hz1 hz2 rfl (by decide) _ _ _ rfl (hown.alloc _) ⟨wr.heap.size, 0, none⟩ 1 1 [.float .f64 z.toNat] rfl rfl ?c1 ?c2 ?c3 ?c4 ?c5 ?_)
      case c1 =>
        intro j u hj
        match j, hj with
        | 0, hj => simp at hj; subst hj; simp [Addr.add]
      case c2 => intro u hu; simp at hu; subst hu; rfl
      case c3 => unfold maxLen; omega
      case c4 => omega
      case c5 => simp; omega
      · intro v' w1 hown' hgrow _
        have R1 : w1.ownsRow w.heap.size 27 1 v' (k + 1) (flts (zs.take (k + 1))) := by rw [HS.out]; exact hown'
        have R2 : Below w.heap.size w w1 := (HB.out.alloc hsz _).grown hgrow (by simp; omega) (fun q hq => (hown.lt q hq).1)
        clear hown' hgrow hown
        go_wp2
        go_roundw
        case rel => exact ⟨k + 1, by omega, by go_num, R1, R2⟩
        case measure => simp [intOf]; omega
    · have hke : k = len := by omega
      subst hke
      go_wp2
      go_ret
      exact ⟨_, rfl, hown, hbl⟩
end Go.Proofs.YthmnmkolekgjoaaGreatDoor
