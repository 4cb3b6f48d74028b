/- The digits that setDigits writes, and how many of them are left without the zeros at their end. -/
import Derived.Test.YthmnmkolekgjoaaGreatDoorW4
import Derived.Lib.ItoaMem
import Derived.Lib.ItoaLen
namespace Go.Proofs.YthmnmkolekgjoaaGreatDoor
open Go.RowKit
open Go
open Go.Sort (Holds putRow holds_putRow cell?_putRow)
open Go.Lib (nDigits decDigits FmtInv)

def stripN (f : Nat → Nat) : Nat → Nat
  | 0 => 0
  | k + 1 => if f k = 48 then stripN f k else k + 1
def digAt (u i : Nat) : Nat := ((decDigits u).getD i 0).toNat
def nzd (u : Nat) : Nat := stripN (digAt u) (nDigits u)
def encB : UInt8 → Value := fun b => Value.int .u8 (b.toNat : Int)

theorem holds_zero32 (w : World) (b : Nat) (dc0 : Array Value) (hb : w.heap[b]? = some (.cells dc0 82 (0, 0))) (hz : ∀ i : Nat, i < 32 → dc0[i]? = some (.int .u8 0)) (nd : Nat) (hs : nd ≤ 32) :
    Holds encB w b 0 (Array.replicate nd (0 : UInt8)) := fun j hj => by
  have hj' : j < nd := by simpa using hj
  refine ⟨?_, ?_⟩
  · rw [cell_of_row w b (0 + j) dc0 82 (0, 0) hb, hz (0 + j) (by omega), getElem!_pos _ j hj]
    simp [encB]
  · simp [World.frozen?, hb]

theorem put_block (w : World) (b : Nat) (dc0 : Array Value) (dk : Array UInt8) (hb : w.heap[b]? = some (.cells dc0 82 (0, 0))) :
    (putRow encB w b 0 dk).heap[b]? = some (.cells (Go.Sort.putCells encB 0 dk dc0) 82 (0, 0)) := by
  unfold putRow Go.Sort.mapBlock
  simp [Array.getElem?_modify, hb, Go.Sort.onCells]

theorem put_grown (w : World) (b : Nat) (dk : Array UInt8) (n : Nat) : w.grownBy ((putRow encB w b 0 dk).drewN n) (some b) where
  os := rfl
  tape := rfl
  output := rfl
  size := by show w.heap.size ≤ (putRow encB w b 0 dk).heap.size; rw [Go.Sort.size_putRow]; exact Nat.le_refl _
  block := fun k _ hne => by
    show (putRow encB w b 0 dk).heap[k]? = _
    unfold putRow Go.Sort.mapBlock
    have : b ≠ k := fun e => hne (by rw [e])
    simp [Array.getElem?_modify, this]

theorem digit_cell (u v' : Nat) (dk : Array UInt8) (h : FmtInv (nDigits u) u 0 v' dk) (j : Nat) (hj : j < nDigits u) : encB dk[j]! = .int .u8 (digAt u j : Nat) := by
  have hl : j < (decDigits u).length := by rw [Go.Lib.decDigits_length]; exact hj
  have := Go.Lib.row_is_numeral h j hl
  unfold encB digAt
  rw [← this]
  simp [List.getD, List.getElem?_eq_getElem hl]

set_option maxRecDepth 100000 in
set_option maxHeartbeats 1000000 in
theorem setDigits65 (b u : Nat) (p : Int) (w : World) (dc0 : Array Value) (hb : w.heap[b]? = some (.cells dc0 82 (0, 0))) (hz : ∀ i : Nat, i < 32 → dc0[i]? = some (.int .u8 0)) (_hsz : dc0.size = 32)
    (h2 : u < 18446744073709551616) (hp0 : -1000 ≤ p) (hp1 : p ≤ 1000) (hu : u < 10 ^ nDigits u) :
    Calls Tryz.prog 65 #[.slice (some ⟨b, 0, none⟩) 32 32, .int .u64 u, .int .i64 p, .int .i64 (nDigits u : Nat)] w fun e w' =>
      e = .returned (.tuple #[.int .i64 ((nDigits u : Nat) + p), .int .i64 (nzd u : Nat)]) ∧ ∃ dc, w'.heap[b]? = some (.cells dc 82 (0, 0)) ∧ (∀ i : Nat, i < nDigits u → dc[i]? = some (.int .u8 (digAt u i : Nat))) ∧ w.grownBy w' (some b) := by
  have hn := Go.Lib.nDigits_le20 u h2
  have hH := holds_zero32 w b dc0 hb hz (nDigits u) (by omega)
  have hc0 := Tryz.internal_strconv_formatBase10 b 0 32 u (Array.replicate (nDigits u) (0 : UInt8)) w hH (by simpa using hu) h2 (by simp; omega)
  rw [Array.size_replicate] at hc0
  have hc : Calls Tryz.prog 93 #[.slice (some ⟨b, 0, none⟩) (nDigits u) 32, .int .u64 u] w fun e w' => e = .returned (.tuple #[]) ∧
      (∃ dc, w'.heap[b]? = some (.cells dc 82 (0, 0)) ∧ (∀ i : Nat, i < nDigits u → dc[i]? = some (.int .u8 (digAt u i : Nat))) ∧ w.grownBy w' (some b)) := by
    refine hc0.mono ?_
    rintro e w1 ⟨rfl, n, v', dk, rfl, hF⟩
    refine ⟨rfl, Go.Sort.putCells encB 0 dk dc0, put_block w b dc0 dk hb, fun i hi => ?_, put_grown w b dk n⟩
    rw [← digit_cell u v' dk hF i hi]
    unfold Go.Sort.putCells
    rw [Array.getElem?_mapIdx, hz i (by omega)]
    simp [hF.size, hi]
  have HC := Lib.hid hc
  clear hc hc0 hH hb hz hu
  go_enter Tryz.func65, Tryz.ntmps65
  go_wp2_with fail
  refine HC.out.mono ?_
  rintro e w1 ⟨rfl, dc, hbk, hdig, hgr⟩
  have P := Lib.hid (show ∃ dc, w1.heap[b]? = some (.cells dc 82 (0, 0)) ∧ (∀ i : Nat, i < nDigits u → dc[i]? = some (.int .u8 (digAt u i : Nat))) ∧ w.grownBy w1 (some b) from ⟨dc, hbk, hdig, hgr⟩)
  have CE := Lib.hid (show ∀ k : Nat, k < nDigits u → w1.cell? ⟨b, k, none⟩ = some (.int .u8 (digAt u k : Nat)) from fun k hk => by rw [cell_of_row w1 b k dc 82 (0, 0) hbk]; exact hdig k hk)
  clear hbk hdig hgr
  go_wp2
  go_loop [3] (fun t => ∃ k : Nat, k ≤ nDigits u ∧ t = .int .i64 k ∧ stripN (digAt u) k = nzd u) (fun t => (intOf t).toNat)
  case atStart => exact ⟨nDigits u, Nat.le_refl _, rfl, rfl⟩
  case round =>
    obtain ⟨k, hk, rfl, hst⟩ := hrel
    have HS := Lib.hid hst
    clear hst
    by_cases h0 : k = 0
    · subst h0
      go_wp2
      go_ret2
      exact ⟨by rw [← HS.out]; rfl, P.out⟩
    · obtain ⟨j, rfl⟩ : ∃ j, k = j + 1 := ⟨k - 1, by omega⟩
      have cj := CE.out j (by omega)
      by_cases h48 : digAt u j = 48
      · have ht : ((digAt u j : Nat) : Int) == 48 := by rw [h48]; rfl
        go_wp2
        go_round
        case rel => exact ⟨j, by omega, rfl, by have := HS.out; simpa [stripN, h48] using this⟩
        case measure => simp [intOf]
      · have ht : (((digAt u j : Nat) : Int) == 48) = false := by simp; omega
        have hz : stripN (digAt u) (j + 1) = j + 1 := by simp [stripN, h48]
        have HZ := Lib.hid (show nzd u = j + 1 by rw [← HS.out]; exact hz)
        clear hz h48
        go_wp2
        go_ret2
        exact ⟨by rw [HZ.out]; rfl, P.out⟩
end Go.Proofs.YthmnmkolekgjoaaGreatDoor
