/- The small functions of package walk: comesTo, refusal; what find does to a tour. -/
import Derived.Test.YtllkadgpkbaghaaX5
namespace Go.Proofs.Ytllkadgpkbaghaa
open Go.RowKit Go.Sort
open Go

set_option maxHeartbeats 1000000 in
theorem comes54 (n : Int) (p : Option Addr) (es : List Pt) (cap h : Nat) (w : World) (hh : Has w p es) (hl : h < 2 * es.length) (hb : es.length ≤ 100000) : Calls Try.prog 92 #[nv n p es.length cap, .int .i64 h] w fun e w' => e = .returned (.int .i64 (toL es h)) ∧ Below w.heap.size w w' := by
  have hk : h / 2 < es.length := by omega
  rcases hh with h0 | ⟨b, off, rfl, hL⟩
  · subst h0; simp at hk
  obtain ⟨c0, c1⟩ := hL (h / 2) hk
  have zb : b < w.heap.size := block_lt_of_cell c0
  have hd : Int.tdiv (h : Int) 2 = ((h / 2 : Nat) : Int) := by rw [Int.tdiv_eq_ediv_of_nonneg (by omega)]; exact (Int.natCast_ediv h 2).symm
  have hr : Int.tmod (h : Int) 2 = ((h % 2 : Nat) : Int) := by rw [Int.tmod_eq_emod_of_nonneg (by omega)]; exact (Int.natCast_emod h 2).symm
  have HF : Hid (toL es h = if h % 2 = 0 then (at' es (h / 2)).y else (at' es (h / 2)).x) := rfl
  obtain ⟨x, hx⟩ : ∃ x, at' es (h / 2) = x := ⟨_, rfl⟩
  rw [hx] at c0 c1 HF
  have hr2 : h % 2 < 2 := by omega
  have hkl : h / 2 ≤ 100000 := by omega
  obtain ⟨q, hq⟩ : ∃ q, h / 2 = q := ⟨_, rfl⟩
  obtain ⟨r, hre⟩ : ∃ r, h % 2 = r := ⟨_, rfl⟩
  rw [hq] at c0 c1 hd hk hkl
  rw [hre] at hr HF hr2
  have i1 : (q : Int) < es.length := by omega
  have i2 : (0 : Int) ≤ q := by omega
  clear hx hL hq hre
  have h01 : r = 0 ∨ r = 1 := by omega
  rcases h01 with rfl | rfl
  · go_enter Try.func92, Try.ntmps92
    go_wp2
    go_ret
    exact ⟨retI (by rw [HF.out]; simp), by go_grown⟩
  · go_enter Try.func92, Try.ntmps92
    go_wp2
    go_ret
    exact ⟨retI (by rw [HF.out]; simp), by go_grown⟩

/-- A tour in its box: the nodes found, by which half-edge, how far, and the place where Low goes; the three lists are the call's own, each in a block of its own. -/
structure TB (w : World) (B k n : Nat) (vo : Value) (gb gf : Nat) (vl : Value) (O : List Int) (By Fa : List Int) : Prop where
  box : w.ownsRow 0 93 4 (.slice (some ⟨k, 0, none⟩) 1 1) 1 [vo, .slice (some ⟨gb, 0, none⟩) n n, .slice (some ⟨gf, 0, none⟩) n n, vl]
  ord : IOwns w B vo O
  by_ : IRow w B gb n By
  far : IRow w B gf n Fa
  ne1 : gb ≠ gf
  ne2 : vo.ownBlock ≠ some gb
  ne3 : vo.ownBlock ≠ some gf
end Go.Proofs.Ytllkadgpkbaghaa
