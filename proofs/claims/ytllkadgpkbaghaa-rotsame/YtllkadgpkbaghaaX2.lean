/- The document's blank and To. -/
import Derived.Test.YtllkadgpkbaghaaX1
namespace Go.Proofs.Ytllkadgpkbaghaa
open Go.RowKit Go.Sort
open Go


/-- The end of an edge that a half-edge comes to. -/
def toL (es : List Pt) (h : Nat) : Int := if h % 2 = 0 then (at' es (h / 2)).y else (at' es (h / 2)).x
theorem toL_in {m : Int} {es : List Pt} (hm : netB m es = true) (h : Nat) (hl : h < 2 * es.length) : 0 ≤ toL es h ∧ toL es h < m := by
  obtain ⟨_, _, _, hE⟩ := netB_is hm
  have := hE (h / 2) (by omega)
  unfold toL
  split <;> omega
set_option maxHeartbeats 1000000 in
theorem to43 (n : Int) (p : Option Addr) (es : List Pt) (cap h : Nat) (w : World) (hh : Has w p es) (hl : h < 2 * es.length) (hb : es.length ≤ 100000) : Calls Try.prog 24 #[nv n p es.length cap, .int .i64 h] w fun e w' => e = .returned (.int .i64 (toL es h)) ∧ Below w.heap.size w w' := by
  have hk : h / 2 < es.length := by omega
  rcases hh with h0 | ⟨b, off, rfl, hL⟩
  · subst h0; simp at hk
  obtain ⟨c0, c1⟩ := hL (h / 2) hk
  have zb : b < w.heap.size := block_lt_of_cell c0
  have hd : Int.tdiv (h : Int) 2 = ((h / 2 : Nat) : Int) := by rw [Int.tdiv_eq_ediv_of_nonneg (by omega)]; exact (Int.natCast_ediv h 2).symm
  have hr : Int.tmod (h : Int) 2 = ((h % 2 : Nat) : Int) := by rw [Int.tmod_eq_emod_of_nonneg (by omega)]; exact (Int.natCast_emod h 2).symm
  have HF : Hid (toL es h = if h % 2 = 0 then (at' es (h / 2)).y else (at' es (h / 2)).x) := rfl
  obtain ⟨x, hx⟩ : ∃ x, at' es (h / 2) = x := ⟨_, rfl⟩
  rw [hx] at c0 c1 HF
  have hr2 : h % 2 < 2 := by omega
  have hkl : h / 2 ≤ 100000 := by omega
  obtain ⟨q, hq⟩ : ∃ q, h / 2 = q := ⟨_, rfl⟩
  obtain ⟨r, hre⟩ : ∃ r, h % 2 = r := ⟨_, rfl⟩
  rw [hq] at c0 c1 hd hk hkl
  rw [hre] at hr HF hr2
  have i1 : (q : Int) < es.length := by omega
  have i2 : (0 : Int) ≤ q := by omega
  clear hx hL hq hre
  have h01 : r = 0 ∨ r = 1 := by omega
  rcases h01 with rfl | rfl
  · go_enter Try.func24, Try.ntmps24
    go_wp2
    go_ret
    exact ⟨retI (by rw [HF.out]; simp), by go_grown⟩
  · go_enter Try.func24, Try.ntmps24
    go_wp2
    go_ret
    exact ⟨retI (by rw [HF.out]; simp), by go_grown⟩
/-- So many of a number, as far as they are laid. -/
def fillL (n k : Nat) (x : Int) : List Int := List.replicate k x ++ List.replicate (n - k) 0
theorem fillL_length (n k : Nat) (x : Int) (h : k ≤ n) : (fillL n k x).length = n := by simp [fillL]; omega
theorem fillL_set (n k : Nat) (x : Int) (h : k < n) : (fillL n k x).set k x = fillL n (k + 1) x := by
  unfold fillL
  rw [List.set_append_right _ _ (by simp), List.length_replicate, Nat.sub_self, show n - k = (n - (k + 1)) + 1 by omega, List.replicate_succ, List.set_cons_zero, List.replicate_succ' (n := k), List.append_assoc]
  rfl
set_option maxRecDepth 100000 in
set_option maxHeartbeats 4000000 in
theorem blank41 (n : Nat) (x : Int) (w : World) (hn : n ≤ 100000) : Calls Try.prog 59 #[.int .i64 n, .int .i64 x] w fun e w' => ∃ g, e = .returned (.slice (some ⟨g, 0, none⟩) n n) ∧ IRow w' w.heap.size g n (List.replicate n x) ∧ Below w.heap.size w w' := by
  obtain ⟨i0, hi0, hz0, hz1, hz2⟩ := info_parts info3
  go_enter Try.func59, Try.ntmps59
  go_wp2_with (refine wpList_make_full _ rfl (.tmp 7) (.tmp 7) 27 rfl w.heap.size 3 i0 (.int .i64 0) 1 Try.underlying27 hi0 hz0 hz1 .i64 .i64 _ _ n rfl rfl rfl rfl ?c1 ?c2 ?c3 ?_)
  case c1 => rw [hz2]; omega
  case c2 => unfold maxLen; omega
  case c3 => exact Nat.le_refl _
  intro w2 hown hgrow
  have HR2 := hide (irow_made hown)
  have HB2 := hide (below_made hgrow)
  clear hown hgrow
  go_wp2_with fail
  obtain ⟨g, hg⟩ : ∃ g, w.heap.size = g := ⟨_, rfl⟩
  rw [hg] at HR2 ⊢
  have HK := hide hg
  clear hg
  go_loopw [6] (fun t wr => ∃ i : Nat, i ≤ n ∧ t = .int .i64 i ∧ Hid (Below w.heap.size w wr) ∧ Hid (IRow wr g g n (fillL n i x))) (fun t _ => n - (intOf t).toNat)
  case atStart => exact ⟨0, by omega, rfl, HB2.out, by show IRow _ _ _ _ _; simpa [fillL] using HR2.out⟩
  case round =>
    obtain ⟨i, hi, rfl, HBr, HR⟩ := hrel
    by_cases hlt : i < n
    · obtain ⟨d0, e0⟩ := HR.out.cell hlt
      have i1 : (i : Int) < n := by omega
      have i2 : (0 : Int) ≤ i := by omega
      have hgB : w.heap.size ≤ g := by rw [HK.out]; exact Nat.le_refl _
      go_wp2
      go_roundw
      case rel => exact ⟨i + 1, by omega, by go_num, HBr.out.setCell hgB _, by show IRow _ _ _ _ _; rw [← fillL_set n i x hlt]; exact HR.out.set i x⟩
      case measure => simp [intOf]; omega
    · have hin : i = n := by omega
      have i1 : ¬ (i : Int) < n := by omega
      rw [hin] at HR
      clear hin
      go_wp2
      go_ret
      refine ⟨g, rfl, ?_, HBr.out⟩
      have := HR.out
      rw [show fillL n n x = List.replicate n x by simp [fillL]] at this
      exact this.base (by rw [HK.out]; exact Nat.le_refl _)
end Go.Proofs.Ytllkadgpkbaghaa
