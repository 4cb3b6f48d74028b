/- slices.Repeat of one number; a tour of which nothing is found. -/
import Derived.Test.YtllkadgpkbaghaaC1
import Derived.Test.YtllkadgpkbaghaaB1
import Derived.Deep.RegionHeld3
namespace Go.Proofs.Ytllkadgpkbaghaa
open Go.RowKit Go.Sort
open Go


set_option maxRecDepth 100000 in
set_option maxHeartbeats 8000000 in
theorem repeat52 (k n : Nat) (x : Int) (w : World) (hn : n ≤ 100000) (hk : w.cell? ⟨k, 0, none⟩ = some (.int .i64 x)) : Calls Try.prog 76 #[.slice (some ⟨k, 0, none⟩) 1 1, .int .i64 n] w fun e w' => ∃ g, e = .returned (.slice (some ⟨g, 0, none⟩) n n) ∧ IRow w' w.heap.size g n (List.replicate n x) ∧ Below w.heap.size w w' := by
  obtain ⟨i0, hi0, hz0, hz1, hz2⟩ := info_parts info3
  have M := hide (mul60 n hn w)
  have HK := hide hk
  have i1 : ¬ (n : Int) < 0 := by omega
  have hw : IntKind.u64.wrap (n : Int) = n := by rw [IntKind.wrap_u64]; omega
  have hw2 : IntKind.i64.wrap (n : Int) = n := by rw [IntKind.wrap_i64]; omega
  have i2 : ¬ (9223372036854775807 : Int) < n := by omega
  clear hk
  go_enter Try.func76, Try.ntmps76
  go_wp2_with fail
  refine M.out.mono ?_
  rintro e w0 ⟨rfl, h0⟩
  have h0' := h0.symm
  subst h0'
  clear h0 M
  go_wp2_with (refine wpList_make_full _ rfl (.tmp 29) (.tmp 29) 27 rfl w.heap.size 3 i0 (.int .i64 0) 1 Try.underlying27 hi0 hz0 hz1 .i64 .i64 _ _ n rfl rfl rfl rfl ?c1 ?c2 ?c3 ?_)
  case c1 => rw [hz2]; omega
  case c2 => unfold maxLen; omega
  case c3 => exact Nat.le_refl _
  intro w2 hown hgrow
  have hR2 : IRow w2 w.heap.size w.heap.size n (fillL n 0 x) := by
    have := irow_made hown
    rw [show fillL n 0 x = List.replicate n 0 by simp [fillL]]
    exact this
  have HB2 := hide (below_made hgrow)
  clear hown hgrow
  obtain ⟨g, hg⟩ : ∃ g, w.heap.size = g := ⟨_, rfl⟩
  have HG := hide hg
  rw [hg] at hR2 ⊢
  obtain ⟨W, e1, hR3, hb3⟩ := fill_copy (c := Nat.min 1 (n - 0)) 3 hR2 (by omega) ⟨k, 0, none⟩ 1 1 n rfl (by
    intro j hj
    have : j = 0 := by have h1 : Nat.min 1 (n - 0) ≤ 1 := Nat.min_le_left _ _; omega
    subst this
    exact later HB2.out HK.out)
  rw [Nat.sub_zero, Nat.zero_add] at hR3
  rw [Nat.sub_zero] at e1
  have HB3 : Hid (Below w.heap.size w W) := Below.trans HB2.out (by rw [HG.out]; exact hb3)
  have HR3 := hide hR3
  clear hR2 hR3 hb3 hg
  go_wp2_with (at_builtin; refine wpList_run_copy rfl (.tmp 31) (.tmp 32) 27 rfl 3 rfl _ _ _ W rfl rfl e1 ?_)
  clear e1
  go_wp2_with fail
  go_loopw [8] (fun t wr => ∃ j : Nat, j ≤ n ∧ (n = 0 ∨ 0 < j) ∧ t = .int .i64 j ∧ Hid (IRow wr g g n (fillL n j x)) ∧ Hid (Below w.heap.size w wr)) (fun t _ => n - (intOf t).toNat)
  case atStart => exact ⟨Nat.min 1 n, Nat.min_le_right _ _, by rcases Nat.eq_zero_or_pos n with h | h; exact Or.inl h; right; exact Nat.lt_min.2 ⟨by omega, h⟩, by rfl, HR3.out, HB3.out⟩
  case round =>
    obtain ⟨j, hj, hj0, rfl, HR, HBr⟩ := hrel
    by_cases hlt : j < n
    · have hjp : 0 < j := by omega
      have k1 : (j : Int) < n := by omega
      have k2 : (0 : Int) ≤ j := by omega
      have k3 : (j : Int) ≤ n := by omega
      have k4 : ¬ n = j := by omega
      have k5 : ¬ j = n := by omega
      have hsz : g < wr.heap.size := HR.out.lt.2
      have hRd : IRow wr.drew g g n (fillL n j x) := HR.out.later (below_drew _)
      obtain ⟨W2, e2, hR2, hb2⟩ := fill_copy (c := Nat.min j (n - j)) 3 hRd hj ⟨g, 0, none⟩ j n (n - j) rfl (by
        intro i hi
        have hi2 : i < j := Nat.lt_of_lt_of_le hi (Nat.min_le_left _ _)
        rw [Go.WideShapes.add_plain, Nat.zero_add, (hRd.cell (j := i) (by omega)).1]
        congr 2
        unfold fillL iat
        rw [List.getD_eq_getElem?_getD, List.getElem?_append_left (by simpa using hi2), List.getElem?_replicate, if_pos hi2]
        rfl)
      have hmin : Nat.min j (n - j) ≤ n - j := Nat.min_le_right _ _
      have hmin2 : 0 < Nat.min j (n - j) := Nat.lt_min.2 ⟨hjp, by omega⟩
      obtain ⟨c, hc⟩ : ∃ c, Nat.min j (n - j) = c := ⟨_, rfl⟩
      rw [hc] at e2 hR2 hmin hmin2
      have HRW := hide hR2
      have HBW : Hid (Below w.heap.size w W2) := Below.trans HBr.out (by rw [HG.out]; exact Below.trans (by exact (below_drew wr).mono (Nat.le_of_lt hsz)) hb2)
      have hadd : IntKind.i64.wrap ((j : Int) + c) = (j : Int) + c := by rw [IntKind.wrap_i64]; omega
      clear hRd hb2 hR2 hc
      go_wp2_with fail
      go_region_held3 (fun _ => True) (trivial) (first | (refine step_run_copy (by rfl) (.tmp 41) (.tmp 44) 27 (by rfl) 3 (by rfl) (.slice (some ⟨g, j, none⟩) (n - j) (n - j)) (.slice (some ⟨g, 0, none⟩) j n) (.int .i64 c) W2 (by rfl) (by rfl) ?_ ?_; with_reducible exact e2))
      go_wp2
      go_roundw
      case rel => exact ⟨j + c, by omega, by omega, by go_num, HRW.out, HBW.out⟩
      case measure => simp [intOf]; omega
    · have hjn : j = n := by omega
      have k1 : ¬ (j : Int) < n := by omega
      rw [hjn, show fillL n n x = List.replicate n x by simp [fillL]] at HR
      clear hjn
      go_wp2
      go_ret
      exact ⟨g, rfl, HR.out.base (by rw [HG.out]; exact Nat.le_refl _), HBr.out⟩
end Go.Proofs.Ytllkadgpkbaghaa
