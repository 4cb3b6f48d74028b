/- The document's Kind at complete nets and nets of two sides (carried from the maker seat). -/
import Derived.Test.YtaebbfilgfkckaaEM
namespace Go.Proofs.Ytaebbfilgfkckaa
open Go.RowKit Go.Sort
open Go

theorem finish {w wr : World} {B : Nat} {n : Int} {es : List Pt} {p : Option Addr} {c : Nat} (hB : w.heap.size < B) (HN : NOwn wr w.heap.size 0 none 0 0) (HO : Owns wr B (.slice p es.length c) es) (HB : Below w.heap.size w wr) :
    ∃ V, V = (wr.setCell ⟨w.heap.size, 0, none⟩ (.int .i64 n)).setCell ⟨w.heap.size, 1, none⟩ (.slice p es.length c) ∧ NOwn V w.heap.size n p es.length c ∧ ∀ err, Made w n es err (.returned (.tuple #[nv n p es.length c, .int .i64 err])) V :=
  ⟨_, rfl, HN.set _ _ _ _, fun _ => ⟨(HB.setCell (by simp) _).setCell (by simp) _, p, c, rfl, (owns_other (owns_other HO hB _) hB _).base (by omega)⟩⟩
theorem tooF (a : Int) (h : a ≤ 4096) : ∀ k V, V.cell? ⟨k, 0, none⟩ = some (.int .i64 a) → Calls Try.prog 48 #[.slice (some ⟨k, 0, none⟩) 1 1] V fun e w' => e = .returned (.bool false) ∧ w' = V := by
  intro k V hV
  have := too21 k a V hV
  rw [decide_eq_false (show ¬ 4096 < a by omega)] at this
  exact this
set_option maxRecDepth 100000 in
set_option maxHeartbeats 4000000 in
theorem kcomplete_o (o : Out) (a b seed : Int) (w : World) (h1 : 1 ≤ a) (h2 : a ≤ 4096) (hC : ∀ W, Calls Try.prog 51 #[.int .i64 a] W fun e w' => o.made W e w') : Calls Try.prog 30 #[.string ⟨#[99, 111, 109, 112, 108, 101, 116, 101]⟩, .int .i64 a, .int .i64 b, .int .u64 seed] w fun e w' => o.made w e w' := by
  have T := tooF a h2
  obtain ⟨W, hW⟩ : ∃ W, W = (w.alloc (nbx 0 none 0 0)).alloc (.cells #[.int .i64 a] 3) := ⟨_, rfl⟩
  have HB : Hid (Below w.heap.size w W) := by show Below _ _ _; rw [hW]; go_grown
  have HN : Hid (NOwn W w.heap.size 0 none 0 0) := by show NOwn _ _ _ _ _ _; rw [hW]; exact ⟨by unfold nbx; go_cell, by unfold nbx; go_cell, by unfold nbx; go_cell, by unfold nbx; go_cell⟩
  have hlt0 : w.heap.size < W.heap.size := block_lt_of_cell HN.out.1
  have C := hide (hC W)
  clear hC
  go_enter Try.func30, Try.ntmps30
  go_wp2_with (go_at_call 48; (with_reducible refine (T _ _ (by go_cell)).mono ?_); rintro e w' ⟨rfl, hw⟩; have hw := hw.symm; subst hw)
  rw [← hW]
  clear hW
  refine C.out.mono ?_
  rintro e w1 ⟨hb1, p, c, rfl, ho⟩
  obtain ⟨V, hV, kV, mV⟩ := finish (n := o.n) hlt0 (HN.out.later hb1) ho (below_step HB.out hb1)
  have HV := hide hV
  have KV := hide kV
  have MV := hide mV
  obtain ⟨r0, r1, r2, r3⟩ := HN.out.later hb1
  clear hV kV mV ho hb1
  go_wp2
  rw [← HV.out]
  exact bodyPost_ret (ret_net Try.results30 rfl rfl KV.out) rfl (MV.out o.err)
set_option maxRecDepth 100000 in
set_option maxHeartbeats 4000000 in
theorem ktwo_o (o : Out) (a b seed : Int) (w : World) (h1 : 1 ≤ a) (h2 : a ≤ 4096) (h3 : 1 ≤ b) (h4 : b ≤ 4096) (hC : ∀ W, Calls Try.prog 52 #[.int .i64 a, .int .i64 b] W fun e w' => o.made W e w') : Calls Try.prog 30 #[.string ⟨#[116, 119, 111]⟩, .int .i64 a, .int .i64 b, .int .u64 seed] w fun e w' => o.made w e w' := by
  have T := tooF a h2
  have T2 := tooF b h4
  obtain ⟨W, hW⟩ : ∃ W, W = ((w.alloc (nbx 0 none 0 0)).alloc (.cells #[.int .i64 a] 3)).alloc (.cells #[.int .i64 b] 3) := ⟨_, rfl⟩
  have HB : Hid (Below w.heap.size w W) := by show Below _ _ _; rw [hW]; go_grown
  have HN : Hid (NOwn W w.heap.size 0 none 0 0) := by show NOwn _ _ _ _ _ _; rw [hW]; exact ⟨by unfold nbx; go_cell, by unfold nbx; go_cell, by unfold nbx; go_cell, by unfold nbx; go_cell⟩
  have hlt0 : w.heap.size < W.heap.size := block_lt_of_cell HN.out.1
  have C := hide (hC W)
  clear hC
  go_enter Try.func30, Try.ntmps30
  go_wp2_with (first | (go_at_call 48; (with_reducible refine (T _ _ (by go_cell)).mono ?_); rintro e w' ⟨rfl, hw⟩; have hw := hw.symm; subst hw) | (go_at_call 48; (with_reducible refine (T2 _ _ (by go_cell)).mono ?_); rintro e w' ⟨rfl, hw⟩; have hw := hw.symm; subst hw))
  rw [← hW]
  clear hW
  refine C.out.mono ?_
  rintro e w1 ⟨hb1, p, c, rfl, ho⟩
  obtain ⟨V, hV, kV, mV⟩ := finish (n := o.n) hlt0 (HN.out.later hb1) ho (below_step HB.out hb1)
  have HV := hide hV
  have KV := hide kV
  have MV := hide mV
  obtain ⟨r0, r1, r2, r3⟩ := HN.out.later hb1
  clear hV kV mV ho hb1
  go_wp2
  rw [← HV.out]
  exact bodyPost_ret (ret_net Try.results30 rfl rfl KV.out) rfl (MV.out o.err)
end Go.Proofs.Ytaebbfilgfkckaa
