/- Make, name by name. -/
import Derived.Test.YtncnghbkdbhpbaaF4
namespace Go.Proofs.Ytncnghbkdbhpbaa
open Go.RowKit Go.Sort
open Go

set_option maxRecDepth 100000 in
set_option maxHeartbeats 4000000 in
theorem mpath_o (o : Out) (a b seed : Int) (w : World) (hC : ∀ W, Calls Try.prog 29 #[.int .i64 a] W fun e w' => o.made W e w') : Calls Try.prog 9 #[.string ⟨#[112, 97, 116, 104]⟩, .int .i64 a, .int .i64 b, .int .u64 seed] w fun e w' => o.made w e w' := by
  obtain ⟨W, hW⟩ : ∃ W, W = w.alloc (nbx 0 none 0 0) := ⟨_, rfl⟩
  have HB : Hid (Below w.heap.size w W) := by show Below _ _ _; rw [hW]; go_grown
  have HN : Hid (NOwn W w.heap.size 0 none 0 0) := by show NOwn _ _ _ _ _ _; rw [hW]; exact ⟨by unfold nbx; go_cell, by unfold nbx; go_cell, by unfold nbx; go_cell, by unfold nbx; go_cell⟩
  have hlt0 : w.heap.size < W.heap.size := block_lt_of_cell HN.out.1
  have C := hide (hC W)
  clear hC
  go_enter Try.func9, Try.ntmps9
  go_wp2_with fail
  rw [← hW]
  clear hW
  refine C.out.mono ?_
  rintro e w1 ⟨hb1, p, c, rfl, ho⟩
  obtain ⟨V, hV, kV, mV⟩ := finish (n := o.n) hlt0 (HN.out.later hb1) ho (below_step HB.out hb1)
  have HV := hide hV
  have KV := hide kV
  have MV := hide mV
  obtain ⟨r0, r1, r2, r3⟩ := HN.out.later hb1
  clear hV kV mV ho hb1
  go_wp2
  rw [← HV.out]
  exact bodyPost_ret (ret_net Try.results9 rfl rfl KV.out) rfl (MV.out o.err)
set_option maxRecDepth 100000 in
set_option maxHeartbeats 4000000 in
theorem mcycle_o (o : Out) (a b seed : Int) (w : World) (hC : ∀ W, Calls Try.prog 12 #[.int .i64 a] W fun e w' => o.made W e w') : Calls Try.prog 9 #[.string ⟨#[99, 121, 99, 108, 101]⟩, .int .i64 a, .int .i64 b, .int .u64 seed] w fun e w' => o.made w e w' := by
  obtain ⟨W, hW⟩ : ∃ W, W = w.alloc (nbx 0 none 0 0) := ⟨_, rfl⟩
  have HB : Hid (Below w.heap.size w W) := by show Below _ _ _; rw [hW]; go_grown
  have HN : Hid (NOwn W w.heap.size 0 none 0 0) := by show NOwn _ _ _ _ _ _; rw [hW]; exact ⟨by unfold nbx; go_cell, by unfold nbx; go_cell, by unfold nbx; go_cell, by unfold nbx; go_cell⟩
  have hlt0 : w.heap.size < W.heap.size := block_lt_of_cell HN.out.1
  have C := hide (hC W)
  clear hC
  go_enter Try.func9, Try.ntmps9
  go_wp2_with fail
  rw [← hW]
  clear hW
  refine C.out.mono ?_
  rintro e w1 ⟨hb1, p, c, rfl, ho⟩
  obtain ⟨V, hV, kV, mV⟩ := finish (n := o.n) hlt0 (HN.out.later hb1) ho (below_step HB.out hb1)
  have HV := hide hV
  have KV := hide kV
  have MV := hide mV
  obtain ⟨r0, r1, r2, r3⟩ := HN.out.later hb1
  clear hV kV mV ho hb1
  go_wp2
  rw [← HV.out]
  exact bodyPost_ret (ret_net Try.results9 rfl rfl KV.out) rfl (MV.out o.err)
set_option maxRecDepth 100000 in
set_option maxHeartbeats 4000000 in
theorem mcomplete_o (o : Out) (a b seed : Int) (w : World) (hC : ∀ W, Calls Try.prog 15 #[.int .i64 a] W fun e w' => o.made W e w') : Calls Try.prog 9 #[.string ⟨#[99, 111, 109, 112, 108, 101, 116, 101]⟩, .int .i64 a, .int .i64 b, .int .u64 seed] w fun e w' => o.made w e w' := by
  obtain ⟨W, hW⟩ : ∃ W, W = w.alloc (nbx 0 none 0 0) := ⟨_, rfl⟩
  have HB : Hid (Below w.heap.size w W) := by show Below _ _ _; rw [hW]; go_grown
  have HN : Hid (NOwn W w.heap.size 0 none 0 0) := by show NOwn _ _ _ _ _ _; rw [hW]; exact ⟨by unfold nbx; go_cell, by unfold nbx; go_cell, by unfold nbx; go_cell, by unfold nbx; go_cell⟩
  have hlt0 : w.heap.size < W.heap.size := block_lt_of_cell HN.out.1
  have C := hide (hC W)
  clear hC
  go_enter Try.func9, Try.ntmps9
  go_wp2_with fail
  rw [← hW]
  clear hW
  refine C.out.mono ?_
  rintro e w1 ⟨hb1, p, c, rfl, ho⟩
  obtain ⟨V, hV, kV, mV⟩ := finish (n := o.n) hlt0 (HN.out.later hb1) ho (below_step HB.out hb1)
  have HV := hide hV
  have KV := hide kV
  have MV := hide mV
  obtain ⟨r0, r1, r2, r3⟩ := HN.out.later hb1
  clear hV kV mV ho hb1
  go_wp2
  rw [← HV.out]
  exact bodyPost_ret (ret_net Try.results9 rfl rfl KV.out) rfl (MV.out o.err)
set_option maxRecDepth 100000 in
set_option maxHeartbeats 4000000 in
theorem mtwo_o (o : Out) (a b seed : Int) (w : World) (hC : ∀ W, Calls Try.prog 16 #[.int .i64 a, .int .i64 b] W fun e w' => o.made W e w') : Calls Try.prog 9 #[.string ⟨#[116, 119, 111]⟩, .int .i64 a, .int .i64 b, .int .u64 seed] w fun e w' => o.made w e w' := by
  obtain ⟨W, hW⟩ : ∃ W, W = w.alloc (nbx 0 none 0 0) := ⟨_, rfl⟩
  have HB : Hid (Below w.heap.size w W) := by show Below _ _ _; rw [hW]; go_grown
  have HN : Hid (NOwn W w.heap.size 0 none 0 0) := by show NOwn _ _ _ _ _ _; rw [hW]; exact ⟨by unfold nbx; go_cell, by unfold nbx; go_cell, by unfold nbx; go_cell, by unfold nbx; go_cell⟩
  have hlt0 : w.heap.size < W.heap.size := block_lt_of_cell HN.out.1
  have C := hide (hC W)
  clear hC
  go_enter Try.func9, Try.ntmps9
  go_wp2_with fail
  rw [← hW]
  clear hW
  refine C.out.mono ?_
  rintro e w1 ⟨hb1, p, c, rfl, ho⟩
  obtain ⟨V, hV, kV, mV⟩ := finish (n := o.n) hlt0 (HN.out.later hb1) ho (below_step HB.out hb1)
  have HV := hide hV
  have KV := hide kV
  have MV := hide mV
  obtain ⟨r0, r1, r2, r3⟩ := HN.out.later hb1
  clear hV kV mV ho hb1
  go_wp2
  rw [← HV.out]
  exact bodyPost_ret (ret_net Try.results9 rfl rfl KV.out) rfl (MV.out o.err)
set_option maxRecDepth 100000 in
set_option maxHeartbeats 4000000 in
theorem mgrid_o (o : Out) (a b seed : Int) (w : World) (hC : ∀ W, Calls Try.prog 17 #[.int .i64 a, .int .i64 b] W fun e w' => o.made W e w') : Calls Try.prog 9 #[.string ⟨#[103, 114, 105, 100]⟩, .int .i64 a, .int .i64 b, .int .u64 seed] w fun e w' => o.made w e w' := by
  obtain ⟨W, hW⟩ : ∃ W, W = w.alloc (nbx 0 none 0 0) := ⟨_, rfl⟩
  have HB : Hid (Below w.heap.size w W) := by show Below _ _ _; rw [hW]; go_grown
  have HN : Hid (NOwn W w.heap.size 0 none 0 0) := by show NOwn _ _ _ _ _ _; rw [hW]; exact ⟨by unfold nbx; go_cell, by unfold nbx; go_cell, by unfold nbx; go_cell, by unfold nbx; go_cell⟩
  have hlt0 : w.heap.size < W.heap.size := block_lt_of_cell HN.out.1
  have C := hide (hC W)
  clear hC
  go_enter Try.func9, Try.ntmps9
  go_wp2_with fail
  rw [← hW]
  clear hW
  refine C.out.mono ?_
  rintro e w1 ⟨hb1, p, c, rfl, ho⟩
  obtain ⟨V, hV, kV, mV⟩ := finish (n := o.n) hlt0 (HN.out.later hb1) ho (below_step HB.out hb1)
  have HV := hide hV
  have KV := hide kV
  have MV := hide mV
  obtain ⟨r0, r1, r2, r3⟩ := HN.out.later hb1
  clear hV kV mV ho hb1
  go_wp2
  rw [← HV.out]
  exact bodyPost_ret (ret_net Try.results9 rfl rfl KV.out) rfl (MV.out o.err)
set_option maxRecDepth 100000 in
set_option maxHeartbeats 4000000 in
theorem mwheel_o (o : Out) (a b seed : Int) (w : World) (hC : ∀ W, Calls Try.prog 13 #[.int .i64 a] W fun e w' => o.made W e w') : Calls Try.prog 9 #[.string ⟨#[119, 104, 101, 101, 108]⟩, .int .i64 a, .int .i64 b, .int .u64 seed] w fun e w' => o.made w e w' := by
  obtain ⟨W, hW⟩ : ∃ W, W = w.alloc (nbx 0 none 0 0) := ⟨_, rfl⟩
  have HB : Hid (Below w.heap.size w W) := by show Below _ _ _; rw [hW]; go_grown
  have HN : Hid (NOwn W w.heap.size 0 none 0 0) := by show NOwn _ _ _ _ _ _; rw [hW]; exact ⟨by unfold nbx; go_cell, by unfold nbx; go_cell, by unfold nbx; go_cell, by unfold nbx; go_cell⟩
  have hlt0 : w.heap.size < W.heap.size := block_lt_of_cell HN.out.1
  have C := hide (hC W)
  clear hC
  go_enter Try.func9, Try.ntmps9
  go_wp2_with fail
  rw [← hW]
  clear hW
  refine C.out.mono ?_
  rintro e w1 ⟨hb1, p, c, rfl, ho⟩
  obtain ⟨V, hV, kV, mV⟩ := finish (n := o.n) hlt0 (HN.out.later hb1) ho (below_step HB.out hb1)
  have HV := hide hV
  have KV := hide kV
  have MV := hide mV
  obtain ⟨r0, r1, r2, r3⟩ := HN.out.later hb1
  clear hV kV mV ho hb1
  go_wp2
  rw [← HV.out]
  exact bodyPost_ret (ret_net Try.results9 rfl rfl KV.out) rfl (MV.out o.err)
set_option maxRecDepth 100000 in
set_option maxHeartbeats 4000000 in
theorem mprism_o (o : Out) (a b seed : Int) (w : World) (hC : ∀ W, Calls Try.prog 14 #[.int .i64 a] W fun e w' => o.made W e w') : Calls Try.prog 9 #[.string ⟨#[112, 114, 105, 115, 109]⟩, .int .i64 a, .int .i64 b, .int .u64 seed] w fun e w' => o.made w e w' := by
  obtain ⟨W, hW⟩ : ∃ W, W = w.alloc (nbx 0 none 0 0) := ⟨_, rfl⟩
  have HB : Hid (Below w.heap.size w W) := by show Below _ _ _; rw [hW]; go_grown
  have HN : Hid (NOwn W w.heap.size 0 none 0 0) := by show NOwn _ _ _ _ _ _; rw [hW]; exact ⟨by unfold nbx; go_cell, by unfold nbx; go_cell, by unfold nbx; go_cell, by unfold nbx; go_cell⟩
  have hlt0 : w.heap.size < W.heap.size := block_lt_of_cell HN.out.1
  have C := hide (hC W)
  clear hC
  go_enter Try.func9, Try.ntmps9
  go_wp2_with fail
  rw [← hW]
  clear hW
  refine C.out.mono ?_
  rintro e w1 ⟨hb1, p, c, rfl, ho⟩
  obtain ⟨V, hV, kV, mV⟩ := finish (n := o.n) hlt0 (HN.out.later hb1) ho (below_step HB.out hb1)
  have HV := hide hV
  have KV := hide kV
  have MV := hide mV
  obtain ⟨r0, r1, r2, r3⟩ := HN.out.later hb1
  clear hV kV mV ho hb1
  go_wp2
  rw [← HV.out]
  exact bodyPost_ret (ret_net Try.results9 rfl rfl KV.out) rfl (MV.out o.err)
set_option maxRecDepth 100000 in
set_option maxHeartbeats 4000000 in
theorem mbond_o (o : Out) (a b seed : Int) (w : World) (hC : ∀ W, Calls Try.prog 30 #[.int .i64 a] W fun e w' => o.made W e w') : Calls Try.prog 9 #[.string ⟨#[98, 111, 110, 100]⟩, .int .i64 a, .int .i64 b, .int .u64 seed] w fun e w' => o.made w e w' := by
  obtain ⟨W, hW⟩ : ∃ W, W = w.alloc (nbx 0 none 0 0) := ⟨_, rfl⟩
  have HB : Hid (Below w.heap.size w W) := by show Below _ _ _; rw [hW]; go_grown
  have HN : Hid (NOwn W w.heap.size 0 none 0 0) := by show NOwn _ _ _ _ _ _; rw [hW]; exact ⟨by unfold nbx; go_cell, by unfold nbx; go_cell, by unfold nbx; go_cell, by unfold nbx; go_cell⟩
  have hlt0 : w.heap.size < W.heap.size := block_lt_of_cell HN.out.1
  have C := hide (hC W)
  clear hC
  go_enter Try.func9, Try.ntmps9
  go_wp2_with fail
  rw [← hW]
  clear hW
  refine C.out.mono ?_
  rintro e w1 ⟨hb1, p, c, rfl, ho⟩
  obtain ⟨V, hV, kV, mV⟩ := finish (n := o.n) hlt0 (HN.out.later hb1) ho (below_step HB.out hb1)
  have HV := hide hV
  have KV := hide kV
  have MV := hide mV
  obtain ⟨r0, r1, r2, r3⟩ := HN.out.later hb1
  clear hV kV mV ho hb1
  go_wp2
  rw [← HV.out]
  exact bodyPost_ret (ret_net Try.results9 rfl rfl KV.out) rfl (MV.out o.err)
set_option maxRecDepth 100000 in
set_option maxHeartbeats 4000000 in
theorem mrandom_o (o : Out) (a b seed : Int) (w : World) (hC : ∀ W, Calls Try.prog 31 #[.int .i64 a, .int .i64 b, .int .u64 seed] W fun e w' => o.made W e w') : Calls Try.prog 9 #[.string ⟨#[114, 97, 110, 100, 111, 109]⟩, .int .i64 a, .int .i64 b, .int .u64 seed] w fun e w' => o.made w e w' := by
  obtain ⟨W, hW⟩ : ∃ W, W = w.alloc (nbx 0 none 0 0) := ⟨_, rfl⟩
  have HB : Hid (Below w.heap.size w W) := by show Below _ _ _; rw [hW]; go_grown
  have HN : Hid (NOwn W w.heap.size 0 none 0 0) := by show NOwn _ _ _ _ _ _; rw [hW]; exact ⟨by unfold nbx; go_cell, by unfold nbx; go_cell, by unfold nbx; go_cell, by unfold nbx; go_cell⟩
  have hlt0 : w.heap.size < W.heap.size := block_lt_of_cell HN.out.1
  have C := hide (hC W)
  clear hC
  go_enter Try.func9, Try.ntmps9
  go_wp2_with fail
  rw [← hW]
  clear hW
  refine C.out.mono ?_
  rintro e w1 ⟨hb1, p, c, rfl, ho⟩
  obtain ⟨V, hV, kV, mV⟩ := finish (n := o.n) hlt0 (HN.out.later hb1) ho (below_step HB.out hb1)
  have HV := hide hV
  have KV := hide kV
  have MV := hide mV
  obtain ⟨r0, r1, r2, r3⟩ := HN.out.later hb1
  clear hV kV mV ho hb1
  go_wp2
  rw [← HV.out]
  exact bodyPost_ret (ret_net Try.results9 rfl rfl KV.out) rfl (MV.out o.err)
set_option maxRecDepth 100000 in
set_option maxHeartbeats 4000000 in
theorem mstack_o (o : Out) (a b seed : Int) (w : World) (hC : ∀ W, Calls Try.prog 20 #[.int .i64 a, .int .u64 seed] W fun e w' => o.made W e w') : Calls Try.prog 9 #[.string ⟨#[115, 116, 97, 99, 107]⟩, .int .i64 a, .int .i64 b, .int .u64 seed] w fun e w' => o.made w e w' := by
  obtain ⟨W, hW⟩ : ∃ W, W = w.alloc (nbx 0 none 0 0) := ⟨_, rfl⟩
  have HB : Hid (Below w.heap.size w W) := by show Below _ _ _; rw [hW]; go_grown
  have HN : Hid (NOwn W w.heap.size 0 none 0 0) := by show NOwn _ _ _ _ _ _; rw [hW]; exact ⟨by unfold nbx; go_cell, by unfold nbx; go_cell, by unfold nbx; go_cell, by unfold nbx; go_cell⟩
  have hlt0 : w.heap.size < W.heap.size := block_lt_of_cell HN.out.1
  have C := hide (hC W)
  clear hC
  go_enter Try.func9, Try.ntmps9
  go_wp2_with fail
  rw [← hW]
  clear hW
  refine C.out.mono ?_
  rintro e w1 ⟨hb1, p, c, rfl, ho⟩
  obtain ⟨V, hV, kV, mV⟩ := finish (n := o.n) hlt0 (HN.out.later hb1) ho (below_step HB.out hb1)
  have HV := hide hV
  have KV := hide kV
  have MV := hide mV
  obtain ⟨r0, r1, r2, r3⟩ := HN.out.later hb1
  clear hV kV mV ho hb1
  go_wp2
  rw [← HV.out]
  exact bodyPost_ret (ret_net Try.results9 rfl rfl KV.out) rfl (MV.out o.err)
end Go.Proofs.Ytncnghbkdbhpbaa
