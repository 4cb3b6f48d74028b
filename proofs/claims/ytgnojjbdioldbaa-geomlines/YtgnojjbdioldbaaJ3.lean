/- Two segments apart but for some joints, in every world. -/
import Derived.Test.YtgnojjbdioldbaaJ2
namespace Go.Proofs.Ytgnojjbdioldbaa
open Go.RowKit Go.Sort
open Go

theorem below_stepJ {a b c : World} (h : Below a.heap.size a b) (k : Below b.heap.size b c) : Below a.heap.size a c := Below.trans h (k.mono h.size)
def bothHas (a b c d j : Pt) : Bool := hasB a b j && hasB c d j
set_option maxRecDepth 100000 in
set_option maxHeartbeats 4000000 in
theorem closure67 (k m : Nat) (a b c d j : Pt) (ha : ptB a = true) (hb : ptB b = true) (hc : ptB c = true) (hd : ptB d = true) (hj : ptB j = true) (w : World) (h1 : SegBox w k a b) (h2 : SegBox w m c d) :
    Calls Try.prog 67 #[pv j.x j.y, .pointer (some ⟨k, 0, none⟩), .pointer (some ⟨m, 0, none⟩)] w fun e w' => e = .returned (.bool (bothHas a b c d j)) ∧ Below w.heap.size w w' := by
  obtain ⟨W, hW, hbW, ow⟩ : ∃ W, W = w.alloc (bx j) ∧ Below w.heap.size w W ∧ Own W w.heap.size j := ⟨_, rfl, by go_grown, by unfold Own; exact ⟨by go_cell, by go_cell, by go_cell, by go_cell⟩⟩
  obtain ⟨s0, s1, s2, s3⟩ := h1.later hbW
  have HOW := hide ow
  obtain ⟨q0, q1, _, _⟩ := ow
  have H2 := hide (h2.later hbW)
  have HB := hide hbW
  have A := hide (has34 a b j ha hb hj W)
  have HA : Hid (bothHas a b c d j = (hasB a b j && hasB c d j)) := rfl
  obtain ⟨B, hB⟩ : ∃ B, bothHas a b c d j = B := ⟨_, rfl⟩
  rw [hB] at HA ⊢
  clear hB h1 h2 hbW
  go_enter Try.func67, Try.ntmps67
  go_upto_region 1 with fail
  rw [← hW]
  clear hW
  go_wp2_with fail
  refine A.out.mono ?_
  rintro e w1 ⟨rfl, hb1⟩
  have HB1 := hide (below_stepJ HB.out hb1)
  clear s0 s1 s2 s3 q0 q1
  obtain ⟨s0, s1, s2, s3⟩ := H2.out.later hb1
  obtain ⟨q0, q1, _, _⟩ := HOW.out.later hb1
  have C := hide (has34 c d j hc hd hj w1)
  clear hb1
  cases h3 : hasB a b j
  · go_wp2_with fail
    go_ret
    exact ⟨by rw [HA.out, h3]; rfl, HB1.out⟩
  · go_wp2_with fail
    refine C.out.mono ?_
    rintro e w2 ⟨rfl, hb2⟩
    go_wp2_with fail
    go_ret
    exact ⟨by rw [HA.out, h3]; simp, below_stepJ HB1.out hb2⟩
set_option maxRecDepth 100000 in
set_option maxHeartbeats 4000000 in
theorem index81 (k m : Nat) (a b c d : Pt) (ha : ptB a = true) (hb : ptB b = true) (hc : ptB c = true) (hd : ptB d = true) (p : Option Addr) (js : List Pt) (cap : Nat) (hl : js.length ≤ 4096) (hjs : ∀ i, i < js.length → ptB (at' js i) = true) (w : World) (h1 : SegBox w k a b) (h2 : SegBox w m c d) (h : Has w p js) :
    Calls Try.prog 81 #[.slice p js.length cap, .func (.func 67) #[] #[.pointer (some ⟨k, 0, none⟩), .pointer (some ⟨m, 0, none⟩)]] w fun e w' => ∃ r : Int, e = .returned (.int .i64 r) ∧ (0 ≤ r ↔ ∃ i, i < js.length ∧ bothHas a b c d (at' js i) = true) ∧ Below w.heap.size w w' := by
  have H1 := hide h1
  have H2 := hide h2
  have HH := hide h
  have HJ := hide hjs
  clear h1 h2 h hjs
  go_enter Try.func81, Try.ntmps81
  go_wp2_with fail
  go_loopw [8] (fun t wr => ∃ i : Nat, i ≤ js.length ∧ t = .int .i64 i ∧ Hid (Below w.heap.size w wr) ∧ Hid (∀ x, x < i → bothHas a b c d (at' js x) = false)) (fun t _ => js.length - (intOf t).toNat)
  case atStart => exact ⟨0, by omega, rfl, Below.refl _ _, fun x hx => by omega⟩
  case round =>
    obtain ⟨i, hi, rfl, HB, HF⟩ := hrel
    by_cases hlt : i < js.length
    · rcases HH.out.later HB.out with h | ⟨bb, off, rfl, hL⟩
      · subst h; simp at hlt
      obtain ⟨c0, c1⟩ := hL i hlt
      have CL := hide (closure67 k m a b c d (at' js i) ha hb hc hd (HJ.out i hlt) wr (H1.out.later HB.out) (H2.out.later HB.out))
      obtain ⟨y, hy⟩ : ∃ y, at' js i = y := ⟨_, rfl⟩
      rw [hy] at c0 c1 CL
      obtain ⟨Z, hZ⟩ : ∃ Z, bothHas a b c d y = Z := ⟨_, rfl⟩
      rw [hZ] at CL
      have HY : Hid (bothHas a b c d (at' js i) = Z) := by show _ = _; rw [hy]; exact hZ
      have i1 : (i : Int) < js.length := by omega
      have i2 : (0 : Int) ≤ i := by omega
      clear hL hy hZ
      go_wp2_with fail
      refine CL.out.mono ?_
      rintro e w1 ⟨rfl, hb1⟩
      have HB1 := hide (below_stepJ HB.out hb1)
      clear hb1 c0 c1
      cases Z
      · go_wp2
        go_roundw
        case rel => exact ⟨i + 1, by omega, by go_num, HB1.out, fun x hx => by
          by_cases e : x = i
          · rw [e]; exact HY.out
          · exact HF.out x (by omega)⟩
        case measure => simp [intOf]; omega
      · go_wp2
        go_ret
        exact ⟨i, rfl, ⟨fun _ => ⟨i, hlt, HY.out⟩, fun _ => by omega⟩, HB1.out⟩
    · have hin : i = js.length := by omega
      subst hin
      go_wp2
      go_ret
      exact ⟨-1, rfl, ⟨fun hc => by omega, fun ⟨x, hx, hx2⟩ => by rw [HF.out x hx] at hx2; cases hx2⟩, HB.out⟩
def apartB (a b c d : Pt) (js : List Pt) : Bool := (meetI a b c d == 0) || (!(meetI a b c d == 3) && js.any (bothHas a b c d))
theorem any_at {js : List Pt} {f : Pt → Bool} : js.any f = true ↔ ∃ i, i < js.length ∧ f (at' js i) = true := by
  rw [List.any_eq_true]
  refine ⟨fun ⟨x, hx, h⟩ => ?_, fun ⟨i, hi, h⟩ => ⟨_, at_mem hi, h⟩⟩
  obtain ⟨i, hi, e⟩ := mem_at hx
  exact ⟨i, hi, by rw [e]; exact h⟩
set_option maxRecDepth 100000 in
set_option maxHeartbeats 4000000 in
theorem contains66 (k m : Nat) (a b c d : Pt) (ha : ptB a = true) (hb : ptB b = true) (hc : ptB c = true) (hd : ptB d = true) (p : Option Addr) (js : List Pt) (cap : Nat) (hl : js.length ≤ 4096) (hjs : ∀ i, i < js.length → ptB (at' js i) = true) (w : World) (h1 : SegBox w k a b) (h2 : SegBox w m c d) (h : Has w p js) :
    Calls Try.prog 66 #[.slice p js.length cap, .func (.func 67) #[] #[.pointer (some ⟨k, 0, none⟩), .pointer (some ⟨m, 0, none⟩)]] w fun e w' => e = .returned (.bool (js.any (bothHas a b c d))) ∧ Below w.heap.size w w' := by
  have IX := hide (index81 k m a b c d ha hb hc hd p js cap hl hjs w h1 h2 h)
  have HE := hide (any_at (js := js) (f := bothHas a b c d))
  obtain ⟨R, hR⟩ : ∃ R, js.any (bothHas a b c d) = R := ⟨_, rfl⟩
  rw [hR] at HE ⊢
  clear hR h1 h2 h hjs
  go_enter Try.func66, Try.ntmps66
  go_wp2_with fail
  refine IX.out.mono ?_
  rintro e w1 ⟨r, rfl, hr, hb1⟩
  have HR := hide (hr.trans HE.out.symm)
  clear hr HE
  go_wp2_with fail
  go_ret
  refine ⟨?_, hb1⟩
  cases R
  · have : ¬ (0 : Int) ≤ r := fun k => by cases HR.out.1 k
    simp [this]
  · have : (0 : Int) ≤ r := HR.out.2 rfl
    simp [this]
set_option maxRecDepth 100000 in
set_option maxHeartbeats 4000000 in
theorem apart49 (a b c d : Pt) (ha : ptB a = true) (hb : ptB b = true) (hc : ptB c = true) (hd : ptB d = true) (p : Option Addr) (js : List Pt) (cap : Nat) (hl : js.length ≤ 4096) (hjs : ∀ i, i < js.length → ptB (at' js i) = true) (w : World) (h : Has w p js) :
    Calls Try.prog 49 #[sv a b, sv c d, .slice p js.length cap] w fun e w' => e = .returned (.bool (apartB a b c d js)) ∧ Below w.heap.size w w' := by
  obtain ⟨W, hW, hbW, o1, o2⟩ : ∃ W, W = (w.alloc (.cells #[.int .i64 a.x, .int .i64 a.y, .int .i64 b.x, .int .i64 b.y] 59)).alloc (.cells #[.int .i64 c.x, .int .i64 c.y, .int .i64 d.x, .int .i64 d.y] 59) ∧ Below w.heap.size w W ∧ SegBox W w.heap.size a b ∧ SegBox W (w.heap.size + 1) c d := ⟨_, rfl, by go_grown, ⟨by go_cell, by go_cell, by go_cell, by go_cell⟩, ⟨by go_cell, by go_cell, by go_cell, by go_cell⟩⟩
  have H1 := hide o1
  have H2 := hide o2
  obtain ⟨s0, s1, s2, s3⟩ := o1
  obtain ⟨t0, t1, t2, t3⟩ := o2
  have HB := hide hbW
  have HH := hide (h.later hbW)
  have M := hide (meet32 a b c d ha hb hc hd W)
  have HA : Hid (apartB a b c d js = ((meetI a b c d == 0) || (!(meetI a b c d == 3) && js.any (bothHas a b c d)))) := rfl
  obtain ⟨R, hR⟩ : ∃ R, apartB a b c d js = R := ⟨_, rfl⟩
  obtain ⟨I, hI⟩ : ∃ I, meetI a b c d = I := ⟨_, rfl⟩
  rw [hR, hI] at HA
  rw [hR]
  rw [hI] at M
  clear hR hI h hbW
  go_enter Try.func49, Try.ntmps49
  go_upto_region 1 with fail
  rw [← hW]
  clear hW
  go_wp2_with fail
  refine M.out.mono ?_
  rintro e w1 ⟨rfl, hb1⟩
  have HB1 := hide (below_stepJ HB.out hb1)
  have IX := hide (contains66 w.heap.size (w.heap.size + 1) a b c d ha hb hc hd p js cap hl hjs w1 (H1.out.later hb1) (H2.out.later hb1) (HH.out.later hb1))
  clear hb1 s0 s1 s2 s3 t0 t1 t2 t3 hjs
  by_cases h0 : I = 0
  · have e0 : Hid (R = true) := by show _ = _; rw [HA.out, h0]; rfl
    clear HA
    subst h0
    go_wp2_with fail
    go_ret
    exact ⟨by rw [e0.out]; rfl, HB1.out⟩
  have h0' : (I == 0) = false := by simp [h0]
  by_cases h3 : I = 3
  · have e0 : Hid (R = false) := by show _ = _; rw [HA.out, h3]; rfl
    clear HA h0 h0'
    subst h3
    go_wp2_with fail
    go_ret
    exact ⟨by rw [e0.out]; rfl, HB1.out⟩
  have h3' : (I == 3) = false := by simp [h3]
  have e0 : Hid (R = js.any (bothHas a b c d)) := by show _ = _; rw [HA.out, h0', h3']; rfl
  clear HA
  go_wp2_with fail
  refine IX.out.mono ?_
  rintro e w2 ⟨rfl, hb2⟩
  go_wp2_with fail
  go_ret
  exact ⟨by rw [e0.out]; rfl, below_stepJ HB1.out hb2⟩
end Go.Proofs.Ytgnojjbdioldbaa
