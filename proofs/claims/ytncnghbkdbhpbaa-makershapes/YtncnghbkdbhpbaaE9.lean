/- Draws; Random, in every world. -/
import Derived.Test.YtncnghbkdbhpbaaE2
namespace Go.Proofs.Ytncnghbkdbhpbaa
open Go.RowKit Go.Sort
open Go

def nextS (s : Int) : Int := IntKind.u64.wrap (IntKind.u64.wrap (s * 6364136223846793005) + 1442695040888963407)
def drawS (s : Int) (n : Nat) : Nat := ((s / 8589934592) % n).toNat
theorem nextS_bounds (s : Int) : 0 ≤ nextS s ∧ nextS s < 18446744073709551616 := by
  unfold nextS
  rw [IntKind.wrap_u64]
  omega
theorem drawS_lt (t : Int) (n : Nat) (h0 : 1 ≤ n) : drawS t n < n := by
  unfold drawS
  have := Int.emod_lt_of_pos (t / 8589934592) (show (0 : Int) < n by omega)
  have := Int.emod_nonneg (t / 8589934592) (show (n : Int) ≠ 0 by omega)
  omega
theorem drawS_eq (t : Int) (n : Nat) (ht : 0 ≤ t) (h0 : 1 ≤ n) (hn : n ≤ 4096) : wrap64 ((t / 8589934592).tmod n) = (drawS t n : Int) := by
  have h1 : 0 ≤ t / 8589934592 := by omega
  rw [Int.tmod_eq_emod_of_nonneg h1]
  have a := Int.emod_nonneg (t / 8589934592) (show (n : Int) ≠ 0 by omega)
  have b := Int.emod_lt_of_pos (t / 8589934592) (show (0 : Int) < n by omega)
  unfold drawS
  rw [Int.toNat_of_nonneg a, ← IntWalk.i64_left]
  exact IntWalk.i64_in _ (by omega)
/-- The box of a source: a block of one cell. -/
def SrcBox (w : World) (k : Nat) (s : Int) : Prop := w.heap[k]? = some (.cells #[.int .u64 s] 66 (0, 0))
theorem SrcBox.cell {w : World} {k : Nat} {s : Int} (h : SrcBox w k s) : w.cell? ⟨k, 0, none⟩ = some (.int .u64 s) ∧ w.frozen? ⟨k, 0, none⟩ = false := by
  constructor
  · simp [World.cell?, show w.heap[k]? = _ from h]
  · simp [World.frozen?, show w.heap[k]? = _ from h]
theorem SrcBox.keeps {w w' : World} {k : Nat} {s : Int} (h : SrcBox w k s) (hk : Keeps w w') : SrcBox w' k s := hk _ _ _ _ h (by decide) (by decide)
theorem SrcBox.later {w w' : World} {k : Nat} {s : Int} (h : SrcBox w k s) (hb : Below w.heap.size w w') : SrcBox w' k s := h.keeps (Keeps.below hb)
theorem SrcBox.set {w : World} {k : Nat} {s : Int} (h : SrcBox w k s) (t : Int) : SrcBox (w.setCell ⟨k, 0, none⟩ (.int .u64 t)) k t := one_setCell h
set_option maxRecDepth 100000 in
set_option maxHeartbeats 4000000 in
theorem draw44 (k n : Nat) (s : Int) (w : World) (h : SrcBox w k s) (h0 : 1 ≤ n) (h1 : n ≤ 4096) : Calls Try.prog 44 #[.pointer (some ⟨k, 0, none⟩), .int .i64 n] w fun e w' => e = .returned (.int .i64 (drawS (nextS s) n)) ∧ w' = w.setCell ⟨k, 0, none⟩ (.int .u64 (nextS s)) := by
  obtain ⟨q0, q1⟩ := h.cell
  have HT : Hid (nextS s = IntKind.u64.wrap (IntKind.u64.wrap (s * 6364136223846793005) + 1442695040888963407)) := rfl
  have HTB := hide (nextS_bounds s)
  go_enter Try.func44, Try.ntmps44
  go_wp2
  go_ret
  exact ⟨retI (drawS_eq _ n (nextS_bounds s).1 h0 h1), rfl⟩
theorem SrcBox.apart {w : World} {k : Nat} {s : Int} {base e size n : Nat} {v : Value} {xs : List Value} (h : SrcBox w k s) (o : w.ownsRow base e size v n xs) (he : e ≠ 66) : v.ownBlock ≠ some k := by
  intro hc
  obtain ⟨_, ⟨k1, _⟩ | ⟨g2, c2, cur2, k1, _, k2, _⟩⟩ := o
  · rw [k1] at hc; simp [Value.ownBlock] at hc
  · rw [k1] at hc
    simp only [Value.ownBlock, Option.some.injEq] at hc
    rw [hc, show w.heap[k]? = _ from h] at k2
    cases k2
    exact he rfl
theorem GB.src {w : World} {k B sb : Nat} {n s : Int} {es : List Pt} (h : GB w k B n es) (hs : SrcBox w sb s) (v : Value) : GB (w.setCell ⟨sb, 0, none⟩ v) k B n es := by
  obtain ⟨h0, p, c, h1, h2⟩ := h
  exact ⟨h0, p, c, ownsRow_setCell_other (a := ⟨sb, 0, none⟩) h1 (hs.apart h1 (by decide)) v, ownsRow_setCell_other (a := ⟨sb, 0, none⟩) h2 (hs.apart h2 (by decide)) v⟩
def rndSt (seed : Int) : Nat → Int
  | 0 => seed
  | i + 1 => nextS (nextS (rndSt seed i))
def rndL (n : Nat) (seed : Int) : Nat → List Pt
  | 0 => []
  | i + 1 => rndL n seed i ++ [⟨drawS (nextS (rndSt seed i)) n, drawS (nextS (nextS (rndSt seed i))) n⟩]
theorem rndL_length (n : Nat) (seed : Int) (i : Nat) : (rndL n seed i).length = i := by
  induction i with
  | zero => rfl
  | succ k ih => simp [rndL, ih]
set_option maxRecDepth 100000 in
set_option maxHeartbeats 4000000 in
theorem random31a (n m seed : Int) (w : World) (h : n < 1) : Calls Try.prog 31 #[.int .i64 n, .int .i64 m, .int .u64 seed] w fun e w' => Made w 0 [] 1 e w' := by
  go_enter Try.func31, Try.ntmps31
  go_wp2
  refine bodyPost_ret (ret_net Try.results31 rfl rfl ?kk1) rfl ⟨?bb1, none, 0, rfl, Owns.nil _ _⟩
  · exact ⟨by go_cell, by go_cell, by go_cell, by go_cell⟩
  · go_grown
set_option maxRecDepth 100000 in
set_option maxHeartbeats 4000000 in
theorem random31b (n m seed : Int) (w : World) (h0 : 1 ≤ n) (h : m < 0) : Calls Try.prog 31 #[.int .i64 n, .int .i64 m, .int .u64 seed] w fun e w' => Made w 0 [] 1 e w' := by
  go_enter Try.func31, Try.ntmps31
  go_wp2
  refine bodyPost_ret (ret_net Try.results31 rfl rfl ?kk1) rfl ⟨?bb1, none, 0, rfl, Owns.nil _ _⟩
  · exact ⟨by go_cell, by go_cell, by go_cell, by go_cell⟩
  · go_grown
set_option maxRecDepth 100000 in
set_option maxHeartbeats 4000000 in
theorem random31c (n m seed : Int) (w : World) (h0 : 1 ≤ n) (h1 : 0 ≤ m) (h : fitsB n m = false) : Calls Try.prog 31 #[.int .i64 n, .int .i64 m, .int .u64 seed] w fun e w' => Made w 0 [] 3 e w' := by
  have F := mfits36 n m
  rw [h] at F
  clear h
  go_enter Try.func31, Try.ntmps31
  go_wp2_with (go_at_call 36; with_reducible refine (F _).mono ?_; rintro e w' ⟨rfl, hw⟩; have hw := hw.symm; subst hw)
  refine bodyPost_ret (ret_net Try.results31 rfl rfl ?kk1) rfl ⟨?bb1, none, 0, rfl, Owns.nil _ _⟩
  · exact ⟨by go_cell, by go_cell, by go_cell, by go_cell⟩
  · go_grown
set_option maxRecDepth 100000 in
set_option maxHeartbeats 4000000 in
theorem random31ok (n m : Nat) (seed : Int) (w : World) (h0 : 1 ≤ n) (h1 : n ≤ 1024) (h2 : m ≤ 3072) : Calls Try.prog 31 #[.int .i64 n, .int .i64 m, .int .u64 seed] w fun e w' => Made w n (rndL n seed m) 0 e w' := by
  have F := mfits36 n m
  rw [show fitsB n m = true by simp [fitsB]; omega] at F
  obtain ⟨W, hW, hb, hN, hsz⟩ := one_box w
  obtain ⟨X, hX⟩ : ∃ X, X = (w.alloc (nbx 0 none 0 0)).alloc (.cells #[.int .u64 seed] 66) := ⟨_, rfl⟩
  have hXW : X = W.alloc (.cells #[.int .u64 seed] 66) := by rw [hX, hW]
  have hbX : Below W.heap.size W X := by rw [hXW]; go_grown
  have HSX : Hid (SrcBox X (w.heap.size + 1) seed) := by
    show _ = _
    rw [hX]
    exact heap_alloc2_new _ _ _
  have R := hide (room37 n m X (by omega))
  have HB := hide hb
  have HN := hide hN
  have HSZ := hide hsz
  have HBX := hide hbX
  clear hb hN hsz hW hbX hXW
  go_enter Try.func31, Try.ntmps31
  go_wp2_with (go_at_call 36; with_reducible refine (F _).mono ?_; rintro e w' ⟨rfl, hw⟩; have hw := hw.symm; subst hw)
  rw [← hX]
  clear hX
  refine R.out.mono ?_
  rintro e w1 ⟨kk, rfl, ho, hb1⟩
  obtain ⟨U, hU⟩ : ∃ U, U = w1.alloc (.cells #[.int .i64 n, .slice (some ⟨kk, 0, none⟩) 0 m] 28) := ⟨_, rfl⟩
  have hbU : Below X.heap.size X U := by rw [hU]; exact hb1.alloc hb1.size _
  have HG : Hid (GB U w1.heap.size W.heap.size n []) := by show GB _ _ _ _ _; rw [hU]; exact GB.made (Nat.le_trans HBX.out.size hb1.size) (ho.base HBX.out.size)
  have HBU : Hid (Below W.heap.size W U) := below_step HBX.out hbU
  have HSU := hide (HSX.out.later hbU)
  clear ho hb1 hbU
  go_wp2_with fail
  rw [← hU]
  obtain ⟨k, hk⟩ : ∃ k, w1.heap.size = k := ⟨_, rfl⟩
  rw [hk] at HG ⊢
  obtain ⟨sb, hsb⟩ : ∃ sb, w.heap.size + 1 = sb := ⟨_, rfl⟩
  rw [hsb] at HSU HSZ ⊢
  have HSB := hide hsb
  clear hU hk hsb HSX
  go_loopw [29] (fun t wr => ∃ i : Nat, i ≤ m ∧ t = .int .i64 i ∧ Hid (Below W.heap.size W wr) ∧ Hid (GB wr k W.heap.size n (rndL n seed i)) ∧ Hid (SrcBox wr sb (rndSt seed i))) (fun t _ => m - (intOf t).toNat)
  case atStart => exact ⟨0, by omega, rfl, HBU.out, HG.out, HSU.out⟩
  case round =>
    obtain ⟨i, hi, rfl, HBr, HGr, HSr⟩ := hrel
    by_cases hlt : i < m
    · obtain ⟨st, hst⟩ : ∃ st, rndSt seed i = st := ⟨_, rfl⟩
      have HE1 : Hid (rndSt seed (i + 1) = nextS (nextS st)) := by show _ = _; rw [← hst]; rfl
      have HE2 : Hid (rndL n seed (i + 1) = rndL n seed i ++ [⟨drawS (nextS st) n, drawS (nextS (nextS st)) n⟩]) := by show _ = _; rw [← hst]; rfl
      rw [hst] at HSr
      clear hst
      have D := hide (draw44 sb n st wr HSr.out h0 (by omega))
      go_wp2_with fail
      refine D.out.mono ?_
      rintro e X1 ⟨rfl, hX1⟩
      have HS1 : Hid (SrcBox X1 sb (nextS st)) := by show SrcBox _ _ _; rw [hX1]; exact HSr.out.set _
      have HG1 : Hid (GB X1 k W.heap.size n (rndL n seed i)) := by show GB _ _ _ _ _; rw [hX1]; exact HGr.out.src HSr.out _
      have HB1 : Hid (Below W.heap.size W X1) := by show Below _ _ _; rw [hX1]; exact HBr.out.setCell (by rw [HSZ.out]; exact Nat.le_refl _) _
      clear hX1 D
      have D := hide (draw44 sb n (nextS st) X1 HS1.out h0 (by omega))
      obtain ⟨d1, hd1⟩ : ∃ d1, drawS (nextS st) n = d1 := ⟨_, rfl⟩
      rw [hd1] at HE2 ⊢
      clear hd1
      go_wp2_with fail
      refine D.out.mono ?_
      rintro e X2 ⟨rfl, hX2⟩
      have HS2 : Hid (SrcBox X2 sb (nextS (nextS st))) := by show SrcBox _ _ _; rw [hX2]; exact HS1.out.set _
      have HG2 : Hid (GB X2 k W.heap.size n (rndL n seed i)) := by show GB _ _ _ _ _; rw [hX2]; exact HG1.out.src HS1.out _
      have HB2 : Hid (Below W.heap.size W X2) := by show Below _ _ _; rw [hX2]; exact HB1.out.setCell (by rw [HSZ.out]; exact Nat.le_refl _) _
      clear hX2 D
      obtain ⟨d2, hd2⟩ : ∃ d2, drawS (nextS (nextS st)) n = d2 := ⟨_, rfl⟩
      rw [hd2] at HE2 ⊢
      clear hd2
      have C := hide (tie33 k W.heap.size n d1 d2 (rndL n seed i) X2 HG2.out (by rw [rndL_length]; omega))
      go_wp2_with (go_at_call 33; refine C.out.mono ?_; rintro e X3 ⟨rfl, hg, hb2, hk⟩; have HG3 := hide hg; have HB3 := hide hb2; have HK3 := hide hk; clear hg hb2 hk)
      go_roundw
      case rel => exact ⟨i + 1, by omega, by go_num, Below.trans HB2.out HB3.out, by show GB _ _ _ _ _; rw [HE2.out]; exact HG3.out, by show SrcBox _ _ _; rw [HE1.out]; exact HS2.out.keeps HK3.out⟩
      case measure => simp [intOf]; omega
    · have hin : i = m := by omega
      subst hin
      obtain ⟨_, p, c, hS, hO⟩ := HGr.out
      obtain ⟨q0, q1, _, _⟩ := hS.cell
      obtain ⟨r0, r1, r2, r3⟩ := HN.out.later HBr.out
      have hlt2 : w.heap.size < W.heap.size := by rw [HSZ.out, ← HSB.out]; omega
      obtain ⟨V, hV, kV, mV⟩ := finish (n := n) hlt2 (HN.out.later HBr.out) hO (below_step HB.out HBr.out)
      have HV := hide hV
      have KV := hide kV
      have MV := hide mV
      clear hV kV mV hS hO
      go_wp2
      rw [← HV.out]
      exact bodyPost_ret (ret_net Try.results31 rfl rfl KV.out) rfl (MV.out 0)
def randomO (n m seed : Int) : Out := if n < 1 ∨ m < 0 then ⟨0, [], 1⟩ else if 1024 < n ∨ 3072 < m then ⟨0, [], 3⟩ else ⟨n, rndL n.toNat seed m.toNat, 0⟩
theorem random31 (n m seed : Int) (w : World) : Calls Try.prog 31 #[.int .i64 n, .int .i64 m, .int .u64 seed] w fun e w' => (randomO n m seed).made w e w' := by
  unfold randomO Out.made
  by_cases h1 : n < 1
  · rw [if_pos (Or.inl h1)]; exact random31a n m seed w h1
  by_cases h2 : m < 0
  · rw [if_pos (Or.inr h2)]; exact random31b n m seed w (by omega) h2
  rw [if_neg (by omega)]
  by_cases h3 : 1024 < n ∨ 3072 < m
  · rw [if_pos h3]; exact random31c n m seed w (by omega) (by omega) (by simp [fitsB]; omega)
  · rw [if_neg h3]
    obtain ⟨x, rfl⟩ : ∃ x : Nat, n = x := ⟨n.toNat, by omega⟩
    obtain ⟨y, rfl⟩ : ∃ y : Nat, m = y := ⟨m.toNat, by omega⟩
    exact random31ok x y seed w (by omega) (by omega) (by omega)
end Go.Proofs.Ytncnghbkdbhpbaa
