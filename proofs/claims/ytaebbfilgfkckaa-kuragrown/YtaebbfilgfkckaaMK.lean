/- Complete nets and nets of two sides (carried from the maker seat). -/
import Derived.Test.YtaebbfilgfkckaaEN
namespace Go.Proofs.Ytaebbfilgfkckaa
open Go.RowKit Go.Sort
open Go

def SBox (w : World) (k : Nat) (n : Int) (v : Value) : Prop := w.ownsRow 0 24 2 (.slice (some ⟨k, 0, none⟩) 1 1) 1 [.int .i64 n, v]
theorem SBox.made (w : World) (n : Int) (v : Value) : SBox (w.alloc (.cells #[.int .i64 n, v] 24)) w.heap.size n v :=
  World.ownsRow_lit w #[.int .i64 n, v] 1 (Nat.zero_le _) (by unfold maxLen; omega) rfl
theorem SBox.cell {w : World} {k : Nat} {n : Int} {v : Value} (h : SBox w k n v) : w.cell? ⟨k, 0, none⟩ = some (.int .i64 n) ∧ w.cell? ⟨k, 1, none⟩ = some v ∧ w.frozen? ⟨k, 0, none⟩ = false ∧ w.frozen? ⟨k, 1, none⟩ = false :=
  ⟨World.ownsRow.cellAt h 0 (by omega), World.ownsRow.cellAt h 1 (by omega), World.ownsRow.frozenAt h 0, World.ownsRow.frozenAt h 1⟩
theorem SBox.set {w : World} {k : Nat} {n : Int} {v : Value} (h : SBox w k n v) (u : Value) : SBox (w.setCell ⟨k, 1, none⟩ u) k n u := (World.ownsRow.stored h 1 u).1
theorem SBox.block {w : World} {k : Nat} {n : Int} {v : Value} (h : SBox w k n v) : ∃ cur, w.heap[k]? = some (.cells cur 24 (0, 0)) := by
  obtain ⟨_, ⟨h1, _⟩ | ⟨g1, c1, cur1, h1, _, h2, _⟩⟩ := h
  · cases h1
  simp only [Value.slice.injEq, Option.some.injEq, Addr.mk.injEq] at h1
  rw [h1.1.1]
  exact ⟨_, h2⟩
theorem SBox.apart {w : World} {k B : Nat} {n : Int} {v u : Value} {ps : List Pt} (h : SBox w k n v) (o : Owns w B u ps) : u.ownBlock ≠ some k := by
  intro hc
  obtain ⟨cur, hk⟩ := h.block
  obtain ⟨_, ⟨k1, _⟩ | ⟨g2, c2, cur2, k1, _, k2, _⟩⟩ := o
  · rw [k1] at hc; simp [Value.ownBlock] at hc
  · rw [k1] at hc
    simp only [Value.ownBlock, Option.some.injEq] at hc
    rw [hc, hk] at k2
    cases k2
/-- A net in its box: its number, its edges in memory of its own. -/
def GB (w : World) (k B : Nat) (n : Int) (es : List Pt) : Prop := B ≤ k ∧ ∃ p c, SBox w k n (.slice p es.length c) ∧ Owns w B (.slice p es.length c) es
/-- Blocks of other types than a net's box and its edges stay. -/
def Keeps (w w' : World) : Prop := ∀ (k : Nat) (o : Array Value) (fz : Nat × Nat) (ty : TypeId), w.heap[k]? = some (.cells o ty fz) → ty ≠ 24 → ty ≠ 57 → w'.heap[k]? = some (.cells o ty fz)
theorem Keeps.trans {a b c : World} (h : Keeps a b) (k : Keeps b c) : Keeps a c := fun i o fz ty h1 h2 h3 => k i o fz ty (h i o fz ty h1 h2 h3) h2 h3
theorem Keeps.below {a b : World} (h : Below a.heap.size a b) : Keeps a b := fun i o fz ty h1 _ _ => by
  rw [h.block i (Array.getElem?_eq_some_iff.1 h1).1]; exact h1
theorem Keeps.row {w w' : World} {base e size n : Nat} {v : Value} {xs : List Value} (h : Keeps w w') (o : w.ownsRow base e size v n xs) (h1 : e ≠ 24) (h2 : e ≠ 57) : w'.ownsRow base e size v n xs := by
  obtain ⟨k0, k1 | ⟨g, c, cur, e1, e2, e3, e4⟩⟩ := o
  · exact ⟨k0, Or.inl k1⟩
  · exact ⟨k0, Or.inr ⟨g, c, cur, e1, e2, h _ _ _ _ e3 h1 h2, e4⟩⟩
theorem GB.lt {w : World} {k B : Nat} {n : Int} {es : List Pt} (h : GB w k B n es) : k < w.heap.size := by
  obtain ⟨_, p, c, h, _⟩ := h
  exact block_lt_of_cell h.cell.1
theorem GB.later {w w' : World} {k B : Nat} {n : Int} {es : List Pt} (h : GB w k B n es) (hb : Below w.heap.size w w') : GB w' k B n es := by
  obtain ⟨h0, p, c, h1, h2⟩ := h
  exact ⟨h0, p, c, World.ownsRow.kept h1 (grown_below hb) (Or.inr (by simp [Value.ownBlock])), h2.later hb⟩
theorem GB.made {w : World} {B : Nat} {n : Int} {es : List Pt} {p : Option Addr} {c : Nat} (hB : B ≤ w.heap.size) (h : Owns w B (.slice p es.length c) es) : GB (w.alloc (.cells #[.int .i64 n, .slice p es.length c] 24)) w.heap.size B n es :=
  ⟨hB, p, c, SBox.made _ _ _, h.later (by go_grown)⟩
theorem keeps_grown {w w' : World} {B : Nat} {v : Value} {es : List Pt} (o : Owns w B v es) (h : w.grownBy w' v.ownBlock) : Keeps w w' := by
  intro k oo fz ty h1 h2 h3
  rw [h.block k (Array.getElem?_eq_some_iff.1 h1).1 ?_]
  · exact h1
  intro hc
  obtain ⟨_, ⟨k1, _⟩ | ⟨g2, c2, cur2, k1, _, k2, _⟩⟩ := o
  · rw [k1] at hc; simp [Value.ownBlock] at hc
  · rw [k1] at hc
    simp only [Value.ownBlock, Option.some.injEq] at hc
    rw [← hc, h1] at k2
    cases k2
    exact h3 rfl
theorem keeps_set {w : World} {k i : Nat} {u : Value} {n : Int} {v : Value} (h : SBox w k n v) : Keeps w (w.setCell ⟨k, i, none⟩ u) := by
  intro j oo fz ty h1 h2 h3
  obtain ⟨cur, hk⟩ := h.block
  by_cases hj : j = k
  · subst hj
    rw [hk] at h1
    cases h1
    exact absurd rfl h2
  · rw [← h1]
    exact Below.heap_setCell _ _ _ _ (by exact hj)
theorem info48 : (Try.prog.info? 57).map (fun i => (i.zero, i.size, i.bytes)) = some (some (.agg #[.int .i64 0, .int .i64 0]), 2, 16) := by kernel_rfl
set_option maxRecDepth 100000 in
set_option maxHeartbeats 4000000 in
theorem tie33 (k B : Nat) (n u v : Int) (es : List Pt) (w : World) (h : GB w k B n es) (hl : es.length ≤ 90000) : Calls Try.prog 46 #[.pointer (some ⟨k, 0, none⟩), .int .i64 u, .int .i64 v] w fun e w' => e = .returned (.tuple #[]) ∧ GB w' k B n (es ++ [⟨u, v⟩]) ∧ Below B w w' ∧ Keeps w w' := by
  obtain ⟨h0, p, c, hS, hO⟩ := h
  have hk : k < w.heap.size := block_lt_of_cell hS.cell.1
  have hne : k ≠ w.heap.size := by omega
  obtain ⟨i0, hi0, hz0, hz1, hz2⟩ := info_parts info48
  obtain ⟨q0, q1, q2, q3⟩ := hS.cell
  have HS := hide hS
  have HO := hide hO
  have hOW : w.ownsRow B 57 2 (.slice p es.length c) es.length (cells es) := hO
  clear hS hO
  go_enter Try.func46, Try.ntmps46
  go_wp2_with (at_builtin; refine wpList_append_own _ rfl _ _ 22 rfl B 57 i0 (.agg #[.int .i64 0, .int .i64 0]) 2 16 Try.underlying22 hi0 hz0 hz1 hz2 rfl (by decide) _ _ _ rfl (World.ownsRow.alloc hOW _) ⟨w.heap.size, 0, none⟩ 1 1 [.int .i64 u, .int .i64 v] rfl rfl ?d1 ?d2 ?d3 ?d4 ?d5 ?_)
  case d1 =>
    intro j u hj
    match j, hj with
    | 0, hj => simp at hj; subst hj; simp [Addr.add]
    | 1, hj => simp at hj; subst hj; simp [Addr.add]
  case d2 => intro u hu; simp at hu; rcases hu with rfl | rfl <;> rfl
  case d3 => unfold maxLen; omega
  case d4 => omega
  case d5 => simp; omega
  intro v' w5 hown' hgrow _
  have ho := hide (owns_more (p := ⟨u, v⟩) hown')
  have hbg : Below B w w5 := below_grown (w := (w.alloc (bx ⟨u, v⟩))) (by go_grown) (World.ownsRow.alloc hOW _) (Nat.le_refl _) (by simp; omega) hgrow
  have hkg : Keeps w w5 := Keeps.trans (Keeps.below (b := w.alloc (bx ⟨u, v⟩)) (by go_grown)) (keeps_grown (World.ownsRow.alloc hOW _) hgrow)
  have hS5 : SBox w5 k n (.slice p es.length c) := World.ownsRow.kept (World.ownsRow.alloc HS.out _) hgrow (Or.inr fun hc => (SBox.apart (w := w.alloc (bx ⟨u, v⟩)) (World.ownsRow.alloc HS.out _) (World.ownsRow.alloc hOW _)) hc.symm)
  have HK := hide hkg
  have HS5 := hide hS5
  have HB := hide hbg
  obtain ⟨p', c', hv', _, _, _, _⟩ := ho.out.form
  subst hv'
  clear q0 q1 q2 q3 hown' hgrow hOW hS5 hkg hbg
  obtain ⟨q0, q1, q2, q3⟩ := HS5.out.cell
  go_wp2
  go_end0
  refine ⟨rfl, ⟨h0, p', c', ?_, ?_⟩, ?_, ?_⟩
  · rw [show (es ++ [(⟨u, v⟩ : Pt)]).length = es.length + 1 by simp]; exact HS5.out.set _
  · have := ownsRow_setCell_other (a := ⟨k, 1, none⟩) ho.out (HS5.out.apart ho.out) (.slice p' (es.length + 1) c'); exact this
  · exact HB.out.setCell h0 _
  · exact HK.out.trans (keeps_set HS5.out)
def hugeB (n : Int) : Bool := decide (1024 < n)
theorem huge35 (n : Int) (w : World) : Calls Try.prog 43 #[.int .i64 n] w fun e w' => e = .returned (.bool (hugeB n)) ∧ w' = w := by
  go_enter Try.func43, Try.ntmps43
  go_wp2
  go_ret
  exact ⟨retB (by simp [hugeB]), rfl⟩
theorem mfits36 (a b : Int) (w : World) : Calls Try.prog 44 #[.int .i64 a, .int .i64 b] w fun e w' => e = .returned (.bool (fitsB a b)) ∧ w' = w := by
  go_enter Try.func44, Try.ntmps44
  go_wp2
  all_goals go_ret
  all_goals exact ⟨retB (by simp [fitsB]; omega), rfl⟩
set_option maxHeartbeats 1000000 in
theorem room37 (n : Int) (m : Nat) (w : World) (hm : m ≤ 90000) : Calls Try.prog 45 #[.int .i64 n, .int .i64 m] w fun e w' => ∃ k, e = .returned (nv n (some ⟨k, 0, none⟩) 0 m) ∧ Owns w' w.heap.size (.slice (some ⟨k, 0, none⟩) 0 m) [] ∧ Below w.heap.size w w' := by
  obtain ⟨i0, hi0, hz0, hz1, hz2⟩ := info_parts info48
  obtain ⟨W, hW⟩ : ∃ W, W = w.alloc (nbx 0 none 0 0) := ⟨_, rfl⟩
  have hN : NOwn W w.heap.size 0 none 0 0 := by rw [hW]; exact ⟨by unfold nbx; go_cell, by unfold nbx; go_cell, by unfold nbx; go_cell, by unfold nbx; go_cell⟩
  have hb : Below w.heap.size w W := by rw [hW]; go_grown
  have HN := hide hN
  have HB := hide hb
  clear hN hb
  have hlt : w.heap.size < W.heap.size := block_lt_of_cell HN.out.1
  go_enter Try.func45, Try.ntmps45
  go_wp2_with (refine wpList_make_own _ rfl (.const (.int .i64 0)) (.tmp 6) 22 rfl (w.alloc (nbx 0 none 0 0)).heap.size 57 i0 (.agg #[.int .i64 0, .int .i64 0]) 2 Try.underlying22 hi0 hz0 hz1 .i64 .i64 _ m rfl rfl rfl ?c1 ?c2 ?c3 ?_)
  case c1 => rw [hz2]; omega
  case c2 => unfold maxLen; omega
  case c3 => exact Nat.le_refl _
  intro w3 hown hgrow
  have hgrow' : W.grownBy w3 none := by rw [hW]; exact hgrow
  have hb3 := below_made hgrow'
  have HO : Hid (Owns w3 (w.heap.size + 1) (.slice (some ⟨w.heap.size + 1, 0, none⟩) 0 m) []) := hown
  have HN3 := hide (HN.out.later hb3)
  have HB3 := hide (below_step HB.out hb3)
  clear hown hgrow hgrow' hb3 hW
  obtain ⟨r0, r1, r2, r3⟩ := HN3.out
  go_wp2
  obtain ⟨V, hV⟩ : ∃ V, V = (w3.setCell ⟨w.heap.size, 0, none⟩ (.int .i64 n)).setCell ⟨w.heap.size, 1, none⟩ (.slice (some ⟨w.heap.size + 1, 0, none⟩) 0 m) := ⟨_, rfl⟩
  have kV : NOwn V w.heap.size n (some ⟨w.heap.size + 1, 0, none⟩) 0 m := by rw [hV]; exact HN3.out.set _ _ _ _
  have bV : Below w.heap.size w V := by rw [hV]; exact (HB3.out.setCell (by simp) _).setCell (by simp) _
  have oV : Owns V w.heap.size (.slice (some ⟨w.heap.size + 1, 0, none⟩) 0 m) [] := by rw [hV]; exact (owns_other (owns_other HO.out (by omega) _) (by omega) _).base (by omega)
  rw [← hV]
  exact bodyPost_ret (ret_net1 Try.results45 rfl kV) rfl ⟨_, rfl, oV, bV⟩
set_option maxRecDepth 100000 in
set_option maxHeartbeats 4000000 in
theorem full15ok (n : Nat) (m : Nat) (w : World) (h1 : 1 ≤ n) (h2 : n ≤ 78) (hm : (n : Int) * (n - 1) = 2 * m) (hm2 : m ≤ 3072) : Calls Try.prog 26 #[.int .i64 n] w fun e w' => Made w n (fullL n n) 0 e w' := by
  have F := huge35 n
  rw [show hugeB n = false by simp [hugeB]; omega] at F
  have G := mfits36 n m
  rw [show fitsB n m = true by simp [fitsB]; omega] at G
  have hq : Int.tdiv ((n : Int) * (n - 1)) 2 = m := by rw [hm, Int.mul_comm]; exact Int.mul_tdiv_cancel _ (by omega)
  have b1 : (n : Int) * (n - 1) ≤ 1200000 := by omega
  have b2 : 0 ≤ (n : Int) * (n - 1) := by omega
  have HM := hide hm
  clear hm
  obtain ⟨W, hW, hb, hN, hsz⟩ := one_box w
  have R := hide (room37 n m W (by omega))
  have HB := hide hb
  have HN := hide hN
  have HSZ := hide hsz
  clear hb hN hsz
  go_enter Try.func26, Try.ntmps26
  go_wp2_with (first | (go_at_call 43; refine (F _).mono ?_; rintro e w' ⟨rfl, hw⟩; have hw := hw.symm; subst hw) | (go_at_call 44; refine (G _).mono ?_; rintro e w' ⟨rfl, hw⟩; have hw := hw.symm; subst hw))
  rw [← hW]
  clear hW
  refine R.out.mono ?_
  rintro e w1 ⟨kk, rfl, ho, hb1⟩
  obtain ⟨U, hU⟩ : ∃ U, U = w1.alloc (.cells #[.int .i64 n, .slice (some ⟨kk, 0, none⟩) 0 m] 24) := ⟨_, rfl⟩
  have HG : Hid (GB U w1.heap.size W.heap.size n []) := by show GB _ _ _ _ _; rw [hU]; exact GB.made hb1.size ho
  have HBU : Hid (Below W.heap.size W U) := by show Below _ _ _; rw [hU]; exact hb1.alloc hb1.size _
  clear ho hb1
  go_wp2_with fail
  rw [← hU]
  obtain ⟨k, hk⟩ : ∃ k, w1.heap.size = k := ⟨_, rfl⟩
  rw [hk] at HG ⊢
  clear hU hk b1 b2 hq
  go_loopw [31] (fun t wr => ∃ u : Nat, u ≤ n ∧ t = .int .i64 u ∧ Hid (Below W.heap.size W wr) ∧ Hid (GB wr k W.heap.size n (fullL n u))) (fun t _ => n - (intOf t).toNat)
  case atStart => exact ⟨0, by omega, rfl, HBU.out, HG.out⟩
  case round =>
    obtain ⟨u, hi, rfl, HBr, HGr⟩ := hrel
    by_cases hlt : u < n
    · go_wp2_with fail
      go_loopw [6] (fun t wr => ∃ v : Nat, v ≤ n - u - 1 ∧ t = .int .i64 (u + 1 + v) ∧ Hid (Below W.heap.size W wr) ∧ Hid (GB wr k W.heap.size n (fullL n u ++ fullRow u v))) (fun t _ => n - (intOf t).toNat)
      case atStart => exact ⟨0, by omega, by go_num, HBr.out, by show GB _ _ _ _ _; rw [show fullRow u 0 = [] from rfl, List.append_nil]; exact HGr.out⟩
      case round =>
        obtain ⟨v, hv, rfl, HBv, HGv⟩ := hrel
        by_cases hv2 : v < n - u - 1
        · have C := hide (tie33 k W.heap.size n u (u + 1 + v) (fullL n u ++ fullRow u v) wr HGv.out (by rw [List.length_append, fullRow_length]; have := fullL_length n u (by omega); omega))
          go_wp2_with (go_at_call 46; refine C.out.mono ?_; rintro e w2 ⟨rfl, hg, hb2, hk⟩; have HG2 := hide hg; have HB2 := hide hb2; clear hg hb2 hk)
          go_roundw
          case rel => exact ⟨v + 1, by omega, by go_num, Below.trans HBv.out HB2.out, by show GB _ _ _ _ _; rw [fullRow_more, ← List.append_assoc]; exact HG2.out⟩
          case measure => simp [intOf]; omega
        · have hin : v = n - u - 1 := by omega
          subst hin
          go_wp2
          go_roundw
          case rel => exact ⟨u + 1, by omega, by go_num, HBv.out, by show GB _ _ _ _ _; rw [fullL_more]; exact HGv.out⟩
          case measure => simp [intOf]; omega
    · have hin : u = n := by omega
      subst hin
      obtain ⟨_, p, c, hS, hO⟩ := HGr.out
      obtain ⟨q0, q1, _, _⟩ := hS.cell
      obtain ⟨r0, r1, r2, r3⟩ := HN.out.later HBr.out
      have hlt2 : w.heap.size < W.heap.size := by rw [HSZ.out]; omega
      obtain ⟨V, hV, kV, mV⟩ := finish (n := u) hlt2 (HN.out.later HBr.out) hO (below_step HB.out HBr.out)
      have HV := hide hV
      have KV := hide kV
      have MV := hide mV
      clear hV kV mV hS hO
      go_wp2
      rw [← HV.out]
      exact bodyPost_ret (ret_net Try.results26 rfl rfl KV.out) rfl (MV.out 0)
set_option maxRecDepth 100000 in
set_option maxHeartbeats 4000000 in
theorem two16ok (a b : Nat) (m : Nat) (w : World) (h0 : 1 ≤ a) (h1 : 1 ≤ b) (h2 : a + b ≤ 1024) (hm : (a : Int) * b = m) (hm0 : a * b = m) (hm1 : m ≤ 3072) : Calls Try.prog 25 #[.int .i64 a, .int .i64 b] w fun e w' => Made w ((a : Int) + b) (twoL a b a) 0 e w' := by
  have F := huge35 a
  rw [show hugeB a = false by simp [hugeB]; omega] at F
  have G := huge35 b
  rw [show hugeB b = false by simp [hugeB]; omega] at G
  have J := mfits36 ((a : Int) + b) m
  rw [show fitsB ((a : Int) + b) m = true by simp [fitsB]; omega] at J
  have HM := hide hm0
  clear hm0
  obtain ⟨W, hW, hb, hN, hsz⟩ := one_box w
  have R := hide (room37 ((a : Int) + b) m W (by omega))
  have HB := hide hb
  have HN := hide hN
  have HSZ := hide hsz
  clear hb hN hsz
  go_enter Try.func25, Try.ntmps25
  go_wp2_with (first | (go_at_call 43; with_reducible refine (F _).mono ?_; rintro e w' ⟨rfl, hw⟩; have hw := hw.symm; subst hw) | (go_at_call 43; with_reducible refine (G _).mono ?_; rintro e w' ⟨rfl, hw⟩; have hw := hw.symm; subst hw) | (go_at_call 44; with_reducible refine (J _).mono ?_; rintro e w' ⟨rfl, hw⟩; have hw := hw.symm; subst hw))
  rw [← hW]
  clear hW
  refine R.out.mono ?_
  rintro e w1 ⟨kk, rfl, ho, hb1⟩
  obtain ⟨U, hU⟩ : ∃ U, U = w1.alloc (.cells #[.int .i64 ((a : Int) + b), .slice (some ⟨kk, 0, none⟩) 0 m] 24) := ⟨_, rfl⟩
  have HG : Hid (GB U w1.heap.size W.heap.size ((a : Int) + b) []) := by show GB _ _ _ _ _; rw [hU]; exact GB.made hb1.size ho
  have HBU : Hid (Below W.heap.size W U) := by show Below _ _ _; rw [hU]; exact hb1.alloc hb1.size _
  clear ho hb1
  go_wp2_with fail
  rw [← hU]
  obtain ⟨k, hk⟩ : ∃ k, w1.heap.size = k := ⟨_, rfl⟩
  rw [hk] at HG ⊢
  clear hU hk
  clear F G J hm
  go_loopw [41] (fun t wr => ∃ u : Nat, u ≤ a ∧ t = .int .i64 u ∧ Hid (Below W.heap.size W wr) ∧ Hid (GB wr k W.heap.size ((a : Int) + b) (twoL a b u))) (fun t _ => a - (intOf t).toNat)
  case atStart => exact ⟨0, by omega, rfl, HBU.out, HG.out⟩
  case round =>
    obtain ⟨u, hi, rfl, HBr, HGr⟩ := hrel
    by_cases hlt : u < a
    · go_wp2_with fail
      go_loopw [45] (fun t wr => ∃ v : Nat, v ≤ b ∧ t = .int .i64 v ∧ Hid (Below W.heap.size W wr) ∧ Hid (GB wr k W.heap.size ((a : Int) + b) (twoL a b u ++ twoRow a u v))) (fun t _ => b - (intOf t).toNat)
      case atStart => exact ⟨0, by omega, by go_num, HBr.out, by show GB _ _ _ _ _; rw [show twoRow a u 0 = [] from rfl, List.append_nil]; exact HGr.out⟩
      case round =>
        obtain ⟨v, hv, rfl, HBv, HGv⟩ := hrel
        by_cases hv2 : v < b
        · have C := hide (tie33 k W.heap.size ((a : Int) + b) u (a + v) (twoL a b u ++ twoRow a u v) wr HGv.out (by rw [List.length_append, twoRow_length, twoL_length]; have e1 : u * b ≤ a * b := Nat.mul_le_mul_right b (by omega); have e2 := HM.out; omega))
          go_wp2_with (go_at_call 46; refine C.out.mono ?_; rintro e w2 ⟨rfl, hg, hb2, hk⟩; have HG2 := hide hg; have HB2 := hide hb2; clear hg hb2 hk)
          go_roundw
          case rel => exact ⟨v + 1, by omega, by go_num, Below.trans HBv.out HB2.out, by show GB _ _ _ _ _; rw [twoRow_more, ← List.append_assoc]; exact HG2.out⟩
          case measure => simp [intOf]; omega
        · have hin : v = b := by omega
          subst hin
          go_wp2
          go_roundw
          case rel => exact ⟨u + 1, by omega, by go_num, HBv.out, by show GB _ _ _ _ _; rw [twoL_more]; exact HGv.out⟩
          case measure => simp [intOf]; omega
    · have hin : u = a := by omega
      subst hin
      obtain ⟨_, p, c, hS, hO⟩ := HGr.out
      obtain ⟨q0, q1, _, _⟩ := hS.cell
      obtain ⟨r0, r1, r2, r3⟩ := HN.out.later HBr.out
      have hlt2 : w.heap.size < W.heap.size := by rw [HSZ.out]; omega
      obtain ⟨V, hV, kV, mV⟩ := finish (n := (u : Int) + b) hlt2 (HN.out.later HBr.out) hO (below_step HB.out HBr.out)
      have HV := hide hV
      have KV := hide kV
      have MV := hide mV
      clear hV kV mV hS hO
      go_wp2
      rw [← HV.out]
      exact bodyPost_ret (ret_net Try.results25 rfl rfl KV.out) rfl (MV.out 0)
end Go.Proofs.Ytaebbfilgfkckaa
