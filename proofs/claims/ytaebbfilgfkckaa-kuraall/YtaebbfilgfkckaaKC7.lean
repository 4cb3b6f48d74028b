/- kura's Shrink, in every world. -/
import Derived.Test.YtaebbfilgfkckaaKC6
namespace Go.Proofs.Ytaebbfilgfkckaa
open Go.RowKit Go.Sort
open Go
theorem joinedK (k : Int) (hk : k = 5 ∨ k = 33) (w : World) : Calls Try.prog 41 #[.int .i64 k] w fun e w' => ∃ p' c, e = .returned (.slice p' (jsK k).length c) ∧ Owns w' w.heap.size (.slice p' (jsK k).length c) (jsK k) ∧ Below w.heap.size w w' := by
  rcases hk with rfl | rfl
  · rw [show (jsK 5).length = 10 from j5_length]
    exact joined41five w
  · rw [show (jsK 33).length = 9 from j33_length]
    exact joined41threes w
/-- What Shrink answers. -/
def ShPost (n : Int) (es : List Pt) (l : List Int) (w : World) (e : Ending) (w' : World) : Prop :=
  (obE n es l ≠ 0 ∧ e = .returned (.tuple #[nv 0 none 0 0, .int .i64 (obE n es l)])) ∨
  (obE n es l = 0 ∧ ∃ p c, e = .returned (.tuple #[nv (bsS n.toNat (pick es l)).length p (jsK (knI n es l)).length c, .int .i64 0]) ∧ Owns w' w.heap.size (.slice p (jsK (knI n es l)).length c) (jsK (knI n es l)))
theorem ob_is {n : Int} {es : List Pt} {l : List Int} : obE n es l = 0 ↔ isK n es l := by
  unfold obE isK
  by_cases h1 : subE n es l = 0
  · rw [if_neg (by simp [h1])]
    by_cases h2 : okS n.toNat (pick es l)
    · rw [if_pos h2]; exact ⟨fun _ => ⟨h1, h2⟩, fun _ => rfl⟩
    · rw [if_neg h2]; exact ⟨fun h => absurd h (by decide), fun h => absurd h.2 h2⟩
  · rw [if_pos h1]; exact ⟨fun h => absurd h h1, fun h => absurd h.1 h1⟩
theorem two_neth (w : World) (n : Int) (p : Option Addr) (l c : Nat) : ∃ W, W = (w.alloc (nbx n p l c)).alloc (nbx 0 none 0 0) ∧ Below w.heap.size w W ∧ NOwn W w.heap.size n p l c ∧ NOwn W (w.heap.size + 1) 0 none 0 0 := two_nets w n p l c
set_option maxRecDepth 100000 in
set_option maxHeartbeats 16000000 in
theorem shrink15 (n : Int) (p q : Option Addr) (es : List Pt) (l : List Int) (cp cq : Nat) (w : World) (hl : l.length ≤ maxLen) (h : Has w p es) (k : IHas w q l) : Calls Try.prog 15 #[nv n p es.length cp, .slice q l.length cq] w fun e w' => ShPost n es l w e w' ∧ Below w.heap.size w w' := by
  obtain ⟨W, hW, hb0, a0, b0⟩ := two_nets w n p es.length cp
  have C1 := hide (obstruction40 n p q es l cp cq W hl (h.later hb0) (k.later hb0))
  have HB := hide hb0
  have HR := hide b0
  obtain ⟨q0, q1, _, _⟩ := a0
  have HWS : Hid (W.heap.size = w.heap.size + 2) := by show _ = _; rw [hW]; simp
  clear h k hb0 b0
  go_enter Try.func15, Try.ntmps15
  go_upto_region 1 with fail
  rw [← hW]
  clear hW
  go_wp2_with fail
  refine C1.out.mono ?_
  rintro r w2 ⟨b, c, rfl, hf, hb2⟩
  obtain ⟨pb, lb, cb, pc, lc, cc, rfl, rfl⟩ := hf.form
  obtain ⟨X, hX⟩ : ∃ X, X = w2.alloc (.cells #[.int .i64 (knI n es l), .slice pb lb cb, .slice pc lc cc] 73) := ⟨_, rfl⟩
  have hbX : Below w2.heap.size w2 X := by rw [hX]; go_grown
  have HX := hide (below_step HB.out (below_step hb2 hbX))
  have hsz2 : W.heap.size ≤ w2.heap.size := hb2.size
  have HRX := hide ((HR.out.later hb2).later hbX)
  have HFG := hide hf
  have g0 : X.cell? ⟨w2.heap.size, 0, none⟩ = some (.int .i64 (knI n es l)) := by rw [hX]; go_cell
  have g1 : X.cell? ⟨w2.heap.size, 1, none⟩ = some (.slice pb lb cb) := by rw [hX]; go_cell
  obtain ⟨kn, hkn⟩ : ∃ z, knI n es l = z := ⟨_, rfl⟩
  obtain ⟨er, her⟩ : ∃ z, obE n es l = z := ⟨_, rfl⟩
  rw [hkn] at hX g0 HFG
  have HKN := hide hkn
  have HER := hide her
  rw [hkn, her]
  clear C1 hf hb2 q0 q1 hkn her hbX
  go_upto_region 2 with fail
  rw [← hX]
  clear hX
  obtain ⟨kb, hkb⟩ : ∃ k, w2.heap.size = k := ⟨_, rfl⟩
  rw [hkb] at g0 g1 ⊢
  obtain ⟨kf, hkf⟩ : ∃ k, w.heap.size + 1 = k := ⟨_, rfl⟩
  have HKF := hide hkf
  rw [hkf] at HRX ⊢
  have hne : ¬ kb = kf := by have := HWS.out; omega
  clear hkb hkf hsz2
  have hks : w.heap.size ≤ kf := by have := HKF.out; omega
  by_cases h1 : er = 0
  · subst h1
    have hK : isK n es l := ob_is.1 HER.out
    have hkk : kn = 5 ∨ kn = 33 := by
      have := bs_len hK.2.1
      rw [← HKN.out]
      unfold knI
      rw [if_pos hK]
      rcases this with h | h
      · exact Or.inl h.1
      · exact Or.inr h.1
    have CJ : Hid (∀ V, Calls Try.prog 41 #[.int .i64 kn] V fun e w' => ∃ p' c, e = .returned (.slice p' (jsK kn).length c) ∧ Owns w' V.heap.size (.slice p' (jsK kn).length c) (jsK kn) ∧ Below V.heap.size V w') := fun V => joinedK kn hkk V
    have HLB : Hid (lb = (bsS n.toNat (pick es l)).length) := by
      rcases HFG.out with ⟨h, _⟩ | ⟨_, _, p', c', g, rv, h3, _⟩
      · exact absurd hK h
      · injection h3
    have HS : Hid (∀ V, Below X.heap.size X V → (V.cell? ⟨kb, 0, none⟩ = some (.int .i64 kn) ∧ V.cell? ⟨kb, 1, none⟩ = some (.slice pb lb cb))) := fun V hV => ⟨later hV g0, later hV g1⟩
    obtain ⟨f1, f2, f3, f4⟩ := HRX.out
    clear hK hkk HFG
    go_upto_region 4 with fail
    go_region_held3 (fun V => V.cell? ⟨kb, 0, none⟩ = some (.int .i64 kn) ∧ V.cell? ⟨kb, 1, none⟩ = some (.slice pb lb cb))
      (first | exact HS.out _ (below_drew X) | exact HS.out _ (Below.refl _ _) | exact HS.out _ HX9.out | exact ⟨other2 g0 hne, other2 g1 hne⟩)
      ((go_at_call 41; refine (CJ.out _).mono ?_; rintro e w9 ⟨p9, c9, rfl, o9, hb9⟩; have HX9 := hide (below_step (below_drew X) hb9); have HO9 := hide o9; obtain ⟨g0, g1⟩ := HS.out w9 HX9.out; obtain ⟨f1, f2, f3, f4⟩ := HRX.out.later HX9.out; clear hb9 o9))
    rename_i hHeld
    clear hHeld
    obtain ⟨V, hV⟩ : ∃ V, V = (w9.setCell ⟨kf, 0, none⟩ (.int .i64 (lb : Int))).setCell ⟨kf, 1, none⟩ (.slice p9 (jsK kn).length c9) := ⟨_, rfl⟩
    have kV : NOwn V kf (lb : Int) p9 (jsK kn).length c9 := by rw [hV]; exact (HRX.out.later HX9.out).set _ _ _ _
    have bV : Below w.heap.size w V := by rw [hV]; exact ((below_step HX.out HX9.out).setCell (by simpa using hks) _).setCell (by simpa using hks) _
    have hkX : kf < X.heap.size := block_lt_of_cell HRX.out.1
    have oV : Owns V w.heap.size (.slice p9 (jsK kn).length c9) (jsK kn) := by
      have hx : (Value.slice p9 (jsK kn).length c9).ownBlock ≠ some kf := fun e => by
        have := (World.ownsRow.lt HO9.out kf e).1
        have h3 : X.heap.size ≤ X.drew.heap.size := (below_drew X).size
        omega
      rw [hV]
      exact owns_base (ownsRow_setCell_other (a := ⟨kf, 1, none⟩) (ownsRow_setCell_other (a := ⟨kf, 0, none⟩) HO9.out hx _) hx _) (by have h3 : X.heap.size ≤ X.drew.heap.size := (below_drew X).size; have h4 := HX.out.size; omega)
    rw [← hV]
    go_wp2_with fail
    exact bodyPost_ret (ret_net Try.results15 rfl rfl kV) rfl ⟨Or.inr ⟨HER.out, p9, c9, by rw [HKN.out, ← HLB.out]; rfl, by rw [HKN.out]; exact oV⟩, bV⟩
  · have hne0 : er ≠ 0 := h1
    have t1 : (er == 0) = false := by rw [beq_eq_false_iff_ne]; exact h1
    obtain ⟨f1, f2, f3, f4⟩ := HRX.out
    clear h1
    go_wp2
    obtain ⟨V, hV⟩ : ∃ V, V = (X.setCell ⟨kf, 0, none⟩ (.int .i64 0)).setCell ⟨kf, 1, none⟩ (.slice none 0 0) := ⟨_, rfl⟩
    have kV : NOwn V kf 0 none 0 0 := by rw [hV]; exact HRX.out.set _ _ _ _
    have bV : Below w.heap.size w V := by rw [hV]; exact (HX.out.setCell (by simpa using hks) _).setCell (by simpa using hks) _
    rw [← hV]
    exact bodyPost_ret (ret_net Try.results15 rfl rfl kV) rfl ⟨Or.inl ⟨by rw [HER.out]; exact hne0, by rw [HER.out]; rfl⟩, bV⟩
end Go.Proofs.Ytaebbfilgfkckaa
