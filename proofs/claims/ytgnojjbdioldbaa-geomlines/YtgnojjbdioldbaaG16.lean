/- The segments of a polyline, in every world. -/
import Derived.Test.YtgnojjbdioldbaaG11
import Derived.Deep.RegionHeld3
import Derived.Deep.RegionLaw
import Derived.Laws.IdiomCopy
namespace Go.Proofs.Ytgnojjbdioldbaa
open Go.RowKit Go.Sort
open Go

theorem info59 : (Try.prog.info? 59).map (fun i => (i.zero, i.size, i.bytes)) = some (some (.agg #[.int .i64 0, .int .i64 0, .int .i64 0, .int .i64 0]), 4, 32) := by kernel_rfl
/-- The segment j of ps lies in the block g as the j-th. -/
def SegAt (w : World) (g j : Nat) (a b : Pt) : Prop :=
  w.cell? ⟨g, j * 4, none⟩ = some (.int .i64 a.x) ∧ w.cell? ⟨g, j * 4 + 1, none⟩ = some (.int .i64 a.y) ∧ w.cell? ⟨g, j * 4 + 2, none⟩ = some (.int .i64 b.x) ∧ w.cell? ⟨g, j * 4 + 3, none⟩ = some (.int .i64 b.y)
theorem SegAt.laterB {B : Nat} {w w' : World} {g j : Nat} {a b : Pt} (h : SegAt w g j a b) (hb : Below B w w') (hB : g < B) : SegAt w' g j a b := by
  obtain ⟨q0, q1, q2, q3⟩ := h
  exact ⟨by rw [hb.cell (by exact hB)]; exact q0, by rw [hb.cell (by exact hB)]; exact q1, by rw [hb.cell (by exact hB)]; exact q2, by rw [hb.cell (by exact hB)]; exact q3⟩
theorem SegAt.later {w w' : World} {g j : Nat} {a b : Pt} (h : SegAt w g j a b) (hb : Below w.heap.size w w') : SegAt w' g j a b :=
  h.laterB hb (block_lt_of_cell h.1)

abbrev four (x y : Pt) : List Value := [.int .i64 x.x, .int .i64 x.y, .int .i64 y.x, .int .i64 y.y]
theorem new4 (wr : World) (x y : Pt) : ∀ j u, (four x y)[j]? = some u → (wr.drew.alloc (sx x y)).cell? ((⟨wr.heap.size, 0, none⟩ : Addr).add j) = some u := by
  intro j u hj
  have h : (wr.drew.alloc (sx x y)).cell? ⟨wr.heap.size, 0 + j, none⟩ = (four x y).toArray[0 + j]? := World.cell?_alloc_at (w := wr.drew) _ _ _ _ rfl
  have e : (⟨wr.heap.size, 0, none⟩ : Addr).add j = ⟨wr.heap.size, 0 + j, none⟩ := by simp [Addr.add]; omega
  rw [e, h, Nat.zero_add]
  simpa using hj
theorem one4 (x y : Pt) : ∀ u ∈ four x y, u.oneCell' = true := by
  intro u hu
  simp at hu
  rcases hu with rfl | rfl | rfl | rfl <;> rfl
theorem room4 (wr : World) (x y : Pt) (G k n : Nat) (hG : G < wr.heap.size) (hk : k + 1 ≤ n) (h : ∀ k, k < n * 4 → (wr.cell? ⟨G, k, none⟩).isSome = true ∧ wr.frozen? ⟨G, k, none⟩ = false) :
    ∀ j, j < (four x y).length → ((wr.drew.alloc (sx x y)).cell? ⟨G, 0 + k * 4 + j, none⟩).isSome = true ∧ (wr.drew.alloc (sx x y)).frozen? ⟨G, 0 + k * 4 + j, none⟩ = false := by
  intro j hj
  simp at hj
  have hB : Below wr.heap.size wr (wr.drew.alloc (sx x y)) := by go_grown
  rw [hB.cell (by exact hG), hB.frozen (by exact hG)]
  exact h _ (by omega)
theorem keep4 (wr : World) (x y : Pt) (G k b off : Nat) (hb : b ≠ G) (h : wr.cell? ⟨b, off + k * 2, none⟩ = some (.int .i64 x.x) ∧ wr.cell? ⟨b, off + k * 2 + 1, none⟩ = some (.int .i64 x.y) ∧ wr.cell? ⟨b, off + (k + 1) * 2, none⟩ = some (.int .i64 y.x) ∧ wr.cell? ⟨b, off + (k + 1) * 2 + 1, none⟩ = some (.int .i64 y.y)) :
    ((wr.drew.alloc (sx x y)).setCells G (0 + k * 4) (four x y)).cell? ⟨b, off + k * 2, none⟩ = some (.int .i64 x.x) ∧ ((wr.drew.alloc (sx x y)).setCells G (0 + k * 4) (four x y)).cell? ⟨b, off + k * 2 + 1, none⟩ = some (.int .i64 x.y) ∧ ((wr.drew.alloc (sx x y)).setCells G (0 + k * 4) (four x y)).cell? ⟨b, off + (k + 1) * 2, none⟩ = some (.int .i64 y.x) ∧ ((wr.drew.alloc (sx x y)).setCells G (0 + k * 4) (four x y)).cell? ⟨b, off + (k + 1) * 2 + 1, none⟩ = some (.int .i64 y.y) := by
  have hB : Below wr.heap.size wr (wr.drew.alloc (sx x y)) := by go_grown
  refine ⟨?_, ?_, ?_, ?_⟩ <;> rw [World.cell?_setCells_out _ _ _ _ _ (fun e => absurd e hb)]
  · exact later hB h.1
  · exact later hB h.2.1
  · exact later hB h.2.2.1
  · exact later hB h.2.2.2

theorem below_setCells {B : Nat} {w W : World} (g : Nat) (hg : B ≤ g) : ∀ (vs : List Value) (o : Nat), Below B w W → Below B w (W.setCells g o vs) := by
  intro vs
  induction vs generalizing W with
  | nil => intro o h; exact h
  | cons v r ih =>
    intro o h
    rw [World.setCells]
    exact ih (o + 1) (h.setCell (by exact hg) _)
theorem after4 (wr : World) (x y : Pt) (G k n : Nat) (hG : G < wr.heap.size) (hk : k + 1 ≤ n) (h : ∀ k, k < n * 4 → (wr.cell? ⟨G, k, none⟩).isSome = true ∧ wr.frozen? ⟨G, k, none⟩ = false) :
    ∃ V, V = (wr.alloc (sx x y)).drew.setCells G (0 + k * 4) (four x y) ∧ Below G wr V ∧ (∀ k, k < n * 4 → (V.cell? ⟨G, k, none⟩).isSome = true ∧ V.frozen? ⟨G, k, none⟩ = false) ∧ SegAt V G k x y ∧ ∀ j a b, j < k → SegAt wr G j a b → SegAt V G j a b := by
  have hB : Below wr.heap.size wr (wr.alloc (sx x y)).drew := by go_grown
  have hR := room4 wr x y G k n hG hk h
  have hin : ∀ j (hj : j < (four x y).length), ((wr.alloc (sx x y)).drew.setCells G (0 + k * 4) (four x y)).cell? ⟨G, 0 + k * 4 + j, none⟩ = some (four x y)[j] := fun j hj => World.cell?_setCells_in G (four x y) (0 + k * 4) _ (fun j hj => (hR j hj).1) j hj
  have hout : ∀ i, i < k * 4 ∨ k * 4 + 4 ≤ i → ((wr.alloc (sx x y)).drew.setCells G (0 + k * 4) (four x y)).cell? ⟨G, i, none⟩ = wr.cell? ⟨G, i, none⟩ := fun i hi => by
    rw [World.cell?_setCells_out _ _ _ _ _ (fun _ _ => by show i < _ ∨ _ ≤ i; simp; omega), hB.cell (by exact hG)]
  refine ⟨_, rfl, below_setCells G (Nat.le_refl _) _ _ (hB.mono (Nat.le_of_lt hG)), fun i hi => ?_, ?_, fun j a b hj hs => ?_⟩
  · refine ⟨?_, by rw [World.frozen?_setCells, hB.frozen (by exact hG)]; exact (h i hi).2⟩
    by_cases hi2 : i < k * 4 ∨ k * 4 + 4 ≤ i
    · rw [hout i hi2]; exact (h i hi).1
    · have := hin (i - k * 4) (by simp; omega)
      rw [show 0 + k * 4 + (i - k * 4) = i by omega] at this
      rw [this]; rfl
  · have h0 := hin 0 (by simp)
    have h1 := hin 1 (by simp)
    have h2 := hin 2 (by simp)
    have h3 := hin 3 (by simp)
    simp only [Nat.zero_add, Nat.add_zero] at h0 h1 h2 h3
    exact ⟨by rw [Nat.zero_add]; exact h0, by rw [Nat.zero_add]; exact h1, by rw [Nat.zero_add]; exact h2, by rw [Nat.zero_add]; exact h3⟩
  · obtain ⟨s0, s1, s2, s3⟩ := hs
    exact ⟨by rw [hout _ (by omega)]; exact s0, by rw [hout _ (by omega)]; exact s1, by rw [hout _ (by omega)]; exact s2, by rw [hout _ (by omega)]; exact s3⟩

set_option maxRecDepth 100000 in
set_option maxHeartbeats 4000000 in
theorem segments46 (b off cap : Nat) (ps : List Pt) (w : World) (h2 : 2 ≤ ps.length) (hl : ps.length ≤ 4096) (h : Lies w b off ps) : Calls Try.prog 46 #[.slice (some ⟨b, off, none⟩) ps.length cap] w fun e w' => ∃ g c : Nat, e = .returned (.slice (some ⟨g, 0, none⟩) (ps.length - 1) c) ∧ w.heap.size ≤ g ∧ (∀ j, j < ps.length - 1 → SegAt w' g j (at' ps j) (at' ps (j + 1))) ∧ Below w.heap.size w w' := by
  have HL := hide h
  clear h
  obtain ⟨i0, hi0, hz0, hz1, hz2⟩ := info_parts info59
  have n1 : ((ps.length : Int) == 1) = false := by rw [beq_eq_false_iff_ne]; omega
  go_enter Try.func46, Try.ntmps46
  go_wp2_with (refine wpList_make_own _ rfl (.const (.int .i64 0)) (.tmp 18) 74 rfl w.heap.size 59 i0 (.agg #[.int .i64 0, .int .i64 0, .int .i64 0, .int .i64 0]) 4 Try.underlying74 hi0 hz0 hz1 .i64 .i64 _ (ps.length - 1) rfl rfl ?c1 ?c2 ?c3 ?c4 ?_)
  case c1 => omega
  case c2 => rw [hz2]; omega
  case c3 => unfold maxLen; omega
  case c4 => exact Nat.le_refl _
  intro w1 hown hgrow
  have HR : Hid (∀ k, k < (ps.length - 1) * 4 → (w1.cell? ⟨w.heap.size, k, none⟩).isSome = true ∧ w1.frozen? ⟨w.heap.size, k, none⟩ = false) := by
    intro k hk
    obtain ⟨_, h3 | ⟨g, cp, cur, hv, _, hg, _, _, hcs, _⟩⟩ := hown
    · cases h3.1
    · injection hv with e1 e2 e3
      injection e1 with e1
      injection e1 with e4 e5
      rw [e4]
      refine ⟨?_, by simp [World.frozen?, hg]⟩
      simp only [World.cell?, hg]
      rw [Array.getElem?_eq_getElem (by rw [hcs, ← e3]; exact hk)]
      rfl
  have HB1 : Hid (Below w.heap.size w w1) := ⟨hgrow.os, hgrow.tape, hgrow.output, hgrow.size, fun k hk => hgrow.block k hk (by simp)⟩
  have HS1 : Hid (w.heap.size < w1.heap.size) := (World.ownsRow.lt hown w.heap.size rfl).2
  clear hown hgrow
  go_wp2_with fail
  go_loopw [3, 4] (fun v t wr => ∃ k : Nat, k + 1 ≤ ps.length ∧ t = .int .i64 (k + 1) ∧ v = .slice (some ⟨w.heap.size, 0, none⟩) k (ps.length - 1) ∧ Hid (Below w.heap.size w wr) ∧ Hid (w.heap.size < wr.heap.size) ∧ Hid (∀ k, k < (ps.length - 1) * 4 → (wr.cell? ⟨w.heap.size, k, none⟩).isSome = true ∧ wr.frozen? ⟨w.heap.size, k, none⟩ = false) ∧ Hid (∀ j, j < k → SegAt wr w.heap.size j (at' ps j) (at' ps (j + 1)))) (fun _ t _ => ps.length - (intOf t).toNat)
  case atStart => exact ⟨0, by omega, rfl, rfl, HB1.out, HS1.out, HR.out, fun j hj => by omega⟩
  case round =>
    obtain ⟨k, hk, rfl, rfl, HBr, HSr, HRr, HSg⟩ := hrel
    by_cases hlt : k + 1 < ps.length
    · obtain ⟨c0, c1⟩ := HL.out.later HBr.out k (by omega)
      obtain ⟨c2, c3⟩ := HL.out.later HBr.out (k + 1) hlt
      have e0 : (k : Int) + 1 < ps.length := by omega
      have e1 : (0 : Int) ≤ k := by omega
      have e2 : (k : Int) < ps.length := by omega
      have e3 : (0 : Int) ≤ (k : Int) + 1 := by omega
      have e4 : IntKind.i64.wrap (k : Int) = k := IntWalk.i64_in _ (by omega)
      go_wp2_with fail
      obtain ⟨x, hx⟩ : ∃ x, at' ps k = x := ⟨_, rfl⟩
      obtain ⟨y, hy⟩ : ∃ y, at' ps (k + 1) = y := ⟨_, rfl⟩
      rw [hx] at c0 c1
      rw [hy] at c2 c3
      have S1 : Hid (wr.cell? ⟨b, off + k * 2, none⟩ = some (.int .i64 x.x) ∧ wr.cell? ⟨b, off + k * 2 + 1, none⟩ = some (.int .i64 x.y) ∧ wr.cell? ⟨b, off + (k + 1) * 2, none⟩ = some (.int .i64 y.x) ∧ wr.cell? ⟨b, off + (k + 1) * 2 + 1, none⟩ = some (.int .i64 y.y)) := ⟨c0, c1, c2, c3⟩
      have hbw : b < w.heap.size := block_lt_of_cell (HL.out 0 (by omega)).1
      have A1 := hide (new4 wr x y)
      have A2 := hide (one4 x y)
      have hBa : Below wr.heap.size wr (wr.drew.alloc (sx x y)) := by go_grown
      have A3 : Hid ((wr.drew.alloc (sx x y)).cell? ⟨b, off + k * 2, none⟩ = some (.int .i64 x.x) ∧ (wr.drew.alloc (sx x y)).cell? ⟨b, off + k * 2 + 1, none⟩ = some (.int .i64 x.y) ∧ (wr.drew.alloc (sx x y)).cell? ⟨b, off + (k + 1) * 2, none⟩ = some (.int .i64 y.x) ∧ (wr.drew.alloc (sx x y)).cell? ⟨b, off + (k + 1) * 2 + 1, none⟩ = some (.int .i64 y.y)) := ⟨later hBa c0, later hBa c1, later hBa c2, later hBa c3⟩
      clear hBa
      have A4 := hide (room4 wr x y w.heap.size k (ps.length - 1) HSr.out (by omega) HRr.out)
      have A5 := hide (keep4 wr x y w.heap.size k b off (Nat.ne_of_lt hbw) S1.out)
      clear c0 c1 c2 c3
      go_region_held3 (fun W => W.cell? ⟨b, off + k * 2, none⟩ = some (.int .i64 x.x) ∧ W.cell? ⟨b, off + k * 2 + 1, none⟩ = some (.int .i64 x.y) ∧ W.cell? ⟨b, off + (k + 1) * 2, none⟩ = some (.int .i64 y.x) ∧ W.cell? ⟨b, off + (k + 1) * 2 + 1, none⟩ = some (.int .i64 y.y))
        (first | exact S1.out | exact A3.out | exact A5.out)
        (first
          | (refine step_append_room rfl (.tmp 26) (.tmp 37) 74 rfl 59 i0 4 Try.underlying74 hi0 hz1 w.heap.size 0 k (ps.length - 1) ?_ ⟨wr.heap.size, 0, none⟩ 1 1 (four x y) ?_ rfl A1.out A2.out (by omega) A4.out ?_; (rfl); (rfl)))
      obtain ⟨V, hV, f1, f2, f3, f4⟩ := after4 wr x y w.heap.size k (ps.length - 1) HSr.out (by omega) HRr.out
      rw [← hV]
      have F1 := hide f1
      have F2 := hide f2
      have F3 := hide f3
      have F4 := hide f4
      clear f1 f2 f3 f4 hV A1 A2 A3 A4 A5 S1
      rename_i hHeld
      clear hHeld
      go_wp2
      go_roundw
      case rel =>
        refine ⟨k + 1, by omega, by go_num, rfl, Below.trans HBr.out F1.out, Nat.lt_of_lt_of_le HSr.out F1.out.size, F2.out, fun j hj => ?_⟩
        rcases Nat.lt_succ_iff_lt_or_eq.1 hj with h1 | h1
        · exact F4.out j _ _ h1 (HSg.out j h1)
        · rw [h1, hx, hy]; exact F3.out
      case measure => simp [intOf]; omega
    · have hkn : k + 1 = ps.length := by omega
      have hk' : k = ps.length - 1 := by omega
      go_wp2
      go_ret
      subst hk'
      exact ⟨_, _, rfl, Nat.le_refl _, HSg.out, HBr.out⟩
end Go.Proofs.Ytgnojjbdioldbaa
