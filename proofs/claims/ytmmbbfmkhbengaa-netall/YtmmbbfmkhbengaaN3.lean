/- Where in a list each number stands, or the list's first fault. -/
import Derived.Test.YtmmbbfmkhbengaaN2
namespace Go.Proofs.Ytmmbbfmkhbengaa
open Go.RowKit Go.Sort
open Go

/-- The first that is not nought among k numbers. -/
def errN (f : Nat → Int) : Nat → Int
  | 0 => 0
  | k + 1 => if errN f k = 0 then f k else errN f k
theorem errN_zero {f : Nat → Int} : ∀ k, (∀ j, j < k → f j = 0) → errN f k = 0
  | 0, _ => rfl
  | k + 1, h => by simp only [errN]; rw [errN_zero k (fun j hj => h j (by omega)), if_pos rfl]; exact h k (by omega)
theorem errN_all {f : Nat → Int} : ∀ k, errN f k = 0 → ∀ j, j < k → f j = 0
  | 0, _, j, hj => by omega
  | k + 1, h, j, hj => by
    simp only [errN] at h
    by_cases e : errN f k = 0
    · rw [if_pos e] at h
      rcases Nat.lt_succ_iff_lt_or_eq.1 hj with h1 | h1
      · exact errN_all k e j h1
      · rw [h1]; exact h
    · rw [if_neg e] at h; exact absurd h e
theorem errN_first {f : Nat → Int} {i : Nat} (h : ∀ j, j < i → f j = 0) (hi : f i ≠ 0) : ∀ k, i < k → errN f k = f i
  | 0, hk => by omega
  | k + 1, hk => by
    simp only [errN]
    rcases Nat.lt_succ_iff_lt_or_eq.1 hk with h1 | h1
    · rw [errN_first h hi k h1, if_neg hi]
    · subst h1; rw [errN_zero i h, if_pos rfl]
def metB (l : List Int) (i : Nat) : Bool := (List.range i).any fun k => decide (iat l k = iat l i)
theorem metB_no {l : List Int} {i : Nat} (h : metB l i = false) : ∀ k, k < i → iat l k ≠ iat l i := by
  intro k hk e
  unfold metB at h
  rw [List.any_eq_false] at h
  exact h k (List.mem_range.2 hk) (by simp [e])
theorem metB_yes {l : List Int} {i k : Nat} (hk : k < i) (e : iat l k = iat l i) : metB l i = true := by
  unfold metB
  rw [List.any_eq_true]
  exact ⟨k, List.mem_range.2 hk, by simp [e]⟩
theorem metB_of_no {l : List Int} {i : Nat} (h : ∀ k, k < i → iat l k ≠ iat l i) : metB l i = false := by
  cases hm : metB l i
  · rfl
  · unfold metB at hm
    rw [List.any_eq_true] at hm
    obtain ⟨k, hk, e⟩ := hm
    exact absurd (of_decide_eq_true e) (h k (List.mem_range.1 hk))
/-- What is wrong with the number at i: beyond n (2), or there already (18). -/
def chk (l : List Int) (n : Int) (i : Nat) : Int := if belowB (iat l i) n then (if metB l i then 18 else 0) else 2
def errL (l : List Int) (n : Int) : Int := errN (chk l n) l.length
/-- Where each number stands, by the first i of the list. -/
def plN (l : List Int) (m : Nat) : Nat → List Int
  | 0 => List.replicate m (-1)
  | i + 1 => (plN l m i).set (iat l i).toNat i
theorem plN_length (l : List Int) (m : Nat) : ∀ i, (plN l m i).length = m
  | 0 => by simp [plN]
  | i + 1 => by simp [plN, plN_length l m i]
theorem iat_set (l : List Int) (j k : Nat) (x : Int) (hk : k < l.length) : iat (l.set j x) k = if j = k then x else iat l k := by
  unfold iat
  rw [List.getD_eq_getElem?_getD, List.getD_eq_getElem?_getD, List.getElem?_set]
  by_cases h : j = k
  · subst h; simp [hk]
  · simp [h]
theorem iat_replicate (m k : Nat) (x : Int) (hk : k < m) : iat (List.replicate m x) k = x := by
  unfold iat
  rw [List.getD_eq_getElem?_getD, List.getElem?_replicate, if_pos hk]; rfl
theorem belowB_is {x n : Int} (h : belowB x n = true) : 0 ≤ x ∧ x < n := by simpa [belowB] using h
theorem chk_zero {l : List Int} {n : Int} {i : Nat} (h : chk l n i = 0) : (0 ≤ iat l i ∧ iat l i < n) ∧ ∀ k, k < i → iat l k ≠ iat l i := by
  unfold chk at h
  split at h
  · rename_i hb
    split at h
    · omega
    · rename_i hm
      exact ⟨belowB_is hb, metB_no (by simpa using hm)⟩
  · omega
theorem chk_of {l : List Int} {n : Int} {i : Nat} (h : 0 ≤ iat l i ∧ iat l i < n) (k : ∀ k, k < i → iat l k ≠ iat l i) : chk l n i = 0 := by
  unfold chk
  rw [show belowB (iat l i) n = true by simp [belowB, h.1, h.2], if_pos rfl, metB_of_no k]
  rfl
/-- The list of places, by its content. -/
theorem plN_at {l : List Int} {m : Nat} : ∀ {i : Nat}, (∀ j, j < i → chk l m j = 0) → ∀ x : Nat, x < m → (∀ k, k < i → iat l k = (x : Int) → iat (plN l m i) x = (k : Int)) ∧ ((∀ k, k < i → iat l k ≠ (x : Int)) → iat (plN l m i) x = -1)
  | 0, _, x, hx => ⟨fun k hk => by omega, fun _ => iat_replicate m x (-1) hx⟩
  | i + 1, h, x, hx => by
    obtain ⟨h1, h2⟩ := plN_at (l := l) (m := m) (i := i) (fun j hj => h j (by omega)) x hx
    have hc := chk_zero (h i (by omega))
    have hl := plN_length l m i
    simp only [plN]
    rw [iat_set _ _ _ _ (by omega)]
    refine ⟨fun k hk e => ?_, fun hno => ?_⟩
    · by_cases hki : k = i
      · subst hki; rw [if_pos (by omega)]
      · have hne := hc.2 k (by omega)
        rw [if_neg (by omega)]
        exact h1 k (by omega) e
    · have hne := hno i (by omega)
      rw [if_neg (by omega)]
      exact h2 fun k hk => hno k (by omega)
theorem plN_free {l : List Int} {m i x : Nat} (h : ∀ j, j < i → chk l m j = 0) (hx : x < m) : iat (plN l m i) x = -1 ↔ ∀ k, k < i → iat l k ≠ (x : Int) := by
  obtain ⟨h1, h2⟩ := plN_at h x hx
  refine ⟨fun e k hk ek => ?_, h2⟩
  have := h1 k hk ek
  omega

theorem IOwns.frozen {w : World} {base g cap : Nat} {l : List Int} (h : IOwns w base (.slice (some ⟨g, 0, none⟩) l.length cap) l) (j : Nat) : w.frozen? ⟨g, j, none⟩ = false := World.ownsRow.frozenAt h j
theorem IOwns.at_ {w : World} {base g cap : Nat} {l : List Int} (h : IOwns w base (.slice (some ⟨g, 0, none⟩) l.length cap) l) {j : Nat} (hj : j < l.length) : w.cell? ⟨g, j, none⟩ = some (.int .i64 (iat l j)) := by
  have := h.lies j hj
  rw [Nat.zero_add] at this
  exact this
/-- n numbers in block g of one's own. -/
def IRow (w : World) (base g n : Nat) (l : List Int) : Prop := l.length = n ∧ IOwns w base (.slice (some ⟨g, 0, none⟩) l.length n) l
theorem IRow.cell {w : World} {base g n : Nat} {l : List Int} (h : IRow w base g n l) {j : Nat} (hj : j < n) : w.cell? ⟨g, j, none⟩ = some (.int .i64 (iat l j)) ∧ w.frozen? ⟨g, j, none⟩ = false := ⟨h.2.at_ (by rw [h.1]; exact hj), h.2.frozen j⟩
theorem IRow.set {w : World} {base g n : Nat} {l : List Int} (h : IRow w base g n l) (j : Nat) (x : Int) : IRow (w.setCell ⟨g, j, none⟩ (.int .i64 x)) base g n (l.set j x) := ⟨by rw [List.length_set]; exact h.1, h.2.set j x⟩
theorem IRow.later {w w' : World} {base g n : Nat} {l : List Int} (h : IRow w base g n l) (hb : Below w.heap.size w w') : IRow w' base g n l := ⟨h.1, h.2.later hb⟩
theorem IRow.lt {w : World} {base g n : Nat} {l : List Int} (h : IRow w base g n l) : base ≤ g ∧ g < w.heap.size := World.ownsRow.lt h.2 g rfl
theorem IRow.owns {w : World} {base g n : Nat} {l : List Int} (h : IRow w base g n l) : IOwns w base (.slice (some ⟨g, 0, none⟩) n n) l := by
  have := h.2
  rw [h.1] at this
  exact this
theorem irow_made {w : World} {base g n : Nat} (h : w.ownsRow base 3 1 (.slice (some ⟨g, 0, none⟩) n n) n (madeCells #[.int .i64 0] n).toList) : IRow w base g n (List.replicate n 0) := by
  rw [toList_madeCells_one] at h
  refine ⟨List.length_replicate, ?_⟩
  unfold IOwns
  rw [List.length_replicate, icells_zero]
  exact h
theorem below_made {w w' : World} (h : w.grownBy w' none) : Below w.heap.size w w' := ⟨h.os, h.tape, h.output, h.size, fun k hk => h.block k hk (by simp)⟩

def PlPost (l : List Int) (m : Nat) (w : World) (e : Ending) (w' : World) : Prop := (errL l m = 0 ∧ ∃ g, e = .returned (.tuple #[.slice (some ⟨g, 0, none⟩) m m, .int .i64 0]) ∧ IRow w' w.heap.size g m (plN l m l.length)) ∨ (errL l m ≠ 0 ∧ e = .returned (.tuple #[.slice none 0 0, .int .i64 (errL l m)]))
set_option maxRecDepth 100000 in
set_option maxHeartbeats 4000000 in
theorem places49 (p : Option Addr) (l : List Int) (cap m : Nat) (w : World) (hl : l.length ≤ maxLen) (hm : m ≤ 4096) (h : IHas w p l) : Calls Try.prog 49 #[.slice p l.length cap, .int .i64 m] w fun e w' => PlPost l m w e w' ∧ Below w.heap.size w w' := by
  have HH := hide h
  clear h
  unfold maxLen at hl
  obtain ⟨i0, hi0, hz0, hz1, hz2⟩ := info_parts info3
  go_enter Try.func49, Try.ntmps49
  go_wp2_with (refine wpList_make_full _ rfl (.tmp 10) (.tmp 10) 25 rfl w.heap.size 3 i0 (.int .i64 0) 1 Try.underlying25 hi0 hz0 hz1 .i64 .i64 _ _ m rfl rfl rfl rfl ?c1 ?c2 ?c3 ?_)
  case c1 => rw [hz2]; omega
  case c2 => unfold maxLen; omega
  case c3 => exact Nat.le_refl _
  intro w1 hown hgrow
  have HR1 := hide (irow_made hown)
  have HB1 := hide (below_made hgrow)
  clear hown hgrow
  go_wp2_with fail
  go_loopw [14] (fun t wr => ∃ i : Nat, i ≤ m ∧ t = .int .i64 i ∧ Hid (Below w.heap.size w wr) ∧ Hid (∃ r, IRow wr w.heap.size w.heap.size m r ∧ ∀ j, j < i → iat r j = -1)) (fun t _ => m - (intOf t).toNat)
  case atStart => exact ⟨0, by omega, rfl, HB1.out, _, HR1.out, fun j hj => by omega⟩
  case round =>
    obtain ⟨i, hi, rfl, HB, HR⟩ := hrel
    by_cases hlt : i < m
    · obtain ⟨r, hr, hall⟩ := HR.out
      obtain ⟨c0, c1⟩ := hr.cell hlt
      go_wp2
      go_roundw
      case rel =>
        refine ⟨i + 1, by omega, by go_num, HB.out.setCell (by simp) _, _, hr.set i (-1), more (fun j hj => ?_) ?_⟩
        · rw [iat_set _ _ _ _ (by rw [hr.1]; omega), if_neg (by omega)]; exact hall j hj
        · rw [iat_set _ _ _ _ (by rw [hr.1]; omega), if_pos rfl]
      case measure => simp [intOf]; omega
    · have hin : i = m := by omega
      subst hin
      have HP : Hid (IRow wr w.heap.size w.heap.size i (plN l i 0)) := by
        obtain ⟨r, hr, hall⟩ := HR.out
        have e : r = plN l i 0 := iat_ext (by rw [hr.1]; simp [plN]) fun j hj => by rw [hall j (by rw [hr.1] at hj; exact hj)]; simp only [plN]; rw [iat_replicate _ _ _ (by rw [hr.1] at hj; exact hj)]
        rw [← e]; exact hr
      clear HR HR1
      go_wp2_with fail
      rename_i wA _ _ _ _
      go_loopw [23] (fun t wr => ∃ k : Nat, k ≤ l.length ∧ t = .int .i64 k ∧ Hid (Below w.heap.size w wr) ∧ Hid (IRow wr w.heap.size w.heap.size i (plN l i k)) ∧ Hid (∀ j, j < k → chk l i j = 0)) (fun t _ => l.length - (intOf t).toNat)
      case atStart => exact ⟨0, by omega, rfl, HB.out, HP.out, fun j hj => by omega⟩
      case round =>
        obtain ⟨k, hk, rfl, HB2, HR, HC⟩ := hrel
        by_cases hlk : k < l.length
        · rcases HH.out.later HB2.out with h | ⟨b, off, rfl, hL⟩
          · subst h; simp at hlk
          have cl := hL k hlk
          have X := below36 (iat l k) i
          obtain ⟨x, hx⟩ : ∃ x, iat l k = x := ⟨_, rfl⟩
          rw [hx] at cl X
          cases hb : belowB x i
          · rw [hb] at X
            have hchk : chk l i k = 2 := by unfold chk; rw [hx, hb]; rfl
            have hE : Hid (errL l i = 2) := by show _ = _; unfold errL; rw [errN_first HC.out (by rw [hchk]; omega) _ hlk, hchk]
            go_wp2_with (go_at_call 36; refine (X _).mono ?_; rintro e w' ⟨rfl, rfl⟩)
            go_ret2
            exact ⟨Or.inr ⟨by rw [hE.out]; omega, by rw [hE.out]; rfl⟩, HB2.out⟩
          · rw [hb] at X
            obtain ⟨hx0, hx1⟩ := belowB_is hb
            obtain ⟨xn, rfl⟩ : ∃ xn : Nat, x = xn := ⟨x.toNat, by omega⟩
            have hxn : xn < i := by omega
            obtain ⟨c0, c1⟩ := HR.out.cell hxn
            have hfree := plN_free (x := xn) HC.out hxn
            by_cases hf : iat (plN l i k) xn = -1
            · rw [hf] at c0
              have hno := hfree.1 hf
              have hchk : chk l i k = 0 := chk_of (by rw [hx]; omega) (fun j hj => by rw [hx]; exact hno j hj)
              clear hfree hf hno
              have HCH := hide hchk
              clear hchk
              go_wp2_with (go_at_call 36; refine (X _).mono ?_; rintro e w' ⟨rfl, rfl⟩)
              go_roundw
              case rel =>
                refine ⟨k + 1, by omega, by go_num, HB2.out.setCell (by simp) _, ?_, more HC.out HCH.out⟩
                show IRow _ _ _ _ ((plN l i k).set (iat l k).toNat k)
                rw [hx]
                exact HR.out.set xn k
              case measure => simp [intOf]; omega
            · obtain ⟨y, hy⟩ : ∃ y, iat (plN l i k) xn = y := ⟨_, rfl⟩
              rw [hy] at c0 hf
              have hyb : (y == -1) = false := by simpa using hf
              have hmet : ∃ j, j < k ∧ iat l j = (xn : Int) := by
                apply Classical.byContradiction
                intro hn
                have := hfree.2 fun j hj e => hn ⟨j, hj, e⟩
                omega
              obtain ⟨j, hj, ej⟩ := hmet
              have hchk : chk l i k = 18 := by unfold chk; rw [hx, hb, if_pos rfl, metB_yes hj (by rw [ej, hx]), if_pos rfl]
              have hE : Hid (errL l i = 18) := by show _ = _; unfold errL; rw [errN_first HC.out (by rw [hchk]; omega) _ hlk, hchk]
              clear hfree hchk
              go_wp2_with (go_at_call 36; refine (X _).mono ?_; rintro e w' ⟨rfl, rfl⟩)
              go_ret2
              exact ⟨Or.inr ⟨by rw [hE.out]; omega, by rw [hE.out]; rfl⟩, HB2.out⟩
        · have hin : k = l.length := by omega
          subst hin
          have hE : Hid (errL l i = 0) := errN_zero _ HC.out
          go_wp2
          go_ret2
          exact ⟨Or.inl ⟨hE.out, _, rfl, HR.out⟩, HB2.out⟩
end Go.Proofs.Ytmmbbfmkhbengaa
