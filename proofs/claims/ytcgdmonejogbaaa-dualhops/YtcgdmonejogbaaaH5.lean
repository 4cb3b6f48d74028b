/- Pure: along an edge the distance over faces rises by one at most; ways to faces side by side. -/
import Derived.Test.YtcgdmonejogbaaaH4
namespace Go.Proofs.Ytcgdmonejogbaaa
open Go.RowKit Go.Sort
open Go
variable {F : List (List Int)} {O : List Int} {too : Nat}
/-- Breadth first, the row's first i done. -/
structure BW (F : List (List Int)) (O : List Int) (i : Nat) (s : List Int × List Int) : Prop where
  fnd : ∀ x, x < F.length → 0 ≤ iat s.1 x → ∃ j, j < s.2.length ∧ iat s.2 j = (x : Int)
  mon : ∀ j k, j ≤ k → k < s.2.length → iat s.1 (iat s.2 j).toNat ≤ iat s.1 (iat s.2 k).toNat
  win : ∀ j k, i ≤ j → j < s.2.length → k < s.2.length → iat s.1 (iat s.2 k).toNat ≤ iat s.1 (iat s.2 j).toNat + 1
  nb : ∀ j, j < i → j < s.2.length → ∀ k, k < (lat F (iat s.2 j).toNat).length → 0 ≤ iat s.1 (acr O (iat (lat F (iat s.2 j).toNat) k)) ∧ iat s.1 (acr O (iat (lat F (iat s.2 j).toNat) k)) ≤ iat s.1 (iat s.2 j).toNat + 1
theorem iat_app1 (l : List Int) (b : Int) (j : Nat) : iat (l ++ [b]) j = if j < l.length then iat l j else if j = l.length then b else 0 := by
  unfold iat
  rw [List.getD_eq_getElem?_getD, List.getElem?_append]
  split
  · rw [List.getD_eq_getElem?_getD]
  · split
    · rename_i h; subst h; simp
    · rw [List.getElem?_eq_none (by simp; omega)]; rfl
theorem BW.put {s : List Int × List Int} {i : Nat} (fc : Fc F O) (ok : Dok F s) (h : BW F O i s) {b x : Nat} (hb : b < F.length) (hi : i < s.2.length) (hx : iat s.2 i = (x : Int)) (hn : iat s.1 b < 0) : BW F O i (s.1.set b (iat s.1 x + 1), s.2 ++ [(b : Int)]) := by
  have hl := ok.len
  have at_ : ∀ y, y < F.length → iat (s.1.set b (iat s.1 x + 1)) y = if b = y then iat s.1 x + 1 else iat s.1 y := fun y hy => iat_set _ _ _ _ (by omega)
  have el : (s.2 ++ [(b : Int)]).length = s.2.length + 1 := by simp
  -- what stood in the row stands, with its mark
  have old : ∀ j, j < s.2.length → iat (s.2 ++ [(b : Int)]) j = iat s.2 j ∧ iat (s.1.set b (iat s.1 x + 1)) (iat s.2 j).toNat = iat s.1 (iat s.2 j).toNat := fun j hj => by
    obtain ⟨y, e, hy, h0⟩ := ok.row j hj
    refine ⟨by rw [iat_app1, if_pos hj], ?_⟩
    rw [e, Int.toNat_natCast, at_ y hy, if_neg]
    intro e2
    rw [e2] at hn
    omega
  have new : iat (s.2 ++ [(b : Int)]) s.2.length = b ∧ iat (s.1.set b (iat s.1 x + 1)) b = iat s.1 x + 1 := ⟨by rw [iat_app1, if_neg (by omega), if_pos rfl], by rw [at_ b hb, if_pos rfl]⟩
  have hw : ∀ k, k < s.2.length → iat s.1 (iat s.2 k).toNat ≤ iat s.1 x + 1 := fun k hk => by
    have := h.win i k (Nat.le_refl _) hi hk
    rw [hx, Int.toNat_natCast] at this
    exact this
  have hm : ∀ j, i ≤ j → j < s.2.length → iat s.1 x ≤ iat s.1 (iat s.2 j).toNat := fun j h1 h2 => by
    have := h.mon i j h1 h2
    rw [hx, Int.toNat_natCast] at this
    exact this
  refine ⟨fun y hy h0 => ?_, fun j k hjk hk => ?_, fun j k hij hj hk => ?_, fun j hj hjl k hk => ?_⟩
  · have h0 : 0 ≤ iat (s.1.set b (iat s.1 x + 1)) y := h0
    by_cases e : b = y
    · subst e
      exact ⟨s.2.length, by show _ < (s.2 ++ [(b : Int)]).length; omega, new.1⟩
    · rw [at_ y hy, if_neg e] at h0
      obtain ⟨j, hj, ej⟩ := h.fnd y hy h0
      exact ⟨j, by show _ < (s.2 ++ [(b : Int)]).length; omega, by show iat (s.2 ++ [(b : Int)]) j = _; rw [(old j hj).1]; exact ej⟩
  · have hk : k < (s.2 ++ [(b : Int)]).length := hk
    show iat (s.1.set b (iat s.1 x + 1)) (iat (s.2 ++ [(b : Int)]) j).toNat ≤ iat (s.1.set b (iat s.1 x + 1)) (iat (s.2 ++ [(b : Int)]) k).toNat
    by_cases h1 : k < s.2.length
    · rw [(old k h1).1, (old k h1).2, (old j (by omega)).1, (old j (by omega)).2]
      exact h.mon j k hjk h1
    · have : k = s.2.length := by omega
      subst this
      rw [new.1, Int.toNat_natCast, new.2]
      by_cases h2 : j < s.2.length
      · rw [(old j h2).1, (old j h2).2]
        exact hw j h2
      · have : j = s.2.length := by omega
        subst this
        rw [new.1, Int.toNat_natCast, new.2]
        omega
  · have hk : k < (s.2 ++ [(b : Int)]).length := hk
    have hj : j < (s.2 ++ [(b : Int)]).length := hj
    show iat (s.1.set b (iat s.1 x + 1)) (iat (s.2 ++ [(b : Int)]) k).toNat ≤ iat (s.1.set b (iat s.1 x + 1)) (iat (s.2 ++ [(b : Int)]) j).toNat + 1
    by_cases h1 : k < s.2.length
    · rw [(old k h1).1, (old k h1).2]
      by_cases h2 : j < s.2.length
      · rw [(old j h2).1, (old j h2).2]
        exact h.win j k hij h2 h1
      · have : j = s.2.length := by omega
        subst this
        rw [new.1, Int.toNat_natCast, new.2]
        have := hw k h1
        omega
    · have : k = s.2.length := by omega
      subst this
      rw [new.1, Int.toNat_natCast, new.2]
      by_cases h2 : j < s.2.length
      · rw [(old j h2).1, (old j h2).2]
        have := hm j hij h2
        omega
      · have : j = s.2.length := by omega
        subst this
        rw [new.1, Int.toNat_natCast, new.2]
        omega
  · have hk : k < (lat F (iat (s.2 ++ [(b : Int)]) j).toNat).length := hk
    show 0 ≤ iat (s.1.set b (iat s.1 x + 1)) (acr O (iat (lat F (iat (s.2 ++ [(b : Int)]) j).toNat) k)) ∧ iat (s.1.set b (iat s.1 x + 1)) (acr O (iat (lat F (iat (s.2 ++ [(b : Int)]) j).toNat) k)) ≤ iat (s.1.set b (iat s.1 x + 1)) (iat (s.2 ++ [(b : Int)]) j).toNat + 1
    have hj2 : j < s.2.length := by omega
    rw [(old j hj2).1] at hk ⊢
    rw [(old j hj2).2]
    obtain ⟨y, e, hy, h0⟩ := ok.row j hj2
    have := h.nb j hj hj2 k hk
    have ha := (fc.acr (f := (iat s.2 j).toNat) (by rw [e, Int.toNat_natCast]; exact hy) hk).1
    rw [at_ _ ha, if_neg (fun e2 => by rw [← e2] at this; omega)]
    exact this
theorem BW.dIn {s : List Int × List Int} {i : Nat} (fc : Fc F O) (ok : Dok F s) (h : BW F O i s) {x : Nat} (hx : x < F.length) (h0 : 0 ≤ iat s.1 x) (hi : i < s.2.length) (ex : iat s.2 i = (x : Int)) : ∀ j, j ≤ (lat F x).length → BW F O i (dIn O (lat F x) x j s) ∧ ∀ k, k < j → 0 ≤ iat (dIn O (lat F x) x j s).1 (acr O (iat (lat F x) k)) ∧ iat (dIn O (lat F x) x j s).1 (acr O (iat (lat F x) k)) ≤ iat (dIn O (lat F x) x j s).1 x + 1
  | 0, _ => ⟨h, fun k hk => by omega⟩
  | j + 1, hj => by
    obtain ⟨ih, ie⟩ := BW.dIn fc ok h hx h0 hi ex j (by omega)
    obtain ⟨ok2, hx2⟩ := ok.dIn fc hx h0 j (by omega)
    obtain ⟨hk1, hk2⟩ := dIn_keeps O (lat F x) x s j
    obtain ⟨hb, _⟩ := fc.acr hx (show j < (lat F x).length by omega)
    have hiw : i < (Ytcgdmonejogbaaa.dIn O (lat F x) x j s).2.length := by omega
    have exw : iat (Ytcgdmonejogbaaa.dIn O (lat F x) x j s).2 i = (x : Int) := by rw [hk2 i hi]; exact ex
    unfold Ytcgdmonejogbaaa.dIn
    by_cases hn : iat (Ytcgdmonejogbaaa.dIn O (lat F x) x j s).1 (acr O (iat (lat F x) j)) < 0
    · rw [if_pos hn]
      refine ⟨ih.put fc ok2 hb hiw exw hn, fun k hk => ?_⟩
      show 0 ≤ iat ((Ytcgdmonejogbaaa.dIn O (lat F x) x j s).1.set _ _) _ ∧ iat ((Ytcgdmonejogbaaa.dIn O (lat F x) x j s).1.set _ _) _ ≤ iat ((Ytcgdmonejogbaaa.dIn O (lat F x) x j s).1.set _ _) x + 1
      have hbx : acr O (iat (lat F x) j) ≠ x := fun e => by rw [e] at hn; omega
      have at_ : ∀ y, y < F.length → iat ((Ytcgdmonejogbaaa.dIn O (lat F x) x j s).1.set (acr O (iat (lat F x) j)) (iat (Ytcgdmonejogbaaa.dIn O (lat F x) x j s).1 x + 1)) y = if acr O (iat (lat F x) j) = y then iat (Ytcgdmonejogbaaa.dIn O (lat F x) x j s).1 x + 1 else iat (Ytcgdmonejogbaaa.dIn O (lat F x) x j s).1 y := fun y hy => iat_set _ _ _ _ (by rw [ok2.len]; exact hy)
      rw [at_ x hx, if_neg hbx]
      by_cases hkj : k = j
      · subst hkj
        rw [at_ _ hb, if_pos rfl]
        omega
      · have := ie k (by omega)
        rw [at_ _ (fc.acr hx (show k < (lat F x).length by omega)).1, if_neg (fun e => by rw [e] at hn; omega)]
        exact this
    · rw [if_neg hn]
      refine ⟨ih, fun k hk => ?_⟩
      by_cases hkj : k = j
      · subst hkj
        refine ⟨by omega, ?_⟩
        obtain ⟨t, ht, et⟩ := ih.fnd _ hb (by omega)
        have := ih.win i t (Nat.le_refl _) hiw ht
        rw [exw, et, Int.toNat_natCast, Int.toNat_natCast] at this
        exact this
      · exact ie k (by omega)
theorem BW.dOut (fc : Fc F O) : ∀ (k i : Nat) (s : List Int × List Int), Dok F s → BW F O i s → F.length < i + k → ∀ x, x < F.length → 0 ≤ iat (dOut F O k i s).1 x → ∀ j, j < (lat F x).length → 0 ≤ iat (dOut F O k i s).1 (acr O (iat (lat F x) j)) ∧ iat (dOut F O k i s).1 (acr O (iat (lat F x) j)) ≤ iat (dOut F O k i s).1 x + 1
  | 0, i, s, ok, h, hk, x, hx, h0, j, hj => by
    obtain ⟨t, ht, et⟩ := h.fnd x hx h0
    have hc := ok.cnt
    have := h.nb t (by omega) ht
    rw [et, Int.toNat_natCast] at this
    exact this j hj
  | k + 1, i, s, ok, h, hk, x, hx, h0, j, hj => by
    unfold Ytcgdmonejogbaaa.dOut at h0 ⊢
    by_cases hi : i < s.2.length
    · rw [if_pos hi] at h0 ⊢
      obtain ⟨y, e, hy, hy0⟩ := ok.row i hi
      rw [e, Int.toNat_natCast] at h0 ⊢
      obtain ⟨b1, b2⟩ := h.dIn fc ok hy hy0 hi e _ (Nat.le_refl _)
      obtain ⟨hk1, hk2⟩ := dIn_keeps O (lat F y) y s (lat F y).length
      refine BW.dOut fc k (i + 1) _ (ok.dIn fc hy hy0 _ (Nat.le_refl _)).1 ⟨b1.fnd, b1.mon, fun j k h1 => b1.win j k (by omega), fun t ht htl => ?_⟩ (by omega) x hx h0 j hj
      by_cases hti : t = i
      · subst hti
        rw [hk2 t hi, e, Int.toNat_natCast]
        exact b2
      · exact b1.nb t (by omega) htl
    · rw [if_neg hi] at h0 ⊢
      obtain ⟨t, ht, et⟩ := h.fnd x hx h0
      have := h.nb t (by omega) ht
      rw [et, Int.toNat_natCast] at this
      exact this j hj
theorem dist_near (fc : Fc F O) (ht : too < F.length) : ∀ x, x < F.length → 0 ≤ iat (dist F O too) x → ∀ j, j < (lat F x).length → 0 ≤ iat (dist F O too) (acr O (iat (lat F x) j)) ∧ iat (dist F O too) (acr O (iat (lat F x) j)) ≤ iat (dist F O too) x + 1 := by
  have at_ : ∀ y, y < F.length → iat ((List.replicate F.length (-1)).set too 0) y = if too = y then 0 else -1 := fun y hy => by
    rw [iat_set _ _ _ _ (by simpa using hy), iat_fill hy]
  have one : ∀ j, j < ([(too : Int)]).length → iat [(too : Int)] j = too := fun j hj => by
    have : j = 0 := by simpa using hj
    subst this
    rfl
  refine BW.dOut fc (F.length + 1) 0 _ (dok_start ht) ⟨fun x hx h0 => ?_, fun j k h1 h2 => ?_, fun j k _ h1 h2 => ?_, fun j hj => by omega⟩ (by omega)
  · have h0 : 0 ≤ iat ((List.replicate F.length (-1)).set too 0) x := h0
    rw [at_ x hx] at h0
    split at h0
    · rename_i e; exact ⟨0, by simp, by rw [← e]; rfl⟩
    · omega
  · show iat _ (iat [(too : Int)] j).toNat ≤ iat _ (iat [(too : Int)] k).toNat
    rw [one j (by have : k < 1 := h2; simp; omega), one k h2]
    omega
  · show iat _ (iat [(too : Int)] k).toNat ≤ iat _ (iat [(too : Int)] j).toNat + 1
    rw [one j h1, one k h2]
    omega
/-- From a face that reaches one target to a face beside that target: at most one step more. -/
theorem dist_beside (fc : Fc F O) {a b c : Nat} (ha : a < F.length) (hb : b < F.length) (hc : c < F.length) {j : Nat} (hj : j < (lat F c).length) (hjb : acr O (iat (lat F c) j) = b) (h0 : 0 ≤ iat (dist F O b) a) : 0 ≤ iat (dist F O c) a ∧ iat (dist F O c) a ≤ iat (dist F O b) a + 1 := by
  obtain ⟨B, _⟩ := dist_ok fc hb
  obtain ⟨C, _⟩ := dist_ok fc hc
  have hcb := dist_near fc hc c hc (by rw [C.zero]; omega) j hj
  rw [hjb, C.zero] at hcb
  obtain ⟨n, hn⟩ : ∃ n : Nat, iat (dist F O b) a = n := ⟨(iat (dist F O b) a).toNat, by omega⟩
  suffices A : ∀ (n a : Nat), a < F.length → iat (dist F O b) a = n → 0 ≤ iat (dist F O c) a ∧ iat (dist F O c) a ≤ (n : Int) + 1 by
    have := A n a ha hn
    omega
  intro n
  induction n with
  | zero =>
    intro a ha e
    have := B.only a ha (by omega)
    subst this
    omega
  | succ n ih =>
    intro a ha e
    obtain ⟨k, hk, ek⟩ := B.back a ha (by omega)
    obtain ⟨hd, _⟩ := fc.acr ha hk
    obtain ⟨i1, i2⟩ := ih _ hd (by omega)
    obtain ⟨k2, hk2, e2⟩ := other_side fc ha hk
    have := dist_near fc hc _ hd i1 k2 hk2
    rw [e2] at this
    omega
/-- The way is as long as the distance. -/
theorem hop_len (fc : Fc F O) {far : List Int} (h : DT F O too far) : ∀ (k a : Nat), a < F.length → 0 ≤ iat far a → iat far a < k → ((hopL F O far too k a).length : Int) = iat far a
  | 0, a, ha, h0, hk => by omega
  | k + 1, a, ha, h0, hk => by
    unfold hopL
    by_cases e : a = too
    · rw [if_pos e, e, h.zero]; rfl
    · rw [if_neg e]
      obtain ⟨x, e1, _, _, _, h3, h4, _⟩ := hop_step fc h ha h0 e
      have hpos : iat far a ≠ 0 := fun e0 => e (h.only a ha e0)
      rw [e1]
      have := hop_len fc h k _ h3 (by omega) (by omega)
      rw [List.length_cons]
      omega
end Go.Proofs.Ytcgdmonejogbaaa
