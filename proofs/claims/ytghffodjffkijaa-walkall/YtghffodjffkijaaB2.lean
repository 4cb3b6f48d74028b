/- Breadth first: what is found leads back, and along an edge the distance changes by one at most. -/
import Derived.Test.YtghffodjffkijaaB1
namespace Go.Proofs.Ytghffodjffkijaa
open Go.RowKit Go.Sort
open Go

abbrev oj (st : St) (j : Nat) : Nat := (iat st.O j).toNat
/-- Each node that is found is a beginning, or was found by a half-edge from one that is one nearer. -/
structure Tree (es : List Pt) (n : Nat) (st : St) : Prop where
  back : ∀ v, v < n → 0 ≤ iat st.Fa v → (iat st.Fa v = 0 ∧ iat st.By v = -1) ∨ ∃ h u : Nat, h < 2 * es.length ∧ u < n ∧ iat st.By v = h ∧ toL es h = v ∧ fromL es h = u ∧ iat st.Fa u + 1 = iat st.Fa v ∧ 0 ≤ iat st.Fa u
  none : ∀ v, v < n → iat st.Fa v < 0 → iat st.By v = -1
  surj : ∀ v, v < n → 0 ≤ iat st.Fa v → ∃ j, j < st.O.length ∧ iat st.O j = v
variable {es : List Pt} {n : Nat} {st : St}
theorem Tree.put {v : Nat} {h f : Int} (t : Tree es n st) (o : Ok n st) (hv : v < n) (hn : iat st.Fa v < 0)
    (hb : (f = 0 ∧ h = -1) ∨ ∃ k u : Nat, k < 2 * es.length ∧ u < n ∧ h = k ∧ toL es k = v ∧ fromL es k = u ∧ iat st.Fa u + 1 = f ∧ 0 ≤ iat st.Fa u) (hf : 0 ≤ f) : Tree es n ⟨st.O ++ [(v : Int)], st.By.set v h, st.Fa.set v f⟩ where
  back x hx h0 := by
    by_cases e : x = v
    · subst e
      simp only [iat_put (show x < st.Fa.length by rw [o.lf]; exact hx), iat_put (show x < st.By.length by rw [o.lb]; exact hx)]
      rcases hb with hb | ⟨k, u, h1, h2, h3, h4, h5, h6, h7⟩
      · exact Or.inl hb
      · refine Or.inr ⟨k, u, h1, h2, h3, h4, h5, ?_⟩
        have : u ≠ x := fun e => by rw [e] at h7; omega
        simp only [iat_put_ne this]
        exact ⟨h6, h7⟩
    · simp only [iat_put_ne e] at h0 ⊢
      rcases t.back x hx h0 with hb | ⟨k, u, h1, h2, h3, h4, h5, h6, h7⟩
      · exact Or.inl hb
      · refine Or.inr ⟨k, u, h1, h2, h3, h4, h5, ?_⟩
        have : u ≠ v := fun e => by rw [e] at h7; omega
        simp only [iat_put_ne this]
        exact ⟨h6, h7⟩
  none x hx h0 := by
    by_cases e : x = v
    · subst e
      simp only [iat_put (show x < st.Fa.length by rw [o.lf]; exact hx)] at h0
      omega
    · simp only [iat_put_ne e] at h0 ⊢
      exact t.none x hx h0
  surj x hx h0 := by
    by_cases e : x = v
    · exact ⟨st.O.length, by simp, by show iat (st.O ++ [(v : Int)]) st.O.length = _; rw [iat_app, if_neg (by omega), if_pos rfl, e]⟩
    · simp only [iat_put_ne e] at h0
      obtain ⟨j, hj, he⟩ := t.surj x hx h0
      exact ⟨j, by simp; omega, by show iat (st.O ++ [(v : Int)]) j = _; rw [iat_app, if_pos hj]; exact he⟩
theorem Tree.begin_ {s : Nat} (t : Tree es n st) (o : Ok n st) (hs : s < n) (hn : iat st.Fa s < 0) : Tree es n (begin_ st s) := t.put o hs hn (Or.inl ⟨rfl, rfl⟩) (by omega)
/-- The queue: distances rise along it, by one at most from where it is gone out of; who has gone out is closed. -/
structure Win (es : List Pt) (n j0 j : Nat) (st : St) : Prop where
  sorted : ∀ i k, j0 ≤ i → i ≤ k → k < st.O.length → iat st.Fa (oj st i) ≤ iat st.Fa (oj st k)
  near : ∀ i, j0 ≤ i → i < st.O.length → j < st.O.length → iat st.Fa (oj st i) ≤ iat st.Fa (oj st j) + 1
  shut : ∀ i, j0 ≤ i → i < j → i < st.O.length → ∀ h, h < 2 * es.length → fromL es h = iat st.O i → 0 ≤ iat st.Fa (toL es h).toNat ∧ iat st.Fa (toL es h).toNat ≤ iat st.Fa (oj st i) + 1
/-- In a row: the half-edges of the node that goes out, as far as it has. -/
structure WinR (es : List Pt) (n j0 j t : Nat) (st : St) : Prop extends Win es n j0 j st where
  lt : j < st.O.length
  half : ∀ i, i < t → ∀ h : Nat, iat (outL es (2 * es.length) (oj st j)) i = h → 0 ≤ iat st.Fa (toL es h).toNat ∧ iat st.Fa (toL es h).toNat ≤ iat st.Fa (oj st j) + 1
theorem oj_app {x : Int} {j : Nat} (hj : j < st.O.length) {B F : List Int} : oj ⟨st.O ++ [x], B, F⟩ j = oj st j := by
  show (iat (st.O ++ [x]) j).toNat = _
  rw [iat_app, if_pos hj]
theorem WinR.step {j0 j t : Nat} (w : WinR es n j0 j t st) (o : Ok n st) (hm : netB n es = true) (sj : ∀ v, v < n → 0 ≤ iat st.Fa v → ∃ q, j0 ≤ q ∧ q < st.O.length ∧ iat st.O q = v) (ht : t < (outL es (2 * es.length) (oj st j)).length) :
    WinR es n j0 j (t + 1) (bStep es (oj st j) st (iat (outL es (2 * es.length) (oj st j)) t).toNat) := by
  obtain ⟨h, hh, hh2, hh3⟩ := outL_at ht
  rw [hh, Int.toNat_natCast]
  obtain ⟨t1, t2⟩ := toL_in hm h hh2
  obtain ⟨x, hx⟩ : ∃ x : Nat, toL es h = x := ⟨(toL es h).toNat, by omega⟩
  have hxn : x < n := by omega
  have hfu := o.fnd j w.lt
  unfold bStep
  rw [hx, Int.toNat_natCast]
  by_cases hneg : iat st.Fa x < 0
  · rw [if_pos hneg]
    have hlen : (st.O ++ [(x : Int)]).length = st.O.length + 1 := by simp
    have hnew : ∀ i, i < st.O.length → oj st i ≠ x := fun i hi e => by have := o.fnd i hi; rw [show (iat st.O i).toNat = x from e] at this; omega
    have hF : ∀ i, i < st.O.length → iat (st.Fa.set x (iat st.Fa (oj st j) + 1)) (oj st i) = iat st.Fa (oj st i) := fun i hi => iat_put_ne (hnew i hi)
    have hFx : iat (st.Fa.set x (iat st.Fa (oj st j) + 1)) x = iat st.Fa (oj st j) + 1 := iat_put (by rw [o.lf]; exact hxn)
    have hox : oj ⟨st.O ++ [(x : Int)], st.By.set x h, st.Fa.set x (iat st.Fa (oj st j) + 1)⟩ st.O.length = x := by
      show (iat (st.O ++ [(x : Int)]) st.O.length).toNat = x
      rw [iat_app, if_neg (by omega), if_pos rfl, Int.toNat_natCast]
    have keep : ∀ y : Nat, 0 ≤ iat st.Fa y → iat (st.Fa.set x (iat st.Fa (oj st j) + 1)) y = iat st.Fa y := fun y hy => iat_put_ne (fun e => by rw [e] at hy; omega)
    refine ⟨⟨?_, ?_, ?_⟩, ?_, ?_⟩
    · intro i k hi hik hk
      simp only [hlen] at hk
      by_cases ek : k < st.O.length
      · rw [oj_app (by omega), oj_app ek]
        simp only [hF i (by omega), hF k ek]
        exact w.sorted i k hi hik ek
      · have ek2 : k = st.O.length := by omega
        by_cases ei : i < st.O.length
        · rw [ek2, hox, oj_app ei]
          simp only [hF i ei, hFx]
          exact w.near i hi ei w.lt
        · have : i = k := by omega
          rw [this]
          exact Int.le_refl _
    · intro i hi hil _
      simp only [hlen] at hil
      rw [oj_app w.lt]
      simp only [hF j w.lt]
      by_cases ei : i < st.O.length
      · rw [oj_app ei]
        simp only [hF i ei]
        exact w.near i hi ei w.lt
      · have : i = st.O.length := by omega
        rw [this, hox]
        simp only [hFx]
        exact Int.le_refl _
    · intro i hi hij _ k hk hkf
      have hil : i < st.O.length := by have := w.lt; omega
      have hO : iat (st.O ++ [(x : Int)]) i = iat st.O i := by rw [iat_app, if_pos hil]
      have hkf2 : fromL es k = iat st.O i := by rw [← hO]; exact hkf
      obtain ⟨s1, s2⟩ := w.shut i hi hij hil k hk hkf2
      rw [oj_app hil]
      simp only [hF i hil, keep _ s1]
      exact ⟨s1, s2⟩
    · show j < (st.O ++ [(x : Int)]).length
      rw [hlen]; have := w.lt; omega
    · intro i hi k hk
      rw [oj_app w.lt] at hk ⊢
      simp only [hF j w.lt]
      by_cases e : i = t
      · rw [e, hh] at hk
        have : h = k := by omega
        subst this
        rw [hx, Int.toNat_natCast]
        simp only [hFx]
        have : 0 ≤ iat st.Fa (oj st j) := hfu
        omega
      · obtain ⟨s1, s2⟩ := w.half i (by omega) k hk
        simp only [keep _ s1]
        exact ⟨s1, s2⟩
  · rw [if_neg hneg]
    refine ⟨w.toWin, w.lt, fun i hi k hk => ?_⟩
    by_cases e : i = t
    · rw [e, hh] at hk
      have : h = k := by omega
      subst this
      rw [hx, Int.toNat_natCast]
      obtain ⟨q, q1, q2, q3⟩ := sj x hxn (by omega)
      have := w.near q q1 q2 w.lt
      rw [show oj st q = x by show (iat st.O q).toNat = x; rw [q3, Int.toNat_natCast]] at this
      omega
    · exact w.half i (by omega) k hk
theorem Tree.step {u h : Nat} (t : Tree es n st) (o : Ok n st) (hm : netB n es = true) (hu : u < n) (h0 : 0 ≤ iat st.Fa u) (hh : h < 2 * es.length) (hf : fromL es h = u) : Tree es n (bStep es u st h) := by
  unfold bStep
  obtain ⟨t1, t2⟩ := toL_in hm h hh
  obtain ⟨x, hx⟩ : ∃ x : Nat, toL es h = x := ⟨(toL es h).toNat, by omega⟩
  rw [hx]
  simp only [Int.toNat_natCast]
  split
  · rename_i hn
    exact t.put o (by omega) hn (Or.inr ⟨h, u, hh, hu, rfl, hx, hf, rfl, h0⟩) (by omega)
  · exact t
theorem bRow_oj {u : Nat} {j : Nat} (hj : j < st.O.length) : ∀ i, iat (bRow es u st i).O j = iat st.O j
  | 0 => rfl
  | i + 1 => by
    have ih : iat (bRow es u st i).O j = iat st.O j := bRow_oj hj i
    have hl := bRow_len es u st i
    simp only [bRow]
    unfold bStep
    split
    · show iat ((bRow es u st i).O ++ [_]) j = _
      rw [iat_app, if_pos (by omega), ih]
    · exact ih
/-- What holds of the whole of one walk: from one node, with nothing found before. -/
structure Bf (es : List Pt) (n j : Nat) (st : St) : Prop where
  ok : Ok n st
  tree : Tree es n st
  win : Win es n 0 j st
theorem Bf.row {j : Nat} (b : Bf es n j st) (hm : netB n es = true) (hj : j < st.O.length) : ∀ t, t ≤ (outL es (2 * es.length) (oj st j)).length → Ok n (bRow es (oj st j) st t) ∧ Tree es n (bRow es (oj st j) st t) ∧ 0 ≤ iat (bRow es (oj st j) st t).Fa (oj st j) ∧ WinR es n 0 j t (bRow es (oj st j) st t)
  | 0, _ => ⟨b.ok, b.tree, b.ok.fnd j hj, ⟨b.win, hj, fun i hi => by omega⟩⟩
  | t + 1, ht => by
    obtain ⟨o, tr, h0, w⟩ := Bf.row b hm hj t (by omega)
    have hm' := b.ok.mem j hj
    have hun : oj st j < n := by show (iat st.O j).toNat < n; omega
    have hoj : oj (bRow es (oj st j) st t) j = oj st j := by show (iat (bRow es (oj st j) st t).O j).toNat = _; rw [bRow_oj hj]
    obtain ⟨h, hh, hh2, hh3⟩ := outL_at (es := es) (h := 2 * es.length) (v := oj st j) (j := t) (by omega)
    have w2 := w.step o hm (fun v hv h => by obtain ⟨q, q1, q2⟩ := tr.surj v hv h; exact ⟨q, Nat.zero_le _, q1, q2⟩) (by rw [hoj]; omega)
    rw [hoj] at w2
    refine ⟨?_, ?_, ?_, w2⟩
    · simp only [bRow]; rw [hh, Int.toNat_natCast]; exact (o.step hm hun h0 hh2).1
    · simp only [bRow]; rw [hh, Int.toNat_natCast]; exact tr.step o hm hun h0 hh2 hh3
    · simp only [bRow]; rw [hh, Int.toNat_natCast]; exact (o.step hm hun h0 hh2).2
theorem Bf.next {j : Nat} (b : Bf es n j st) (hm : netB n es = true) (hj : j < st.O.length) : Bf es n (j + 1) (bRow es (oj st j) st (outL es (2 * es.length) (oj st j)).length) := by
  obtain ⟨o, tr, h0, w⟩ := b.row hm hj _ (Nat.le_refl _)
  have hoj : oj (bRow es (oj st j) st (outL es (2 * es.length) (oj st j)).length) j = oj st j := by show (iat (bRow es (oj st j) st _).O j).toNat = _; rw [bRow_oj hj]
  have hle := bRow_len es (oj st j) st (outL es (2 * es.length) (oj st j)).length
  refine ⟨o, tr, ⟨w.sorted, ?_, ?_⟩⟩
  · intro i _ hi hj1
    by_cases hij : i ≤ j + 1
    · have := w.sorted i (j + 1) (Nat.zero_le _) hij hj1; omega
    · have h1 := w.near i (Nat.zero_le _) hi w.lt
      have h2 := w.sorted j (j + 1) (Nat.zero_le _) (by omega) hj1
      omega
  · intro i _ hij hil h hh hf
    by_cases e : i = j
    · subst e
      have hm' := b.ok.mem i hj
      rw [bRow_oj hj] at hf
      obtain ⟨q, hq, hqe⟩ := outL_mem (es := es) (h := 2 * es.length) (v := oj st i) (k := h) hh (by rw [hf]; show iat st.O i = ((iat st.O i).toNat : Int); omega)
      have := w.half q hq h (by rw [hoj]; exact hqe)
      exact this
    · exact w.shut i (Nat.zero_le _) (by omega) hil h hh hf
theorem Bf.all (hm : netB n es = true) : ∀ (k j : Nat) (st : St), Bf es n j st → n ≤ k + j → ∃ j', Bf es n j' (bfs es k j st) ∧ (bfs es k j st).O.length ≤ j'
  | 0, j, st, b, hk => ⟨j, b, by have := b.ok.cnt; show st.O.length ≤ j; omega⟩
  | k + 1, j, st, b, hk => by
    simp only [bfs]
    split
    · rename_i hj; exact Bf.all hm k (j + 1) _ (b.next hm hj) (by omega)
    · exact ⟨j, b, by omega⟩
theorem tree0 (es : List Pt) (n : Nat) (By Fa : List Int) (hF : ∀ v, v < n → iat Fa v = -1) (hB : ∀ v, v < n → iat By v = -1) : Tree es n ⟨[], By, Fa⟩ where
  back v hv h := by have : iat Fa v = -1 := hF v hv; exfalso; have h' : 0 ≤ iat Fa v := h; omega
  none v hv _ := hB v hv
  surj v hv h := by have : iat Fa v = -1 := hF v hv; exfalso; have h' : 0 ≤ iat Fa v := h; omega
/-- From one node: all that is found leads back, and along a half-edge the distance grows by one at most. -/
theorem walk_far {s : Nat} (hm : netB n es = true) (hs : s < n) (o : Ok n st) (hO : st.O = []) (hF : ∀ v, v < n → iat st.Fa v = -1) (hB : ∀ v, v < n → iat st.By v = -1) :
    Tree es n (bfs es n 0 (begin_ st s)) ∧ Ok n (bfs es n 0 (begin_ st s)) ∧ ∀ h a b : Nat, h < 2 * es.length → fromL es h = a → toL es h = b → 0 ≤ iat (bfs es n 0 (begin_ st s)).Fa a → 0 ≤ iat (bfs es n 0 (begin_ st s)).Fa b ∧ iat (bfs es n 0 (begin_ st s)).Fa b ≤ iat (bfs es n 0 (begin_ st s)).Fa a + 1 := by
  obtain ⟨O, By, Fa⟩ := st
  simp only at hO hF hB
  subst hO
  have hneg : iat Fa s < 0 := by rw [hF s hs]; omega
  have o1 := o.begin_ hs hneg
  have t1 := (tree0 es n By Fa hF hB).begin_ o hs hneg
  have b0 : Bf es n 0 (begin_ ⟨[], By, Fa⟩ s) := by
    refine ⟨o1, t1, ⟨?_, ?_, ?_⟩⟩
    · intro i k _ hik hk
      have hk' : k < 1 := by simpa [begin_] using hk
      have : i = k := by omega
      rw [this]
      exact Int.le_refl _
    · intro i _ hi h0
      have hi' : i < 1 := by simpa [begin_] using hi
      have : i = 0 := by omega
      rw [this]
      omega
    · intro i _ hi0; omega
  obtain ⟨j', b, hj'⟩ := Bf.all hm n 0 _ b0 (by omega)
  refine ⟨b.tree, b.ok, fun h a c hh ha hc h0 => ?_⟩
  have han := fromL_in hm h hh
  obtain ⟨q, hq, hqe⟩ := b.tree.surj a (by omega) h0
  have := b.win.shut q (Nat.zero_le _) (by omega) hq h hh (by rw [ha, hqe])
  rw [hc, Int.toNat_natCast, show oj (bfs es n 0 (begin_ ⟨[], By, Fa⟩ s)) q = a by show (iat _ q).toNat = a; rw [hqe, Int.toNat_natCast]] at this
  exact this
end Go.Proofs.Ytghffodjffkijaa
