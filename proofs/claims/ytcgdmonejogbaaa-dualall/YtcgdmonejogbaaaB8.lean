/- Pure: Parts' labels (carried). -/
import Derived.Test.YtcgdmonejogbaaaA4
import Derived.Test.YtcgdmonejogbaaaC5
import Derived.Test.YtcgdmonejogbaaaY14
import Derived.Test.YtcgdmonejogbaaaX4
/- Pure: Shut (carried). -/
/- Pure: ways back (carried). -/
/- Pure: depth first (carried). -/
namespace Go.Proofs.Ytcgdmonejogbaaa
open Go.RowKit Go.Sort
open Go
end Go.Proofs.Ytcgdmonejogbaaa
/- Pure: breadth first (carried). -/
namespace Go.Proofs.Ytcgdmonejogbaaa
open Go.RowKit Go.Sort
open Go
abbrev oj (st : St) (j : Nat) : Nat := (iat st.O j).toNat
/-- Each node that is found is a beginning, or was found by a half-edge from one that is one nearer. -/
structure Tree (es : List Pt) (n : Nat) (st : St) : Prop where
  back : ∀ v, v < n → 0 ≤ iat st.Fa v → (iat st.Fa v = 0 ∧ iat st.By v = -1) ∨ ∃ h u : Nat, h < 2 * es.length ∧ u < n ∧ iat st.By v = h ∧ toL es h = v ∧ fromL es h = u ∧ iat st.Fa u + 1 = iat st.Fa v ∧ 0 ≤ iat st.Fa u
  none : ∀ v, v < n → iat st.Fa v < 0 → iat st.By v = -1
  surj : ∀ v, v < n → 0 ≤ iat st.Fa v → ∃ j, j < st.O.length ∧ iat st.O j = v
variable {es : List Pt} {n : Nat} {st : St}
theorem Tree.put {v : Nat} {h f : Int} (t : Tree es n st) (o : Ok n st) (hv : v < n) (hn : iat st.Fa v < 0)
    (hb : (f = 0 ∧ h = -1) ∨ ∃ k u : Nat, k < 2 * es.length ∧ u < n ∧ h = k ∧ toL es k = v ∧ fromL es k = u ∧ iat st.Fa u + 1 = f ∧ 0 ≤ iat st.Fa u) (hf : 0 ≤ f) : Tree es n ⟨st.O ++ [(v : Int)], st.By.set v h, st.Fa.set v f⟩ where
  back x hx h0 := by
    by_cases e : x = v
    · subst e
      simp only [iat_put (show x < st.Fa.length by rw [o.lf]; exact hx), iat_put (show x < st.By.length by rw [o.lb]; exact hx)]
      rcases hb with hb | ⟨k, u, h1, h2, h3, h4, h5, h6, h7⟩
      · exact Or.inl hb
      · refine Or.inr ⟨k, u, h1, h2, h3, h4, h5, ?_⟩
        have : u ≠ x := fun e => by rw [e] at h7; omega
        simp only [iat_put_ne this]
        exact ⟨h6, h7⟩
    · simp only [iat_put_ne e] at h0 ⊢
      rcases t.back x hx h0 with hb | ⟨k, u, h1, h2, h3, h4, h5, h6, h7⟩
      · exact Or.inl hb
      · refine Or.inr ⟨k, u, h1, h2, h3, h4, h5, ?_⟩
        have : u ≠ v := fun e => by rw [e] at h7; omega
        simp only [iat_put_ne this]
        exact ⟨h6, h7⟩
  none x hx h0 := by
    by_cases e : x = v
    · subst e
      simp only [iat_put (show x < st.Fa.length by rw [o.lf]; exact hx)] at h0
      omega
    · simp only [iat_put_ne e] at h0 ⊢
      exact t.none x hx h0
  surj x hx h0 := by
    by_cases e : x = v
    · exact ⟨st.O.length, by simp, by show iat (st.O ++ [(v : Int)]) st.O.length = _; rw [iat_app, if_neg (by omega), if_pos rfl, e]⟩
    · simp only [iat_put_ne e] at h0
      obtain ⟨j, hj, he⟩ := t.surj x hx h0
      exact ⟨j, by simp; omega, by show iat (st.O ++ [(v : Int)]) j = _; rw [iat_app, if_pos hj]; exact he⟩
theorem Tree.begin_ {s : Nat} (t : Tree es n st) (o : Ok n st) (hs : s < n) (hn : iat st.Fa s < 0) : Tree es n (begin_ st s) := t.put o hs hn (Or.inl ⟨rfl, rfl⟩) (by omega)
theorem oj_app {x : Int} {j : Nat} (hj : j < st.O.length) {B F : List Int} : oj ⟨st.O ++ [x], B, F⟩ j = oj st j := by
  show (iat (st.O ++ [x]) j).toNat = _
  rw [iat_app, if_pos hj]
theorem Tree.step {u h : Nat} (t : Tree es n st) (o : Ok n st) (hm : netB n es = true) (hu : u < n) (h0 : 0 ≤ iat st.Fa u) (hh : h < 2 * es.length) (hf : fromL es h = u) : Tree es n (bStep es u st h) := by
  unfold bStep
  obtain ⟨t1, t2⟩ := toL_in hm h hh
  obtain ⟨x, hx⟩ : ∃ x : Nat, toL es h = x := ⟨(toL es h).toNat, by omega⟩
  rw [hx]
  simp only [Int.toNat_natCast]
  split
  · rename_i hn
    exact t.put o (by omega) hn (Or.inr ⟨h, u, hh, hu, rfl, hx, hf, rfl, h0⟩) (by omega)
  · exact t
theorem bRow_oj {u : Nat} {j : Nat} (hj : j < st.O.length) : ∀ i, iat (bRow es u st i).O j = iat st.O j
  | 0 => rfl
  | i + 1 => by
    have ih : iat (bRow es u st i).O j = iat st.O j := bRow_oj hj i
    have hl := bRow_len es u st i
    simp only [bRow]
    unfold bStep
    split
    · show iat ((bRow es u st i).O ++ [_]) j = _
      rw [iat_app, if_pos (by omega), ih]
    · exact ih
theorem tree0 (es : List Pt) (n : Nat) (By Fa : List Int) (hF : ∀ v, v < n → iat Fa v = -1) (hB : ∀ v, v < n → iat By v = -1) : Tree es n ⟨[], By, Fa⟩ where
  back v hv h := by have : iat Fa v = -1 := hF v hv; exfalso; have h' : 0 ≤ iat Fa v := h; omega
  none v hv _ := hB v hv
  surj v hv h := by have : iat Fa v = -1 := hF v hv; exfalso; have h' : 0 ≤ iat Fa v := h; omega
end Go.Proofs.Ytcgdmonejogbaaa
namespace Go.Proofs.Ytcgdmonejogbaaa
open Go.RowKit Go.Sort
open Go
/-- The node by which one was found. -/
def par (es : List Pt) (st : St) (v : Nat) : Nat := (fromL es (iat st.By v).toNat).toNat
def rtN (es : List Pt) (st : St) : Nat → Nat → Nat
  | 0, v => v
  | k + 1, v => rtN es st k (par es st v)
/-- The node with which a tree begins. -/
def root (es : List Pt) (st : St) (v : Nat) : Nat := rtN es st (iat st.Fa v).toNat v
variable {es : List Pt} {n : Nat} {st : St}
theorem root_par (t : Tree es n st) {v : Nat} (hv : v < n) (h : 0 < iat st.Fa v) : ∃ k : Nat, k < 2 * es.length ∧ iat st.By v = k ∧ toL es k = v ∧ fromL es k = par es st v ∧ par es st v < n ∧ iat st.Fa (par es st v) + 1 = iat st.Fa v ∧ 0 ≤ iat st.Fa (par es st v) ∧ root es st (par es st v) = root es st v := by
  rcases t.back v hv (by omega) with ⟨h0, _⟩ | ⟨k, u, h1, h2, h3, h4, h5, h6, h7⟩
  · omega
  · have hp : par es st v = u := by unfold par; rw [h3, Int.toNat_natCast, h5, Int.toNat_natCast]
    refine ⟨k, h1, h3, h4, by rw [hp]; exact h5, by rw [hp]; exact h2, by rw [hp]; exact h6, by rw [hp]; exact h7, ?_⟩
    unfold root
    rw [show (iat st.Fa v).toNat = (iat st.Fa (par es st v)).toNat + 1 by rw [hp]; omega]
    rfl
theorem root_zero {v : Nat} (h : iat st.Fa v = 0) : root es st v = v := by
  unfold root
  rw [h]
  rfl
/-- The half-edge the other way. -/
def twnW (h : Int) : Int := if h % 2 = 0 then h + 1 else h - 1
theorem twnW_in {k m : Nat} (h : k < 2 * m) : ∃ j : Nat, twnW (k : Int) = j ∧ j < 2 * m := by
  unfold twnW
  by_cases h2 : (k : Int) % 2 = 0
  · rw [if_pos h2]; exact ⟨k + 1, by omega, by omega⟩
  · rw [if_neg h2]; exact ⟨k - 1, by omega, by omega⟩
theorem twnW_to (es : List Pt) (k : Nat) : toL es (twnW (k : Int)).toNat = fromL es k := by
  unfold twnW
  by_cases h2 : (k : Int) % 2 = 0
  · rw [if_pos h2, show ((k : Int) + 1).toNat = k + 1 by omega]
    unfold toL fromL
    rw [if_neg (by omega), if_pos (by omega), show (k + 1) / 2 = k / 2 by omega]
  · rw [if_neg h2, show ((k : Int) - 1).toNat = k - 1 by omega]
    unfold toL fromL
    rw [if_pos (by omega), if_neg (by omega), show (k - 1) / 2 = k / 2 by omega]
end Go.Proofs.Ytcgdmonejogbaaa
namespace Go.Proofs.Ytcgdmonejogbaaa
open Go.RowKit Go.Sort
open Go
variable {es : List Pt} {n : Nat} {st : St}
theorem rtN_put {v : Nat} {O : List Int} {h f : Int} (t : Tree es n st) (hn : iat st.Fa v < 0) : ∀ (k x : Nat), x < n → 0 ≤ iat st.Fa x → (k : Int) ≤ iat st.Fa x → rtN es ⟨O, st.By.set v h, st.Fa.set v f⟩ k x = rtN es st k x
  | 0, _, _, _, _ => rfl
  | k + 1, x, hx, h0, hk => by
    have hne : x ≠ v := fun e => by rw [e] at h0; omega
    have hp : par es ⟨O, st.By.set v h, st.Fa.set v f⟩ x = par es st x := by
      unfold par
      simp only [iat_put_ne hne]
    obtain ⟨_, _, _, _, _, h5, h6, h7, _⟩ := root_par t hx (by omega)
    simp only [rtN]
    rw [hp]
    exact rtN_put t hn k _ h5 h7 (by omega)
theorem root_put {v x : Nat} {O : List Int} {h f : Int} (t : Tree es n st) (hn : iat st.Fa v < 0) (hx : x < n) (h0 : 0 ≤ iat st.Fa x) : root es ⟨O, st.By.set v h, st.Fa.set v f⟩ x = root es st x := by
  have hne : x ≠ v := fun e => by rw [e] at h0; omega
  unfold root
  simp only [iat_put_ne hne]
  exact rtN_put t hn _ x hx h0 (by omega)
/-- Whoever is found has all its neighbours found, under the same beginning. -/
structure Shut (es : List Pt) (n : Nat) (st : St) : Prop where
  ok : Ok n st
  tree : Tree es n st
  all : ∀ h a b : Nat, h < 2 * es.length → fromL es h = a → toL es h = b → 0 ≤ iat st.Fa a → 0 ≤ iat st.Fa b ∧ root es st a = root es st b
/-- A walk from s under way, where others have been shut before it. -/
structure Run (es : List Pt) (n : Nat) (st0 : St) (s j0 j : Nat) (st : St) : Prop where
  ok : Ok n st
  tree : Tree es n st
  shut : ∀ i, j0 ≤ i → i < j → i < st.O.length → ∀ h, h < 2 * es.length → fromL es h = iat st.O i → 0 ≤ iat st.Fa (toL es h).toNat
  pre : ∀ i, i < j0 → i < st.O.length ∧ 0 ≤ iat st0.Fa (oj st i)
  old : ∀ v, v < n → 0 ≤ iat st0.Fa v → 0 ≤ iat st.Fa v ∧ root es st v = root es st0 v
  new : ∀ v, v < n → 0 ≤ iat st.Fa v → 0 ≤ iat st0.Fa v ∨ root es st v = s
  beg : 0 ≤ iat st.Fa s
theorem Run.step {st0 : St} {s j0 j u h : Nat} (r : Run es n st0 s j0 j st) (c : Shut es n st0) (hm : netB n es = true) (hj : j < st.O.length) (hu : u < n) (h0 : 0 ≤ iat st.Fa u) (hh : h < 2 * es.length) (hf : fromL es h = u) :
    Run es n st0 s j0 j (bStep es u st h) ∧ 0 ≤ iat (bStep es u st h).Fa (toL es h).toNat ∧ ∀ y, 0 ≤ iat st.Fa y → 0 ≤ iat (bStep es u st h).Fa y := by
  have T := r.tree.step r.ok hm hu h0 hh hf
  have K := (r.ok.step hm hu h0 hh).1
  obtain ⟨t1, t2⟩ := toL_in hm h hh
  obtain ⟨x, hx⟩ : ∃ x : Nat, toL es h = x := ⟨(toL es h).toNat, by omega⟩
  have hxn : x < n := by omega
  by_cases hneg : iat st.Fa x < 0
  · have e : bStep es u st h = ⟨st.O ++ [(x : Int)], st.By.set x h, st.Fa.set x (iat st.Fa u + 1)⟩ := by
      unfold bStep
      rw [hx, Int.toNat_natCast, if_pos hneg]
    rw [e] at T K ⊢
    have hFx : iat (st.Fa.set x (iat st.Fa u + 1)) x = iat st.Fa u + 1 := iat_put (by rw [r.ok.lf]; exact hxn)
    have hBx : iat (st.By.set x (h : Int)) x = h := iat_put (by rw [r.ok.lb]; exact hxn)
    have keep : ∀ y : Nat, 0 ≤ iat st.Fa y → 0 ≤ iat (st.Fa.set x (iat st.Fa u + 1)) y := fun y hy => by rw [iat_put_ne (fun e => by rw [e] at hy; omega)]; exact hy
    have hus : root es st u = s := by
      rcases r.new u hu h0 with h1 | h1
      · exfalso
        have := (c.all h u x hh hf hx h1).1
        have := (r.old x hxn this).1
        omega
      · exact h1
    refine ⟨⟨K, T, ?_, ?_, ?_, ?_, keep s r.beg⟩, ?_, keep⟩
    · intro i hi hij _ k hk hkf
      have hil : i < st.O.length := by omega
      have hO : iat (st.O ++ [(x : Int)]) i = iat st.O i := by rw [iat_app, if_pos hil]
      exact keep _ (r.shut i hi hij hil k hk (by rw [← hO]; exact hkf))
    · intro i hi
      obtain ⟨p1, p2⟩ := r.pre i hi
      refine ⟨by simp; omega, ?_⟩
      rw [oj_app p1]
      exact p2
    · intro v hv hv0
      obtain ⟨o1, o2⟩ := r.old v hv hv0
      exact ⟨keep v o1, by rw [root_put r.tree hneg hv o1]; exact o2⟩
    · intro v hv hv0
      by_cases ev : v = x
      · right
        subst ev
        obtain ⟨_, _, _, _, _, _, _, _, h8⟩ := root_par T hv (by show 0 < iat (st.Fa.set v (iat st.Fa u + 1)) v; rw [hFx]; omega)
        rw [← h8]
        have hp : par es ⟨st.O ++ [(v : Int)], st.By.set v h, st.Fa.set v (iat st.Fa u + 1)⟩ v = u := by
          unfold par
          rw [show iat (st.By.set v (h : Int)) v = h from hBx, Int.toNat_natCast, hf, Int.toNat_natCast]
        rw [hp, root_put r.tree hneg hu h0]
        exact hus
      · have hv1 : 0 ≤ iat st.Fa v := by
          have h1 : 0 ≤ iat (st.Fa.set x (iat st.Fa u + 1)) v := hv0
          rw [iat_put_ne ev] at h1
          exact h1
        rw [root_put r.tree hneg hv hv1]
        exact r.new v hv hv1
    · rw [hx, Int.toNat_natCast]
      show 0 ≤ iat (st.Fa.set x (iat st.Fa u + 1)) x
      rw [hFx]; omega
  · have e : bStep es u st h = st := by
      unfold bStep
      rw [hx, Int.toNat_natCast, if_neg hneg]
    rw [e]
    exact ⟨r, by rw [hx, Int.toNat_natCast]; omega, fun _ h => h⟩
theorem Run.row {st0 : St} {s j0 j : Nat} (r : Run es n st0 s j0 j st) (c : Shut es n st0) (hm : netB n es = true) (hj : j < st.O.length) : ∀ t, t ≤ (outL es (2 * es.length) (oj st j)).length → Run es n st0 s j0 j (bRow es (oj st j) st t) ∧ 0 ≤ iat (bRow es (oj st j) st t).Fa (oj st j) ∧ ∀ i, i < t → ∀ h : Nat, iat (outL es (2 * es.length) (oj st j)) i = h → 0 ≤ iat (bRow es (oj st j) st t).Fa (toL es h).toNat
  | 0, _ => ⟨r, r.ok.fnd j hj, fun i hi => by omega⟩
  | t + 1, ht => by
    obtain ⟨r1, h0, hw⟩ := Run.row r c hm hj t (by omega)
    have hm' := r.ok.mem j hj
    have hun : oj st j < n := by show (iat st.O j).toNat < n; omega
    obtain ⟨h, hh, hh2, hh3⟩ := outL_at (es := es) (h := 2 * es.length) (v := oj st j) (j := t) (by omega)
    have hle := bRow_len es (oj st j) st t
    obtain ⟨s1, s2, s3⟩ := r1.step c hm (by omega) hun h0 hh2 hh3
    simp only [bRow]
    rw [hh, Int.toNat_natCast]
    refine ⟨s1, s3 _ h0, fun i hi k hk => ?_⟩
    by_cases e : i = t
    · rw [e, hh] at hk
      have : h = k := by omega
      rw [← this]
      exact s2
    · exact s3 _ (hw i (by omega) k hk)
theorem Run.next {st0 : St} {s j0 j : Nat} (r : Run es n st0 s j0 j st) (c : Shut es n st0) (hm : netB n es = true) (hj : j < st.O.length) : Run es n st0 s j0 (j + 1) (bRow es (oj st j) st (outL es (2 * es.length) (oj st j)).length) := by
  obtain ⟨r1, h0, hw⟩ := r.row c hm hj _ (Nat.le_refl _)
  refine ⟨r1.ok, r1.tree, ?_, r1.pre, r1.old, r1.new, r1.beg⟩
  intro i hi hij hil h hh hf
  by_cases e : i = j
  · subst e
    have hm' := r.ok.mem i hj
    rw [bRow_oj hj] at hf
    obtain ⟨q, hq, hqe⟩ := outL_mem (es := es) (h := 2 * es.length) (v := oj st i) (k := h) hh (by rw [hf]; show iat st.O i = ((iat st.O i).toNat : Int); omega)
    exact hw q hq h hqe
  · exact r1.shut i hi (by omega) hil h hh hf
theorem Run.all {st0 : St} {s j0 : Nat} (c : Shut es n st0) (hm : netB n es = true) : ∀ (k j : Nat) (st : St), Run es n st0 s j0 j st → n ≤ k + j → ∃ j', Run es n st0 s j0 j' (bfs es k j st) ∧ (bfs es k j st).O.length ≤ j'
  | 0, j, st, b, hk => ⟨j, b, by have := b.ok.cnt; show st.O.length ≤ j; omega⟩
  | k + 1, j, st, b, hk => by
    simp only [bfs]
    split
    · rename_i hj; exact Run.all c hm k (j + 1) _ (b.next c hm hj) (by omega)
    · exact ⟨j, b, by omega⟩
theorem twn_from (es : List Pt) (k : Nat) : fromL es (twnW (k : Int)).toNat = toL es k := by
  unfold twnW
  by_cases h2 : (k : Int) % 2 = 0
  · rw [if_pos h2, show ((k : Int) + 1).toNat = k + 1 by omega]
    unfold toL fromL
    rw [if_neg (by omega), if_pos (by omega), show (k + 1) / 2 = k / 2 by omega]
  · rw [if_neg h2, show ((k : Int) - 1).toNat = k - 1 by omega]
    unfold toL fromL
    rw [if_pos (by omega), if_neg (by omega), show (k - 1) / 2 = k / 2 by omega]
/-- A walk from a node that is not found yet shuts what it finds. -/
theorem Shut.walk {s : Nat} (c : Shut es n st) (hm : netB n es = true) (hs : s < n) (hn : iat st.Fa s < 0) : Shut es n (bfs es n st.O.length (begin_ st s)) ∧ 0 ≤ iat (bfs es n st.O.length (begin_ st s)).Fa s ∧ ∀ v, v < n → 0 ≤ iat st.Fa v → 0 ≤ iat (bfs es n st.O.length (begin_ st s)).Fa v := by
  have hF : iat (begin_ st s).Fa s = 0 := iat_put (by rw [c.ok.lf]; exact hs)
  have r0 : Run es n st s st.O.length st.O.length (begin_ st s) := by
    refine ⟨c.ok.begin_ hs hn, c.tree.begin_ c.ok hs hn, fun i hi hij => by omega, ?_, ?_, ?_, by rw [hF]; omega⟩
    · intro i hi
      refine ⟨by simp [begin_]; omega, ?_⟩
      have : oj (begin_ st s) i = oj st i := oj_app hi
      rw [this]
      exact c.ok.fnd i hi
    · intro v hv h0
      have hne : v ≠ s := fun e => by rw [e] at h0; omega
      refine ⟨?_, root_put c.tree hn hv h0⟩
      show 0 ≤ iat (st.Fa.set s 0) v
      rw [iat_put_ne hne]
      exact h0
    · intro v hv h0
      by_cases e : v = s
      · right
        rw [e]
        exact root_zero hF
      · left
        have h1 : 0 ≤ iat (st.Fa.set s 0) v := h0
        rw [iat_put_ne e] at h1
        exact h1
  obtain ⟨j', r, hj'⟩ := Run.all c hm n st.O.length _ r0 (by omega)
  refine ⟨⟨r.ok, r.tree, fun h a b hh ha hb h0 => ?_⟩, r.beg, fun v hv h0 => (r.old v hv h0).1⟩
  have an : a < n := by have := fromL_in hm h hh; omega
  have bn : b < n := by have := toL_in hm h hh; omega
  by_cases hCa : 0 ≤ iat st.Fa a
  · obtain ⟨q1, q2⟩ := c.all h a b hh ha hb hCa
    exact ⟨(r.old b bn q1).1, by rw [(r.old a an hCa).2, (r.old b bn q1).2]; exact q2⟩
  · obtain ⟨q, hq, hqe⟩ := r.tree.surj a an h0
    have hj0 : st.O.length ≤ q := by
      rcases Nat.lt_or_ge q st.O.length with hlt | hge
      · exfalso
        apply hCa
        have := (r.pre q hlt).2
        rw [show oj (bfs es n st.O.length (begin_ st s)) q = a by show (iat _ q).toNat = a; rw [hqe, Int.toNat_natCast]] at this
        exact this
      · exact hge
    have hb0 := r.shut q hj0 (by omega) hq h hh (by rw [ha, hqe])
    rw [hb, Int.toNat_natCast] at hb0
    refine ⟨hb0, ?_⟩
    have hCb : ¬ 0 ≤ iat st.Fa b := fun hb1 => hCa (by
      obtain ⟨k, hk, hk2⟩ := twnW_in hh
      have e1 := twn_from es h
      have e2 := twnW_to es h
      rw [hk, Int.toNat_natCast] at e1 e2
      exact (c.all k b a hk2 (by rw [e1, hb]) (by rw [e2, ha]) hb1).1)
    rw [(r.new a an h0).resolve_left hCa, (r.new b bn hb0).resolve_left hCb]
theorem shut0 (es : List Pt) (n : Nat) (hm : netB n es = true) : Shut es n (st0 n) where
  ok := st0_ok n
  tree := tree0 es n _ _ (fun v hv => by simp [iat, hv]) (fun v hv => by simp [iat, hv])
  all h a b hh ha hb h0 := by
    have an : a < n := by have := fromL_in hm h hh; omega
    exfalso
    have : iat (List.replicate n (-1 : Int)) a = -1 := by simp [iat, an]
    have h1 : 0 ≤ iat (List.replicate n (-1 : Int)) a := h0
    omega
/-- Everywhere: all are found, and the ends of an edge lie under one beginning. -/
theorem everyN_shut (hm : netB n es = true) : ∀ s, s ≤ n → Shut es n (everyN es n s) ∧ ∀ v, v < s → 0 ≤ iat (everyN es n s).Fa v
  | 0, _ => ⟨shut0 es n hm, fun v hv => by omega⟩
  | s + 1, hs => by
    obtain ⟨c, ha⟩ := everyN_shut hm s (by omega)
    simp only [everyN]
    split
    · rename_i hneg
      obtain ⟨c1, c2, c3⟩ := c.walk hm (by omega) hneg
      refine ⟨c1, fun v hv => ?_⟩
      by_cases e : v = s
      · rw [e]; exact c2
      · exact c3 v (by omega) (ha v (by omega))
    · rename_i hneg
      refine ⟨c, fun v hv => ?_⟩
      by_cases e : v = s
      · rw [e]; omega
      · exact ha v (by omega)
end Go.Proofs.Ytcgdmonejogbaaa
namespace Go.Proofs.Ytcgdmonejogbaaa
open Go.RowKit Go.Sort
open Go
variable {es : List Pt} {n : Nat} {st : St}
/-- A tour goes on: what was found stays as it was, and what is found since has a half-edge by which it was. -/
structure Ext (a b : St) : Prop where
  len : a.O.length ≤ b.O.length
  pre : ∀ i, i < a.O.length → iat b.O i = iat a.O i
  old : ∀ v, 0 ≤ iat a.Fa v → iat b.Fa v = iat a.Fa v ∧ iat b.By v = iat a.By v
  new : ∀ i, a.O.length ≤ i → i < b.O.length → 0 ≤ iat b.By (oj b i) ∧ iat a.Fa (oj b i) < 0 ∧ 0 ≤ iat b.Fa (oj b i)
theorem Ext.refl (a : St) : Ext a a := ⟨Nat.le_refl _, fun _ _ => rfl, fun _ _ => ⟨rfl, rfl⟩, fun i h1 h2 => by omega⟩
theorem Ext.trans {a b c : St} (h : Ext a b) (k : Ext b c) : Ext a c where
  len := Nat.le_trans h.len k.len
  pre i hi := (k.pre i (by have := h.len; omega)).trans (h.pre i hi)
  old v hv := by
    obtain ⟨h1, h2⟩ := h.old v hv
    obtain ⟨k1, k2⟩ := k.old v (by rw [h1]; exact hv)
    exact ⟨k1.trans h1, k2.trans h2⟩
  new i h1 h2 := by
    by_cases hb : i < b.O.length
    · obtain ⟨q1, q2, q3⟩ := h.new i h1 hb
      have e : oj c i = oj b i := by show (iat c.O i).toNat = _; rw [k.pre i hb]
      rw [e]
      obtain ⟨k1, k2⟩ := k.old (oj b i) q3
      exact ⟨by rw [k2]; exact q1, q2, by rw [k1]; exact q3⟩
    · obtain ⟨q1, q2, q3⟩ := k.new i (by omega) h2
      refine ⟨q1, ?_, q3⟩
      rcases Int.lt_or_le (iat a.Fa (oj c i)) 0 with h3 | h3
      · exact h3
      · rw [(h.old _ h3).1] at q2; omega
theorem ext_step {u h : Nat} (o : Ok n st) (hm : netB n es = true) (h0 : 0 ≤ iat st.Fa u) (hh : h < 2 * es.length) : Ext st (bStep es u st h) := by
  obtain ⟨t1, t2⟩ := toL_in hm h hh
  unfold bStep
  obtain ⟨x, hx⟩ : ∃ x : Nat, toL es h = x := ⟨(toL es h).toNat, by omega⟩
  rw [hx]
  have hxn : x < n := by omega
  simp only [Int.toNat_natCast]
  split
  · rename_i hn
    refine ⟨by simp, fun i hi => by simp only [iat_app, if_pos hi], fun v hv => ?_, fun i h1 h2 => ?_⟩
    · have : v ≠ x := fun e => by rw [e] at hv; omega
      simp only [iat_put_ne this, and_self]
    · have e : i = st.O.length := by simp at h2; omega
      have e2 : oj ⟨st.O ++ [(x : Int)], st.By.set x h, st.Fa.set x (iat st.Fa u + 1)⟩ i = x := by
        show (iat (st.O ++ [(x : Int)]) i).toNat = x
        rw [iat_app, if_neg (by omega), if_pos e, Int.toNat_natCast]
      rw [e2]
      refine ⟨?_, hn, ?_⟩
      · show 0 ≤ iat (st.By.set x h) x
        rw [iat_put (by rw [o.lb]; exact hxn)]; omega
      · show 0 ≤ iat (st.Fa.set x _) x
        rw [iat_put (by rw [o.lf]; exact hxn)]; omega
  · exact Ext.refl _
theorem ext_row {u : Nat} (o : Ok n st) (hm : netB n es = true) (hu : u < n) (h0 : 0 ≤ iat st.Fa u) : ∀ j, j ≤ (outL es (2 * es.length) u).length → Ext st (bRow es u st j)
  | 0, _ => Ext.refl _
  | j + 1, hj => by
    obtain ⟨o1, h1⟩ := o.row hm hu h0 j (by omega)
    obtain ⟨k, hk, hk2, _⟩ := outL_at (es := es) (h := 2 * es.length) (v := u) (j := j) (by omega)
    simp only [bRow]
    rw [hk, Int.toNat_natCast]
    exact (ext_row o hm hu h0 j (by omega)).trans (ext_step o1 hm h1 hk2)
theorem ext_bfs (hm : netB n es = true) : ∀ (k j : Nat) (st : St), Ok n st → Ext st (bfs es k j st)
  | 0, _, _, _ => Ext.refl _
  | k + 1, j, st, o => by
    simp only [bfs]
    split
    · rename_i hj
      obtain ⟨h0, h1⟩ := o.mem j hj
      have hu : (iat st.O j).toNat < n := by omega
      exact (ext_row o hm hu (o.fnd j hj) _ (Nat.le_refl _)).trans (ext_bfs hm k (j + 1) _ (o.row hm hu (o.fnd j hj) _ (Nat.le_refl _)).1)
    · exact Ext.refl _
/-- Counting and labels hang on the first nodes and on how they were found alone. -/
theorem pcnt_pre {a b : St} (h : Ext a b) (o : Ok n a) : ∀ j, j ≤ a.O.length → pcnt b.O b.By j = pcnt a.O a.By j
  | 0, _ => rfl
  | j + 1, hj => by
    simp only [pcnt]
    rw [pcnt_pre h o j (by omega), h.pre j (by omega), (h.old _ (o.fnd j (by omega))).2]
theorem plab_pre {a b : St} (h : Ext a b) (o : Ok n a) : ∀ j, j ≤ a.O.length → plab b.O b.By n j = plab a.O a.By n j
  | 0, _ => rfl
  | j + 1, hj => by
    simp only [plab]
    rw [plab_pre h o j (by omega), pcnt_pre h o (j + 1) hj, h.pre j (by omega)]
theorem plab_len (O By : List Int) (n : Nat) : ∀ j, (plab O By n j).length = n
  | 0 => by simp [plab]
  | j + 1 => by simp only [plab, List.length_set]; exact plab_len O By n j
theorem pcnt_new {a b : St} (h : Ext a b) : ∀ j, a.O.length ≤ j → j ≤ b.O.length → pcnt b.O b.By j = pcnt b.O b.By a.O.length := by
  intro j h1
  induction j with
  | zero => intro _; rw [show a.O.length = 0 by omega]
  | succ j ih =>
    intro h2
    by_cases e : a.O.length = j + 1
    · rw [e]
    · simp only [pcnt]
      have := (h.new j (by omega) (by omega)).1
      rw [if_neg (by show ¬ iat b.By (oj b j) < 0; omega)]
      exact ih (by omega) (by omega)
/-- The labels of a tour that goes on. -/
theorem plab_new {a b : St} (h : Ext a b) (ob : Ok n b) {v : Nat} (hv : v < n) : ∀ j, a.O.length ≤ j → j ≤ b.O.length → ((∃ i, a.O.length ≤ i ∧ i < j ∧ oj b i = v) → iat (plab b.O b.By n j) v = (pcnt b.O b.By a.O.length : Int) - 1) ∧ ((¬ ∃ i, a.O.length ≤ i ∧ i < j ∧ oj b i = v) → iat (plab b.O b.By n j) v = iat (plab b.O b.By n a.O.length) v) := by
  intro j h1
  induction j with
  | zero => intro _; refine ⟨fun ⟨i, _, h3, _⟩ => by omega, fun _ => by rw [show a.O.length = 0 by omega]⟩
  | succ j ih =>
    intro h2
    by_cases e : a.O.length = j + 1
    · rw [e]; exact ⟨fun ⟨i, h3, h4, _⟩ => by omega, fun _ => rfl⟩
    · obtain ⟨i1, i2⟩ := ih (by omega) (by omega)
      have hj1 : a.O.length ≤ j := by omega
      have hc := pcnt_new h (j + 1) (by omega) h2
      simp only [plab]
      rw [hc]
      have hjn : (iat b.O j).toNat < n := by have := ob.mem j (by omega); omega
      by_cases ev : oj b j = v
      · have ev' : (iat b.O j).toNat = v := ev
        rw [ev', iat_put (by rw [plab_len]; exact hv)]
        exact ⟨fun _ => rfl, fun hno => absurd ⟨j, hj1, Nat.lt_succ_self _, ev⟩ hno⟩
      · rw [iat_put_ne (fun e => ev e.symm)]
        refine ⟨fun ⟨i, h3, h4, h5⟩ => i1 ⟨i, h3, by
          have : i ≠ j := fun e => ev (by rw [← e]; exact h5)
          omega, h5⟩, fun hno => i2 fun ⟨i, h3, h4, h5⟩ => hno ⟨i, h3, Nat.lt_succ_of_lt h4, h5⟩⟩
/-- The label of each node found; none for the others. -/
def labOf (n : Nat) (st : St) : List Int := (List.range n).map fun v => if 0 ≤ iat st.Fa v then iat (plab st.O st.By n st.O.length) v else -1
theorem labOf_len : (labOf n st).length = n := by simp [labOf]
theorem labOf_at {v : Nat} (hv : v < n) : iat (labOf n st) v = if 0 ≤ iat st.Fa v then iat (plab st.O st.By n st.O.length) v else -1 := by
  unfold labOf iat
  rw [List.getD_eq_getElem?_getD, List.getElem?_map, List.getElem?_range hv]
  rfl
theorem Conn.trans {a b c : Nat} (h : Conn es a b) (k : Conn es b c) : Conn es a c := by
  induction k with
  | refl => exact h
  | step _ h1 h2 h3 ih => exact ih.step h1 h2 h3
theorem Conn.symm {a b : Nat} (h : Conn es a b) : Conn es b a := by
  induction h with
  | refl => exact Conn.refl _
  | step _ h1 h2 h3 ih =>
    obtain ⟨t, t1, t2, t3⟩ := twin_is es _ h1
    exact ((Conn.refl _).step t1 (by rw [t2, h3]) (by rw [t3, h2])).trans ih
/-- A node found is joined with the beginning of its tree. -/
theorem conn_root (t : Tree es n st) : ∀ (k v : Nat), v < n → iat st.Fa v = k → Conn es (root es st v) v
  | 0, v, hv, h => by rw [root_zero h]; exact Conn.refl _
  | k + 1, v, hv, h => by
    obtain ⟨h', q1, q2, q3, q4, q5, q6, q7, q8⟩ := root_par t hv (by omega)
    rw [← q8]
    exact (conn_root t k _ q5 (by omega)).step q1 q4 q3
variable {es : List Pt} {n : Nat} {st : St}
/-- Breadth first from a node, into a tour that is shut. -/
theorem Shut.walkR {s : Nat} (c : Shut es n st) (hm : netB n es = true) (hs : s < n) (hn : iat st.Fa s < 0) : Ext (begin_ st s) (bfs es n st.O.length (begin_ st s)) ∧ ∀ v, v < n → 0 ≤ iat (bfs es n st.O.length (begin_ st s)).Fa v → 0 ≤ iat st.Fa v ∨ root es (bfs es n st.O.length (begin_ st s)) v = s := by
  refine ⟨ext_bfs hm n _ _ (c.ok.begin_ hs hn), ?_⟩
  have hF : iat (begin_ st s).Fa s = 0 := iat_put (by rw [c.ok.lf]; exact hs)
  have r0 : Run es n st s st.O.length st.O.length (begin_ st s) := by
    refine ⟨c.ok.begin_ hs hn, c.tree.begin_ c.ok hs hn, fun i hi hij => by omega, ?_, ?_, ?_, by rw [hF]; omega⟩
    · intro i hi
      refine ⟨by simp [begin_]; omega, ?_⟩
      have : oj (begin_ st s) i = oj st i := oj_app hi
      rw [this]
      exact c.ok.fnd i hi
    · intro v hv h0
      have hne : v ≠ s := fun e => by rw [e] at h0; omega
      refine ⟨?_, root_put c.tree hn hv h0⟩
      show 0 ≤ iat (st.Fa.set s 0) v
      rw [iat_put_ne hne]
      exact h0
    · intro v hv h0
      by_cases e : v = s
      · right
        rw [e]
        exact root_zero hF
      · left
        have h1 : 0 ≤ iat (st.Fa.set s 0) v := h0
        rw [iat_put_ne e] at h1
        exact h1
  obtain ⟨j', r, hj'⟩ := Run.all c hm n st.O.length _ r0 (by omega)
  exact r.new
theorem plab_begin {s : Nat} (hs : s < n) (o : Ok n st) (hn : iat st.Fa s < 0) : pcnt (begin_ st s).O (begin_ st s).By (st.O.length + 1) = pcnt st.O st.By st.O.length + 1 ∧ plab (begin_ st s).O (begin_ st s).By n (st.O.length + 1) = (plab st.O st.By n st.O.length).set s (pcnt st.O st.By st.O.length : Int) := by
  have e0 : iat (begin_ st s).O st.O.length = s := by show iat (st.O ++ [(s : Int)]) st.O.length = s; rw [iat_app, if_neg (by omega), if_pos rfl]
  have pre : ∀ i, i < st.O.length → iat (begin_ st s).O i = iat st.O i := fun i hi => by show iat (st.O ++ [(s : Int)]) i = _; rw [iat_app, if_pos hi]
  have byo : ∀ v, 0 ≤ iat st.Fa v → iat (begin_ st s).By v = iat st.By v := fun v hv => by show iat (st.By.set s (-1)) v = _; rw [iat_put_ne (fun e => by rw [e] at hv; omega)]
  have c0 : ∀ j, j ≤ st.O.length → pcnt (begin_ st s).O (begin_ st s).By j = pcnt st.O st.By j := by
    intro j
    induction j with
    | zero => intro _; rfl
    | succ j ih =>
      intro hj
      simp only [pcnt]
      rw [ih (by omega), pre j (by omega), byo _ (o.fnd j (by omega))]
  have l0 : ∀ j, j ≤ st.O.length → plab (begin_ st s).O (begin_ st s).By n j = plab st.O st.By n j := by
    intro j
    induction j with
    | zero => intro _; rfl
    | succ j ih =>
      intro hj
      simp only [plab]
      rw [ih (by omega), pre j (by omega), c0 (j + 1) hj]
  have c1 : pcnt (begin_ st s).O (begin_ st s).By (st.O.length + 1) = pcnt st.O st.By st.O.length + 1 := by
    simp only [pcnt]
    rw [e0, Int.toNat_natCast, show iat (begin_ st s).By s = -1 from iat_put (by rw [o.lb]; exact hs), if_pos (by omega), c0 _ (Nat.le_refl _)]
  refine ⟨c1, ?_⟩
  simp only [plab]
  rw [c1, e0, Int.toNat_natCast, l0 _ (Nat.le_refl _)]
  congr 1
  omega
/-- The labels of Parts' tour behind s nodes. -/
theorem every_lab (hm : netB n es = true) : ∀ s, s ≤ n → (∃ r, Lab es n (pcnt (everyN es n s).O (everyN es n s).By (everyN es n s).O.length) s (labOf n (everyN es n s)) r NoDue) ∧ ∀ v, v < n → 0 ≤ iat (everyN es n s).Fa v → 0 ≤ iat (labOf n (everyN es n s)) v
  | 0, _ => ⟨⟨fun _ => 0, by
    have e : labOf n (everyN es n 0) = List.replicate n (-1) := by
      apply List.ext_getElem
      · simp [labOf_len]
      · intro i h1 h2
        have hi : i < n := by simpa [labOf_len] using h1
        have := labOf_at (n := n) (st := everyN es n 0) hi
        rw [if_neg (by show ¬ 0 ≤ iat (List.replicate n (-1)) i; rw [iat_fill hi]; omega)] at this
        unfold iat at this
        rw [List.getD_eq_getElem?_getD, List.getElem?_eq_getElem h1] at this
        simpa using this
    rw [e]
    exact lab_start n (fun t ht => (fromL_in hm t ht).2)⟩, fun v hv h0 => by
    have h0' : 0 ≤ iat (List.replicate n (-1 : Int)) v := h0
    rw [iat_fill hv] at h0'
    omega⟩
  | s + 1, hs => by
    obtain ⟨⟨r, L⟩, LV⟩ := every_lab hm s (by omega)
    obtain ⟨c, hall⟩ := everyN_shut (es := es) hm s (by omega)
    simp only [everyN]
    split
    · rename_i hneg
      obtain ⟨st, hst⟩ : ∃ st, everyN es n s = st := ⟨_, rfl⟩
      rw [hst] at L LV c hall hneg ⊢
      obtain ⟨c1, c2, c3⟩ := c.walk hm (by omega) hneg
      obtain ⟨x1, x2⟩ := c.walkR hm (by omega) hneg
      obtain ⟨T, hT⟩ : ∃ T, bfs es n st.O.length (begin_ st s) = T := ⟨_, rfl⟩
      rw [hT] at c1 c2 c3 x1 x2 ⊢
      have hsn : s < n := by omega
      have lenb : (begin_ st s).O.length = st.O.length + 1 := by simp [begin_]
      have ob := c.ok.begin_ hsn hneg
      obtain ⟨p1, p2⟩ := plab_begin hsn c.ok hneg
      have cT : pcnt T.O T.By T.O.length = pcnt st.O st.By st.O.length + 1 := by
        rw [pcnt_new x1 T.O.length x1.len (Nat.le_refl _), pcnt_pre x1 ob _ (Nat.le_refl _), lenb, p1]
      have pT := pcnt_pre x1 ob _ (Nat.le_refl _)
      rw [lenb, p1] at pT
      have lT : plab T.O T.By n (begin_ st s).O.length = (plab st.O st.By n st.O.length).set s (pcnt st.O st.By st.O.length : Int) := by
        rw [plab_pre x1 ob _ (Nat.le_refl _), lenb, p2]
      -- the labels
      have old : ∀ v, v < n → 0 ≤ iat st.Fa v → iat (labOf n T) v = iat (labOf n st) v := by
        intro v hv h0
        have hne : v ≠ s := fun e => by rw [e] at h0; omega
        have hb : 0 ≤ iat (begin_ st s).Fa v := by show 0 ≤ iat (st.Fa.set s 0) v; rw [iat_put_ne hne]; exact h0
        rw [labOf_at hv, labOf_at hv, if_pos (by rw [(x1.old v hb).1]; exact hb), if_pos h0]
        have hno : ¬ ∃ i, (begin_ st s).O.length ≤ i ∧ i < T.O.length ∧ oj T i = v := fun ⟨i, h1, h2, h3⟩ => by
          have := (x1.new i h1 h2).2.1
          rw [h3] at this
          omega
        rw [(plab_new x1 c1.ok hv T.O.length x1.len (Nat.le_refl _)).2 hno, lT, iat_put_ne hne]
      have new : ∀ v, v < n → ¬ 0 ≤ iat st.Fa v → 0 ≤ iat T.Fa v → iat (labOf n T) v = (pcnt st.O st.By st.O.length : Int) := by
        intro v hv h0 h1
        rw [labOf_at hv, if_pos h1]
        by_cases e : v = s
        · subst e
          have hno : ¬ ∃ i, (begin_ st v).O.length ≤ i ∧ i < T.O.length ∧ oj T i = v := fun ⟨i, h1, h2, h3⟩ => by
            have := (x1.new i h1 h2).2.1
            rw [h3] at this
            have e : iat (begin_ st v).Fa v = 0 := iat_put (by rw [c.ok.lf]; exact hv)
            omega
          rw [(plab_new x1 c1.ok hv T.O.length x1.len (Nat.le_refl _)).2 hno, lT, iat_put (by rw [plab_len]; exact hv)]
        · obtain ⟨q, hq, hqe⟩ := c1.tree.surj v hv h1
          have hqv : oj T q = v := by show (iat T.O q).toNat = v; rw [hqe, Int.toNat_natCast]
          have hge : (begin_ st s).O.length ≤ q := by
            rcases Nat.lt_or_ge q (begin_ st s).O.length with hlt | hge
            · exfalso
              have := ob.fnd q hlt
              rw [← x1.pre q hlt, hqe, Int.toNat_natCast] at this
              have this' : 0 ≤ iat (st.Fa.set s 0) v := this
              rw [iat_put_ne e] at this'
              exact h0 this'
            · exact hge
          rw [(plab_new x1 c1.ok hv T.O.length x1.len (Nat.le_refl _)).1 ⟨q, hge, hq, hqv⟩, lenb, pT]
          omega
      have unf : ∀ v, v < n → ¬ 0 ≤ iat T.Fa v → iat (labOf n T) v = -1 := fun v hv h => by rw [labOf_at hv, if_neg h]
      have fnd : ∀ v, v < n → 0 ≤ iat T.Fa v → 0 ≤ iat (labOf n T) v := fun v hv h => by
        by_cases h0 : 0 ≤ iat st.Fa v
        · rw [old v hv h0]; exact LV v hv h0
        · rw [new v hv h0 h]; omega
      have ofl : ∀ v, v < n → 0 ≤ iat (labOf n T) v → 0 ≤ iat T.Fa v := fun v hv h => by
        by_cases h0 : 0 ≤ iat T.Fa v
        · exact h0
        · rw [unf v hv h0] at h; omega
      have oldL : ∀ v, v < n → 0 ≤ iat st.Fa v → 0 ≤ iat (labOf n st) v ∧ iat (labOf n st) v < pcnt st.O st.By st.O.length := fun v hv h0 => by
        have := LV v hv h0
        rcases L.val v hv with h | h
        · omega
        · exact h
      have stT : ∀ v, v < n → 0 ≤ iat st.Fa v → 0 ≤ iat T.Fa v := c3
      refine ⟨⟨upd r (pcnt st.O st.By st.O.length) s, ?_⟩, fnd⟩
      rw [cT]
      refine ⟨labOf_len, ?_, ?_, ?_, ?_, ?_, ?_, ?_⟩
      · intro v hv
        by_cases h0 : 0 ≤ iat st.Fa v
        · right
          have := oldL v hv h0
          rw [old v hv h0]
          omega
        · by_cases h1 : 0 ≤ iat T.Fa v
          · right; rw [new v hv h0 h1]; omega
          · left; exact unf v hv h1
      · intro h u x hh hu hx hC
        left
        have un : u < n := by have := fromL_in hm h hh; omega
        have xn : x < n := by have := toL_in hm h hh; omega
        have uT := ofl u un hC
        have xT := (c1.all h u x hh hu hx uT).1
        by_cases hu0 : 0 ≤ iat st.Fa u
        · have hx0 := (c.all h u x hh hu hx hu0).1
          rw [old u un hu0, old x xn hx0]
          rcases L.cl h u x hh hu hx (LV u un hu0) with e | e
          · exact e
          · exact e.2.elim
        · have hx0 : ¬ 0 ≤ iat st.Fa x := fun hx0 => hu0 (by
            obtain ⟨t, t1, t2, t3⟩ := twin_is es h hh
            exact (c.all t x u t1 (by rw [t2, hx]) (by rw [t3, hu]) hx0).1)
          rw [new u un hu0 uT, new x xn hx0 xT]
      · intro v j hv hj
        have vT := ofl v hv (by omega)
        by_cases h0 : 0 ≤ iat st.Fa v
        · rw [old v hv h0] at hj
          have := oldL v hv h0
          rw [upd_other _ _ (by omega)]
          exact L.con v j hv hj
        · rw [new v hv h0 vT] at hj
          have ej : j = pcnt st.O st.By st.O.length := by omega
          rw [ej, upd_same]
          obtain ⟨k, hk⟩ : ∃ k : Nat, iat T.Fa v = k := ⟨(iat T.Fa v).toNat, by omega⟩
          have h1 := conn_root c1.tree k v hv hk
          rw [(x2 v hv vT).resolve_left h0] at h1
          refine ⟨h1, ?_⟩
          rcases Nat.lt_or_ge v s with hlt | hge
          · exact absurd (hall v hlt) h0
          · exact hge
      · intro j hj
        by_cases e : j = pcnt st.O st.By st.O.length
        · rw [e, upd_same]
          exact ⟨hsn, new s hsn (by omega) c2⟩
        · rw [upd_other _ _ e]
          obtain ⟨r1, r2⟩ := L.root j (by omega)
          have hf : 0 ≤ iat st.Fa (r j) := by
            by_cases h0 : 0 ≤ iat st.Fa (r j)
            · exact h0
            · rw [labOf_at r1, if_neg h0] at r2; omega
          exact ⟨r1, by rw [old _ r1 hf]; exact r2⟩
      · intro v hv hvn
        by_cases e : v = s
        · rw [e]; exact fnd s hsn c2
        · exact fnd v hvn (c3 v hvn (hall v (by omega)))
      · intro j hj
        by_cases e : j = pcnt st.O st.By st.O.length
        · rw [e, upd_same]; omega
        · rw [upd_other _ _ e]; have := L.rlt j (by omega); omega
      · intro i j hij hj
        by_cases e : j = pcnt st.O st.By st.O.length
        · rw [e, upd_same, upd_other _ _ (by omega)]; exact L.rlt i (by omega)
        · rw [upd_other _ _ e, upd_other _ _ (by omega)]; exact L.inc i j hij (by omega)
    · rename_i hneg
      exact ⟨⟨r, L.over (LV s (by omega) (by omega))⟩, LV⟩
/-- Parts' labels are the components'. -/
theorem parts_lab (hm : netB n es = true) : ∃ r, Lab es n (pcnt (everyN es n n).O (everyN es n n).By (everyN es n n).O.length) n (plab (everyN es n n).O (everyN es n n).By n (everyN es n n).O.length) r NoDue := by
  obtain ⟨⟨r, L⟩, _⟩ := every_lab (es := es) hm n (Nat.le_refl _)
  have ha := (everyN_shut (es := es) hm n (Nat.le_refl _)).2
  have e : labOf n (everyN es n n) = plab (everyN es n n).O (everyN es n n).By n (everyN es n n).O.length := by
    apply List.ext_getElem
    · simp [labOf_len, plab_len]
    · intro i h1 h2
      have hi : i < n := by simpa [labOf_len] using h1
      have := labOf_at (n := n) (st := everyN es n n) hi
      rw [if_pos (ha i hi)] at this
      unfold iat at this
      rw [List.getD_eq_getElem?_getD, List.getElem?_eq_getElem h1, List.getD_eq_getElem?_getD, List.getElem?_eq_getElem h2] at this
      simpa using this
  rw [e] at L
  exact ⟨r, L⟩
/-- Two nodes have one label just if they hang together. -/
theorem Lab.conn {k : Nat} {C : List Int} {r : Nat → Nat} (L : Lab es n k n C r NoDue) (hm : netB n es = true) {u v : Nat} (hu : u < n) (hv : v < n) : iat C u = iat C v ↔ Conn es u v := by
  constructor
  · intro h
    have h0 := L.done u hu hu
    obtain ⟨j, hj⟩ : ∃ j : Nat, iat C u = j := ⟨(iat C u).toNat, by omega⟩
    exact (L.con u j hu hj).1.symm.trans (L.con v j hv (by rw [← h]; exact hj)).1
  · intro h
    clear hv
    induction h with
    | refl => rfl
    | step _ h1 h2 h3 ih =>
      rename_i b c h _
      have bn : b < n := by have := fromL_in hm h h1; omega
      rcases L.cl h b c h1 h2 h3 (L.done b bn bn) with e | e
      · rw [ih, e]
      · exact e.2.elim
/-- Labels that go by the components, numbered by their least nodes, are one. -/
theorem Lab.uniq {k k' : Nat} {C C' : List Int} {r r' : Nat → Nat} (hm : netB n es = true) (L : Lab es n k n C r NoDue) (L' : Lab es n k' n C' r' NoDue) : k = k' ∧ C = C' := by
  have key : ∀ j, (j < k → j < k' ∧ r j = r' j) ∧ (j < k' → j < k ∧ r j = r' j) := by
    intro j
    induction j using Nat.strongRecOn with
    | ind j ih =>
      -- the least node of a component that is beyond the first j of the one numbering is so of the other
      have half : ∀ {k k' : Nat} {C C' : List Int} {r r' : Nat → Nat}, Lab es n k n C r NoDue → Lab es n k' n C' r' NoDue → (∀ i, i < j → (i < k → i < k' ∧ r i = r' i) ∧ (i < k' → i < k ∧ r i = r' i)) → j < k → j < k' ∧ r' j ≤ r j := by
        intro k k' C C' r r' L L' ih hj
        obtain ⟨r1, r2⟩ := L.root j hj
        have h0 := L'.done (r j) r1 r1
        have hv := L'.val (r j) r1
        obtain ⟨q, hq⟩ : ∃ q : Nat, iat C' (r j) = q := ⟨(iat C' (r j)).toNat, by omega⟩
        have hqk : q < k' := by omega
        have hqj : j ≤ q := by
          rcases Nat.lt_or_ge q j with hlt | hge
          · exfalso
            obtain ⟨a1, a2⟩ := (ih q hlt).2 hqk
            obtain ⟨b1, b2⟩ := L.root q a1
            obtain ⟨b1', b2'⟩ := L'.root q hqk
            have c1 := (L'.conn hm r1 b1').1 (by rw [hq, b2'])
            have c2 := (L.conn hm r1 b1').2 c1
            rw [← a2, b2, r2] at c2
            omega
          · exact hge
        have hle := (L'.con (r j) q r1 hq).2
        refine ⟨by omega, ?_⟩
        by_cases e : j = q
        · rw [e] at hle ⊢; exact hle
        · have := L'.inc j q (by omega) hqk
          omega
      refine ⟨fun hj => ?_, fun hj => ?_⟩
      · obtain ⟨h1, h2⟩ := half L L' ih hj
        obtain ⟨_, h3⟩ := half L' L (fun i hi => ⟨fun a => ⟨((ih i hi).2 a).1, ((ih i hi).2 a).2.symm⟩, fun a => ⟨((ih i hi).1 a).1, ((ih i hi).1 a).2.symm⟩⟩) h1
        exact ⟨h1, by omega⟩
      · obtain ⟨h1, h2⟩ := half L' L (fun i hi => ⟨fun a => ⟨((ih i hi).2 a).1, ((ih i hi).2 a).2.symm⟩, fun a => ⟨((ih i hi).1 a).1, ((ih i hi).1 a).2.symm⟩⟩) hj
        obtain ⟨_, h3⟩ := half L L' ih h1
        exact ⟨h1, by omega⟩
  have hk : k = k' := by
    rcases Nat.lt_trichotomy k k' with h | h | h
    · have := ((key k).2 h).1; omega
    · exact h
    · have := ((key k').1 h).1; omega
  refine ⟨hk, ?_⟩
  have hc : ∀ v, v < n → iat C v = iat C' v := by
    intro v hv
    have h0 := L.done v hv hv
    have hvl := L.val v hv
    obtain ⟨j, hj⟩ : ∃ j : Nat, iat C v = j := ⟨(iat C v).toNat, by omega⟩
    have hjk : j < k := by omega
    obtain ⟨r1, r2⟩ := L.root j hjk
    obtain ⟨a1, a2⟩ := (key j).1 hjk
    obtain ⟨_, b2⟩ := L'.root j a1
    have c1 := (L.conn hm r1 hv).1 (by rw [r2, hj])
    have c2 := (L'.conn hm r1 hv).2 c1
    rw [a2, b2] at c2
    rw [hj, c2]
  apply List.ext_getElem
  · rw [L.len, L'.len]
  · intro i h1 h2
    have hi : i < n := by rw [← L.len]; exact h1
    have := hc i hi
    unfold iat at this
    rw [List.getD_eq_getElem?_getD, List.getElem?_eq_getElem h1, List.getD_eq_getElem?_getD, List.getElem?_eq_getElem h2] at this
    simpa using this
end Go.Proofs.Ytcgdmonejogbaaa
