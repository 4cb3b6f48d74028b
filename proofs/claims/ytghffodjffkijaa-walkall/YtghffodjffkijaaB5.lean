/- The ends of an edge lie under one beginning, where everything is gone through. -/
import Derived.Test.YtghffodjffkijaaB4
import Derived.Test.YtghffodjffkijaaC5
namespace Go.Proofs.Ytghffodjffkijaa
open Go.RowKit Go.Sort
open Go

variable {es : List Pt} {n : Nat} {st : St}
theorem rtN_put {v : Nat} {O : List Int} {h f : Int} (t : Tree es n st) (hn : iat st.Fa v < 0) : ∀ (k x : Nat), x < n → 0 ≤ iat st.Fa x → (k : Int) ≤ iat st.Fa x → rtN es ⟨O, st.By.set v h, st.Fa.set v f⟩ k x = rtN es st k x
  | 0, _, _, _, _ => rfl
  | k + 1, x, hx, h0, hk => by
    have hne : x ≠ v := fun e => by rw [e] at h0; omega
    have hp : par es ⟨O, st.By.set v h, st.Fa.set v f⟩ x = par es st x := by
      unfold par
      simp only [iat_put_ne hne]
    obtain ⟨_, _, _, _, _, h5, h6, h7, _⟩ := root_par t hx (by omega)
    simp only [rtN]
    rw [hp]
    exact rtN_put t hn k _ h5 h7 (by omega)
theorem root_put {v x : Nat} {O : List Int} {h f : Int} (t : Tree es n st) (hn : iat st.Fa v < 0) (hx : x < n) (h0 : 0 ≤ iat st.Fa x) : root es ⟨O, st.By.set v h, st.Fa.set v f⟩ x = root es st x := by
  have hne : x ≠ v := fun e => by rw [e] at h0; omega
  unfold root
  simp only [iat_put_ne hne]
  exact rtN_put t hn _ x hx h0 (by omega)
/-- Whoever is found has all its neighbours found, under the same beginning. -/
structure Shut (es : List Pt) (n : Nat) (st : St) : Prop where
  ok : Ok n st
  tree : Tree es n st
  all : ∀ h a b : Nat, h < 2 * es.length → fromL es h = a → toL es h = b → 0 ≤ iat st.Fa a → 0 ≤ iat st.Fa b ∧ root es st a = root es st b
/-- A walk from s under way, where others have been shut before it. -/
structure Run (es : List Pt) (n : Nat) (st0 : St) (s j0 j : Nat) (st : St) : Prop where
  ok : Ok n st
  tree : Tree es n st
  shut : ∀ i, j0 ≤ i → i < j → i < st.O.length → ∀ h, h < 2 * es.length → fromL es h = iat st.O i → 0 ≤ iat st.Fa (toL es h).toNat
  pre : ∀ i, i < j0 → i < st.O.length ∧ 0 ≤ iat st0.Fa (oj st i)
  old : ∀ v, v < n → 0 ≤ iat st0.Fa v → 0 ≤ iat st.Fa v ∧ root es st v = root es st0 v
  new : ∀ v, v < n → 0 ≤ iat st.Fa v → 0 ≤ iat st0.Fa v ∨ root es st v = s
  beg : 0 ≤ iat st.Fa s
theorem Run.step {st0 : St} {s j0 j u h : Nat} (r : Run es n st0 s j0 j st) (c : Shut es n st0) (hm : netB n es = true) (hj : j < st.O.length) (hu : u < n) (h0 : 0 ≤ iat st.Fa u) (hh : h < 2 * es.length) (hf : fromL es h = u) :
    Run es n st0 s j0 j (bStep es u st h) ∧ 0 ≤ iat (bStep es u st h).Fa (toL es h).toNat ∧ ∀ y, 0 ≤ iat st.Fa y → 0 ≤ iat (bStep es u st h).Fa y := by
  have T := r.tree.step r.ok hm hu h0 hh hf
  have K := (r.ok.step hm hu h0 hh).1
  obtain ⟨t1, t2⟩ := toL_in hm h hh
  obtain ⟨x, hx⟩ : ∃ x : Nat, toL es h = x := ⟨(toL es h).toNat, by omega⟩
  have hxn : x < n := by omega
  by_cases hneg : iat st.Fa x < 0
  · have e : bStep es u st h = ⟨st.O ++ [(x : Int)], st.By.set x h, st.Fa.set x (iat st.Fa u + 1)⟩ := by
      unfold bStep
      rw [hx, Int.toNat_natCast, if_pos hneg]
    rw [e] at T K ⊢
    have hFx : iat (st.Fa.set x (iat st.Fa u + 1)) x = iat st.Fa u + 1 := iat_put (by rw [r.ok.lf]; exact hxn)
    have hBx : iat (st.By.set x (h : Int)) x = h := iat_put (by rw [r.ok.lb]; exact hxn)
    have keep : ∀ y : Nat, 0 ≤ iat st.Fa y → 0 ≤ iat (st.Fa.set x (iat st.Fa u + 1)) y := fun y hy => by rw [iat_put_ne (fun e => by rw [e] at hy; omega)]; exact hy
    have hus : root es st u = s := by
      rcases r.new u hu h0 with h1 | h1
      · exfalso
        have := (c.all h u x hh hf hx h1).1
        have := (r.old x hxn this).1
        omega
      · exact h1
    refine ⟨⟨K, T, ?_, ?_, ?_, ?_, keep s r.beg⟩, ?_, keep⟩
    · intro i hi hij _ k hk hkf
      have hil : i < st.O.length := by omega
      have hO : iat (st.O ++ [(x : Int)]) i = iat st.O i := by rw [iat_app, if_pos hil]
      exact keep _ (r.shut i hi hij hil k hk (by rw [← hO]; exact hkf))
    · intro i hi
      obtain ⟨p1, p2⟩ := r.pre i hi
      refine ⟨by simp; omega, ?_⟩
      rw [oj_app p1]
      exact p2
    · intro v hv hv0
      obtain ⟨o1, o2⟩ := r.old v hv hv0
      exact ⟨keep v o1, by rw [root_put r.tree hneg hv o1]; exact o2⟩
    · intro v hv hv0
      by_cases ev : v = x
      · right
        subst ev
        obtain ⟨_, _, _, _, _, _, _, _, h8⟩ := root_par T hv (by show 0 < iat (st.Fa.set v (iat st.Fa u + 1)) v; rw [hFx]; omega)
        rw [← h8]
        have hp : par es ⟨st.O ++ [(v : Int)], st.By.set v h, st.Fa.set v (iat st.Fa u + 1)⟩ v = u := by
          unfold par
          rw [show iat (st.By.set v (h : Int)) v = h from hBx, Int.toNat_natCast, hf, Int.toNat_natCast]
        rw [hp, root_put r.tree hneg hu h0]
        exact hus
      · have hv1 : 0 ≤ iat st.Fa v := by
          have h1 : 0 ≤ iat (st.Fa.set x (iat st.Fa u + 1)) v := hv0
          rw [iat_put_ne ev] at h1
          exact h1
        rw [root_put r.tree hneg hv hv1]
        exact r.new v hv hv1
    · rw [hx, Int.toNat_natCast]
      show 0 ≤ iat (st.Fa.set x (iat st.Fa u + 1)) x
      rw [hFx]; omega
  · have e : bStep es u st h = st := by
      unfold bStep
      rw [hx, Int.toNat_natCast, if_neg hneg]
    rw [e]
    exact ⟨r, by rw [hx, Int.toNat_natCast]; omega, fun _ h => h⟩
theorem Run.row {st0 : St} {s j0 j : Nat} (r : Run es n st0 s j0 j st) (c : Shut es n st0) (hm : netB n es = true) (hj : j < st.O.length) : ∀ t, t ≤ (outL es (2 * es.length) (oj st j)).length → Run es n st0 s j0 j (bRow es (oj st j) st t) ∧ 0 ≤ iat (bRow es (oj st j) st t).Fa (oj st j) ∧ ∀ i, i < t → ∀ h : Nat, iat (outL es (2 * es.length) (oj st j)) i = h → 0 ≤ iat (bRow es (oj st j) st t).Fa (toL es h).toNat
  | 0, _ => ⟨r, r.ok.fnd j hj, fun i hi => by omega⟩
  | t + 1, ht => by
    obtain ⟨r1, h0, hw⟩ := Run.row r c hm hj t (by omega)
    have hm' := r.ok.mem j hj
    have hun : oj st j < n := by show (iat st.O j).toNat < n; omega
    obtain ⟨h, hh, hh2, hh3⟩ := outL_at (es := es) (h := 2 * es.length) (v := oj st j) (j := t) (by omega)
    have hle := bRow_len es (oj st j) st t
    obtain ⟨s1, s2, s3⟩ := r1.step c hm (by omega) hun h0 hh2 hh3
    simp only [bRow]
    rw [hh, Int.toNat_natCast]
    refine ⟨s1, s3 _ h0, fun i hi k hk => ?_⟩
    by_cases e : i = t
    · rw [e, hh] at hk
      have : h = k := by omega
      rw [← this]
      exact s2
    · exact s3 _ (hw i (by omega) k hk)
theorem Run.next {st0 : St} {s j0 j : Nat} (r : Run es n st0 s j0 j st) (c : Shut es n st0) (hm : netB n es = true) (hj : j < st.O.length) : Run es n st0 s j0 (j + 1) (bRow es (oj st j) st (outL es (2 * es.length) (oj st j)).length) := by
  obtain ⟨r1, h0, hw⟩ := r.row c hm hj _ (Nat.le_refl _)
  refine ⟨r1.ok, r1.tree, ?_, r1.pre, r1.old, r1.new, r1.beg⟩
  intro i hi hij hil h hh hf
  by_cases e : i = j
  · subst e
    have hm' := r.ok.mem i hj
    rw [bRow_oj hj] at hf
    obtain ⟨q, hq, hqe⟩ := outL_mem (es := es) (h := 2 * es.length) (v := oj st i) (k := h) hh (by rw [hf]; show iat st.O i = ((iat st.O i).toNat : Int); omega)
    exact hw q hq h hqe
  · exact r1.shut i hi (by omega) hil h hh hf
theorem Run.all {st0 : St} {s j0 : Nat} (c : Shut es n st0) (hm : netB n es = true) : ∀ (k j : Nat) (st : St), Run es n st0 s j0 j st → n ≤ k + j → ∃ j', Run es n st0 s j0 j' (bfs es k j st) ∧ (bfs es k j st).O.length ≤ j'
  | 0, j, st, b, hk => ⟨j, b, by have := b.ok.cnt; show st.O.length ≤ j; omega⟩
  | k + 1, j, st, b, hk => by
    simp only [bfs]
    split
    · rename_i hj; exact Run.all c hm k (j + 1) _ (b.next c hm hj) (by omega)
    · exact ⟨j, b, by omega⟩
theorem twn_from (es : List Pt) (k : Nat) : fromL es (twn (k : Int)).toNat = toL es k := by
  unfold twn
  by_cases h2 : (k : Int) % 2 = 0
  · rw [if_pos h2, show ((k : Int) + 1).toNat = k + 1 by omega]
    unfold toL fromL
    rw [if_neg (by omega), if_pos (by omega), show (k + 1) / 2 = k / 2 by omega]
  · rw [if_neg h2, show ((k : Int) - 1).toNat = k - 1 by omega]
    unfold toL fromL
    rw [if_pos (by omega), if_neg (by omega), show (k - 1) / 2 = k / 2 by omega]
/-- A walk from a node that is not found yet shuts what it finds. -/
theorem Shut.walk {s : Nat} (c : Shut es n st) (hm : netB n es = true) (hs : s < n) (hn : iat st.Fa s < 0) : Shut es n (bfs es n st.O.length (begin_ st s)) ∧ 0 ≤ iat (bfs es n st.O.length (begin_ st s)).Fa s ∧ ∀ v, v < n → 0 ≤ iat st.Fa v → 0 ≤ iat (bfs es n st.O.length (begin_ st s)).Fa v := by
  have hF : iat (begin_ st s).Fa s = 0 := iat_put (by rw [c.ok.lf]; exact hs)
  have r0 : Run es n st s st.O.length st.O.length (begin_ st s) := by
    refine ⟨c.ok.begin_ hs hn, c.tree.begin_ c.ok hs hn, fun i hi hij => by omega, ?_, ?_, ?_, by rw [hF]; omega⟩
    · intro i hi
      refine ⟨by simp [begin_]; omega, ?_⟩
      have : oj (begin_ st s) i = oj st i := oj_app hi
      rw [this]
      exact c.ok.fnd i hi
    · intro v hv h0
      have hne : v ≠ s := fun e => by rw [e] at h0; omega
      refine ⟨?_, root_put c.tree hn hv h0⟩
      show 0 ≤ iat (st.Fa.set s 0) v
      rw [iat_put_ne hne]
      exact h0
    · intro v hv h0
      by_cases e : v = s
      · right
        rw [e]
        exact root_zero hF
      · left
        have h1 : 0 ≤ iat (st.Fa.set s 0) v := h0
        rw [iat_put_ne e] at h1
        exact h1
  obtain ⟨j', r, hj'⟩ := Run.all c hm n st.O.length _ r0 (by omega)
  refine ⟨⟨r.ok, r.tree, fun h a b hh ha hb h0 => ?_⟩, r.beg, fun v hv h0 => (r.old v hv h0).1⟩
  have an : a < n := by have := fromL_in hm h hh; omega
  have bn : b < n := by have := toL_in hm h hh; omega
  by_cases hCa : 0 ≤ iat st.Fa a
  · obtain ⟨q1, q2⟩ := c.all h a b hh ha hb hCa
    exact ⟨(r.old b bn q1).1, by rw [(r.old a an hCa).2, (r.old b bn q1).2]; exact q2⟩
  · obtain ⟨q, hq, hqe⟩ := r.tree.surj a an h0
    have hj0 : st.O.length ≤ q := by
      rcases Nat.lt_or_ge q st.O.length with hlt | hge
      · exfalso
        apply hCa
        have := (r.pre q hlt).2
        rw [show oj (bfs es n st.O.length (begin_ st s)) q = a by show (iat _ q).toNat = a; rw [hqe, Int.toNat_natCast]] at this
        exact this
      · exact hge
    have hb0 := r.shut q hj0 (by omega) hq h hh (by rw [ha, hqe])
    rw [hb, Int.toNat_natCast] at hb0
    refine ⟨hb0, ?_⟩
    have hCb : ¬ 0 ≤ iat st.Fa b := fun hb1 => hCa (by
      obtain ⟨k, hk, hk2⟩ := twn_in hh
      have e1 := twn_from es h
      have e2 := twn_to es h
      rw [hk, Int.toNat_natCast] at e1 e2
      exact (c.all k b a hk2 (by rw [e1, hb]) (by rw [e2, ha]) hb1).1)
    rw [(r.new a an h0).resolve_left hCa, (r.new b bn hb0).resolve_left hCb]
theorem shut0 (es : List Pt) (n : Nat) (hm : netB n es = true) : Shut es n (st0 n) where
  ok := st0_ok n
  tree := tree0 es n _ _ (fun v hv => by simp [iat, hv]) (fun v hv => by simp [iat, hv])
  all h a b hh ha hb h0 := by
    have an : a < n := by have := fromL_in hm h hh; omega
    exfalso
    have : iat (List.replicate n (-1 : Int)) a = -1 := by simp [iat, an]
    have h1 : 0 ≤ iat (List.replicate n (-1 : Int)) a := h0
    omega
/-- Everywhere: all are found, and the ends of an edge lie under one beginning. -/
theorem everyN_shut (hm : netB n es = true) : ∀ s, s ≤ n → Shut es n (everyN es n s) ∧ ∀ v, v < s → 0 ≤ iat (everyN es n s).Fa v
  | 0, _ => ⟨shut0 es n hm, fun v hv => by omega⟩
  | s + 1, hs => by
    obtain ⟨c, ha⟩ := everyN_shut hm s (by omega)
    simp only [everyN]
    split
    · rename_i hneg
      obtain ⟨c1, c2, c3⟩ := c.walk hm (by omega) hneg
      refine ⟨c1, fun v hv => ?_⟩
      by_cases e : v = s
      · rw [e]; exact c2
      · exact c3 v (by omega) (ha v (by omega))
    · rename_i hneg
      refine ⟨c, fun v hv => ?_⟩
      by_cases e : v = s
      · rw [e]; omega
      · exact ha v (by omega)
end Go.Proofs.Ytghffodjffkijaa
