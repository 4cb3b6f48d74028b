/- WalkRing: its walk. -/
import Derived.Test.YtghffodjffkijaaS3
import Derived.Test.YtghffodjffkijaaE3
import Derived.Test.YtghffodjffkijaaM8
import Derived.Test.YtghffodjffkijaaN5
import Derived.Test.YtghffodjffkijaaR1
import Derived.Test.YtghffodjffkijaaN7
import Derived.Test.YtghffodjffkijaaJ2
import Derived.Test.YtghffodjffkijaaC5
import Derived.Test.YtghffodjffkijaaQ4
/- The shortest cycle: Ring's is as long as the reference's, and leaves no node twice. -/
/- Sides as colours: parity along ways; an edge split twice. -/
namespace Go.Proofs.Ytghffodjffkijaa
open Go.RowKit Go.Sort
open Go
variable {es : List Pt} {n : Nat} {st : St}

/-- The least node of a component begins its tree. -/
theorem least_zero (hm : netB n es = true) : ∀ s, s ≤ n → ∀ v, v < n → 0 ≤ iat (everyN es n s).Fa v → (∀ u, u < v → ¬ Conn es u v) → iat (everyN es n s).Fa v = 0
  | 0, _, v, hv, h0, _ => by
    have h0' : 0 ≤ iat (List.replicate n (-1 : Int)) v := h0
    rw [iat_fill hv] at h0'
    omega
  | s + 1, hs, v, hv, h0, hl => by
    have ih := least_zero hm s (by omega) v hv
    obtain ⟨c, hall⟩ := everyN_shut (es := es) hm s (by omega)
    revert h0
    simp only [everyN]
    split
    · rename_i hneg
      obtain ⟨st, hst⟩ : ∃ st, everyN es n s = st := ⟨_, rfl⟩
      rw [hst] at ih c hall hneg ⊢
      obtain ⟨c1, c2, c3⟩ := c.walk hm (by omega) hneg
      obtain ⟨x1, x2⟩ := c.walkR hm (by omega) hneg
      obtain ⟨T, hT⟩ : ∃ T, bfs es n st.O.length (begin_ st s) = T := ⟨_, rfl⟩
      rw [hT] at c1 c2 c3 x1 x2 ⊢
      have hsn : s < n := by omega
      intro h0
      by_cases e : v = s
      · have hF : iat (begin_ st s).Fa s = 0 := iat_put (by rw [c.ok.lf]; exact hsn)
        rw [e, (x1.old s (by rw [hF]; omega)).1, hF]
      · by_cases ho : 0 ≤ iat st.Fa v
        · have hb : iat (begin_ st s).Fa v = iat st.Fa v := by show iat (st.Fa.set s 0) v = _; rw [iat_put_ne e]
          rw [(x1.old v (by rw [hb]; exact ho)).1, hb]
          exact ih ho hl
        · exfalso
          have hr := (x2 v hv h0).resolve_left ho
          obtain ⟨k, hk⟩ : ∃ k : Nat, iat T.Fa v = k := ⟨(iat T.Fa v).toNat, by omega⟩
          have h1 := conn_root c1.tree k v hv hk
          rw [hr] at h1
          rcases Nat.lt_or_ge v s with hlt | hge
          · exact ho (hall v hlt)
          · exact hl s (by omega) h1
    · intro h0
      exact ih h0 hl
/-- Along a way each half-edge turns the colour. -/
theorem way_par {c : Nat → Nat} {P : Nat → Prop} (hc : ∀ h u x : Nat, h < 2 * es.length → fromL es h = u → toL es h = x → P u → P x ∧ (c u + c x) % 2 = 1) : ∀ {l : List Int} {a b : Nat}, Way es l a b → P a → (l.length + c a + c b) % 2 = 0
  | [], a, b, h, _ => by cases h; simp; omega
  | x :: l, a, b, h, hP => by
    obtain ⟨k, d, h1, h2, h3, h4, h5⟩ := h
    obtain ⟨p1, p2⟩ := hc k a d h2 h3 h4 hP
    have ih := way_par hc h5 p1
    rw [List.length_cons]
    omega
/-- Two colours, such that each edge has both. -/
def Proper (es : List Pt) (c : Nat → Nat) : Prop := ∀ h u x : Nat, h < 2 * es.length → fromL es h = u → toL es h = x → (c u + c x) % 2 = 1
theorem proper_par {c : Nat → Nat} (hc : Proper es c) {l : List Int} {a b : Nat} (h : Way es l a b) : (l.length + c a + c b) % 2 = 0 := way_par (P := fun _ => True) (fun h u x h1 h2 h3 _ => ⟨trivial, hc h u x h1 h2 h3⟩) h trivial
theorem proper_of {c : Nat → Nat} (hm : netB n es = true) (h : ∀ i, i < es.length → (c (at' es i).x.toNat + c (at' es i).y.toNat) % 2 = 1) : Proper es c := by
  intro k u x hk hf ht
  have hE := (netB_is hm).2.2.2 (k / 2) (by omega)
  have := h (k / 2) (by omega)
  unfold fromL at hf
  unfold toL at ht
  by_cases h2 : k % 2 = 0
  · rw [if_pos h2] at hf ht
    rw [hf, ht, Int.toNat_natCast, Int.toNat_natCast] at this
    exact this
  · rw [if_neg h2] at hf ht
    rw [hf, ht, Int.toNat_natCast, Int.toNat_natCast] at this
    omega
/-- A colouring goes by the distances from the beginnings. -/
theorem proper_root {c : Nat → Nat} (hc : Proper es c) (t : Tree es n st) : ∀ (k v : Nat), v < n → iat st.Fa v = k → (c v + c (root es st v) + k) % 2 = 0
  | 0, v, hv, h => by rw [root_zero h]; omega
  | k + 1, v, hv, h => by
    obtain ⟨q, q1, q2, q3, q4, q5, q6, q7, q8⟩ := root_par t hv (by omega)
    have ih := proper_root hc t k (par es st v) q5 (by omega)
    have := hc q (par es st v) v q1 q4 q3
    rw [q8] at ih
    omega
/-- The colours that the tour tells. -/
def farC (st : St) (v : Nat) : Nat := (iat st.Fa v).toNat
theorem far_proper {m : Nat} (hm : netB m es = true) (h : ∀ e, e < es.length → ¬ alike es (everyN es m m).Fa e) : Proper es (farC (everyN es m m)) := by
  obtain ⟨c, hall⟩ := everyN_shut (es := es) hm m (Nat.le_refl _)
  refine proper_of hm (fun i hi => ?_)
  have hE := (netB_is hm).2.2.2 i hi
  have := h i hi
  unfold alike at this
  have h1 := hall (at' es i).x.toNat (by omega)
  have h2 := hall (at' es i).y.toNat (by omega)
  unfold farC
  omega
theorem proper_sides {m : Nat} {c : Nat → Nat} (hm : netB m es = true) (hc : Proper es c) : ∀ e, e < es.length → ¬ alike es (everyN es m m).Fa e := by
  intro e he ha
  obtain ⟨s, hall⟩ := everyN_shut (es := es) hm m (Nat.le_refl _)
  obtain ⟨x0, x1, y0, y1⟩ := (netB_is hm).2.2.2 e he
  obtain ⟨x, hx⟩ : ∃ x : Nat, (at' es e).x = x := ⟨(at' es e).x.toNat, by omega⟩
  obtain ⟨y, hy⟩ : ∃ y : Nat, (at' es e).y = y := ⟨(at' es e).y.toNat, by omega⟩
  unfold alike at ha
  rw [hx, hy, Int.toNat_natCast, Int.toNat_natCast] at ha
  have f1 : fromL es (2 * e) = x := by unfold fromL; rw [if_pos (by omega), show 2 * e / 2 = e by omega, hx]
  have t1 : toL es (2 * e) = y := by unfold toL; rw [if_pos (by omega), show 2 * e / 2 = e by omega, hy]
  have fx := hall x (by omega)
  have fy := hall y (by omega)
  have hr := (s.all (2 * e) x y (by omega) f1 t1 fx).2
  obtain ⟨a, ha'⟩ : ∃ a : Nat, iat (everyN es m m).Fa x = a := ⟨(iat (everyN es m m).Fa x).toNat, by omega⟩
  obtain ⟨b, hb'⟩ : ∃ b : Nat, iat (everyN es m m).Fa y = b := ⟨(iat (everyN es m m).Fa y).toNat, by omega⟩
  have p1 := proper_root hc s.tree a x (by omega) ha'
  have p2 := proper_root hc s.tree b y (by omega) hb'
  have p3 := hc (2 * e) x y (by omega) f1 t1
  rw [hr] at p1
  omega
/-- Which edge nearest tells. -/
theorem nrN_spec (es : List Pt) (By Fa : List Int) : ∀ k, 0 ≤ (nrN es By Fa k).1 → ∃ e : Nat, e < k ∧ (nrN es By Fa k).1 = e ∧ 0 ≤ iat Fa (at' es e).x.toNat ∧ iat By (at' es e).y.toNat ≠ 2 * (e : Int) ∧ iat By (at' es e).x.toNat ≠ 2 * (e : Int) + 1
  | 0, h => by simp [nrN] at h
  | k + 1, h => by
    simp only [nrN] at h ⊢
    split at h
    · rename_i hc
      rw [if_pos hc]
      obtain ⟨e, h1, h2⟩ := nrN_spec es By Fa k h
      exact ⟨e, by omega, h2⟩
    · rename_i hc
      rw [if_neg hc]
      have hc' : ¬ iat Fa (at' es k).x.toNat < 0 ∧ iat By (at' es k).y.toNat ≠ 2 * (k : Int) ∧ iat By (at' es k).x.toNat ≠ 2 * (k : Int) + 1 := ⟨fun h => hc (Or.inl h), fun h => hc (Or.inr (Or.inl h)), fun h => hc (Or.inr (Or.inr h))⟩
      split at h
      · rename_i hd
        rw [if_pos hd]
        exact ⟨k, by omega, rfl, by omega, hc'.2.1, hc'.2.2⟩
      · rename_i hd
        rw [if_neg hd]
        obtain ⟨e, h1, h2⟩ := nrN_spec es By Fa k h
        exact ⟨e, by omega, h2⟩
theorem nrN_none (es : List Pt) (By Fa : List Int) : ∀ k, (nrN es By Fa k).1 < 0 → ∀ e, e < k → iat Fa (at' es e).x.toNat < 0 ∨ iat By (at' es e).y.toNat = 2 * (e : Int) ∨ iat By (at' es e).x.toNat = 2 * (e : Int) + 1
  | 0, _ => fun e he => by omega
  | k + 1, h => by
    intro e he
    simp only [nrN] at h
    split at h
    · rename_i hc
      by_cases ek : e = k
      · rw [ek]; exact hc
      · exact nrN_none es By Fa k h e (by omega)
    · split at h
      · exfalso
        simp only at h
        omega
      · rename_i hd
        exact absurd (Or.inl h) hd
/-- The way round that Ring tells is one. -/
theorem ring_loop {m : Nat} (hm : netB m es = true) : ∀ s, s ≤ m → rgN es m s = [] ∨ Loop es (rgN es m s)
  | 0, _ => Or.inl rfl
  | s + 1, hs => by
    have ih := ring_loop hm s (by omega)
    simp only [rgN]
    split
    · rename_i hc
      right
      have R : Reach es m s (bOne es m s) := bOne_reach (es := es) hm (by omega)
      obtain ⟨e, h1, h2, h3, h4, h5⟩ := nrN_spec es _ _ es.length hc.1
      have hsh := bOne_shut (es := es) hm (show s < m by omega)
      obtain ⟨x0, x1, y0, y1⟩ := (netB_is hm).2.2.2 e h1
      obtain ⟨x, hx⟩ : ∃ x : Nat, (at' es e).x = x := ⟨(at' es e).x.toNat, by omega⟩
      obtain ⟨y, hy⟩ : ∃ y : Nat, (at' es e).y = y := ⟨(at' es e).y.toNat, by omega⟩
      rw [hx, Int.toNat_natCast] at h3 h5
      rw [hy, Int.toNat_natCast] at h4
      have en : (nOne es m s).1.toNat = e := by
        have : (nOne es m s).1 = e := h2
        omega
      rw [en]
      generalize bOne es m s = T at *
      have f1 : fromL es (2 * e) = x := by unfold fromL; rw [if_pos (by omega), show 2 * e / 2 = e by omega, hx]
      have t1 : toL es (2 * e) = y := by unfold toL; rw [if_pos (by omega), show 2 * e / 2 = e by omega, hy]
      have fy := R.shut (2 * e) x y (by omega) f1 t1 h3
      have hr := (hsh.all (2 * e) x y (by omega) f1 t1 h3).2
      exact (cloL_loop hsh.tree (by omega : 2 * e < 2 * es.length) t1 f1 (by omega) (by omega) fy h3 hr.symm (fun v hv h0 heq => by
        obtain ⟨q, q1, q2, q3, q4, q5, q6, _⟩ := root_par hsh.tree hv h0
        rw [q2, Int.toNat_natCast] at heq
        have hqe : q / 2 = e := by omega
        unfold toL at q3
        rw [hqe] at q3
        by_cases h2' : q % 2 = 0
        · rw [if_pos h2', hy] at q3
          have e1 : y = v := by omega
          rw [e1, q2] at h4
          exact h4 (by omega)
        · rw [if_neg h2', hx] at q3
          have e1 : x = v := by omega
          rw [e1, q2] at h5
          exact h5 (by omega))).1
    · exact ih
theorem clo_head (es : List Pt) (st : St) : ∀ k en sa cy dn, ∃ t, (clo es st k en sa cy dn).1 = cy ++ t
  | 0, _, _, cy, _ => ⟨[], by simp [clo]⟩
  | k + 1, en, sa, cy, dn => by
    simp only [clo]
    split
    · exact ⟨[], by simp⟩
    · split
      · obtain ⟨t, ht⟩ := clo_head es st k (par es st en) sa (cy ++ [twn (iat st.By en)]) dn
        exact ⟨twn (iat st.By en) :: t, by rw [ht]; simp⟩
      · exact clo_head es st k en (par es st sa) cy (dn ++ [iat st.By sa])
/-- A way round of odd length makes Ring find one. -/
theorem odd_ring {m a : Nat} {l : List Int} (hm : netB m es = true) (hw : Way es l a a) (ha : a < m) (ho : l.length % 2 = 1) : rgN es m m ≠ [] := by
  intro hr
  have none : ∀ s, s ≤ m → rgN es m s = [] → ∀ t, t < s → (nOne es m t).1 < 0 := by
    intro s
    induction s with
    | zero => intro _ _ t ht; omega
    | succ s ih =>
      intro hs he t ht
      simp only [rgN] at he
      split at he
      · have := cloL_pos es (bOne es m s) (2 * (nOne es m s).1.toNat)
        rw [he] at this
        simp at this
      · rename_i hc
        by_cases e : t = s
        · rw [e]
          by_cases h0 : 0 ≤ (nOne es m s).1
          · exact absurd ⟨h0, Or.inl he⟩ hc
          · omega
        · exact ih (by omega) he t (by omega)
  have hneg := none m (Nat.le_refl _) hr a ha
  have R : Reach es m a (bOne es m a) := bOne_reach (es := es) hm ha
  have hn := nrN_none es _ _ es.length hneg
  generalize bOne es m a = T at *
  have key : ∀ h u x : Nat, h < 2 * es.length → fromL es h = u → toL es h = x → 0 ≤ iat T.Fa u → 0 ≤ iat T.Fa x ∧ (farC T u + farC T x) % 2 = 1 := by
    intro h u x hh hf ht h0
    have h1 := R.shut h u x hh hf ht h0
    refine ⟨h1, ?_⟩
    have hu : u < m := by have := fromL_in hm h hh; omega
    have hx : x < m := by have := toL_in hm h hh; omega
    obtain ⟨x0, x1, y0, y1⟩ := (netB_is hm).2.2.2 (h / 2) (by omega)
    have hh2 := hn (h / 2) (by omega)
    -- the tree edge joins a node with its parent
    have tree : ∀ v q : Nat, v < m → 0 ≤ iat T.Fa v → iat T.By v = q → iat T.Fa (fromL es q).toNat + 1 = iat T.Fa v := by
      intro v q hv hv0 hb
      rcases R.tree.back v hv hv0 with ⟨_, z⟩ | ⟨k, p, k1, k2, k3, k4, k5, k6, k7⟩
      · omega
      · have : k = q := by omega
        rw [← this, k5, Int.toNat_natCast]
        exact k6
    unfold fromL at hf
    unfold toL at ht
    unfold farC
    by_cases h2 : h % 2 = 0
    · rw [if_pos h2] at hf ht
      rw [hf, ht, Int.toNat_natCast, Int.toNat_natCast] at hh2
      rcases hh2 with e | e | e
      · omega
      · have := tree x (2 * (h / 2)) hx h1 (by rw [e]; omega)
        unfold fromL at this
        rw [if_pos (by omega), show 2 * (h / 2) / 2 = h / 2 by omega, hf, Int.toNat_natCast] at this
        omega
      · have := tree u (2 * (h / 2) + 1) hu h0 (by rw [e]; omega)
        unfold fromL at this
        rw [if_neg (by omega), show (2 * (h / 2) + 1) / 2 = h / 2 by omega, ht, Int.toNat_natCast] at this
        omega
    · rw [if_neg h2] at hf ht
      rw [hf, ht, Int.toNat_natCast, Int.toNat_natCast] at hh2
      rcases hh2 with e | e | e
      · omega
      · have := tree u (2 * (h / 2)) hu h0 (by rw [e]; omega)
        unfold fromL at this
        rw [if_pos (by omega), show 2 * (h / 2) / 2 = h / 2 by omega, ht, Int.toNat_natCast] at this
        omega
      · have := tree x (2 * (h / 2) + 1) hx h1 (by rw [e]; omega)
        unfold fromL at this
        rw [if_neg (by omega), show (2 * (h / 2) + 1) / 2 = h / 2 by omega, hf, Int.toNat_natCast] at this
        omega
  have := way_par (c := farC T) (P := fun v => 0 ≤ iat T.Fa v) key hw (by rw [R.first.2.2]; omega)
  omega
end Go.Proofs.Ytghffodjffkijaa

/- The reference's Shortest. -/
/- All edges but one: what Shortest keeps. -/
/- The reference's Sub. -/
/- The reference's Chosen. -/
namespace Go.Proofs.Ytghffodjffkijaa
open Go.RowKit Go.Sort
open Go

set_option maxRecDepth 100000 in
set_option maxHeartbeats 4000000 in
theorem chosen59 (p : Option Addr) (l : List Int) (cap : Nat) (n : Int) (w : World) (hl : l.length ≤ maxLen) (h : IHas w p l) : Calls Try.prog 59 #[.slice p l.length cap, .int .i64 n] w fun e w' => e = .returned (.int .i64 (errL l n)) ∧ Below w.heap.size w w' := by
  have HH := hide h
  clear h
  unfold maxLen at hl
  go_enter Try.func59, Try.ntmps59
  go_wp2_with fail
  go_loopw [5] (fun t wr => ∃ k : Nat, k ≤ l.length ∧ t = .int .i64 k ∧ Hid (Below w.heap.size w wr) ∧ Hid (∀ j, j < k → chk l n j = 0)) (fun t _ => l.length - (intOf t).toNat)
  case atStart => exact ⟨0, by omega, rfl, Below.refl _ _, fun j hj => by omega⟩
  case round =>
    obtain ⟨k, hk, rfl, HB, HC⟩ := hrel
    by_cases hlk : k < l.length
    · rcases HH.out.later HB.out with h | ⟨b, off, rfl, hL⟩
      · subst h; simp at hlk
      have cl := hL k hlk
      have HLL := hide hL
      have hchk : Hid (chk l n k = if belowB (iat l k) n then (if metB l k then 18 else 0) else 2) := rfl
      have hbx : Hid (belowB (iat l k) n = (decide (0 ≤ iat l k) && decide (iat l k < n))) := rfl
      obtain ⟨x, hx⟩ : ∃ x, iat l k = x := ⟨_, rfl⟩
      rw [hx] at cl hbx hchk
      have HX := hide hx
      clear hL hx
      by_cases hx0 : x < 0
      · have hE : Hid (errL l n = 2) := by
          have h2 : chk l n k = 2 := by rw [hchk.out, hbx.out, if_neg (by simp; omega)]
          show _ = _
          unfold errL; rw [errN_first HC.out (by rw [h2]; omega) _ hlk, h2]
        go_wp2
        go_ret
        exact ⟨retI (by rw [hE.out]), HB.out⟩
      by_cases hxn : n ≤ x
      · have hE : Hid (errL l n = 2) := by
          have h2 : chk l n k = 2 := by rw [hchk.out, hbx.out, if_neg (by simp; omega)]
          show _ = _
          unfold errL; rw [errN_first HC.out (by rw [h2]; omega) _ hlk, h2]
        go_wp2
        go_ret
        exact ⟨retI (by rw [hE.out]), HB.out⟩
      have hbt : Hid (belowB x n = true) := by show _ = _; rw [hbx.out]; simp; omega
      go_wp2_with fail
      obtain ⟨w1, rfl⟩ : ∃ w1, w1 = wr := ⟨wr, rfl⟩
      go_loopw [6] (fun t wr => ∃ i : Nat, i ≤ k ∧ t = .int .i64 i ∧ Hid (Below w1.heap.size w1 wr) ∧ Hid (∀ j, j < i → iat l j ≠ x)) (fun t _ => k - (intOf t).toNat)
      case atStart => exact ⟨0, by omega, rfl, Below.refl _ _, fun j hj => by omega⟩
      case round =>
        obtain ⟨i, hi, rfl, HBi, HNi⟩ := hrel
        by_cases hik : i < k
        · have d0 := HLL.out.later HBi.out i (by omega)
          have d1 := HLL.out.later HBi.out k hlk
          rw [HX.out] at d1
          obtain ⟨y, hy⟩ : ∃ y, iat l i = y := ⟨_, rfl⟩
          rw [hy] at d0
          have i1 : (i : Int) < l.length := by omega
          have i2 : (0 : Int) ≤ i := by omega
          have i3 : (k : Int) < l.length := by omega
          have i4 : (0 : Int) ≤ k := by omega
          clear cl
          by_cases hyx : y = x
          · subst hyx
            have hE : Hid (errL l n = 18) := by
              have h2 : chk l n k = 18 := by rw [hchk.out, hbt.out, if_pos rfl, metB_yes hik (by rw [hy, HX.out]), if_pos rfl]
              show _ = _
              unfold errL; rw [errN_first HC.out (by rw [h2]; omega) _ hlk, h2]
            go_wp2_with fail
            go_quiet (fail)
            go_wp2
            go_ret
            exact ⟨retI (by rw [hE.out]), Below.trans HB.out (below_drewN (HBi.out.mono HB.out.size))⟩
          · have hyb : (y == x) = false := by simpa using hyx
            go_wp2_with fail
            go_quiet (fail)
            go_wp2
            go_roundw
            case rel => exact ⟨i + 1, by omega, by go_num, below_drewN HBi.out, more HNi.out (by rw [hy]; exact hyx)⟩
            case measure => simp [intOf]; omega
        · have hin : i = k := by omega
          subst hin
          have h2 : Hid (chk l n i = 0) := by show _ = _; rw [hchk.out, hbt.out, if_pos rfl, metB_of_no (by rw [HX.out]; exact HNi.out)]; rfl
          go_wp2
          go_roundw
          case rel => exact ⟨i + 1, by omega, by go_num, Below.trans HB.out (HBi.out.mono HB.out.size), more HC.out h2.out⟩
          case measure => simp [intOf]; omega
    · have hin : k = l.length := by omega
      subst hin
      have hE : Hid (errL l n = 0) := errN_zero _ HC.out
      go_wp2
      go_ret
      exact ⟨retI (by rw [hE.out]), HB.out⟩
end Go.Proofs.Ytghffodjffkijaa

namespace Go.Proofs.Ytghffodjffkijaa
open Go.RowKit Go.Sort
open Go

theorem wp_append {P : Program} {w : World} {o : Oper} {a : Act} {K : Act → World → Prop} {Q : Exit → Act → World → Prop} (s x : Operand) (t : TypeId)
    (ho : o.op = .call { callee := .builtin .append, args := #[s, x], argTypes := #[t, t] }) (ty : TypeId) (hty : o.type = ty) (vs vx v' : Value) (w' : World) (hs : a.eval s = vs) (hx : a.eval x = vx)
    (hr : (Builtin.append_ #[t, t] ty #[vs, vx]).run P w = .ok v' w') (h : K (a.put o.dst v') w') : Oper.wp P o a w K Q := by
  subst hty
  unfold Oper.wp execOp
  simp only [ho, resolve, invoke, builtin, Sem.run_bind, Sem.run_pure, Result.andThen_ok, List.map_toArray, List.map_cons, List.map_nil, hs, hx, hr]
  exact h
theorem nown_set1 {W : World} {g : Nat} {n : Int} {p : Option Addr} {l c : Nat} (h : NOwn W g n p l c) (p' : Option Addr) (l' c' : Nat) : NOwn (W.setCell ⟨g, 1, none⟩ (.slice p' l' c')) g n p' l' c' := by
  obtain ⟨q0, q1, q2, q3⟩ := h
  refine ⟨?_, ?_, ?_, ?_⟩
  all_goals go_cell
theorem nown_below {W W' : World} {B g : Nat} {n : Int} {p : Option Addr} {l c : Nat} (h : NOwn W g n p l c) (hb : Below B W W') (hg : g < B) : NOwn W' g n p l c := by
  obtain ⟨q0, q1, q2, q3⟩ := h
  exact ⟨(hb.cell (p := ⟨g, 0, none⟩) hg).trans q0, (hb.cell (p := ⟨g, 1, none⟩) hg).trans q1, (hb.frozen (p := ⟨g, 0, none⟩) hg).trans q2, (hb.frozen (p := ⟨g, 1, none⟩) hg).trans q3⟩
theorem pick_more (es : List Pt) (l : List Int) {i : Nat} (hi : i < l.length) : pick es (l.take (i + 1)) = pick es (l.take i) ++ [at' es (iat l i).toNat] := by
  unfold pick iat
  rw [List.take_add_one, List.map_append, List.getElem?_eq_getElem hi, List.getD_eq_getElem?_getD, List.getElem?_eq_getElem hi]
  rfl
set_option maxRecDepth 100000 in
set_option maxHeartbeats 8000000 in
theorem sub50 (n : Int) (p q : Option Addr) (es : List Pt) (l : List Int) (cp cq : Nat) (w : World) (hlen : l.length ≤ 90000) (hc : errL l es.length = 0) (hin : ∀ j, j < l.length → 0 ≤ iat l j ∧ iat l j < es.length) (h : Has w p es) (hq : IHas w q l) : Calls Try.prog 50 #[nv n p es.length cp, .slice q l.length cq] w fun e w' => ∃ q' c, e = .returned (.tuple #[nv n q' l.length c, .int .i64 0]) ∧ Owns w' w.heap.size (.slice q' l.length c) (pick es l) ∧ Below w.heap.size w w' := by
  obtain ⟨W, hW, hb, a0, b0⟩ := two_nets w n p es.length cp
  have C1 := hide (chosen59 q l cq es.length W (by unfold maxLen; omega) (hq.later hb))
  rw [hc] at C1
  have HH := hide (h.later hb)
  have HQ := hide (hq.later hb)
  have HB := hide hb
  have HA := hide a0
  have HN := hide b0
  have hWs : W.heap.size = w.heap.size + 1 + 1 := by rw [hW]; simp
  have HWS := hide hWs
  clear h hq hb a0 b0 hc hWs
  go_enter Try.func50, Try.ntmps50
  go_wp2_with fail
  rw [← hW]
  clear hW
  refine C1.out.mono ?_
  rintro e w1 ⟨rfl, hb1⟩
  have HA1 := hide (HA.out.later hb1)
  have HB1 := hide hb1
  clear C1 hb1
  obtain ⟨q0, q1, _, _⟩ := HA1.out
  go_upto_region 5 with fail
  obtain ⟨X, hX, hbX, xN⟩ := one_net w1 n none 0 0
  have HX := hide (below_step HB1.out hbX)
  have hXs : X.heap.size = w1.heap.size + 1 := by rw [hX]; simp
  have hkw : W.heap.size ≤ w1.heap.size := HB1.out.size
  rw [← hX]
  obtain ⟨kb, hkb⟩ : ∃ kb, w1.heap.size = kb := ⟨_, rfl⟩
  rw [hkb] at xN hXs hkw ⊢
  have HXN := hide xN
  have HXS := hide hXs
  have HKB := hide hkw
  clear hX hbX xN hXs hkw hkb q0 q1 HA1 HB1
  obtain ⟨kw, hkw⟩ : ∃ k, w.heap.size = k := ⟨_, rfl⟩
  have HKW := hide hkw
  rw [hkw] at HA HN HWS ⊢
  clear hkw
  go_wp2_with fail
  go_loopw [8] (fun t wr => ∃ i : Nat, i ≤ l.length ∧ t = .int .i64 i ∧ ∃ q' c', Hid (Below W.heap.size W wr ∧ kb + 1 ≤ wr.heap.size ∧ NOwn wr kb n q' i c' ∧ Owns wr (kb + 1) (.slice q' i c') (pick es (l.take i)))) (fun t _ => l.length - (intOf t).toNat)
  case atStart => exact ⟨0, by omega, rfl, none, 0, HX.out, by rw [HXS.out]; omega, HXN.out, Owns.nil _ _⟩
  case round =>
    obtain ⟨i, hi, rfl, q', c', HR⟩ := hrel
    have hA := HA.out.later HR.out.1
    obtain ⟨y0, y1, y2, y3⟩ := HR.out.2.2.1
    by_cases hlt : i < l.length
    · obtain ⟨x0, x1⟩ := hin i hlt
      have HPK := hide (pick_more es l hlt)
      rcases HQ.out with hz | ⟨b2, off2, rfl, hL2⟩
      · subst hz; simp at hlt
      have c2 := hL2 i hlt
      obtain ⟨x, hx⟩ : ∃ x : Nat, iat l i = x := ⟨(iat l i).toNat, by omega⟩
      rw [hx] at c2 x0 x1
      rw [hx, Int.toNat_natCast] at HPK
      rcases HH.out with hz | ⟨b, off, rfl, hL⟩
      · subst hz; simp at x1; omega
      obtain ⟨c3, c4⟩ := hL x (by omega)
      have hpl : (pick es (l.take i)).length = i := by rw [pick_length, List.length_take]; omega
      obtain ⟨V0, hV0⟩ : ∃ V, V = wr.drew := ⟨_, rfl⟩
      have bd : Below wr.heap.size wr V0 := by rw [hV0]; exact below_drew _
      have HB0 := hide (below_step HR.out.1 bd)
      have HN0 := hide (HR.out.2.2.1.later bd)
      have z0 : kb + 1 ≤ V0.heap.size := Nat.le_trans HR.out.2.1 bd.size
      have o0 : Owns V0 (kb + 1) (.slice q' (pick es (l.take i)).length c') (pick es (l.take i)) := by rw [hpl]; exact HR.out.2.2.2.later bd
      obtain ⟨v', D, e1, o1, gr1, hbD⟩ := app1 o0 (at' es x).x (at' es x).y z0 (by rw [hpl]; omega)
      obtain ⟨q1, c1, rfl, _, _, _, _⟩ := o1.form
      rw [List.length_append, hpl] at e1 o1
      simp only [List.length_cons, List.length_nil, Nat.zero_add] at e1 o1
      obtain ⟨V1, hV1⟩ : ∃ V, V = V0.alloc (.cells #[.int .i64 (at' es x).x, .int .i64 (at' es x).y] 49) := ⟨_, rfl⟩
      have b1 : Below V0.heap.size V0 V1 := by rw [hV1]; go_grown
      have HBD : Hid (Below W.heap.size W D) := Below.trans HB0.out (hbD.mono (by have := HKB.out; omega))
      have HND := hide (nown_below HN0.out hbD (by omega))
      have HBK0 : Hid (V0.cell? ⟨kb, 1, none⟩ = some (.slice q' i c')) := HN0.out.2.1
      have HBK1 : Hid (V1.cell? ⟨kb, 1, none⟩ = some (.slice q' i c')) := later b1 HN0.out.2.1
      have HDK : Hid (D.cell? ⟨kb, 1, none⟩ = some (.slice q' i c') ∧ D.frozen? ⟨kb, 1, none⟩ = false) := ⟨HND.out.2.1, HND.out.2.2.2⟩
      have HS : ∀ V, Below W.heap.size W V → (V.cell? ⟨kw, 1, none⟩ = some (.slice (some ⟨b, off, none⟩) es.length cp) ∧ V.cell? ⟨b2, off2 + i, none⟩ = some (.int .i64 x) ∧ V.cell? ⟨b, off + x * 2, none⟩ = some (.int .i64 (at' es x).x) ∧ V.cell? ⟨b, off + x * 2 + 1, none⟩ = some (.int .i64 (at' es x).y)) := fun V hV => ⟨(HA.out.later hV).2.1, later hV c2, later hV c3, later hV c4⟩
      have HS1 := hide (HS V1 (below_step HB0.out b1))
      have HS2 := hide (HS D HBD.out)
      obtain ⟨s0, s1, s2, s3⟩ := HS V0 HB0.out
      have nk0 : kw ≠ kb := by have := HKB.out; have := HWS.out; omega
      have nk1 : b2 ≠ kb := by have : b2 < W.heap.size := block_lt_of_cell c2; have := HKB.out; omega
      have nk2 : b ≠ kb := by have : b < W.heap.size := block_lt_of_cell c3; have := HKB.out; omega
      have HO1 := hide o1
      have HV1 := hide hV1
      rw [← hV1] at e1
      have i1 : (i : Int) < l.length := by omega
      have i2 : (x : Int) < es.length := by omega
      clear hL2 c2 hL c3 c4 bd z0 o0 o1 gr1 hbD hV1 b1 HS hx hpl hA y0 y1 y2 y3 HB0 HN0
      go_wp2_with fail
      refine wp_region_held_drew (S := (fun W' => W'.cell? ⟨kw, 1, none⟩ = some (.slice (some ⟨b, off, none⟩) es.length cp) ∧ W'.cell? ⟨b2, off2 + i, none⟩ = some (.int .i64 x) ∧ W'.cell? ⟨b, off + x * 2, none⟩ = some (.int .i64 (at' es x).x) ∧ W'.cell? ⟨b, off + x * 2 + 1, none⟩ = some (.int .i64 (at' es x).y))) (by kernel_rfl) (by rw [← hV0]; exact ⟨s0, s1, s2, s3⟩) (fun hHeld => ?_)
      rw [← hV0] at hHeld ⊢
      clear hV0
      change wpAnyH Try.prog .any _ _ _ 14 #[false, false, false, false, false, false, false, false, false, false, false, false, false, false] _ _
      refine wpAnyH_take (i := 0) (v := ?v1) rfl (by kernel_rfl) (by kernel_rfl) (by kernel_rfl) (fun _ _ _ h => h) (Or.inl ⟨by rfl, ?hy1⟩) (by assumption) ?rest1
      case hy1 => (intro w hSw; (try dsimp only at hSw); go_simp; try with_reducible rfl)
      try simp only [Act.put, List.setIfInBounds_toArray, List.set_cons_zero]
      refine wpAnyH_take (i := 2) (v := ?v2) rfl (by kernel_rfl) (by kernel_rfl) (by kernel_rfl) (fun _ _ _ h => h) (Or.inl ⟨by rfl, ?hy2⟩) (by assumption) ?rest2
      case hy2 => (intro w hSw; (try dsimp only at hSw); go_simp; try with_reducible rfl)
      try simp only [Act.put, List.setIfInBounds_toArray, List.set_cons_zero, List.set_cons_succ]
      refine wpAnyH_take (i := 3) (v := ?v3) rfl (by kernel_rfl) (by kernel_rfl) (by kernel_rfl) (fun _ _ _ h => h) (Or.inl ⟨by rfl, ?hy3⟩) (by assumption) ?rest3
      case hy3 => (intro w hSw; (try dsimp only at hSw); go_simp; try with_reducible rfl)
      try simp only [Act.put, List.setIfInBounds_toArray, List.set_cons_zero, List.set_cons_succ]
      refine wpAnyH_take (i := 4) (v := ?v4) rfl (by kernel_rfl) (by kernel_rfl) (by kernel_rfl) (fun _ _ _ h => h) (Or.inl ⟨by rfl, ?hy4⟩) (by assumption) ?rest4
      case hy4 => (intro w hSw; (try dsimp only at hSw); go_simp; try with_reducible rfl)
      try simp only [Act.put, List.setIfInBounds_toArray, List.set_cons_zero, List.set_cons_succ]
      refine wpAnyH_take (i := 5) (v := ?v5) rfl (by kernel_rfl) (by kernel_rfl) (by kernel_rfl) (fun _ _ _ h => h) (Or.inl ⟨by rfl, ?hy5⟩) (by assumption) ?rest5
      case hy5 => (intro w hSw; (try dsimp only at hSw); go_simp; try with_reducible rfl)
      try simp only [Act.put, List.setIfInBounds_toArray, List.set_cons_zero, List.set_cons_succ]
      refine wpAnyH_take (i := 6) (v := ?v6) rfl (by kernel_rfl) (by kernel_rfl) (by kernel_rfl) (fun _ _ _ h => h) (Or.inl ⟨by rfl, ?hy6⟩) (by assumption) ?rest6
      case hy6 => (intro w hSw; (try dsimp only at hSw); go_simp; try with_reducible rfl)
      try simp only [Act.put, List.setIfInBounds_toArray, List.set_cons_zero, List.set_cons_succ]
      refine wpAnyH_take (i := 7) (v := ?v7) rfl (by kernel_rfl) (by kernel_rfl) (by kernel_rfl) (fun _ _ _ h => h) (Or.inl ⟨by rfl, ?hy7⟩) (by assumption) ?rest7
      case hy7 => (intro w hSw; (try dsimp only at hSw); go_simp; try with_reducible rfl)
      try simp only [Act.put, List.setIfInBounds_toArray, List.set_cons_zero, List.set_cons_succ]
      refine wpAnyH_take (i := 8) (v := ?v8) rfl (by kernel_rfl) (by kernel_rfl) (by kernel_rfl) (fun _ _ _ h => h) (Or.inl ⟨by rfl, ?hy8⟩) (by assumption) ?rest8
      case hy8 => (intro w hSw; (try dsimp only at hSw); go_simp; try with_reducible rfl)
      try simp only [Act.put, List.setIfInBounds_toArray, List.set_cons_zero, List.set_cons_succ]
      refine wpAnyH_take (i := 9) (v := ?v9) rfl (by kernel_rfl) (by kernel_rfl) (by kernel_rfl) (fun _ _ _ h => h) (Or.inl ⟨by rfl, ?hy9⟩) (by assumption) ?rest9
      case hy9 => (intro w hSw; (try dsimp only at hSw); go_simp; try with_reducible rfl)
      try simp only [Act.put, List.setIfInBounds_toArray, List.set_cons_zero, List.set_cons_succ]
      refine wpAnyH_ready (rs := [1, 10]) (by kernel_rfl) (by simp) ?_
      refine ready_cons ({ dst := some 28, op := Op.load 22 (Operand.tmp 27), type := 22, pos := "ref.go:169", after := #[{ on := 0, ground := Ground.data }], guard := none }) rfl rfl (fun K hK => ?_) ?_
      · clear hHeld
        have d0 := HBK0.out
        refine wp_val (v := ?vl1) (w2 := V0) ?hl1 ?_
        case hl1 => (go_simp; try with_reducible rfl)
        clear d0
        refine hK.out _ _ (by first | exact ⟨s0, s1, s2, s3⟩ | exact ⟨cell_other s0 nk0, cell_other s1 nk1, cell_other s2 nk2, cell_other s3 nk2⟩) (fun hHeld => ?_)
        clear hK K
        try simp only [Act.put, List.setIfInBounds_toArray, List.set_cons_zero, List.set_cons_succ]
        refine wpAnyH_ready (rs := [10]) (by kernel_rfl) (by simp) ?_
        refine ready_cons ({ dst := some 37, op := Op.buildSlice 22 1 #[(0, Operand.tmp 36)], type := 22, pos := "ref.go:169", after := #[{ on := 9, ground := Ground.data }], guard := none }) rfl rfl (fun K hK => ?_) ?_
        · clear hHeld
          go_simp
          rw [← HV1.out]
          clear s0 s1 s2 s3
          obtain ⟨s0, s1, s2, s3⟩ := HS1.out
          refine hK.out _ _ (by first | exact ⟨s0, s1, s2, s3⟩ | exact ⟨cell_other s0 nk0, cell_other s1 nk1, cell_other s2 nk2, cell_other s3 nk2⟩) (fun hHeld => ?_)
          clear hK K
          try simp only [List.setIfInBounds_toArray, List.set_cons_zero, List.set_cons_succ]
          refine wpAnyH_ready (rs := [11]) (by kernel_rfl) (by simp) ?_
          refine ready_cons ({ dst := some 38, op := Op.call { callee := Callee.builtin Builtin.append, args := #[Operand.tmp 28, Operand.tmp 37], argTypes := #[22, 22] }, type := 22, pos := "ref.go:169", after := #[{ on := 1, ground := Ground.data }, { on := 10, ground := Ground.data }], guard := none }) rfl rfl (fun K hK => ?_) ?_
          · clear hHeld
            clear s0 s1 s2 s3
            obtain ⟨s0, s1, s2, s3⟩ := HS2.out
            refine wp_append (.tmp 28) (.tmp 37) 22 (by rfl) 22 (by rfl) (.slice q' i c') (.slice (some ⟨V0.heap.size, 0, none⟩) 1 1) (.slice q1 (i + 1) c1) D (by rfl) (by rfl) ?_ ?_
            with_reducible exact e1
            refine hK.out _ _ (by first | exact ⟨s0, s1, s2, s3⟩ | exact ⟨cell_other s0 nk0, cell_other s1 nk1, cell_other s2 nk2, cell_other s3 nk2⟩) (fun hHeld => ?_)
            clear hK K
            try simp only [Act.put, List.setIfInBounds_toArray, List.set_cons_zero, List.set_cons_succ]
            refine wpAnyH_take (i := 12) (v := ?v10) rfl (by kernel_rfl) (by kernel_rfl) (by kernel_rfl) (fun _ _ _ h => h) (Or.inl ⟨by rfl, ?hy10⟩) (by assumption) ?rest10
            case hy10 => (intro w hSw; (try dsimp only at hSw); go_simp; try with_reducible rfl)
            try simp only [Act.put, List.setIfInBounds_toArray, List.set_cons_zero, List.set_cons_succ]
            refine wpAnyH_ready (rs := [13]) (by kernel_rfl) (by simp) ?_
            refine ready_cons ({ dst := none, op := Op.store 22 (Operand.tmp 39) (Operand.tmp 38), type := 0, pos := "ref.go:169", after := #[{ on := 12, ground := Ground.data }, { on := 11, ground := Ground.data }, { on := 11, ground := Ground.chain }, { on := 0, ground := Ground.phase }, { on := 1, ground := Ground.phase }, { on := 2, ground := Ground.phase }, { on := 3, ground := Ground.phase }, { on := 4, ground := Ground.phase }, { on := 5, ground := Ground.phase }, { on := 6, ground := Ground.phase }, { on := 7, ground := Ground.phase }, { on := 8, ground := Ground.phase }, { on := 9, ground := Ground.phase }, { on := 10, ground := Ground.phase }, { on := 11, ground := Ground.phase }], guard := none }) rfl rfl (fun K hK => ?_) ?_
            · clear hHeld
              have d0 := HDK.out.1
              have d1 := HDK.out.2
              go_simp
              clear d0 d1
              refine hK.out _ _ (by first | exact ⟨s0, s1, s2, s3⟩ | exact ⟨cell_other s0 nk0, cell_other s1 nk1, cell_other s2 nk2, cell_other s3 nk2⟩) (fun hHeld => ?_)
              clear hK K
              try simp only [List.setIfInBounds_toArray, List.set_cons_zero, List.set_cons_succ]
              refine wpAnyH_done (by kernel_rfl) ?_ _
              clear hHeld
              obtain ⟨E, hE⟩ : ∃ E, E = D.setCell ⟨kb, 1, none⟩ (.slice q1 (i + 1) c1) := ⟨_, rfl⟩
              have nE : NOwn E kb n q1 (i + 1) c1 := by rw [hE]; exact nown_set1 HND.out _ _ _
              have oE : Owns E (kb + 1) (.slice q1 (i + 1) c1) (pick es (l.take (i + 1))) := by rw [hE, HPK.out]; exact owns_other HO1.out (by omega) _
              have bE : Below W.heap.size W E := by rw [hE]; exact HBD.out.setCell (p := ⟨kb, 1, none⟩) HKB.out _
              have zE : kb + 1 ≤ E.heap.size := by have := block_lt_of_cell nE.1; exact this
              rw [← hE]
              have HREL := hide (And.intro bE (And.intro zE (And.intro nE oE)))
              clear hE nE oE bE zE s0 s1 s2 s3
              go_wp2
              go_roundw
              case rel => exact ⟨i + 1, by omega, by go_num, q1, c1, HREL.out⟩
              case measure => simp [intOf]; omega
            exact AllReadyH.nil
          exact AllReadyH.nil
        exact AllReadyH.nil
      refine ready_cons ({ dst := some 37, op := Op.buildSlice 22 1 #[(0, Operand.tmp 36)], type := 22, pos := "ref.go:169", after := #[{ on := 9, ground := Ground.data }], guard := none }) rfl rfl (fun K hK => ?_) ?_
      · clear hHeld
        go_simp
        rw [← HV1.out]
        clear s0 s1 s2 s3
        obtain ⟨s0, s1, s2, s3⟩ := HS1.out
        refine hK.out _ _ (by first | exact ⟨s0, s1, s2, s3⟩ | exact ⟨cell_other s0 nk0, cell_other s1 nk1, cell_other s2 nk2, cell_other s3 nk2⟩) (fun hHeld => ?_)
        clear hK K
        try simp only [List.setIfInBounds_toArray, List.set_cons_zero, List.set_cons_succ]
        refine wpAnyH_ready (rs := [1]) (by kernel_rfl) (by simp) ?_
        refine ready_cons ({ dst := some 28, op := Op.load 22 (Operand.tmp 27), type := 22, pos := "ref.go:169", after := #[{ on := 0, ground := Ground.data }], guard := none }) rfl rfl (fun K hK => ?_) ?_
        · clear hHeld
          have d0 := HBK1.out
          refine wp_val (v := ?vl2) (w2 := V1) ?hl2 ?_
          case hl2 => (go_simp; try with_reducible rfl)
          clear d0
          refine hK.out _ _ (by first | exact ⟨s0, s1, s2, s3⟩ | exact ⟨cell_other s0 nk0, cell_other s1 nk1, cell_other s2 nk2, cell_other s3 nk2⟩) (fun hHeld => ?_)
          clear hK K
          try simp only [Act.put, List.setIfInBounds_toArray, List.set_cons_zero, List.set_cons_succ]
          refine wpAnyH_ready (rs := [11]) (by kernel_rfl) (by simp) ?_
          refine ready_cons ({ dst := some 38, op := Op.call { callee := Callee.builtin Builtin.append, args := #[Operand.tmp 28, Operand.tmp 37], argTypes := #[22, 22] }, type := 22, pos := "ref.go:169", after := #[{ on := 1, ground := Ground.data }, { on := 10, ground := Ground.data }], guard := none }) rfl rfl (fun K hK => ?_) ?_
          · clear hHeld
            clear s0 s1 s2 s3
            obtain ⟨s0, s1, s2, s3⟩ := HS2.out
            refine wp_append (.tmp 28) (.tmp 37) 22 (by rfl) 22 (by rfl) (.slice q' i c') (.slice (some ⟨V0.heap.size, 0, none⟩) 1 1) (.slice q1 (i + 1) c1) D (by rfl) (by rfl) ?_ ?_
            with_reducible exact e1
            refine hK.out _ _ (by first | exact ⟨s0, s1, s2, s3⟩ | exact ⟨cell_other s0 nk0, cell_other s1 nk1, cell_other s2 nk2, cell_other s3 nk2⟩) (fun hHeld => ?_)
            clear hK K
            try simp only [Act.put, List.setIfInBounds_toArray, List.set_cons_zero, List.set_cons_succ]
            refine wpAnyH_take (i := 12) (v := ?v11) rfl (by kernel_rfl) (by kernel_rfl) (by kernel_rfl) (fun _ _ _ h => h) (Or.inl ⟨by rfl, ?hy11⟩) (by assumption) ?rest11
            case hy11 => (intro w hSw; (try dsimp only at hSw); go_simp; try with_reducible rfl)
            try simp only [Act.put, List.setIfInBounds_toArray, List.set_cons_zero, List.set_cons_succ]
            refine wpAnyH_ready (rs := [13]) (by kernel_rfl) (by simp) ?_
            refine ready_cons ({ dst := none, op := Op.store 22 (Operand.tmp 39) (Operand.tmp 38), type := 0, pos := "ref.go:169", after := #[{ on := 12, ground := Ground.data }, { on := 11, ground := Ground.data }, { on := 11, ground := Ground.chain }, { on := 0, ground := Ground.phase }, { on := 1, ground := Ground.phase }, { on := 2, ground := Ground.phase }, { on := 3, ground := Ground.phase }, { on := 4, ground := Ground.phase }, { on := 5, ground := Ground.phase }, { on := 6, ground := Ground.phase }, { on := 7, ground := Ground.phase }, { on := 8, ground := Ground.phase }, { on := 9, ground := Ground.phase }, { on := 10, ground := Ground.phase }, { on := 11, ground := Ground.phase }], guard := none }) rfl rfl (fun K hK => ?_) ?_
            · clear hHeld
              have d0 := HDK.out.1
              have d1 := HDK.out.2
              go_simp
              clear d0 d1
              refine hK.out _ _ (by first | exact ⟨s0, s1, s2, s3⟩ | exact ⟨cell_other s0 nk0, cell_other s1 nk1, cell_other s2 nk2, cell_other s3 nk2⟩) (fun hHeld => ?_)
              clear hK K
              try simp only [List.setIfInBounds_toArray, List.set_cons_zero, List.set_cons_succ]
              refine wpAnyH_done (by kernel_rfl) ?_ _
              clear hHeld
              obtain ⟨E, hE⟩ : ∃ E, E = D.setCell ⟨kb, 1, none⟩ (.slice q1 (i + 1) c1) := ⟨_, rfl⟩
              have nE : NOwn E kb n q1 (i + 1) c1 := by rw [hE]; exact nown_set1 HND.out _ _ _
              have oE : Owns E (kb + 1) (.slice q1 (i + 1) c1) (pick es (l.take (i + 1))) := by rw [hE, HPK.out]; exact owns_other HO1.out (by omega) _
              have bE : Below W.heap.size W E := by rw [hE]; exact HBD.out.setCell (p := ⟨kb, 1, none⟩) HKB.out _
              have zE : kb + 1 ≤ E.heap.size := by have := block_lt_of_cell nE.1; exact this
              rw [← hE]
              have HREL := hide (And.intro bE (And.intro zE (And.intro nE oE)))
              clear hE nE oE bE zE s0 s1 s2 s3
              go_wp2
              go_roundw
              case rel => exact ⟨i + 1, by omega, by go_num, q1, c1, HREL.out⟩
              case measure => simp [intOf]; omega
            exact AllReadyH.nil
          exact AllReadyH.nil
        exact AllReadyH.nil
      exact AllReadyH.nil
    · have hie : i = l.length := by omega
      subst hie
      have HNr := hide (HN.out.later HR.out.1)
      obtain ⟨c0, c1, c2, c3⟩ := HNr.out
      have HO := hide HR.out.2.2.2
      rw [List.take_length] at HO
      have nk : kw + 1 ≠ kb := by have := HKB.out; have := HWS.out; omega
      go_wp2_with fail
      have hkw1 : kw + 1 < W.heap.size := by have := HWS.out; omega
      have hkb1 : kw + 1 < kb + 1 := by have := HKB.out; omega
      refine bodyPost_ret (ret_net Try.results50 rfl rfl (HNr.out.set _ _ _ _)) rfl ⟨q', c', rfl, ?_, ?_⟩
      · exact (owns_other (owns_other HO.out hkb1 _) hkb1 _).base (by rw [HKW.out]; omega)
      · rw [HKW.out]
        have := below_step HB.out HR.out.1
        rw [HKW.out] at this
        exact (this.setCell (p := ⟨kw + 1, 0, none⟩) (by simp) _).setCell (p := ⟨kw + 1, 1, none⟩) (by simp) _
end Go.Proofs.Ytghffodjffkijaa

namespace Go.Proofs.Ytghffodjffkijaa
open Go.RowKit Go.Sort
open Go

/-- The first i numbers but e. -/
def keepN (e : Nat) : Nat → List Int
  | 0 => []
  | i + 1 => if i = e then keepN e i else keepN e i ++ [(i : Int)]
theorem keepN_len (e : Nat) : ∀ i, (keepN e i).length = if e < i then i - 1 else i
  | 0 => rfl
  | i + 1 => by
    simp only [keepN]
    split
    · rename_i h; rw [keepN_len e i, if_neg (by omega), if_pos (by omega)]; omega
    · rename_i h
      rw [List.length_append, keepN_len e i]
      simp only [List.length_cons, List.length_nil]
      by_cases h2 : e < i
      · rw [if_pos h2, if_pos (by omega)]; omega
      · rw [if_neg h2, if_neg (by omega)]
theorem keepN_at (e : Nat) : ∀ i j, j < (keepN e i).length → iat (keepN e i) j = if j < e then (j : Int) else (j : Int) + 1
  | 0, j, hj => by simp [keepN] at hj
  | i + 1, j, hj => by
    simp only [keepN] at hj ⊢
    split at hj
    · rename_i h; rw [if_pos h]; exact keepN_at e i j hj
    · rename_i h
      rw [if_neg h, iat_app]
      split
      · rename_i h2; exact keepN_at e i j h2
      · rename_i h2
        have hl := keepN_len e i
        simp only [List.length_append, List.length_cons, List.length_nil] at hj
        rw [if_pos (by omega)]
        by_cases h3 : e < i
        · rw [if_pos h3] at hl; rw [if_neg (by omega)]; omega
        · rw [if_neg h3] at hl; rw [if_pos (by omega)]; omega
theorem keepN_in (e n j : Nat) (hj : j < (keepN e n).length) : 0 ≤ iat (keepN e n) j ∧ iat (keepN e n) j < n := by
  have hl := keepN_len e n
  rw [keepN_at e n j hj]
  by_cases h3 : e < n
  · rw [if_pos h3] at hl; split <;> omega
  · rw [if_neg h3] at hl; split <;> omega
theorem keepN_fine (e n : Nat) : errL (keepN e n) n = 0 :=
  errN_zero _ fun j hj => chk_of (keepN_in e n j hj) fun k hk => by
    rw [keepN_at e n j hj, keepN_at e n k (by omega)]
    split <;> split <;> omega
/-- The net without edge e. -/
def dropE (es : List Pt) (e : Nat) : List Pt := pick es (keepN e es.length)
theorem dropE_len (es : List Pt) {e : Nat} (he : e < es.length) : (dropE es e).length = es.length - 1 := by
  unfold dropE
  rw [pick_length, keepN_len, if_pos he]
theorem dropE_at (es : List Pt) {e j : Nat} (he : e < es.length) (hj : j < es.length - 1) : at' (dropE es e) j = if j < e then at' es j else at' es (j + 1) := by
  have hl : j < (keepN e es.length).length := by rw [keepN_len, if_pos he]; exact hj
  unfold dropE
  rw [pick_at _ _ hl, keepN_at e _ j hl]
  split
  · rw [Int.toNat_natCast]
  · rw [show ((j : Int) + 1).toNat = j + 1 by omega]
end Go.Proofs.Ytghffodjffkijaa

namespace Go.Proofs.Ytghffodjffkijaa
open Go.RowKit Go.Sort
open Go

theorem netB_drop {m e : Nat} {es : List Pt} (hm : netB m es = true) (he : e < es.length) : netB m (dropE es e) = true := by
  obtain ⟨h0, h1, h2, h3⟩ := netB_is hm
  refine net_yes h0 (by rw [dropE_len es he]; simp [fitsB]; omega) fun j hj => ?_
  rw [dropE_len es he] at hj
  rw [dropE_at es he hj]
  simp only [edB, belowB, Bool.and_eq_true, decide_eq_true_eq]
  split
  · have := h3 j (by omega); omega
  · have := h3 (j + 1) (by omega); omega
/-- How far the ends of edge e are from each other without it. -/
def farE (es : List Pt) (m e : Nat) : Int := iat (bfs (dropE es e) m 0 (begin_ (st0 m) (at' es e).x.toNat)).Fa (at' es e).y.toNat
/-- The least way round through one of the first e edges. -/
def shN (es : List Pt) (m : Nat) : Nat → Int
  | 0 => 0
  | e + 1 => if 0 ≤ farE es m e ∧ (shN es m e = 0 ∨ farE es m e + 1 < shN es m e) then farE es m e + 1 else shN es m e
theorem farE_in {es : List Pt} {m e : Nat} (hm : netB m es = true) (he : e < es.length) : -1 ≤ farE es m e ∧ farE es m e < m := by
  obtain ⟨h0, h1, h2, h3⟩ := netB_is hm
  obtain ⟨a, b, c, d⟩ := h3 e he
  have hsn : iat (st0 m).Fa (at' es e).x.toNat < 0 := by show iat (List.replicate m (-1)) _ < 0; rw [iat_fill (by omega)]; omega
  have ok := Ok.bfs (netB_drop hm he) m 0 _ ((st0_ok m).begin_ (s := (at' es e).x.toNat) (by omega) hsn)
  have h5 := ok.val (at' es e).y.toNat (by omega)
  have h6 := ok.cnt
  unfold farE
  omega
theorem shN_in {es : List Pt} {m : Nat} (hm : netB m es = true) : ∀ e, e ≤ es.length → 0 ≤ shN es m e ∧ shN es m e ≤ m
  | 0, _ => by simp [shN]
  | e + 1, he => by
    have h1 := shN_in hm e (by omega)
    have h2 := farE_in hm (by omega : e < es.length)
    simp only [shN]
    split <;> omega
set_option maxRecDepth 100000 in
set_option maxHeartbeats 8000000 in
theorem shortest32 (BR : ∀ (m : Nat) (p : Option Addr) (es : List Pt) (cp s : Nat) (w : World), Has w p es → netB m es = true → s < m → Calls Try.prog 16 #[nv m p es.length cp, .int .i64 s] w fun e w' => ∃ v, e = .returned v ∧ TR w' w.heap.size m v (bfs es m 0 (begin_ (st0 m) s)) nilS ∧ Below w.heap.size w w')
    (m : Nat) (p : Option Addr) (es : List Pt) (cp : Nat) (w : World) (h : Has w p es) (hm : netB m es = true) : Calls Try.prog 32 #[nv m p es.length cp] w fun e w' => e = .returned (.int .i64 (shN es m es.length)) ∧ Below w.heap.size w w' := by
  obtain ⟨W, hW, hb, a0⟩ := one_net w m p es.length cp
  obtain ⟨n0, n1, hes, hE⟩ := netB_is hm
  have HM := hide hm
  have HH := hide (h.later hb)
  have HB := hide hb
  have HA := hide a0
  have HBR := hide BR
  have HE := hide hE
  clear h hb a0 hm BR hE
  go_enter Try.func32, Try.ntmps32
  go_upto_region 2 with fail
  rw [← hW]
  clear hW
  obtain ⟨kb, hkb⟩ : ∃ kb, w.heap.size = kb := ⟨_, rfl⟩
  rw [hkb] at HA ⊢
  have HKB := hide hkb
  clear hkb
  go_wp2_with fail
  go_loopw [3, 4] (fun t3 t4 wr => ∃ e : Nat, e ≤ es.length ∧ t3 = .int .i64 (shN es m e) ∧ t4 = .int .i64 e ∧ Hid (Below W.heap.size W wr)) (fun _ t4 _ => es.length - (intOf t4).toNat)
  case atStart => exact ⟨0, by omega, rfl, rfl, Below.refl _ _⟩
  case round =>
    obtain ⟨e, hel, rfl, rfl, HBr⟩ := hrel
    obtain ⟨q0, q1, _, _⟩ := HA.out.later HBr.out
    by_cases hlt : e < es.length
    · have i1 : (e : Int) < es.length := by omega
      go_wp2_with fail
      clear q0 q1
      go_loopw [5, 6] (fun t5 t6 wr => ∃ (i : Nat) (pk : Option Addr) (ck : Nat), i ≤ es.length ∧ t5 = .slice pk (keepN e i).length ck ∧ t6 = .int .i64 i ∧ Hid (Below W.heap.size W wr ∧ IOwns wr W.heap.size (.slice pk (keepN e i).length ck) (keepN e i))) (fun _ t6 _ => es.length - (intOf t6).toNat)
      case atStart => exact ⟨0, none, 0, by omega, rfl, rfl, HBr.out, IOwns.nil _ _⟩
      case round =>
        clear HBr
        obtain ⟨i, pk, ck, hil, rfl, rfl, HI⟩ := hrel
        obtain ⟨q0, q1, _, _⟩ := HA.out.later HI.out.1
        have hkl := keepN_len e i
        by_cases hi2 : i < es.length
        · have i2 : (i : Int) < es.length := by omega
          by_cases hie : i = e
          · have hn : ((i : Int) != (e : Int)) = false := by simp; omega
            have HK1 : Hid (keepN e (i + 1) = keepN e i) := by show _ = _; simp only [keepN]; rw [if_pos hie]
            go_wp2
            go_roundw
            case rel => exact ⟨i + 1, pk, ck, by omega, by rw [HK1.out], by go_num, by rw [HK1.out]; exact HI.out⟩
            case measure => simp [intOf]; omega
          · have hn : ((i : Int) != (e : Int)) = true := by simp; omega
            have HK1 : Hid (keepN e (i + 1) = keepN e i ++ [(i : Int)]) := by show _ = _; simp only [keepN]; rw [if_neg hie]
            have hkb : (keepN e i).length ≤ 90000 := by rw [hkl]; split <;> omega
            obtain ⟨v', D, e1, o1, hbD⟩ := push_int HI.out.2 (i : Int) HI.out.1.size hkb
            obtain ⟨p1, c1, rfl, _⟩ := o1.form
            have HI2 : Hid (Below W.heap.size W D ∧ IOwns D W.heap.size (.slice p1 (keepN e (i + 1)).length c1) (keepN e (i + 1))) := ⟨Below.trans HI.out.1 hbD, by rw [HK1.out]; exact o1⟩
            clear o1 hbD HI
            rw [← HK1.out] at e1
            go_wp2_with (at_builtin; refine wpList_run_append rfl (.tmp 27) (.tmp 29) 33 rfl 33 rfl _ _ _ D rfl rfl e1 ?_)
            clear e1 q0 q1
            go_wp2
            go_roundw
            case rel => exact ⟨i + 1, p1, c1, by omega, rfl, by go_num, HI2.out⟩
            case measure => simp [intOf]; omega
        · have hie : i = es.length := by omega
          subst hie
          have i2 : ¬ ((es.length : Int) < es.length) := by omega
          rw [if_pos hlt] at hkl
          have hIH : IHas wr pk (keepN e es.length) := by
            obtain ⟨a1, a2, a3, a4, _⟩ := HI.out.2.form
            injection a3 with b1 _ _
            rw [b1]
            exact a4
          have CS := hide (sub50 m p pk es (keepN e es.length) cp ck wr (by omega) (keepN_fine e es.length) (keepN_in e es.length) (HH.out.later HI.out.1) hIH)
          obtain ⟨kl, hkl2⟩ : ∃ kl, (keepN e es.length).length = kl := ⟨_, rfl⟩
          have hdl : (dropE es e).length = kl := by rw [← hkl2]; exact pick_length _ _
          rw [hkl2] at CS ⊢
          clear hIH
          go_wp2_with fail
          refine CS.out.mono ?_
          rintro e2 w3 ⟨q', c', rfl, ho3, hb3⟩
          obtain ⟨X, hX, hbX, xN⟩ := one_net w3 m q' kl c'
          have HBX := hide (below_step (below_step HI.out.1 hb3) hbX)
          have hD : Has X q' (dropE es e) := by
            obtain ⟨a1, a2, a3, a4, _⟩ := (ho3.later hbX).form
            injection a3 with b1 _ _
            rw [b1]
            exact a4
          have HD := hide hD
          have HXN := hide xN
          clear q0 q1 CS ho3 hb3 hD xN hbX HI
          go_upto_region 12 with fail
          rw [← hX]
          obtain ⟨kx, hkx⟩ : ∃ kx, w3.heap.size = kx := ⟨_, rfl⟩
          rw [hkx] at HXN ⊢
          clear hX hkx
          obtain ⟨x0, x1, y0, y1⟩ := HE.out e hlt
          obtain ⟨x, hx⟩ : ∃ x : Nat, (at' es e).x = x := ⟨(at' es e).x.toNat, by omega⟩
          obtain ⟨y, hy⟩ : ∃ y : Nat, (at' es e).y = y := ⟨(at' es e).y.toNat, by omega⟩
          have HFE : Hid (farE es m e = iat (bfs (dropE es e) m 0 (begin_ (st0 m) x)).Fa y) := by
            show _ = _
            unfold farE
            rw [hx, hy, Int.toNat_natCast, Int.toNat_natCast]
          have hfar := farE_in HM.out hlt
          have hsh := shN_in HM.out e (by omega)
          have HSN : Hid (shN es m (e + 1) = if 0 ≤ farE es m e ∧ (shN es m e = 0 ∨ farE es m e + 1 < shN es m e) then farE es m e + 1 else shN es m e) := rfl
          rcases HH.out with hz | ⟨b, off, rfl, hL⟩
          · subst hz; simp at hlt
          obtain ⟨c3, c4⟩ := hL e hlt
          rw [hx] at c3 x0 x1
          rw [hy] at c4 y0 y1
          obtain ⟨V0, hV0⟩ : ∃ V, V = X.drew := ⟨_, rfl⟩
          have bd : Below X.heap.size X V0 := by rw [hV0]; exact below_drew _
          have HB4 := hide (below_step HBX.out bd)
          have hxm : x < m := by omega
          have hym : y < m := by omega
          have C2 := hide (HBR.out m q' (dropE es e) c' x V0 (HD.out.later bd) (netB_drop HM.out hlt) hxm)
          rw [hdl] at C2
          have HSS : Hid (∀ V, Below V0.heap.size V0 V → (V.cell? ⟨kb, 1, none⟩ = some (.slice (some ⟨b, off, none⟩) es.length cp) ∧ V.cell? ⟨b, off + e * 2, none⟩ = some (.int .i64 x) ∧ V.cell? ⟨b, off + e * 2 + 1, none⟩ = some (.int .i64 y) ∧ V.cell? ⟨kx, 0, none⟩ = some (.int .i64 m) ∧ V.cell? ⟨kx, 1, none⟩ = some (.slice q' kl c'))) := fun V hV => ⟨((HA.out.later HB4.out).later hV).2.1, later hV (later HB4.out c3), later hV (later HB4.out c4), ((HXN.out.later bd).later hV).1, ((HXN.out.later bd).later hV).2.1⟩
          obtain ⟨s0, s1, s2, s3, s4⟩ := HSS.out V0 (Below.refl _ _)
          have j1 : (y : Int) < m := by omega
          have j2 : (0 : Int) ≤ y := by omega
          clear hL c3 c4 bd hx hy
          refine wp_region_held_drew (S := (fun W' => W'.cell? ⟨kb, 1, none⟩ = some (.slice (some ⟨b, off, none⟩) es.length cp) ∧ W'.cell? ⟨b, off + e * 2, none⟩ = some (.int .i64 x) ∧ W'.cell? ⟨b, off + e * 2 + 1, none⟩ = some (.int .i64 y) ∧ W'.cell? ⟨kx, 0, none⟩ = some (.int .i64 m) ∧ W'.cell? ⟨kx, 1, none⟩ = some (.slice q' kl c'))) (by kernel_rfl) (by rw [← hV0]; exact ⟨s0, s1, s2, s3, s4⟩) (fun hHeld => ?_)
          rw [← hV0] at hHeld ⊢
          clear hV0
          change wpAnyH Try.prog .any _ _ _ 18 #[false, false, false, false, false, false, false, false, false, false, false, false, false, false, false, false, false, false] _ _
          refine wpAnyH_take (i := 0) (v := ?v1) rfl (by kernel_rfl) (by kernel_rfl) (by kernel_rfl) (fun _ _ _ h => h) (Or.inl ⟨by rfl, ?hy1⟩) (by assumption) ?rest1
          case hy1 => (intro w hSw; (try dsimp only at hSw); go_simp; try with_reducible rfl)
          try simp only [Act.put, List.setIfInBounds_toArray, List.set_cons_zero]
          refine wpAnyH_take (i := 1) (v := ?v2) rfl (by kernel_rfl) (by kernel_rfl) (by kernel_rfl) (fun _ _ _ h => h) (Or.inl ⟨by rfl, ?hy2⟩) (by assumption) ?rest2
          case hy2 => (intro w hSw; (try dsimp only at hSw); go_simp; try with_reducible rfl)
          try simp only [Act.put, List.setIfInBounds_toArray, List.set_cons_zero, List.set_cons_succ]
          refine wpAnyH_take (i := 2) (v := ?v3) rfl (by kernel_rfl) (by kernel_rfl) (by kernel_rfl) (fun _ _ _ h => h) (Or.inl ⟨by rfl, ?hy3⟩) (by assumption) ?rest3
          case hy3 => (intro w hSw; (try dsimp only at hSw); go_simp; try with_reducible rfl)
          try simp only [Act.put, List.setIfInBounds_toArray, List.set_cons_zero, List.set_cons_succ]
          refine wpAnyH_take (i := 3) (v := ?v4) rfl (by kernel_rfl) (by kernel_rfl) (by kernel_rfl) (fun _ _ _ h => h) (Or.inl ⟨by rfl, ?hy4⟩) (by assumption) ?rest4
          case hy4 => (intro w hSw; (try dsimp only at hSw); go_simp; try with_reducible rfl)
          try simp only [Act.put, List.setIfInBounds_toArray, List.set_cons_zero, List.set_cons_succ]
          refine wpAnyH_take (i := 4) (v := ?v5) rfl (by kernel_rfl) (by kernel_rfl) (by kernel_rfl) (fun _ _ _ h => h) (Or.inl ⟨by rfl, ?hy5⟩) (by assumption) ?rest5
          case hy5 => (intro w hSw; (try dsimp only at hSw); go_simp; try with_reducible rfl)
          try simp only [Act.put, List.setIfInBounds_toArray, List.set_cons_zero, List.set_cons_succ]
          refine wpAnyH_take (i := 5) (v := ?v6) rfl (by kernel_rfl) (by kernel_rfl) (by kernel_rfl) (fun _ _ _ h => h) (Or.inl ⟨by rfl, ?hy6⟩) (by assumption) ?rest6
          case hy6 => (intro w hSw; (try dsimp only at hSw); go_simp; try with_reducible rfl)
          try simp only [Act.put, List.setIfInBounds_toArray, List.set_cons_zero, List.set_cons_succ]
          refine wpAnyH_take (i := 6) (v := ?v7) rfl (by kernel_rfl) (by kernel_rfl) (by kernel_rfl) (fun _ _ _ h => h) (Or.inl ⟨by rfl, ?hy7⟩) (by assumption) ?rest7
          case hy7 => (intro w hSw; (try dsimp only at hSw); go_simp; try with_reducible rfl)
          try simp only [Act.put, List.setIfInBounds_toArray, List.set_cons_zero, List.set_cons_succ]
          refine wpAnyH_take (i := 9) (v := ?v8) rfl (by kernel_rfl) (by kernel_rfl) (by kernel_rfl) (fun _ _ _ h => h) (Or.inl ⟨by rfl, ?hy8⟩) (by assumption) ?rest8
          case hy8 => (intro w hSw; (try dsimp only at hSw); go_simp; try with_reducible rfl)
          try simp only [Act.put, List.setIfInBounds_toArray, List.set_cons_zero, List.set_cons_succ]
          refine wpAnyH_take (i := 10) (v := ?v9) rfl (by kernel_rfl) (by kernel_rfl) (by kernel_rfl) (fun _ _ _ h => h) (Or.inl ⟨by rfl, ?hy9⟩) (by assumption) ?rest9
          case hy9 => (intro w hSw; (try dsimp only at hSw); go_simp; try with_reducible rfl)
          try simp only [Act.put, List.setIfInBounds_toArray, List.set_cons_zero, List.set_cons_succ]
          refine wpAnyH_take (i := 11) (v := ?v10) rfl (by kernel_rfl) (by kernel_rfl) (by kernel_rfl) (fun _ _ _ h => h) (Or.inl ⟨by rfl, ?hy10⟩) (by assumption) ?rest10
          case hy10 => (intro w hSw; (try dsimp only at hSw); go_simp; try with_reducible rfl)
          try simp only [Act.put, List.setIfInBounds_toArray, List.set_cons_zero, List.set_cons_succ]
          refine wpAnyH_take (i := 12) (v := ?v11) rfl (by kernel_rfl) (by kernel_rfl) (by kernel_rfl) (fun _ _ _ h => h) (Or.inl ⟨by rfl, ?hy11⟩) (by assumption) ?rest11
          case hy11 => (intro w hSw; (try dsimp only at hSw); go_simp; try with_reducible rfl)
          try simp only [Act.put, List.setIfInBounds_toArray, List.set_cons_zero, List.set_cons_succ]
          refine wpAnyH_take (i := 13) (v := ?v12) rfl (by kernel_rfl) (by kernel_rfl) (by kernel_rfl) (fun _ _ _ h => h) (Or.inl ⟨by rfl, ?hy12⟩) (by assumption) ?rest12
          case hy12 => (intro w hSw; (try dsimp only at hSw); go_simp; try with_reducible rfl)
          try simp only [Act.put, List.setIfInBounds_toArray, List.set_cons_zero, List.set_cons_succ]
          refine wpAnyH_take (i := 14) (v := ?v13) rfl (by kernel_rfl) (by kernel_rfl) (by kernel_rfl) (fun _ _ _ h => h) (Or.inl ⟨by rfl, ?hy13⟩) (by assumption) ?rest13
          case hy13 => (intro w hSw; (try dsimp only at hSw); go_simp; try with_reducible rfl)
          try simp only [Act.put, List.setIfInBounds_toArray, List.set_cons_zero, List.set_cons_succ]
          refine wpAnyH_ready (rs := [7]) (by kernel_rfl) (by simp) ?_
          refine ready_cons ({ dst := some 44, op := Op.call { callee := Callee.value (Operand.func 16), args := #[Operand.tmp 37, Operand.tmp 43], argTypes := #[24, 3] }, type := 35, pos := "ref.go:155", after := #[{ on := 0, ground := Ground.data }, { on := 6, ground := Ground.data }], guard := none }) rfl rfl (fun K hK => ?_) ?_
          · clear hHeld
            go_simp
            refine C2.out.mono ?_
            rintro e V1 ⟨tv1, rfl, ⟨vo, gb, gf, rfl, _, _, hfr2, _, _, _⟩, hb5⟩
            unfold tv
            have FL : ∀ V, Sem.run Try.prog (Instr.field 35 (.agg #[vo, .slice (some ⟨gb, 0, none⟩) m m, .slice (some ⟨gf, 0, none⟩) m m, nilS]) 2) V = .ok (.slice (some ⟨gf, 0, none⟩) m m) V := fun V => by kernel_rfl
            have HB5 := hide (below_step HB4.out hb5)
            have HFR := hide hfr2
            clear s0 s1 s2 s3 s4 hfr2
            obtain ⟨s0, s1, s2, s3, s4⟩ := HSS.out V1 hb5
            clear hb5
            refine hK.out _ _ (by exact ⟨s0, s1, s2, s3, s4⟩) (fun hHeld => ?_)
            clear hK K
            try simp only [List.setIfInBounds_toArray, List.set_cons_zero, List.set_cons_succ]
            refine wpAnyH_take (i := 8) (v := ?v14) rfl (by kernel_rfl) (by kernel_rfl) (by kernel_rfl) (fun _ _ _ h => h) (Or.inl ⟨by rfl, ?hy14⟩) (by assumption) ?rest14
            case hy14 => (intro w hSw; (try dsimp only at hSw); go_simp; try with_reducible rfl)
            try simp only [Act.put, List.setIfInBounds_toArray, List.set_cons_zero, List.set_cons_succ]
            refine wpAnyH_take (i := 15) (v := ?v15) rfl (by kernel_rfl) (by kernel_rfl) (by kernel_rfl) (fun _ _ _ h => h) (Or.inl ⟨by rfl, ?hy15⟩) (by assumption) ?rest15
            case hy15 => (intro w hSw; (try dsimp only at hSw); go_simp; try with_reducible rfl)
            try simp only [Act.put, List.setIfInBounds_toArray, List.set_cons_zero, List.set_cons_succ]
            refine wpAnyH_ready (rs := [16]) (by kernel_rfl) (by simp) ?_
            refine ready_cons ({ dst := some 53, op := Op.load 3 (Operand.tmp 52), type := 3, pos := "ref.go:155", after := #[{ on := 15, ground := Ground.data }], guard := none }) rfl rfl (fun K hK => ?_) ?_
            · clear hHeld
              obtain ⟨d0, _⟩ := HFR.out.cell hym
              rw [← HFE.out] at d0
              refine wp_val (v := .int .i64 (farE es m e)) (w2 := V1) ?hl ?_
              case hl => (go_simp; try with_reducible rfl)
              clear d0
              refine hK.out _ _ (by exact ⟨s0, s1, s2, s3, s4⟩) (fun hHeld => ?_)
              clear hK K
              try simp only [Act.put, List.setIfInBounds_toArray, List.set_cons_zero, List.set_cons_succ]
              refine wpAnyH_take (i := 17) (v := ?v16) rfl (by kernel_rfl) (by kernel_rfl) (by kernel_rfl) (fun _ _ _ h => h) (Or.inl ⟨by rfl, ?hy16⟩) (by assumption) ?rest16
              case hy16 => (intro w hSw; (try dsimp only at hSw); go_simp; try with_reducible rfl)
              try simp only [Act.put, List.setIfInBounds_toArray, List.set_cons_zero, List.set_cons_succ]
              refine wpAnyH_done (by kernel_rfl) ?_ _
              clear hHeld
              obtain ⟨f, hf⟩ : ∃ f, farE es m e = f := ⟨_, rfl⟩
              obtain ⟨bs, hbs⟩ : ∃ bs, shN es m e = bs := ⟨_, rfl⟩
              rw [hf, hbs] at HSN
              rw [hf] at hfar
              rw [hbs] at hsh
              rw [hf, hbs]
              clear hf hbs HFE s0 s1 s2 s3 s4 HSS C2
              by_cases f0 : 0 ≤ f
              · by_cases b0 : bs = 0
                · have HS2 : Hid (shN es m (e + 1) = f + 1) := by show _ = _; rw [HSN.out, if_pos ⟨f0, Or.inl b0⟩]
                  subst b0
                  go_wp2
                  go_roundw
                  case rel => exact ⟨e + 1, by omega, by rw [HS2.out], by go_num, HB5.out⟩
                  case measure => simp [intOf]; omega
                · have tb : (bs == 0) = false := by simpa using b0
                  by_cases fl : f + 1 < bs
                  · have HS2 : Hid (shN es m (e + 1) = f + 1) := by show _ = _; rw [HSN.out, if_pos ⟨f0, Or.inr fl⟩]
                    go_wp2
                    go_roundw
                    case rel => exact ⟨e + 1, by omega, by rw [HS2.out], by go_num, HB5.out⟩
                    case measure => simp [intOf]; omega
                  · have HS2 : Hid (shN es m (e + 1) = bs) := by show _ = _; rw [HSN.out, if_neg (by omega)]
                    go_wp2
                    go_roundw
                    case rel => exact ⟨e + 1, by omega, by rw [HS2.out], by go_num, HB5.out⟩
                    case measure => simp [intOf]; omega
              · have HS2 : Hid (shN es m (e + 1) = bs) := by show _ = _; rw [HSN.out, if_neg (by omega)]
                go_wp2
                go_roundw
                case rel => exact ⟨e + 1, by omega, by rw [HS2.out], by go_num, HB5.out⟩
                case measure => simp [intOf]; omega
            exact AllReadyH.nil
          exact AllReadyH.nil
    · have hie : e = es.length := by omega
      subst hie
      go_wp2
      go_ret
      exact ⟨retI rfl, by have := below_step HB.out HBr.out; exact this⟩
end Go.Proofs.Ytghffodjffkijaa

namespace Go.Proofs.Ytghffodjffkijaa
open Go.RowKit Go.Sort
open Go
variable {es : List Pt} {n : Nat} {T : St}

/-- A tour breadth first from s: along a half-edge the distance grows by one at most. -/
structure Near (es : List Pt) (n s : Nat) (T : St) : Prop where
  r : Reach es n s T
  wf : ∀ h a b : Nat, h < 2 * es.length → fromL es h = a → toL es h = b → 0 ≤ iat T.Fa a → 0 ≤ iat T.Fa b ∧ iat T.Fa b ≤ iat T.Fa a + 1
theorem near_of {s : Nat} (hm : netB n es = true) (hs : s < n) : Near es n s (bfs es n 0 (begin_ (st0 n) s)) :=
  ⟨bOne_reach hm hs, (walk_far (es := es) (st := st0 n) hm hs (st0_ok n) rfl (fun _ hv => iat_fill hv) (fun _ hv => iat_fill hv)).2.2⟩
theorem Near.way {s : Nat} (N : Near es n s T) : ∀ {l : List Int} {a b : Nat}, Way es l a b → 0 ≤ iat T.Fa a → 0 ≤ iat T.Fa b ∧ iat T.Fa b ≤ iat T.Fa a + l.length := by
  intro l
  induction l with
  | nil => intro a b h h0; cases h; exact ⟨h0, by simp⟩
  | cons h l ih =>
    intro a b hw h0
    obtain ⟨k, c, e1, e2, e3, e4, e5⟩ := hw
    have c0 := N.wf k a c e2 e3 e4 h0
    have i0 := ih e5 c0.1
    rw [List.length_cons]
    omega
theorem Near.back {s : Nat} (N : Near es n s T) : ∀ {l : List Int} {a b : Nat}, Way es l a b → 0 ≤ iat T.Fa b → 0 ≤ iat T.Fa a ∧ iat T.Fa a ≤ iat T.Fa b + l.length := by
  intro l
  induction l with
  | nil => intro a b h h0; cases h; exact ⟨h0, by simp⟩
  | cons h l ih =>
    intro a b hw h0
    obtain ⟨k, c, e1, e2, e3, e4, e5⟩ := hw
    have i0 := ih e5 h0
    obtain ⟨j, hj, hj2⟩ := twn_in e2
    have f1 := twn_from es k
    have f2 := twn_to es k
    rw [hj, Int.toNat_natCast] at f1 f2
    have c0 := N.wf j c a hj2 (by rw [f1, e4]) (by rw [f2, e3]) i0.1
    rw [List.length_cons]
    omega
/-- A half-edge of the net without e, in the net. -/
theorem drop_half {e k : Nat} (he : e < es.length) (hk : k < 2 * (dropE es e).length) :
    ∃ j, j < 2 * es.length ∧ j / 2 ≠ e ∧ fromL es j = fromL (dropE es e) k ∧ toL es j = toL (dropE es e) k := by
  rw [dropE_len es he] at hk
  have ha := dropE_at es he (show k / 2 < es.length - 1 by omega)
  by_cases h : k / 2 < e
  · rw [if_pos h] at ha
    refine ⟨k, by omega, by omega, ?_, ?_⟩
    · unfold fromL; rw [ha]
    · unfold toL; rw [ha]
  · rw [if_neg h] at ha
    refine ⟨k + 2, by omega, by omega, ?_, ?_⟩
    · unfold fromL; rw [ha, show (k + 2) / 2 = k / 2 + 1 by omega, show (k + 2) % 2 = k % 2 by omega]
    · unfold toL; rw [ha, show (k + 2) / 2 = k / 2 + 1 by omega, show (k + 2) % 2 = k % 2 by omega]
theorem half_drop {e k : Nat} (he : e < es.length) (hk : k < 2 * es.length) (hne : k / 2 ≠ e) :
    ∃ j, j < 2 * (dropE es e).length ∧ fromL (dropE es e) j = fromL es k ∧ toL (dropE es e) j = toL es k := by
  rw [dropE_len es he]
  by_cases h : k / 2 < e
  · have ha := dropE_at es he (show k / 2 < es.length - 1 by omega)
    rw [if_pos h] at ha
    refine ⟨k, by omega, ?_, ?_⟩
    · unfold fromL; rw [ha]
    · unfold toL; rw [ha]
  · have ha := dropE_at es he (show k / 2 - 1 < es.length - 1 by omega)
    rw [if_neg (by omega), show k / 2 - 1 + 1 = k / 2 by omega] at ha
    refine ⟨k - 2, by omega, ?_, ?_⟩
    · unfold fromL; rw [show (k - 2) / 2 = k / 2 - 1 by omega, ha, show (k - 2) % 2 = k % 2 by omega]
    · unfold toL; rw [show (k - 2) / 2 = k / 2 - 1 by omega, ha, show (k - 2) % 2 = k % 2 by omega]
theorem way_up {e : Nat} (he : e < es.length) : ∀ {l : List Int} {a b : Nat}, Way (dropE es e) l a b → ∃ l' : List Int, l'.length = l.length ∧ Way es l' a b ∧ ∀ h, h ∈ l' → h.toNat / 2 ≠ e := by
  intro l
  induction l with
  | nil => intro a b h; exact ⟨[], rfl, h, fun h hh => by simp at hh⟩
  | cons h l ih =>
    intro a b hw
    obtain ⟨k, c, e1, e2, e3, e4, e5⟩ := hw
    obtain ⟨l', i1, i2, i3⟩ := ih e5
    obtain ⟨j, j1, j2, j3, j4⟩ := drop_half he e2
    refine ⟨(j : Int) :: l', by simp [i1], ⟨j, c, rfl, j1, by rw [j3, e3], by rw [j4, e4], i2⟩, fun x hx => ?_⟩
    rcases List.mem_cons.1 hx with hx | hx
    · rw [hx, Int.toNat_natCast]; exact j2
    · exact i3 x hx
theorem way_down {e : Nat} (he : e < es.length) : ∀ {l : List Int} {a b : Nat}, Way es l a b → (∀ h, h ∈ l → h.toNat / 2 ≠ e) → ∃ l' : List Int, l'.length = l.length ∧ Way (dropE es e) l' a b := by
  intro l
  induction l with
  | nil => intro a b h _; exact ⟨[], rfl, h⟩
  | cons h l ih =>
    intro a b hw hn
    obtain ⟨k, c, e1, e2, e3, e4, e5⟩ := hw
    obtain ⟨l', i1, i2⟩ := ih e5 (fun x hx => hn x (List.mem_cons_of_mem _ hx))
    obtain ⟨j, j1, j3, j4⟩ := half_drop he e2 (by have := hn h (by simp); rw [e1, Int.toNat_natCast] at this; exact this)
    exact ⟨(j : Int) :: l', by simp [i1], ⟨j, c, rfl, j1, by rw [j3, e3], by rw [j4, e4], i2⟩⟩
/-- The way down the tree to a node. -/
theorem Reach.path {s : Nat} (r : Reach es n s T) : ∀ (k v : Nat), v < n → iat T.Fa v = k → ∃ l : List Int, l.length = k ∧ Way es l s v
  | 0, v, hv, h => ⟨[], rfl, (r.zero v hv h).symm⟩
  | k + 1, v, hv, h => by
    obtain ⟨q, q1, q2, q3, q4, q5, q6, q7, _⟩ := root_par r.tree hv (by omega)
    obtain ⟨l, h1, h2⟩ := Reach.path r k (par es T v) q5 (by omega)
    exact ⟨l ++ [(q : Int)], by simp [h1], h2.app (Way.one q1 q4 q3)⟩
/-- The node next below the beginning, on the way to a node. -/
def top (es : List Pt) (T : St) (v : Nat) : Nat := rtN es T ((iat T.Fa v).toNat - 1) v
theorem by_pos {s : Nat} (r : Reach es n s T) {v h : Nat} (hv : v < n) (h0 : 0 ≤ iat T.Fa v) (hb : iat T.By v = h) : 0 < iat T.Fa v := by
  rcases r.tree.back v hv h0 with ⟨_, z⟩ | ⟨k, p, k1, k2, k3, k4, k5, k6, k7⟩
  · omega
  · omega
theorem top_step {s h u v e y : Nat} (N : Near es n s T) (hh : h < 2 * es.length) (hf : fromL es h = u) (ht : toL es h = v) (hu : u < n) (hv : v < n) (h0 : 0 ≤ iat T.Fa u)
    (tr : iat T.By v = h ∨ iat T.By u = twn h) (hne : h / 2 ≠ e) (hy : iat T.By y = 2 * (e : Int)) (hsy : s ≠ y) (ht1 : top es T u ≠ y) : top es T v ≠ y := by
  have v0 := (N.wf h u v hh hf ht h0).1
  rcases tr with tr | tr
  · have hp := by_pos N.r hv v0 tr
    obtain ⟨q, q1, q2, q3, q4, q5, q6, q7, _⟩ := root_par N.r.tree hv hp
    have eq : q = h := by omega
    have ep : par es T v = u := by rw [eq, hf] at q4; omega
    rw [ep] at q6
    by_cases hz : iat T.Fa u = 0
    · have : top es T v = v := by unfold top; rw [show (iat T.Fa v).toNat - 1 = 0 by omega]; rfl
      rw [this]
      intro e1
      rw [e1, hy] at tr
      omega
    · have : top es T v = top es T u := by
        unfold top
        rw [show (iat T.Fa v).toNat - 1 = ((iat T.Fa u).toNat - 1) + 1 by omega]
        show rtN es T _ (par es T v) = _
        rw [ep]
      rw [this]
      exact ht1
  · obtain ⟨j, hj, hj2⟩ := twn_in hh
    have f1 := twn_from es h
    rw [hj, Int.toNat_natCast] at f1
    rw [hj] at tr
    have hp := by_pos N.r hu h0 tr
    obtain ⟨q, q1, q2, q3, q4, q5, q6, q7, _⟩ := root_par N.r.tree hu hp
    have eq : q = j := by omega
    have ep : par es T u = v := by rw [eq, f1, ht] at q4; omega
    rw [ep] at q6
    by_cases hz : iat T.Fa v = 0
    · have : top es T v = v := by unfold top; rw [show (iat T.Fa v).toNat - 1 = 0 by omega]; rfl
      rw [this, N.r.zero v hv hz]
      exact hsy
    · have : top es T u = top es T v := by
        unfold top
        rw [show (iat T.Fa u).toNat - 1 = ((iat T.Fa v).toNat - 1) + 1 by omega]
        show rtN es T _ (par es T u) = _
        rw [ep]
      rw [← this]
      exact ht1
/-- A way that comes below y, and does not go by y's own edge, has a half-edge beside the tree. -/
theorem find_side {s e y : Nat} (N : Near es n s T) (hm : netB n es = true) (hy : iat T.By y = 2 * (e : Int)) (hsy : s ≠ y) :
    ∀ {l : List Int} {a b : Nat}, Way es l a b → (∀ h, h ∈ l → h.toNat / 2 ≠ e) → 0 ≤ iat T.Fa a → top es T a ≠ y → top es T b = y →
      ∃ k u v : Nat, k < 2 * es.length ∧ fromL es k = u ∧ toL es k = v ∧ iat T.By v ≠ k ∧ iat T.By u ≠ twn k ∧ 0 ≤ iat T.Fa u ∧ iat T.Fa u + iat T.Fa v + 1 ≤ iat T.Fa a + l.length + iat T.Fa b := by
  intro l
  induction l with
  | nil => intro a b h _ _ h1 h2; cases h; exact absurd h2 h1
  | cons h l ih =>
    intro a b hw hn h0 h1 h2
    obtain ⟨k, c, e1, e2, e3, e4, e5⟩ := hw
    have c0 := N.wf k a c e2 e3 e4 h0
    have han : a < n := by have := fromL_in hm k e2; omega
    have hcn : c < n := by have := toL_in hm k e2; omega
    have hke : k / 2 ≠ e := by have := hn h (by simp); rw [e1, Int.toNat_natCast] at this; exact this
    have hb := N.way e5 c0.1
    by_cases tr : iat T.By c = k ∨ iat T.By a = twn k
    · have h1' := top_step N e2 e3 e4 han hcn h0 tr hke hy hsy h1
      obtain ⟨k', u, v, i1, i2, i3, i4, i5, i6, i7⟩ := ih e5 (fun x hx => hn x (List.mem_cons_of_mem _ hx)) c0.1 h1' h2
      refine ⟨k', u, v, i1, i2, i3, i4, i5, i6, ?_⟩
      rw [List.length_cons]
      omega
    · have hbk := N.back e5 hb.1
      refine ⟨k, a, c, e2, e3, e4, fun h => tr (Or.inl h), fun h => tr (Or.inr h), h0, ?_⟩
      rw [List.length_cons]
      omega
/-- nearest takes the least. -/
theorem nrN_le (es : List Pt) (By Fa : List Int) : ∀ k e, e < k → 0 ≤ iat Fa (at' es e).x.toNat → iat By (at' es e).y.toNat ≠ 2 * (e : Int) → iat By (at' es e).x.toNat ≠ 2 * (e : Int) + 1 → 0 ≤ (nrN es By Fa k).1 ∧ (nrN es By Fa k).2 ≤ iat Fa (at' es e).x.toNat + iat Fa (at' es e).y.toNat + 1
  | 0, e, he, _, _, _ => by omega
  | k + 1, e, he, h0, h1, h2 => by
    simp only [nrN]
    by_cases ek : e = k
    · subst ek
      rw [if_neg (by rintro (h | h | h); omega; exact h1 h; exact h2 h)]
      split
      · exact ⟨by simp, by simp⟩
      · rename_i hd
        have d1 : ¬ (nrN es By Fa e).1 < 0 := fun h => hd (Or.inl h)
        have d2 : ¬ iat Fa (at' es e).x.toNat + iat Fa (at' es e).y.toNat + 1 < (nrN es By Fa e).2 := fun h => hd (Or.inr h)
        exact ⟨by omega, by omega⟩
    · obtain ⟨i1, i2⟩ := nrN_le es By Fa k e (by omega) h0 h1 h2
      split
      · exact ⟨i1, i2⟩
      · split
        · rename_i hd
          refine ⟨by simp, ?_⟩
          rcases hd with hd | hd
          · omega
          · show iat Fa (at' es k).x.toNat + iat Fa (at' es k).y.toNat + 1 ≤ _
            omega
        · exact ⟨i1, i2⟩
theorem nrN_val (es : List Pt) (By Fa : List Int) : ∀ k, 0 ≤ (nrN es By Fa k).1 → (nrN es By Fa k).2 = iat Fa (at' es (nrN es By Fa k).1.toNat).x.toNat + iat Fa (at' es (nrN es By Fa k).1.toNat).y.toNat + 1
  | 0, h => by simp [nrN] at h
  | k + 1, h => by
    simp only [nrN] at h ⊢
    split at h
    · rename_i hc
      rw [if_pos hc]
      exact nrN_val es By Fa k h
    · rename_i hc
      rw [if_neg hc]
      split at h
      · rename_i hd
        rw [if_pos hd]
        simp only [Int.toNat_natCast]
      · rename_i hd
        rw [if_neg hd]
        exact nrN_val es By Fa k h
/-- The way round that is closed is no longer than nearest tells. -/
theorem clo_near {m s : Nat} (hm : netB m es = true) (hs : s < m) (hc : 0 ≤ (nOne es m s).1) : ((cloL es (bOne es m s) (2 * (nOne es m s).1.toNat)).length : Int) ≤ (nOne es m s).2 := by
  have R : Reach es m s (bOne es m s) := bOne_reach (es := es) hm hs
  obtain ⟨e, h1, h2, h3, h4, h5⟩ := nrN_spec es _ _ es.length hc
  have hv := nrN_val es _ _ es.length hc
  have hsh := bOne_shut (es := es) hm hs
  obtain ⟨x0, x1, y0, y1⟩ := (netB_is hm).2.2.2 e h1
  obtain ⟨x, hx⟩ : ∃ x : Nat, (at' es e).x = x := ⟨(at' es e).x.toNat, by omega⟩
  obtain ⟨y, hy⟩ : ∃ y : Nat, (at' es e).y = y := ⟨(at' es e).y.toNat, by omega⟩
  have en : (nOne es m s).1.toNat = e := by
    have : (nOne es m s).1 = e := h2
    omega
  rw [show (nrN es (bOne es m s).By (bOne es m s).Fa es.length).1.toNat = e from en, hx, hy, Int.toNat_natCast, Int.toNat_natCast] at hv
  rw [hx, Int.toNat_natCast] at h3 h5
  rw [hy, Int.toNat_natCast] at h4
  rw [en, show (nOne es m s).2 = _ from hv]
  generalize bOne es m s = T at *
  have f1 : fromL es (2 * e) = x := by unfold fromL; rw [if_pos (by omega), show 2 * e / 2 = e by omega, hx]
  have t1 : toL es (2 * e) = y := by unfold toL; rw [if_pos (by omega), show 2 * e / 2 = e by omega, hy]
  have fy := R.shut (2 * e) x y (by omega) f1 t1 h3
  have hr := (hsh.all (2 * e) x y (by omega) f1 t1 h3).2
  obtain ⟨z, z0, z1⟩ := (cloL_loop hsh.tree (by omega : 2 * e < 2 * es.length) t1 f1 (by omega) (by omega) fy h3 hr.symm (fun v hv h0 heq => by
    obtain ⟨q, q1, q2, q3, q4, q5, q6, _⟩ := root_par hsh.tree hv h0
    rw [q2, Int.toNat_natCast] at heq
    have hqe : q / 2 = e := by omega
    unfold toL at q3
    rw [hqe] at q3
    by_cases h2' : q % 2 = 0
    · rw [if_pos h2', hy] at q3
      have e1 : y = v := by omega
      rw [e1, q2] at h4
      exact h4 (by omega)
    · rw [if_neg h2', hx] at q3
      have e1 : x = v := by omega
      rw [e1, q2] at h5
      exact h5 (by omega))).2
  omega
theorem rg_le {m : Nat} (hm : netB m es = true) : ∀ s, s ≤ m → ∀ t, t < s → 0 ≤ (nOne es m t).1 → rgN es m s ≠ [] ∧ ((rgN es m s).length : Int) ≤ (nOne es m t).2
  | 0, _, t, ht, _ => by omega
  | s + 1, hs, t, ht, h0 => by
    simp only [rgN]
    by_cases et : t = s
    · subst et
      split
      · refine ⟨fun he => ?_, clo_near hm (by omega) h0⟩
        have := cloL_pos es (bOne es m t) (2 * (nOne es m t).1.toNat)
        rw [he] at this
        simp at this
      · rename_i hc
        refine ⟨fun he => hc ⟨h0, Or.inl he⟩, ?_⟩
        have : ¬ (nOne es m t).2 < ((rgN es m t).length : Int) := fun h => hc ⟨h0, Or.inr h⟩
        omega
    · obtain ⟨i1, i2⟩ := rg_le hm s (by omega) t (by omega) h0
      split
      · rename_i hc
        refine ⟨fun he => ?_, ?_⟩
        · have := cloL_pos es (bOne es m s) (2 * (nOne es m s).1.toNat)
          rw [he] at this
          simp at this
        · have h1 := clo_near hm (show s < m by omega) hc.1
          have h2 : (nOne es m s).2 < ((rgN es m s).length : Int) := hc.2.resolve_left i1
          omega
      · exact ⟨i1, i2⟩
/-- Where the ends of an edge hang together without it, Ring finds a cycle that is no longer. -/
theorem ring_le {m e : Nat} (hm : netB m es = true) (he : e < es.length) (h0 : 0 ≤ farE es m e) : rgN es m m ≠ [] ∧ ((rgN es m m).length : Int) ≤ farE es m e + 1 := by
  obtain ⟨x0, x1, y0, y1⟩ := (netB_is hm).2.2.2 e he
  obtain ⟨x, hx⟩ : ∃ x : Nat, (at' es e).x = x := ⟨(at' es e).x.toNat, by omega⟩
  obtain ⟨y, hy⟩ : ∃ y : Nat, (at' es e).y = y := ⟨(at' es e).y.toNat, by omega⟩
  have hxm : x < m := by omega
  have hym : y < m := by omega
  have f1 : fromL es (2 * e) = x := by unfold fromL; rw [if_pos (by omega), show 2 * e / 2 = e by omega, hx]
  have t1 : toL es (2 * e) = y := by unfold toL; rw [if_pos (by omega), show 2 * e / 2 = e by omega, hy]
  unfold farE at h0 ⊢
  rw [hx, hy, Int.toNat_natCast, Int.toNat_natCast] at h0 ⊢
  have D := near_of (netB_drop hm he) hxm
  obtain ⟨d, hd⟩ : ∃ d : Nat, iat (bfs (dropE es e) m 0 (begin_ (st0 m) x)).Fa y = d := ⟨_, (Int.toNat_of_nonneg h0).symm⟩
  rw [hd]
  obtain ⟨l0, l1, l2⟩ := D.r.path d y hym hd
  obtain ⟨l, k1, k2, k3⟩ := way_up he l2
  have N := near_of (es := es) hm hxm
  have hxz := N.r.first.2.2
  have key : 0 ≤ (nOne es m x).1 ∧ (nOne es m x).2 ≤ (d : Int) + 1 := by
    have hw := N.way k2 (by omega)
    by_cases tr : iat (bOne es m x).By y = 2 * (e : Int)
    · -- the edge is of the tree: another one of the way is not
      have hby : ¬ iat (bOne es m x).Fa y = 0 := fun hz => by
        rcases N.r.tree.back y hym hw.1 with ⟨_, z⟩ | ⟨k, p, q1, q2, q3, q4, q5, q6, q7⟩
        · have : iat (bOne es m x).By y = -1 := z
          omega
        · have : iat (bOne es m x).Fa p + 1 = iat (bOne es m x).Fa y := q6
          have : 0 ≤ iat (bOne es m x).Fa p := q7
          omega
      have hsy : x ≠ y := fun h => hby (by rw [← h]; exact hxz)
      have h1 := N.wf (2 * e) x y (by omega) f1 t1 (by omega)
      have hfy : iat (bOne es m x).Fa y = 1 := by
        have : iat (bOne es m x).Fa y ≤ iat (bOne es m x).Fa x + 1 := h1.2
        have : iat (bOne es m x).Fa x = 0 := hxz
        have : 0 ≤ iat (bOne es m x).Fa y := h1.1
        omega
      obtain ⟨k, u, v, i1, i2, i3, i4, i5, i6, i7⟩ := find_side N hm tr hsy k2 k3 (by omega) (by
        have : top es (bOne es m x) x = x := by
          unfold top
          rw [show (iat (bOne es m x).Fa x).toNat - 1 = 0 by have : iat (bOne es m x).Fa x = 0 := hxz; omega]
          rfl
        exact fun h => hsy (this.symm.trans h)) (by
        show top es (bOne es m x) y = y
        unfold top
        rw [hfy]
        rfl)
      have hu : u < m := by have := fromL_in hm k i1; omega
      have hv : v < m := by have := toL_in hm k i1; omega
      have i7' : iat (bOne es m x).Fa u + iat (bOne es m x).Fa v + 1 ≤ (d : Int) + 1 := by
        have e1 : iat (bOne es m x).Fa x = 0 := hxz
        have e2 : iat (bOne es m x).Fa u + iat (bOne es m x).Fa v + 1 ≤ iat (bOne es m x).Fa x + l.length + iat (bOne es m x).Fa y := i7
        omega
      have hv0 : 0 ≤ iat (bOne es m x).Fa v := (N.wf k u v i1 i2 i3 i6).1
      unfold fromL at i2
      unfold toL at i3
      unfold twn at i5
      by_cases h2 : k % 2 = 0
      · rw [if_pos h2] at i2 i3
        rw [if_pos (by omega)] at i5
        have := nrN_le es (bOne es m x).By (bOne es m x).Fa es.length (k / 2) (by omega) (by rw [i2, Int.toNat_natCast]; exact i6) (by rw [i3, Int.toNat_natCast]; intro h; exact i4 (by rw [show iat (bfs es m 0 (begin_ (st0 m) x)).By v = _ from h]; omega)) (by rw [i2, Int.toNat_natCast]; intro h; exact i5 (by rw [show iat (bfs es m 0 (begin_ (st0 m) x)).By u = _ from h]; omega))
        rw [i2, i3, Int.toNat_natCast, Int.toNat_natCast] at this
        exact ⟨this.1, by have h3 := this.2; show (nrN es (bOne es m x).By (bOne es m x).Fa es.length).2 ≤ _; omega⟩
      · rw [if_neg h2] at i2 i3
        rw [if_neg (by omega)] at i5
        have := nrN_le es (bOne es m x).By (bOne es m x).Fa es.length (k / 2) (by omega) (by rw [i3, Int.toNat_natCast]; exact hv0) (by rw [i2, Int.toNat_natCast]; intro h; exact i5 (by rw [show iat (bfs es m 0 (begin_ (st0 m) x)).By u = _ from h]; omega)) (by rw [i3, Int.toNat_natCast]; intro h; exact i4 (by rw [show iat (bfs es m 0 (begin_ (st0 m) x)).By v = _ from h]; omega))
        rw [i2, i3, Int.toNat_natCast, Int.toNat_natCast] at this
        exact ⟨this.1, by have h3 := this.2; show (nrN es (bOne es m x).By (bOne es m x).Fa es.length).2 ≤ _; omega⟩
    · have hbx : iat (bOne es m x).By x = -1 := by
        rcases N.r.tree.back x hxm (by omega) with ⟨_, z⟩ | ⟨k, p, q1, q2, q3, q4, q5, q6, q7⟩
        · exact z
        · omega
      have := nrN_le es (bOne es m x).By (bOne es m x).Fa es.length e he (by rw [hx, Int.toNat_natCast]; show 0 ≤ iat (bfs es m 0 (begin_ (st0 m) x)).Fa x; omega) (by rw [hy, Int.toNat_natCast]; exact tr) (by rw [hx, Int.toNat_natCast, hbx]; omega)
      rw [hx, hy, Int.toNat_natCast, Int.toNat_natCast] at this
      refine ⟨this.1, ?_⟩
      have h3 := this.2
      have e1 : iat (bOne es m x).Fa x = 0 := hxz
      have e2 : iat (bOne es m x).Fa y ≤ iat (bOne es m x).Fa x + l.length := hw.2
      show (nrN es (bOne es m x).By (bOne es m x).Fa es.length).2 ≤ _
      omega
  obtain ⟨r1, r2⟩ := rg_le hm m (Nat.le_refl _) x hxm key.1
  exact ⟨r1, by have := key.2; omega⟩
theorem shN_spec {m : Nat} (hm : netB m es = true) : ∀ k, k ≤ es.length → (∀ e, e < k → 0 ≤ farE es m e → 0 < shN es m k ∧ shN es m k ≤ farE es m e + 1) ∧ (0 < shN es m k → ∃ e, e < k ∧ 0 ≤ farE es m e ∧ shN es m k = farE es m e + 1)
  | 0, _ => ⟨fun e he => by omega, fun h => by simp [shN] at h⟩
  | k + 1, hk => by
    obtain ⟨i1, i2⟩ := shN_spec hm k (by omega)
    have hin := shN_in hm k (by omega)
    simp only [shN]
    split
    · rename_i hc
      refine ⟨fun e he h0 => ?_, fun _ => ⟨k, by omega, hc.1, rfl⟩⟩
      by_cases ek : e = k
      · subst ek; omega
      · have := i1 e (by omega) h0
        rcases hc.2 with h | h <;> omega
    · rename_i hc
      refine ⟨fun e he h0 => ?_, fun h => ?_⟩
      · by_cases ek : e = k
        · subst ek
          have c1 : ¬ shN es m e = 0 := fun h => hc ⟨h0, Or.inl h⟩
          have c2 : ¬ farE es m e + 1 < shN es m e := fun h => hc ⟨h0, Or.inr h⟩
          omega
        · exact i1 e (by omega) h0
      · obtain ⟨e, h1, h2⟩ := i2 h
        exact ⟨e, by omega, h2⟩
/-- No way round is shorter than the reference's shortest. -/
theorem loop_short {m : Nat} {L : List Int} (hm : netB m es = true) (hL : Loop es L) : 0 < shN es m es.length ∧ shN es m es.length ≤ L.length := by
  obtain ⟨pos, ⟨a, hw⟩, once⟩ := hL
  cases L with
  | nil => simp at pos
  | cons h l =>
    obtain ⟨k, c, e1, e2, e3, e4, e5⟩ := hw
    have he : k / 2 < es.length := by omega
    have hn : ∀ x, x ∈ l → x.toNat / 2 ≠ k / 2 := by
      intro x hx
      obtain ⟨j, hj, hje⟩ := List.getElem_of_mem hx
      have := once 0 (j + 1) (by omega) (by simp; exact hj)
      have i1 : iat (h :: l) 0 = h := rfl
      have i2 : iat (h :: l) (j + 1) = x := by
        unfold iat
        rw [List.getD_cons_succ, List.getD_eq_getElem?_getD, List.getElem?_eq_getElem hj, hje]
        rfl
      rw [i1, i2, e1, Int.toNat_natCast] at this
      exact fun h => this h.symm
    obtain ⟨l', d1, d2⟩ := way_down he e5 hn
    obtain ⟨x0, x1, y0, y1⟩ := (netB_is hm).2.2.2 (k / 2) he
    obtain ⟨x, hx⟩ : ∃ x : Nat, (at' es (k / 2)).x = x := ⟨(at' es (k / 2)).x.toNat, by omega⟩
    obtain ⟨y, hy⟩ : ∃ y : Nat, (at' es (k / 2)).y = y := ⟨(at' es (k / 2)).y.toNat, by omega⟩
    have D := near_of (netB_drop hm he) (show x < m by omega)
    have hxz := D.r.first.2.2
    have hf : farE es m (k / 2) = iat (bfs (dropE es (k / 2)) m 0 (begin_ (st0 m) x)).Fa y := by
      unfold farE
      rw [hx, hy, Int.toNat_natCast, Int.toNat_natCast]
    have key : 0 ≤ farE es m (k / 2) ∧ farE es m (k / 2) ≤ l.length := by
      rw [hf]
      unfold fromL at e3
      unfold toL at e4
      by_cases h2 : k % 2 = 0
      · rw [if_pos h2] at e3 e4
        have ea : a = x := by omega
        have ec : c = y := by omega
        subst ea; subst ec
        have := D.back d2 (by omega)
        rw [hxz, d1] at this
        omega
      · rw [if_neg h2] at e3 e4
        have ea : a = y := by omega
        have ec : c = x := by omega
        subst ea; subst ec
        have := D.way d2 (by omega)
        rw [hxz, d1] at this
        omega
    have := (shN_spec hm es.length (Nat.le_refl _)).1 (k / 2) he key.1
    rw [List.length_cons]
    omega
theorem Way.cut {p : List Int} : ∀ {r : List Int} {a c : Nat}, Way es (p ++ r) a c → ∃ b, Way es p a b ∧ Way es r b c := by
  induction p with
  | nil => intro r a c h; exact ⟨a, rfl, h⟩
  | cons h p ih =>
    intro r a c hw
    obtain ⟨q, d, g1, g2, g3, g4, g5⟩ := hw
    obtain ⟨b, h1, h2⟩ := ih g5
    exact ⟨b, ⟨q, d, g1, g2, g3, g4, h1⟩, h2⟩
/-- A shortest way round leaves no node twice. -/
theorem loop_nodes {m : Nat} {L : List Int} (hm : netB m es = true) (hL : Loop es L) (hs : shN es m es.length = L.length) : ∀ i j, i < j → j < L.length → fromL es (iat L i).toNat ≠ fromL es (iat L j).toNat := by
  intro i j hij hj heq
  obtain ⟨pos, ⟨a, hw⟩, once⟩ := hL
  have split : L = L.take i ++ ((L.drop i).take (j - i) ++ L.drop j) := by
    have h1 : (L.drop i).drop (j - i) = L.drop j := by rw [List.drop_drop]; congr 1; omega
    rw [← h1, List.take_append_drop, List.take_append_drop]
  have at1 : ∀ k, k < j - i → iat ((L.drop i).take (j - i)) k = iat L (i + k) := by
    intro k hk
    unfold iat
    rw [List.getD_eq_getElem?_getD, List.getD_eq_getElem?_getD, List.getElem?_take, if_pos hk, List.getElem?_drop]
  have len : ((L.drop i).take (j - i)).length = j - i := by rw [List.length_take, List.length_drop]; omega
  rw [split] at hw
  obtain ⟨b, _, w2⟩ := hw.cut
  obtain ⟨c, w3, w4⟩ := w2.cut
  have g1 := w3.first (by omega)
  have g2 := w4.first (by rw [List.length_drop]; omega)
  rw [at1 0 (by omega), Nat.add_zero] at g1
  have d0 : iat (L.drop j) 0 = iat L j := by
    unfold iat
    rw [List.getD_eq_getElem?_getD, List.getD_eq_getElem?_getD, List.getElem?_drop, Nat.add_zero]
  rw [d0] at g2
  have hbc : b = c := by omega
  subst hbc
  have lp : Loop es ((L.drop i).take (j - i)) := by
    refine ⟨by omega, ⟨b, w3⟩, fun p q hpq hq => ?_⟩
    rw [len] at hq
    rw [at1 p (by omega), at1 q hq]
    exact once (i + p) (i + q) (by omega) (by omega)
  have := (loop_short hm lp).2
  rw [len] at this
  omega
/-- What Ring answers, held against the reference's shortest. -/
theorem ring_spec {m : Nat} (hm : netB m es = true) : (rgN es m m = [] ∧ shN es m es.length = 0) ∨ (rgN es m m ≠ [] ∧ 0 < shN es m es.length ∧ shN es m es.length = (rgN es m m).length ∧ Loop es (rgN es m m) ∧ ∀ i j, i < j → j < (rgN es m m).length → fromL es (iat (rgN es m m) i).toNat ≠ fromL es (iat (rgN es m m) j).toNat) := by
  have hin := shN_in hm es.length (Nat.le_refl _)
  rcases ring_loop hm m (Nat.le_refl _) with h | h
  · left
    refine ⟨h, ?_⟩
    by_cases h0 : shN es m es.length = 0
    · exact h0
    · obtain ⟨e, h1, h2, _⟩ := (shN_spec hm es.length (Nat.le_refl _)).2 (by omega)
      exact absurd h (ring_le hm h1 h2).1
  · right
    have hs := loop_short hm h
    obtain ⟨e, h1, h2, h3⟩ := (shN_spec hm es.length (Nat.le_refl _)).2 hs.1
    have hr := (ring_le hm h1 h2).2
    have he : shN es m es.length = (rgN es m m).length := by omega
    exact ⟨(ring_le hm h1 h2).1, hs.1, he, h, loop_nodes hm h he⟩
end Go.Proofs.Ytghffodjffkijaa

namespace Go.Proofs.Ytghffodjffkijaa
open Go.RowKit Go.Sort
open Go
variable {es : List Pt} {n : Nat} {st : St}

set_option maxRecDepth 100000 in
set_option maxHeartbeats 8000000 in
theorem ring_no (n : Int) (p : Option Addr) (es : List Pt) (cp : Nat) (w : World) (h : Has w p es) (hm : netB n es = false) : Calls Try.prog 7 #[nv n p es.length cp] w fun e w' => e = .returned (.bool true) ∧ Below w.heap.size w w' := by
  obtain ⟨W, hW, hb, a0⟩ := one_net w n p es.length cp
  have RG : Hid (∀ V, Has V p es → Calls Try.prog 31 #[nv n p es.length cp] V fun e w' => e = .returned (.tuple #[nilS, .int .i64 1]) ∧ Below V.heap.size V w') := fun V hV => ring31no n p es cp V hV hm
  have MY : Hid (∀ V, Has V p es → Calls Try.prog 12 #[nv n p es.length cp] V fun e w' => e = .returned (.bool false) ∧ Below V.heap.size V w') := fun V hV => by have := may12 n p es cp V hV; rw [hm] at this; exact this
  have BG := hide (begun9 W)
  have HH := hide (h.later hb)
  have HB := hide hb
  have HA := hide a0
  clear h hb a0 hm
  go_enter Try.func7, Try.ntmps7
  go_wp2_with fail
  rw [← hW]
  clear hW
  refine BG.out.mono ?_
  rintro e w1 ⟨rfl, hb1⟩
  have HH1 := hide (HH.out.later hb1)
  have HB1 := hide (below_step HB.out hb1)
  have HA1 := hide (HA.out.later hb1)
  obtain ⟨q0, q1, _, _⟩ := HA1.out
  clear hb1 BG
  by_cases h60 : (es.length : Int) > 60
  · have C0 := hide (MY.out w1 HH1.out)
    go_wp2_with fail
    refine C0.out.mono ?_
    rintro e wa ⟨rfl, hba⟩
    have C1 := hide (RG.out wa (HH1.out.later hba))
    have HHa := hide (HH1.out.later hba)
    have HBa := hide (below_step HB1.out hba)
    have HAa := hide (HA1.out.later hba)
    clear q0 q1 C0 hba
    obtain ⟨q0, q1, _, _⟩ := HAa.out
    go_wp2_with fail
    refine C1.out.mono ?_
    rintro e w2 ⟨rfl, hb2⟩
    have C2 := hide (MY.out w2 (HHa.out.later hb2))
    have HB2 := hide (below_step HBa.out hb2)
    have HA2 := hide (HAa.out.later hb2)
    clear q0 q1 C1 hb2
    obtain ⟨q0, q1, _, _⟩ := HA2.out
    go_wp2_with fail
    refine C2.out.mono ?_
    rintro e w3 ⟨rfl, hb3⟩
    have HB3 := hide (below_step HB2.out hb3)
    clear hb3 C2 q0 q1
    go_wp2
    go_ret
    exact ⟨rfl, HB3.out⟩
  · have C1 := hide (RG.out w1 HH1.out)
    go_wp2_with fail
    refine C1.out.mono ?_
    rintro e w2 ⟨rfl, hb2⟩
    have C2 := hide (MY.out w2 (HH1.out.later hb2))
    have HB2 := hide (below_step HB1.out hb2)
    have HA2 := hide (HA1.out.later hb2)
    clear q0 q1 C1 hb2
    obtain ⟨q0, q1, _, _⟩ := HA2.out
    go_wp2_with fail
    refine C2.out.mono ?_
    rintro e w3 ⟨rfl, hb3⟩
    have HB3 := hide (below_step HB2.out hb3)
    clear hb3 C2 q0 q1
    go_wp2
    go_ret
    exact ⟨rfl, HB3.out⟩
set_option maxRecDepth 100000 in
set_option maxHeartbeats 8000000 in
theorem ring_yes (m : Nat) (p : Option Addr) (es : List Pt) (cp : Nat) (w : World) (h : Has w p es) (hm : netB m es = true) : Calls Try.prog 7 #[nv m p es.length cp] w fun e w' => e = .returned (.bool true) ∧ Below w.heap.size w w' := by
  obtain ⟨W, hW, hb, a0⟩ := one_net w m p es.length cp
  obtain ⟨n0, n1, hes, hE⟩ := netB_is hm
  have RG : Hid (∀ V, Has V p es → Calls Try.prog 31 #[nv m p es.length cp] V fun e w' => ∃ v, e = .returned (.tuple #[v, .int .i64 (if rgN es m m = [] then 14 else 0)]) ∧ IOwns w' V.heap.size v (rgN es m m) ∧ Below V.heap.size V w') := fun V hV => ring31 m p es cp V hV hm
  have MY : Hid (∀ V, Has V p es → Calls Try.prog 12 #[nv m p es.length cp] V fun e w' => e = .returned (.bool true) ∧ Below V.heap.size V w') := fun V hV => by have := may12 m p es cp V hV; rw [hm] at this; exact this
  have SH : Hid (∀ V, Has V p es → Calls Try.prog 32 #[nv m p es.length cp] V fun e w' => e = .returned (.int .i64 (shN es m es.length)) ∧ Below V.heap.size V w') := fun V hV => shortest32 (fun m p es cp s w h1 h2 h3 => breadth16 m p es cp s w h1 h2 h3) m p es cp V hV hm
  have SP := hide (ring_spec hm)
  have SI := hide (shN_in hm es.length (Nat.le_refl _))
  have BG := hide (begun9 W)
  have HH := hide (h.later hb)
  have HB := hide hb
  have HA := hide a0
  clear h hb a0 hm hE
  go_enter Try.func7, Try.ntmps7
  go_wp2_with fail
  rw [← hW]
  clear hW
  refine BG.out.mono ?_
  rintro e w1 ⟨rfl, hb1⟩
  have HH1 := hide (HH.out.later hb1)
  have HB1 := hide (below_step HB.out hb1)
  have HA1 := hide (HA.out.later hb1)
  obtain ⟨q0, q1, _, _⟩ := HA1.out
  clear hb1 BG
  by_cases h60 : (es.length : Int) > 60
  · have C0 := hide (MY.out w1 HH1.out)
    go_wp2_with fail
    refine C0.out.mono ?_
    rintro e wa ⟨rfl, hba⟩
    have HBa := hide (below_step HB1.out hba)
    clear q0 q1 C0 hba
    go_wp2
    go_ret
    exact ⟨rfl, HBa.out⟩
  · have C1 := hide (RG.out w1 HH1.out)
    go_wp2_with fail
    refine C1.out.mono ?_
    rintro e w2 ⟨v, rfl, hown, hb2⟩
    have C2 := hide (MY.out w2 (HH1.out.later hb2))
    have HH2 := hide (HH1.out.later hb2)
    have HB2 := hide (below_step HB1.out hb2)
    have HA2 := hide (HA1.out.later hb2)
    clear q0 q1 C1 hb2
    obtain ⟨q0, q1, _, _⟩ := HA2.out
    rcases SP.out with ⟨hr, hz⟩ | ⟨hr, hz, hlen, hlp, hnd⟩
    · rw [if_pos hr]
      rw [hr] at hown
      rw [hz] at SH
      obtain ⟨pv, cv, rfl, _⟩ := IOwns.form hown
      rw [List.length_nil]
      clear hr hz hown
      go_wp2_with fail
      refine C2.out.mono ?_
      rintro e w3 ⟨rfl, hb3⟩
      have C3 := hide (SH.out w3 (HH2.out.later hb3))
      have HB3 := hide (below_step HB2.out hb3)
      have HA3 := hide (HA2.out.later hb3)
      clear hb3 C2 q0 q1
      obtain ⟨q0, q1, _, _⟩ := HA3.out
      go_wp2_with fail
      refine C3.out.mono ?_
      rintro e w4 ⟨rfl, hb4⟩
      have HB4 := hide (below_step HB3.out hb4)
      clear hb4 C3 q0 q1
      go_wp2
      go_ret
      exact ⟨rfl, HB4.out⟩
    · rw [if_neg hr]
      obtain ⟨gl, cl, hvb, _, _, _⟩ := iowns_block hown hlp.pos
      subst hvb
      have HOB := hide hown
      have HLP := hide hlp
      have HND := hide hnd
      rw [hlen] at SH
      have hL : (rgN es m m).length ≤ m := by have := SI.out; omega
      clear hr hnd hown hlen SP SI
      generalize rgN es m m = l at *
      have hpos : 0 < l.length := hlp.pos
      have j1 : (0 : Int) < l.length := by omega
      have j2 : ¬ (l.length : Int) = 0 := by omega
      have j3 : ((l.length : Int) == 0) = false := by simp; intro h; rw [h] at hpos; simp at hpos
      clear hlp hz
      go_wp2_with fail
      refine C2.out.mono ?_
      rintro e w3 ⟨rfl, hb3⟩
      have C3 := hide (SH.out w3 (HH2.out.later hb3))
      have HH3 := hide (HH2.out.later hb3)
      have HB3 := hide (below_step HB2.out hb3)
      have HA3 := hide (HA2.out.later hb3)
      have HO3 := hide (IOwns.later HOB.out hb3)
      clear hb3 C2 q0 q1
      obtain ⟨q0, q1, _, _⟩ := HA3.out
      go_wp2_with fail
      refine C3.out.mono ?_
      rintro e w4 ⟨rfl, hb4⟩
      have HH4 := hide (HH3.out.later hb4)
      have HB4 := hide (below_step HB3.out hb4)
      have HA4 := hide (HA3.out.later hb4)
      have HO4 := hide (IOwns.later HO3.out hb4)
      have WK := hide (walk29 m p es cp gl cl _ l w4 HH4.out (by omega) HO4.out (by omega) (loop_in HLP.out) (loop_next HLP.out))
      clear hb4 C3 q0 q1
      obtain ⟨q0, q1, _, _⟩ := HA4.out
      go_wp2_with fail
      refine WK.out.mono ?_
      rintro e w5 ⟨rfl, hb5⟩
      have HH5 := hide (HH4.out.later hb5)
      have HB5 := hide (below_step HB4.out hb5)
      have HA5 := hide (HA4.out.later hb5)
      have HO5 := hide (IOwns.later HO4.out hb5)
      have ON := hide (once30 true m p es cp gl cl _ l w5 HH5.out (by omega) HO5.out (by omega) (loop_in HLP.out) HLP.out.once (fun _ => HND.out))
      clear hb5 WK q0 q1
      obtain ⟨q0, q1, _, _⟩ := HA5.out
      go_wp2_with fail
      refine ON.out.mono ?_
      rintro e w6 ⟨rfl, hb6⟩
      have HB6 := hide (below_step HB5.out hb6)
      clear hb6 ON q0 q1
      go_wp2
      go_ret
      exact ⟨rfl, HB6.out⟩
theorem ring_walk (n : Int) (p : Option Addr) (es : List Pt) (cp : Nat) (w : World) (h : Has w p es) : Calls Try.prog 7 #[nv n p es.length cp] w fun e w' => e = .returned (.bool true) ∧ Below w.heap.size w w' := by
  cases hm : netB n es
  · exact ring_no n p es cp w h hm
  · obtain ⟨n0, _⟩ := netB_is hm
    obtain ⟨m, rfl⟩ : ∃ m : Nat, n = m := ⟨n.toNat, by omega⟩
    exact ring_yes m p es cp w h hm
end Go.Proofs.Ytghffodjffkijaa
