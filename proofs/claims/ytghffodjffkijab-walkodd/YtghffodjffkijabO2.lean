/- An edge split twice: the same sides of the old nodes. -/
import Derived.Test.YtghffodjffkijabS1
import Derived.Test.YtghffodjffkijabE3
import Derived.Test.YtghffodjffkijabM8
/- Sides as colours: parity along ways; an edge split twice. -/
namespace Go.Proofs.Ytghffodjffkijab
open Go.RowKit Go.Sort
open Go
variable {es : List Pt} {n : Nat} {st : St}

/-- The least node of a component begins its tree. -/
theorem least_zero (hm : netB n es = true) : ∀ s, s ≤ n → ∀ v, v < n → 0 ≤ iat (everyN es n s).Fa v → (∀ u, u < v → ¬ Conn es u v) → iat (everyN es n s).Fa v = 0
  | 0, _, v, hv, h0, _ => by
    have h0' : 0 ≤ iat (List.replicate n (-1 : Int)) v := h0
    rw [iat_fill hv] at h0'
    omega
  | s + 1, hs, v, hv, h0, hl => by
    have ih := least_zero hm s (by omega) v hv
    obtain ⟨c, hall⟩ := everyN_shut (es := es) hm s (by omega)
    revert h0
    simp only [everyN]
    split
    · rename_i hneg
      obtain ⟨st, hst⟩ : ∃ st, everyN es n s = st := ⟨_, rfl⟩
      rw [hst] at ih c hall hneg ⊢
      obtain ⟨c1, c2, c3⟩ := c.walk hm (by omega) hneg
      obtain ⟨x1, x2⟩ := c.walkR hm (by omega) hneg
      obtain ⟨T, hT⟩ : ∃ T, bfs es n st.O.length (begin_ st s) = T := ⟨_, rfl⟩
      rw [hT] at c1 c2 c3 x1 x2 ⊢
      have hsn : s < n := by omega
      intro h0
      by_cases e : v = s
      · have hF : iat (begin_ st s).Fa s = 0 := iat_put (by rw [c.ok.lf]; exact hsn)
        rw [e, (x1.old s (by rw [hF]; omega)).1, hF]
      · by_cases ho : 0 ≤ iat st.Fa v
        · have hb : iat (begin_ st s).Fa v = iat st.Fa v := by show iat (st.Fa.set s 0) v = _; rw [iat_put_ne e]
          rw [(x1.old v (by rw [hb]; exact ho)).1, hb]
          exact ih ho hl
        · exfalso
          have hr := (x2 v hv h0).resolve_left ho
          obtain ⟨k, hk⟩ : ∃ k : Nat, iat T.Fa v = k := ⟨(iat T.Fa v).toNat, by omega⟩
          have h1 := conn_root c1.tree k v hv hk
          rw [hr] at h1
          rcases Nat.lt_or_ge v s with hlt | hge
          · exact ho (hall v hlt)
          · exact hl s (by omega) h1
    · intro h0
      exact ih h0 hl
/-- Along a way each half-edge turns the colour. -/
theorem way_par {c : Nat → Nat} {P : Nat → Prop} (hc : ∀ h u x : Nat, h < 2 * es.length → fromL es h = u → toL es h = x → P u → P x ∧ (c u + c x) % 2 = 1) : ∀ {l : List Int} {a b : Nat}, Way es l a b → P a → (l.length + c a + c b) % 2 = 0
  | [], a, b, h, _ => by cases h; simp; omega
  | x :: l, a, b, h, hP => by
    obtain ⟨k, d, h1, h2, h3, h4, h5⟩ := h
    obtain ⟨p1, p2⟩ := hc k a d h2 h3 h4 hP
    have ih := way_par hc h5 p1
    rw [List.length_cons]
    omega
/-- Two colours, such that each edge has both. -/
def Proper (es : List Pt) (c : Nat → Nat) : Prop := ∀ h u x : Nat, h < 2 * es.length → fromL es h = u → toL es h = x → (c u + c x) % 2 = 1
theorem proper_par {c : Nat → Nat} (hc : Proper es c) {l : List Int} {a b : Nat} (h : Way es l a b) : (l.length + c a + c b) % 2 = 0 := way_par (P := fun _ => True) (fun h u x h1 h2 h3 _ => ⟨trivial, hc h u x h1 h2 h3⟩) h trivial
theorem proper_of {c : Nat → Nat} (hm : netB n es = true) (h : ∀ i, i < es.length → (c (at' es i).x.toNat + c (at' es i).y.toNat) % 2 = 1) : Proper es c := by
  intro k u x hk hf ht
  have hE := (netB_is hm).2.2.2 (k / 2) (by omega)
  have := h (k / 2) (by omega)
  unfold fromL at hf
  unfold toL at ht
  by_cases h2 : k % 2 = 0
  · rw [if_pos h2] at hf ht
    rw [hf, ht, Int.toNat_natCast, Int.toNat_natCast] at this
    exact this
  · rw [if_neg h2] at hf ht
    rw [hf, ht, Int.toNat_natCast, Int.toNat_natCast] at this
    omega
/-- A colouring goes by the distances from the beginnings. -/
theorem proper_root {c : Nat → Nat} (hc : Proper es c) (t : Tree es n st) : ∀ (k v : Nat), v < n → iat st.Fa v = k → (c v + c (root es st v) + k) % 2 = 0
  | 0, v, hv, h => by rw [root_zero h]; omega
  | k + 1, v, hv, h => by
    obtain ⟨q, q1, q2, q3, q4, q5, q6, q7, q8⟩ := root_par t hv (by omega)
    have ih := proper_root hc t k (par es st v) q5 (by omega)
    have := hc q (par es st v) v q1 q4 q3
    rw [q8] at ih
    omega
/-- The colours that the tour tells. -/
def farC (st : St) (v : Nat) : Nat := (iat st.Fa v).toNat
theorem far_proper {m : Nat} (hm : netB m es = true) (h : ∀ e, e < es.length → ¬ alike es (everyN es m m).Fa e) : Proper es (farC (everyN es m m)) := by
  obtain ⟨c, hall⟩ := everyN_shut (es := es) hm m (Nat.le_refl _)
  refine proper_of hm (fun i hi => ?_)
  have hE := (netB_is hm).2.2.2 i hi
  have := h i hi
  unfold alike at this
  have h1 := hall (at' es i).x.toNat (by omega)
  have h2 := hall (at' es i).y.toNat (by omega)
  unfold farC
  omega
theorem proper_sides {m : Nat} {c : Nat → Nat} (hm : netB m es = true) (hc : Proper es c) : ∀ e, e < es.length → ¬ alike es (everyN es m m).Fa e := by
  intro e he ha
  obtain ⟨s, hall⟩ := everyN_shut (es := es) hm m (Nat.le_refl _)
  obtain ⟨x0, x1, y0, y1⟩ := (netB_is hm).2.2.2 e he
  obtain ⟨x, hx⟩ : ∃ x : Nat, (at' es e).x = x := ⟨(at' es e).x.toNat, by omega⟩
  obtain ⟨y, hy⟩ : ∃ y : Nat, (at' es e).y = y := ⟨(at' es e).y.toNat, by omega⟩
  unfold alike at ha
  rw [hx, hy, Int.toNat_natCast, Int.toNat_natCast] at ha
  have f1 : fromL es (2 * e) = x := by unfold fromL; rw [if_pos (by omega), show 2 * e / 2 = e by omega, hx]
  have t1 : toL es (2 * e) = y := by unfold toL; rw [if_pos (by omega), show 2 * e / 2 = e by omega, hy]
  have fx := hall x (by omega)
  have fy := hall y (by omega)
  have hr := (s.all (2 * e) x y (by omega) f1 t1 fx).2
  obtain ⟨a, ha'⟩ : ∃ a : Nat, iat (everyN es m m).Fa x = a := ⟨(iat (everyN es m m).Fa x).toNat, by omega⟩
  obtain ⟨b, hb'⟩ : ∃ b : Nat, iat (everyN es m m).Fa y = b := ⟨(iat (everyN es m m).Fa y).toNat, by omega⟩
  have p1 := proper_root hc s.tree a x (by omega) ha'
  have p2 := proper_root hc s.tree b y (by omega) hb'
  have p3 := hc (2 * e) x y (by omega) f1 t1
  rw [hr] at p1
  omega
/-- Which edge nearest tells. -/
theorem nrN_spec (es : List Pt) (By Fa : List Int) : ∀ k, 0 ≤ (nrN es By Fa k).1 → ∃ e : Nat, e < k ∧ (nrN es By Fa k).1 = e ∧ 0 ≤ iat Fa (at' es e).x.toNat ∧ iat By (at' es e).y.toNat ≠ 2 * (e : Int) ∧ iat By (at' es e).x.toNat ≠ 2 * (e : Int) + 1
  | 0, h => by simp [nrN] at h
  | k + 1, h => by
    simp only [nrN] at h ⊢
    split at h
    · rename_i hc
      rw [if_pos hc]
      obtain ⟨e, h1, h2⟩ := nrN_spec es By Fa k h
      exact ⟨e, by omega, h2⟩
    · rename_i hc
      rw [if_neg hc]
      have hc' : ¬ iat Fa (at' es k).x.toNat < 0 ∧ iat By (at' es k).y.toNat ≠ 2 * (k : Int) ∧ iat By (at' es k).x.toNat ≠ 2 * (k : Int) + 1 := ⟨fun h => hc (Or.inl h), fun h => hc (Or.inr (Or.inl h)), fun h => hc (Or.inr (Or.inr h))⟩
      split at h
      · rename_i hd
        rw [if_pos hd]
        exact ⟨k, by omega, rfl, by omega, hc'.2.1, hc'.2.2⟩
      · rename_i hd
        rw [if_neg hd]
        obtain ⟨e, h1, h2⟩ := nrN_spec es By Fa k h
        exact ⟨e, by omega, h2⟩
theorem nrN_none (es : List Pt) (By Fa : List Int) : ∀ k, (nrN es By Fa k).1 < 0 → ∀ e, e < k → iat Fa (at' es e).x.toNat < 0 ∨ iat By (at' es e).y.toNat = 2 * (e : Int) ∨ iat By (at' es e).x.toNat = 2 * (e : Int) + 1
  | 0, _ => fun e he => by omega
  | k + 1, h => by
    intro e he
    simp only [nrN] at h
    split at h
    · rename_i hc
      by_cases ek : e = k
      · rw [ek]; exact hc
      · exact nrN_none es By Fa k h e (by omega)
    · split at h
      · exfalso
        simp only at h
        omega
      · rename_i hd
        exact absurd (Or.inl h) hd
/-- The way round that Ring tells is one. -/
theorem ring_loop {m : Nat} (hm : netB m es = true) : ∀ s, s ≤ m → rgN es m s = [] ∨ Loop es (rgN es m s)
  | 0, _ => Or.inl rfl
  | s + 1, hs => by
    have ih := ring_loop hm s (by omega)
    simp only [rgN]
    split
    · rename_i hc
      right
      have R : Reach es m s (bOne es m s) := bOne_reach (es := es) hm (by omega)
      obtain ⟨e, h1, h2, h3, h4, h5⟩ := nrN_spec es _ _ es.length hc.1
      have hsh := bOne_shut (es := es) hm (show s < m by omega)
      obtain ⟨x0, x1, y0, y1⟩ := (netB_is hm).2.2.2 e h1
      obtain ⟨x, hx⟩ : ∃ x : Nat, (at' es e).x = x := ⟨(at' es e).x.toNat, by omega⟩
      obtain ⟨y, hy⟩ : ∃ y : Nat, (at' es e).y = y := ⟨(at' es e).y.toNat, by omega⟩
      rw [hx, Int.toNat_natCast] at h3 h5
      rw [hy, Int.toNat_natCast] at h4
      have en : (nOne es m s).1.toNat = e := by
        have : (nOne es m s).1 = e := h2
        omega
      rw [en]
      generalize bOne es m s = T at *
      have f1 : fromL es (2 * e) = x := by unfold fromL; rw [if_pos (by omega), show 2 * e / 2 = e by omega, hx]
      have t1 : toL es (2 * e) = y := by unfold toL; rw [if_pos (by omega), show 2 * e / 2 = e by omega, hy]
      have fy := R.shut (2 * e) x y (by omega) f1 t1 h3
      have hr := (hsh.all (2 * e) x y (by omega) f1 t1 h3).2
      exact (cloL_loop hsh.tree (by omega : 2 * e < 2 * es.length) t1 f1 (by omega) (by omega) fy h3 hr.symm (fun v hv h0 heq => by
        obtain ⟨q, q1, q2, q3, q4, q5, q6, _⟩ := root_par hsh.tree hv h0
        rw [q2, Int.toNat_natCast] at heq
        have hqe : q / 2 = e := by omega
        unfold toL at q3
        rw [hqe] at q3
        by_cases h2' : q % 2 = 0
        · rw [if_pos h2', hy] at q3
          have e1 : y = v := by omega
          rw [e1, q2] at h4
          exact h4 (by omega)
        · rw [if_neg h2', hx] at q3
          have e1 : x = v := by omega
          rw [e1, q2] at h5
          exact h5 (by omega))).1
    · exact ih
theorem clo_head (es : List Pt) (st : St) : ∀ k en sa cy dn, ∃ t, (clo es st k en sa cy dn).1 = cy ++ t
  | 0, _, _, cy, _ => ⟨[], by simp [clo]⟩
  | k + 1, en, sa, cy, dn => by
    simp only [clo]
    split
    · exact ⟨[], by simp⟩
    · split
      · obtain ⟨t, ht⟩ := clo_head es st k (par es st en) sa (cy ++ [twn (iat st.By en)]) dn
        exact ⟨twn (iat st.By en) :: t, by rw [ht]; simp⟩
      · exact clo_head es st k en (par es st sa) cy (dn ++ [iat st.By sa])
/-- A way round of odd length makes Ring find one. -/
theorem odd_ring {m a : Nat} {l : List Int} (hm : netB m es = true) (hw : Way es l a a) (ha : a < m) (ho : l.length % 2 = 1) : rgN es m m ≠ [] := by
  intro hr
  have none : ∀ s, s ≤ m → rgN es m s = [] → ∀ t, t < s → (nOne es m t).1 < 0 := by
    intro s
    induction s with
    | zero => intro _ _ t ht; omega
    | succ s ih =>
      intro hs he t ht
      simp only [rgN] at he
      split at he
      · have := cloL_pos es (bOne es m s) (2 * (nOne es m s).1.toNat)
        rw [he] at this
        simp at this
      · rename_i hc
        by_cases e : t = s
        · rw [e]
          by_cases h0 : 0 ≤ (nOne es m s).1
          · exact absurd ⟨h0, Or.inl he⟩ hc
          · omega
        · exact ih (by omega) he t (by omega)
  have hneg := none m (Nat.le_refl _) hr a ha
  have R : Reach es m a (bOne es m a) := bOne_reach (es := es) hm ha
  have hn := nrN_none es _ _ es.length hneg
  generalize bOne es m a = T at *
  have key : ∀ h u x : Nat, h < 2 * es.length → fromL es h = u → toL es h = x → 0 ≤ iat T.Fa u → 0 ≤ iat T.Fa x ∧ (farC T u + farC T x) % 2 = 1 := by
    intro h u x hh hf ht h0
    have h1 := R.shut h u x hh hf ht h0
    refine ⟨h1, ?_⟩
    have hu : u < m := by have := fromL_in hm h hh; omega
    have hx : x < m := by have := toL_in hm h hh; omega
    obtain ⟨x0, x1, y0, y1⟩ := (netB_is hm).2.2.2 (h / 2) (by omega)
    have hh2 := hn (h / 2) (by omega)
    -- the tree edge joins a node with its parent
    have tree : ∀ v q : Nat, v < m → 0 ≤ iat T.Fa v → iat T.By v = q → iat T.Fa (fromL es q).toNat + 1 = iat T.Fa v := by
      intro v q hv hv0 hb
      rcases R.tree.back v hv hv0 with ⟨_, z⟩ | ⟨k, p, k1, k2, k3, k4, k5, k6, k7⟩
      · omega
      · have : k = q := by omega
        rw [← this, k5, Int.toNat_natCast]
        exact k6
    unfold fromL at hf
    unfold toL at ht
    unfold farC
    by_cases h2 : h % 2 = 0
    · rw [if_pos h2] at hf ht
      rw [hf, ht, Int.toNat_natCast, Int.toNat_natCast] at hh2
      rcases hh2 with e | e | e
      · omega
      · have := tree x (2 * (h / 2)) hx h1 (by rw [e]; omega)
        unfold fromL at this
        rw [if_pos (by omega), show 2 * (h / 2) / 2 = h / 2 by omega, hf, Int.toNat_natCast] at this
        omega
      · have := tree u (2 * (h / 2) + 1) hu h0 (by rw [e]; omega)
        unfold fromL at this
        rw [if_neg (by omega), show (2 * (h / 2) + 1) / 2 = h / 2 by omega, ht, Int.toNat_natCast] at this
        omega
    · rw [if_neg h2] at hf ht
      rw [hf, ht, Int.toNat_natCast, Int.toNat_natCast] at hh2
      rcases hh2 with e | e | e
      · omega
      · have := tree u (2 * (h / 2)) hu h0 (by rw [e]; omega)
        unfold fromL at this
        rw [if_pos (by omega), show 2 * (h / 2) / 2 = h / 2 by omega, ht, Int.toNat_natCast] at this
        omega
      · have := tree x (2 * (h / 2) + 1) hx h1 (by rw [e]; omega)
        unfold fromL at this
        rw [if_neg (by omega), show (2 * (h / 2) + 1) / 2 = h / 2 by omega, hf, Int.toNat_natCast] at this
        omega
  have := way_par (c := farC T) (P := fun v => 0 ≤ iat T.Fa v) key hw (by rw [R.first.2.2]; omega)
  omega
end Go.Proofs.Ytghffodjffkijab

namespace Go.Proofs.Ytghffodjffkijab
open Go.RowKit Go.Sort
open Go
variable {es : List Pt}

theorem at_set_lt {l : List Pt} {i j : Nat} {p : Pt} (h : j < l.length) : at' (l.set i p) j = if i = j then p else at' l j := at_set l i j p h
/-- Where an edge is split: itself, the new one, and the others. -/
theorem split_at (m : Int) (es : List Pt) {a : Nat} (ha : a < es.length) : at' (splitL m es a) a = ⟨(at' es a).x, m⟩ ∧ at' (splitL m es a) es.length = ⟨m, (at' es a).y⟩ ∧ ∀ i, i < es.length → i ≠ a → at' (splitL m es a) i = at' es i := by
  have hl : (es ++ [(⟨0, 0⟩ : Pt)]).length = es.length + 1 := by simp
  unfold splitL
  refine ⟨?_, ?_, fun i hi hne => ?_⟩
  · rw [at_set_lt (by rw [List.length_set, hl]; omega), if_neg (by omega), at_set_lt (by rw [hl]; omega), if_pos rfl]
  · rw [at_set_lt (by rw [List.length_set, hl]; omega), if_pos rfl]
  · rw [at_set_lt (by rw [List.length_set, hl]; omega), if_neg (by omega), at_set_lt (by rw [hl]; omega), if_neg (fun e => hne e.symm)]
    unfold at'
    rw [List.getD_eq_getElem?_getD, List.getD_eq_getElem?_getD, List.getElem?_append_left hi]
theorem split_net {m : Nat} {a : Nat} (hm : netB m es = true) (ha : a < es.length) (h1 : m + 1 ≤ 1024) (h2 : es.length + 1 ≤ 3072) : netB ((m : Int) + 1) (splitL m es a) = true := by
  obtain ⟨n0, n1, hes, hE⟩ := netB_is hm
  obtain ⟨s1, s2, s3⟩ := split_at m es ha
  refine net_yes (by omega) (by rw [splitL_length]; simp [fitsB]; omega) (fun j hj => ?_)
  rw [splitL_length] at hj
  simp only [edB, belowB, Bool.and_eq_true, decide_eq_true_eq]
  by_cases e1 : j = a
  · rw [e1, s1]; have := hE a ha; simp only; omega
  · by_cases e2 : j = es.length
    · rw [e2, s2]; have := hE a ha; simp only; omega
    · rw [s3 j (by omega) e1]; have := hE j (by omega); omega
/-- The net with an edge split twice. -/
def twiceL (m : Nat) (es : List Pt) (a : Nat) : List Pt := splitL ((m : Int) + 1) (splitL m es a) a
theorem twice_len (m : Nat) (es : List Pt) (a : Nat) : (twiceL m es a).length = es.length + 2 := by unfold twiceL; rw [splitL_length, splitL_length]
theorem twice_at {m : Nat} {a : Nat} (ha : a < es.length) : at' (twiceL m es a) a = ⟨(at' es a).x, (m : Int) + 1⟩ ∧ at' (twiceL m es a) es.length = ⟨m, (at' es a).y⟩ ∧ at' (twiceL m es a) (es.length + 1) = ⟨(m : Int) + 1, m⟩ ∧ ∀ i, i < es.length → i ≠ a → at' (twiceL m es a) i = at' es i := by
  obtain ⟨s1, s2, s3⟩ := split_at m es ha
  obtain ⟨t1, t2, t3⟩ := split_at ((m : Int) + 1) (splitL m es a) (a := a) (by rw [splitL_length]; omega)
  rw [splitL_length] at t2
  unfold twiceL
  refine ⟨by rw [t1, s1], ?_, by rw [t2, s1], fun i hi hne => ?_⟩
  · rw [t3 es.length (by rw [splitL_length]; omega) (by omega), s2]
  · rw [t3 i (by rw [splitL_length]; omega) hne, s3 i hi hne]
theorem twice_net {m : Nat} {a : Nat} (hm : netB m es = true) (ha : a < es.length) (h1 : m + 2 ≤ 1024) (h2 : es.length + 2 ≤ 3072) : netB ((m + 2 : Nat) : Int) (twiceL m es a) = true := by
  have h := split_net hm ha (by omega) (by omega)
  have h' : netB ((m + 1 : Nat) : Int) (splitL m es a) = true := by rw [show ((m + 1 : Nat) : Int) = (m : Int) + 1 by omega]; exact h
  have := split_net (m := m + 1) (a := a) h' (by rw [splitL_length]; omega) (by omega) (by rw [splitL_length]; omega)
  rw [show ((m + 1 : Nat) : Int) = (m : Int) + 1 by omega] at this
  rw [show ((m + 2 : Nat) : Int) = (m : Int) + 1 + 1 by omega]
  exact this
/-- Colours of the one are colours of the other. -/
theorem proper_twice {m a : Nat} {c : Nat → Nat} (hm : netB m es = true) (ha : a < es.length) (h1 : m + 2 ≤ 1024) (h2 : es.length + 2 ≤ 3072) (hc : Proper es c) : Proper (twiceL m es a) (fun v => if v = m then c (at' es a).x.toNat else if v = m + 1 then c (at' es a).x.toNat + 1 else c v) := by
  obtain ⟨n0, n1, hes, hE⟩ := netB_is hm
  obtain ⟨t1, t2, t3, t4⟩ := twice_at (m := m) ha
  have hA := hE a ha
  have base : ∀ i, i < es.length → (c (at' es i).x.toNat + c (at' es i).y.toNat) % 2 = 1 := fun i hi => by
    have e := hE i hi
    exact hc (2 * i) (at' es i).x.toNat (at' es i).y.toNat (by omega) (by unfold fromL; rw [if_pos (by omega), show 2 * i / 2 = i by omega]; omega) (by unfold toL; rw [if_pos (by omega), show 2 * i / 2 = i by omega]; omega)
  refine proper_of (twice_net hm ha h1 h2) (fun i hi => ?_)
  rw [twice_len] at hi
  by_cases e1 : i = a
  · rw [e1, t1]
    simp only
    rw [if_neg (by omega), if_neg (by omega), if_neg (by omega), if_pos (by omega)]
    omega
  · by_cases e2 : i = es.length
    · rw [e2, t2]
      simp only
      rw [if_pos (by omega), if_neg (by omega), if_neg (by omega)]
      exact base a ha
    · by_cases e3 : i = es.length + 1
      · rw [e3, t3]
        simp only
        rw [if_neg (by omega), if_pos (by omega), if_pos (by omega)]
        omega
      · have hil : i < es.length := by omega
        have e := hE i hil
        rw [t4 i hil e1, if_neg (by omega), if_neg (by omega), if_neg (by omega), if_neg (by omega)]
        exact base i hil
theorem proper_back {m a : Nat} {c : Nat → Nat} (hm : netB m es = true) (ha : a < es.length) (h1 : m + 2 ≤ 1024) (h2 : es.length + 2 ≤ 3072) (hc : Proper (twiceL m es a) c) : Proper es c := by
  obtain ⟨n0, n1, hes, hE⟩ := netB_is hm
  obtain ⟨t1, t2, t3, t4⟩ := twice_at (m := m) ha
  have hE2 := (netB_is (twice_net hm ha h1 h2)).2.2.2
  have base : ∀ i, i < es.length + 2 → (c (at' (twiceL m es a) i).x.toNat + c (at' (twiceL m es a) i).y.toNat) % 2 = 1 := fun i hi => by
    have e := hE2 i (by rw [twice_len]; exact hi)
    exact hc (2 * i) (at' (twiceL m es a) i).x.toNat (at' (twiceL m es a) i).y.toNat (by rw [twice_len]; omega) (by unfold fromL; rw [if_pos (by omega), show 2 * i / 2 = i by omega]; omega) (by unfold toL; rw [if_pos (by omega), show 2 * i / 2 = i by omega]; omega)
  refine proper_of hm (fun i hi => ?_)
  by_cases e1 : i = a
  · rw [e1]
    have b1 := base a (by omega)
    have b2 := base es.length (by omega)
    have b3 := base (es.length + 1) (by omega)
    rw [t1] at b1
    rw [t2] at b2
    rw [t3] at b3
    simp only at b1 b2 b3
    omega
  · have := base i (by omega)
    rw [t4 i hi e1] at this
    exact this
/-- What hangs together behind the split hung together before. -/
theorem conn_back {m a : Nat} (hm : netB m es = true) (ha : a < es.length) (h1 : m + 2 ≤ 1024) (_h2 : es.length + 2 ≤ 3072) {u v : Nat} (h : Conn (twiceL m es a) u v) : Conn es (if u < m then u else (at' es a).x.toNat) (if v < m then v else (at' es a).x.toNat) := by
  obtain ⟨n0, n1, hes, hE⟩ := netB_is hm
  obtain ⟨t1, t2, t3, t4⟩ := twice_at (m := m) ha
  have hA := hE a ha
  have edge : ∀ i, i < es.length → Conn es (at' es i).x.toNat (at' es i).y.toNat := fun i hi => by
    have e := hE i hi
    exact (Conn.refl _).step (h := 2 * i) (by omega) (by unfold fromL; rw [if_pos (by omega), show 2 * i / 2 = i by omega]; omega) (by unfold toL; rw [if_pos (by omega), show 2 * i / 2 = i by omega]; omega)
  have pair : ∀ i, i < es.length + 2 → Conn es (if (at' (twiceL m es a) i).x.toNat < m then (at' (twiceL m es a) i).x.toNat else (at' es a).x.toNat) (if (at' (twiceL m es a) i).y.toNat < m then (at' (twiceL m es a) i).y.toNat else (at' es a).x.toNat) := by
    intro i hi
    by_cases e1 : i = a
    · rw [e1, t1]
      simp only
      rw [if_pos (by omega), if_neg (by omega)]
      exact Conn.refl _
    · by_cases e2 : i = es.length
      · rw [e2, t2]
        simp only
        rw [if_neg (by omega), if_pos (by omega)]
        exact edge a ha
      · by_cases e3 : i = es.length + 1
        · rw [e3, t3]
          simp only
          rw [if_neg (by omega), if_neg (by omega)]
          exact Conn.refl _
        · have hil : i < es.length := by omega
          have e := hE i hil
          rw [t4 i hil e1, if_pos (by omega), if_pos (by omega)]
          exact edge i hil
  induction h with
  | refl => exact Conn.refl _
  | step _ g1 g2 g3 ih =>
    rename_i b c h _
    refine ih.trans ?_
    rw [twice_len] at g1
    have hp := pair (h / 2) (by omega)
    unfold fromL at g2
    unfold toL at g3
    by_cases hh : h % 2 = 0
    · rw [if_pos hh] at g2 g3
      rw [g2, g3, Int.toNat_natCast, Int.toNat_natCast] at hp
      exact hp
    · rw [if_neg hh] at g2 g3
      rw [g2, g3, Int.toNat_natCast, Int.toNat_natCast] at hp
      exact hp.symm
/-- Where a tree begins, lies the least node of its component. -/
theorem zero_least {m : Nat} (hm : netB m es = true) {z : Nat} (hz : z < m) (h0 : iat (everyN es m m).Fa z = 0) : ∀ u, u < z → ¬ Conn es u z := by
  obtain ⟨s, hall⟩ := everyN_shut (es := es) hm m (Nat.le_refl _)
  have hroot : ∀ u v, u < m → Conn es u v → root es (everyN es m m) u = root es (everyN es m m) v := by
    intro u v hu h
    induction h with
    | refl => rfl
    | step _ g1 g2 g3 ih =>
      rename_i b c h _
      rw [ih]
      have bn : b < m := by have := fromL_in hm h g1; omega
      exact (s.all h b c g1 g2 g3 (hall b bn)).2
  intro u
  induction u using Nat.strongRecOn with
  | ind u ih =>
    intro hu hc
    by_cases hl : ∀ w, w < u → ¬ Conn es w u
    · have hf := least_zero hm m (Nat.le_refl _) u (by omega) (hall u (by omega)) hl
      have e1 := root_zero (es := es) hf
      have e2 := root_zero (es := es) h0
      have := hroot u z (by omega) hc
      rw [e1, e2] at this
      omega
    · have : ∃ w, w < u ∧ Conn es w u := by
        by_cases hx : ∃ w, w < u ∧ Conn es w u
        · exact hx
        · exact absurd (fun w hw hcw => hx ⟨w, hw, hcw⟩) hl
      obtain ⟨w, hw, hcw⟩ := this
      exact ih w hw (by omega) (hcw.trans hc)
/-- The sides of the old nodes are the same. -/
theorem twice_sides {m a : Nat} (hm : netB m es = true) (ha : a < es.length) (h1 : m + 2 ≤ 1024) (h2 : es.length + 2 ≤ 3072) (hno : ∀ e, e < (twiceL m es a).length → ¬ alike (twiceL m es a) (everyN (twiceL m es a) (m + 2) (m + 2)).Fa e) : ∀ v, v < m → iat (everyN (twiceL m es a) (m + 2) (m + 2)).Fa v % 2 = iat (everyN es m m).Fa v % 2 := by
  intro v hv
  have hm2 := twice_net hm ha h1 h2
  have hp := far_proper hm2 hno
  have hq := proper_back hm ha h1 h2 hp
  obtain ⟨s, hall⟩ := everyN_shut (es := es) hm m (Nat.le_refl _)
  obtain ⟨s2, hall2⟩ := everyN_shut (es := twiceL m es a) hm2 (m + 2) (Nat.le_refl _)
  obtain ⟨k, hk⟩ : ∃ k : Nat, iat (everyN es m m).Fa v = k := ⟨(iat (everyN es m m).Fa v).toNat, by have := hall v hv; omega⟩
  have hr := proper_root hq s.tree k v hv hk
  obtain ⟨r1, r2⟩ := root_found s.tree k v hv hk
  generalize root es (everyN es m m) v = z at *
  have hl := zero_least hm r1 r2
  have hz : iat (everyN (twiceL m es a) (m + 2) (m + 2)).Fa z = 0 := least_zero hm2 (m + 2) (Nat.le_refl _) z (by omega) (hall2 z (by omega)) (fun u hu hc => by
    have := conn_back hm ha h1 h2 hc
    rw [if_pos (by omega), if_pos r1] at this
    exact hl u hu this)
  have e1 : farC (everyN (twiceL m es a) (m + 2) (m + 2)) z = 0 := by unfold farC; omega
  rw [e1] at hr
  have h0 := hall2 v (by omega)
  unfold farC at hr
  omega
end Go.Proofs.Ytghffodjffkijab
