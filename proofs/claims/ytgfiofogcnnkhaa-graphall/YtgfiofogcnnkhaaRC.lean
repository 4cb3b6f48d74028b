/- What was done since a mark can be undone, step by step (pure). -/
import Derived.Test.YtgfiofogcnnkhaaRA
namespace Go.Proofs.Ytgfiofogcnnkhaa
open Go.RowKit Go.Sort
open Go

/-- The same nodes, edges and next numbers. -/
structure Core (A B : Gr) : Prop where
  ns : A.ns = B.ns
  es : A.es = B.es
  nn : A.nn = B.nn
  ne : A.ne = B.ne
theorem Core.refl (A : Gr) : Core A A := ⟨rfl, rfl, rfl, rfl⟩
theorem Core.trans {A B C : Gr} (h : Core A B) (k : Core B C) : Core A C := ⟨h.ns.trans k.ns, h.es.trans k.es, h.nn.trans k.nn, h.ne.trans k.ne⟩
theorem Core.undo {A B : Gr} (h : Core A B) (u : Un) : Core (A.undo u) (B.undo u) := by
  obtain ⟨h1, h2, h3, h4⟩ := h
  cases u <;> simp only [Gr.undo] <;> exact ⟨by simp only [h1], by simp only [h2], by simp only [h3], by simp only [h4]⟩
theorem Core.can {A B : Gr} (h : Core A B) {u : Un} (hc : B.can u) : A.can u := by
  obtain ⟨h1, h2, h3, h4⟩ := h
  cases u <;> simp only [Gr.can, h1, h2] at hc ⊢ <;> exact hc
/-- Small enough to be undone. -/
structure Sz (G : Gr) : Prop where
  ln : G.ns.length ≤ 5000
  le : G.es.length ≤ 5000
  n0 : 0 ≤ G.nn
  n1 : G.nn ≤ 1000000000
  e0 : 0 ≤ G.ne
  e1 : G.ne ≤ 1000000000
theorem Fine.sz {N : Int} {G : Gr} (h : Fine N G) (hN : N ≤ 900000000) : Sz G := ⟨by have := h.ln; omega, by have := h.le; omega, by have := h.n1; omega, by have := h.n2; omega, by have := h.e1; omega, by have := h.e2; omega⟩
/-- G arose from A, and all that was done since can be undone. -/
structure Hist (A G : Gr) : Prop where
  len : A.dn.length ≤ G.dn.length
  pre : G.dn.take A.dn.length = A.dn
  fit : ∀ k, A.dn.length ≤ k → k < G.dn.length → G.fit k
  core : Core (G.bk (G.dn.length - A.dn.length)) A
  mks : ∃ r, G.ms = A.ms ++ r
  some : 0 < A.ms.length
theorem Hist.refl {A : Gr} (h : 0 < A.ms.length) : Hist A A := ⟨Nat.le_refl _, List.take_length, fun k h1 h2 => by omega, by rw [Nat.sub_self]; exact Core.refl _, ⟨[], by simp⟩, h⟩
theorem Hist.ms {A G : Gr} (h : Hist A G) : 0 < G.ms.length := by
  obtain ⟨r, hr⟩ := h.mks
  have := h.some
  rw [hr, List.length_append]
  omega
theorem uat_old {l : List Un} {u : Un} {k : Nat} (h : k < l.length) : uat (l ++ [u]) k = uat l k := by
  unfold uat
  rw [List.getD_eq_getElem?_getD, List.getD_eq_getElem?_getD, List.getElem?_append_left h]
theorem uat_new (l : List Un) (u : Un) : uat (l ++ [u]) l.length = u := by
  unfold uat
  rw [List.getD_eq_getElem?_getD, List.getElem?_append_right (Nat.le_refl _), Nat.sub_self]
  rfl
theorem bk_more {G G' : Gr} {u : Un} (hdn : G'.dn = G.dn ++ [u]) (hun : Core (G'.undo u) G) : ∀ j, j ≤ G.dn.length → Core (G'.bk (j + 1)) (G.bk j)
  | 0, _ => by
    show Core (G'.undo (uat G'.dn (G'.dn.length - 1 - 0))) G
    rw [hdn, List.length_append]
    show Core (G'.undo (uat (G.dn ++ [u]) G.dn.length)) G
    rw [uat_new]
    exact hun
  | j + 1, hj => by
    have ih := bk_more hdn hun j (by omega)
    show Core ((G'.bk (j + 1)).undo (uat G'.dn (G'.dn.length - 1 - (j + 1)))) ((G.bk j).undo (uat G.dn (G.dn.length - 1 - j)))
    have e : G'.dn.length - 1 - (j + 1) = G.dn.length - 1 - j := by rw [hdn, List.length_append]; simp; omega
    rw [e, hdn, uat_old (by omega)]
    exact ih.undo _
theorem Gr.fit_of {G : Gr} {k : Nat} {B : Gr} (h : Core (G.bk (G.dn.length - (k + 1))) B) (hc : B.can (uat G.dn k)) (hs : Sz B) : G.fit k :=
  ⟨h.can hc, by rw [h.ns]; exact hs.ln, by rw [h.es]; exact hs.le, by rw [h.nn]; exact hs.n0, by rw [h.nn]; exact hs.n1, by rw [h.ne]; exact hs.e0, by rw [h.ne]; exact hs.e1⟩
theorem Hist.step {A G G' : Gr} {u : Un} (h : Hist A G) (hdn : G'.dn = G.dn ++ [u]) (hms : G'.ms = G.ms) (hcan : G'.can u) (hsz : Sz G') (hun : Core (G'.undo u) G) : Hist A G' := by
  have hl : G'.dn.length = G.dn.length + 1 := by rw [hdn, List.length_append]; rfl
  refine ⟨by have := h.len; omega, ?_, ?_, ?_, by rw [hms]; exact h.mks, h.some⟩
  · rw [hdn, List.take_append_of_le_length h.len]
    exact h.pre
  · intro k h1 h2
    by_cases hk : k = G.dn.length
    · refine Gr.fit_of (B := G') ?_ ?_ hsz
      · rw [hl, hk, Nat.sub_self]; exact Core.refl _
      · rw [hdn, hk, uat_new]; exact hcan
    · have hk2 : k < G.dn.length := by omega
      have hf := h.fit k h1 hk2
      refine Gr.fit_of (B := G.bk (G.dn.length - (k + 1))) ?_ ?_ ⟨hf.ln, hf.le, hf.n0, hf.n1, hf.e0, hf.e1⟩
      · have e : G'.dn.length - (k + 1) = (G.dn.length - (k + 1)) + 1 := by omega
        rw [e]
        exact bk_more hdn hun _ (by omega)
      · rw [hdn, uat_old hk2]; exact hf.can
  · have e : G'.dn.length - A.dn.length = (G.dn.length - A.dn.length) + 1 := by have := h.len; omega
    rw [e]
    exact (bk_more hdn hun _ (by omega)).trans h.core
theorem rem_on {G : Gr} (h : 0 < G.ms.length) (u : Un) : (G.rem u).dn = G.dn ++ [u] := by
  unfold Gr.rem
  exact if_neg (by omega)
theorem Hist.layN {A G : Gr} (h : Hist A G) (hs : Sz G.layN) : Hist A G.layN := by
  refine h.step (u := .n) (rem_on (G := { G with ns := G.ns ++ [G.nn], nn := G.nn + 1 }) h.ms _) rfl ?_ hs ?_
  · show 0 < (G.ns ++ [G.nn]).length
    simp
  · refine ⟨?_, rfl, ?_, rfl⟩
    · show (G.ns ++ [G.nn]).take ((G.ns ++ [G.nn]).length - 1) = G.ns
      simp
    · show G.nn + 1 - 1 = G.nn
      omega
theorem Hist.layE {A G : Gr} (h : Hist A G) (x y : Int) (hs : Sz (G.layE x y)) : Hist A (G.layE x y) := by
  refine h.step (u := .e) (rem_on (G := { G with es := G.es ++ [⟨G.ne, x, y⟩], ne := G.ne + 1 }) h.ms _) rfl ?_ hs ?_
  · show 0 < (G.es ++ [(⟨G.ne, x, y⟩ : Ed)]).length
    simp
  · refine ⟨rfl, ?_, rfl, ?_⟩
    · show (G.es ++ [(⟨G.ne, x, y⟩ : Ed)]).take ((G.es ++ [(⟨G.ne, x, y⟩ : Ed)]).length - 1) = G.es
      simp
    · show G.ne + 1 - 1 = G.ne
      omega
theorem ins_erase {α : Type} (l : List α) {p : Nat} (hp : p < l.length) (x : α) (hx : l[p]? = some x) : (l.eraseIdx p).take p ++ [x] ++ (l.eraseIdx p).drop p = l := by
  have e1 : (l.eraseIdx p).take p = l.take p := by
    rw [List.eraseIdx_eq_take_drop_succ, List.take_append_of_le_length (by rw [List.length_take]; omega), List.take_take, Nat.min_self]
  have e2 : (l.eraseIdx p).drop p = l.drop (p + 1) := by
    rw [List.eraseIdx_eq_take_drop_succ, List.drop_append, List.length_take, Nat.min_eq_left (by omega), Nat.sub_self, List.drop_zero, List.drop_of_length_le (by rw [List.length_take]; omega), List.nil_append]
  rw [e1, e2, List.append_assoc]
  have : l.drop p = x :: l.drop (p + 1) := by
    rw [List.drop_eq_getElem_cons hp]
    congr 1
    rw [List.getElem?_eq_getElem hp] at hx
    exact Option.some.inj hx
  show l.take p ++ (x :: l.drop (p + 1)) = l
  rw [← this, List.take_append_drop]
theorem Hist.takeN {A G : Gr} (h : Hist A G) {p : Nat} (hp : p < G.ns.length) (hs : Sz G) : Hist A (G.takeN p) := by
  have hl : (G.ns.eraseIdx p).length = G.ns.length - 1 := by rw [List.length_eraseIdx, if_pos hp]
  refine h.step (u := .tn p (iat G.ns p)) (rem_on (G := { G with ns := G.ns.eraseIdx p }) h.ms _) rfl ?_ ⟨by show (G.ns.eraseIdx p).length ≤ 5000; have := hs.ln; omega, hs.le, hs.n0, hs.n1, hs.e0, hs.e1⟩ ⟨?_, rfl, rfl, rfl⟩
  · show p ≤ (G.ns.eraseIdx p).length
    omega
  · show insI (G.ns.eraseIdx p) p (iat G.ns p) = G.ns
    refine ins_erase G.ns hp _ ?_
    unfold iat
    rw [List.getD_eq_getElem?_getD, List.getElem?_eq_getElem hp]
    rfl
theorem Hist.takeE {A G : Gr} (h : Hist A G) {p : Nat} (hp : p < G.es.length) (hs : Sz G) : Hist A (G.takeE p) := by
  have hl : (G.es.eraseIdx p).length = G.es.length - 1 := by rw [List.length_eraseIdx, if_pos hp]
  refine h.step (u := .te p (eat G.es p)) (rem_on (G := { G with es := G.es.eraseIdx p }) h.ms _) rfl ?_ ⟨hs.ln, by show (G.es.eraseIdx p).length ≤ 5000; have := hs.le; omega, hs.n0, hs.n1, hs.e0, hs.e1⟩ ⟨rfl, ?_, rfl, rfl⟩
  · show p ≤ (G.es.eraseIdx p).length
    omega
  · show insE (G.es.eraseIdx p) p (eat G.es p) = G.es
    refine ins_erase G.es hp _ ?_
    unfold eat
    rw [List.getD_eq_getElem?_getD, List.getElem?_eq_getElem hp]
    rfl
theorem Sz.takeE {G : Gr} (h : Sz G) (p : Nat) : Sz (G.takeE p) := ⟨h.ln, Nat.le_trans (List.length_eraseIdx_le _ _) h.le, h.n0, h.n1, h.e0, h.e1⟩
theorem put_back (x : Ed) (s : Nat) (v : Int) : (x.put s v).put s (x.get s) = x := by
  unfold Ed.put Ed.get
  split <;> rfl
theorem Sz.setE {G : Gr} (h : Sz G) (p s : Nat) (v : Int) : Sz (G.setE p s v) := ⟨h.ln, by show (G.es.set p _).length ≤ 5000; rw [List.length_set]; exact h.le, h.n0, h.n1, h.e0, h.e1⟩
theorem Hist.setE {A G : Gr} (h : Hist A G) {p s : Nat} {v : Int} (hp : p < G.es.length) (h2 : s < 2) (hs : Sz G) : Hist A (G.setE p s v) := by
  refine h.step (u := .se p s ((eat G.es p).get s)) (rem_on (G := { G with es := G.es.set p ((eat G.es p).put s v) }) h.ms _) rfl ?_ (hs.setE p s v) ⟨rfl, ?_, rfl, rfl⟩
  · show p < (G.es.set p ((eat G.es p).put s v)).length ∧ s < 2
    rw [List.length_set]
    exact ⟨hp, h2⟩
  · show (G.es.set p ((eat G.es p).put s v)).set p ((eat (G.es.set p ((eat G.es p).put s v)) p).put s ((eat G.es p).get s)) = G.es
    rw [eat_set2 hp, if_pos rfl, put_back, List.set_set]
    apply List.ext_getElem?
    intro k
    rw [List.getElem?_set]
    split
    · next hk =>
      subst hk
      unfold eat
      rw [List.getD_eq_getElem?_getD, List.getElem?_eq_getElem hp]
      simp
    · rfl
theorem Hist.mrk {A G : Gr} (h : Hist A G) : Hist A (mrkG G) := by
  unfold mrkG
  split
  · exact h
  · have hbk : ∀ j, Core (Gr.bk { G with lm := G.lm + 1, ms := G.ms ++ [(G.lm + 1, G.dn.length)] } j) (G.bk j) := by
      intro j
      induction j with
      | zero => exact ⟨rfl, rfl, rfl, rfl⟩
      | succ j ih => exact ih.undo _
    refine ⟨h.len, h.pre, fun k h1 h2 => ?_, (hbk _).trans h.core, ?_, h.some⟩
    · have hf := h.fit k h1 h2
      exact Gr.fit_of (hbk _) hf.can ⟨hf.ln, hf.le, hf.n0, hf.n1, hf.e0, hf.e1⟩
    · obtain ⟨r, hr⟩ := h.mks
      exact ⟨r ++ [(G.lm + 1, G.dn.length)], by show G.ms ++ _ = _; rw [hr, List.append_assoc]⟩
theorem Hist.addN {N : Int} {A G : Gr} (h : Hist A G) (hf : Fine N G) (hN : N ≤ 800000000) : Hist A (addN G) := by
  have hF := hf.addN
  revert hF
  unfold Go.Proofs.Ytgfiofogcnnkhaa.addN
  split
  · exact fun _ => h
  · exact fun hF => h.layN (hF.sz (by omega))
theorem Hist.addE {N : Int} {A G : Gr} (h : Hist A G) (hf : Fine N G) (hN : N ≤ 800000000) (u v : Int) : Hist A (addE G u v) := by
  have hF := hf.addE u v
  revert hF
  unfold Go.Proofs.Ytgfiofogcnnkhaa.addE
  split
  · exact fun hF => h.layE u v (hF.sz (by omega))
  · exact fun _ => h
theorem Hist.dc {N : Int} {A G : Gr} (h : Hist A G) (hf : Fine N G) (hN : N ≤ 800000000) (e : Int) : Hist A (dcG G e) := by
  unfold dcG
  split
  · next hm =>
    obtain ⟨m1, _⟩ := pl_mem hf.ue hm
    rw [eids_length] at m1
    exact h.takeE m1 (hf.sz (by omega))
  · exact h
theorem Hist.mv {N : Int} {A G : Gr} (h : Hist A G) (hf : Fine N G) (hN : N ≤ 800000000) (e sd v : Int) : Hist A (mvG G e sd v) := by
  unfold mvG
  split
  · next h0 =>
    unfold mvE at h0
    split at h0
    · next hm =>
      obtain ⟨m1, _⟩ := pl_mem hf.ue hm.1
      rw [eids_length] at m1
      exact h.setE m1 (by omega) (hf.sz (by omega))
    · omega
  · exact h
theorem Hist.dr {N : Int} {A G : Gr} (h : Hist A G) (hf : Fine N G) (hN : N ≤ 800000000) (v : Int) : Hist A (drG G v) := by
  unfold drG
  split
  · next hm =>
    obtain ⟨m1, _⟩ := pl_mem hf.un hm
    have key : ∀ t, t ≤ (plAt G v).length → Hist A (dpE G ((plAt G v).drop ((plAt G v).length - t))) := by
      intro t
      induction t with
      | zero => intro _; rw [Nat.sub_zero, List.drop_of_length_le (Nat.le_refl _)]; exact h
      | succ t ih =>
        intro ht
        have ih := ih (by omega)
        have e : (plAt G v).length - t = ((plAt G v).length - (t + 1)) + 1 := by omega
        rw [e] at ih
        rw [dpE_drop G (show (plAt G v).length - (t + 1) < (plAt G v).length by omega)]
        exact ih.takeE (dpE_can G v (by omega)) ((hf.dp _).sz (by omega))
    have k2 := key (plAt G v).length (Nat.le_refl _)
    rw [Nat.sub_self, List.drop_zero] at k2
    exact k2.takeN (by rw [(dpE_rest G _).1]; exact m1) ((hf.dp _).sz (by omega))
  · exact h
theorem Hist.spl {N : Int} {A G : Gr} (h : Hist A G) (hf : Fine N G) (hN : N ≤ 800000000) (e : Int) : Hist A (splG G e) := by
  unfold splG
  split
  · next h0 =>
    unfold splE at h0
    split at h0
    · next hm =>
      split at h0
      · omega
      · next hb =>
        obtain ⟨m1, _⟩ := pl_mem hf.ue hm
        rw [eids_length] at m1
        have s1 : Sz G.layN := (hf.layN (by omega)).sz (by omega)
        have h1 := h.layN s1
        have h2 : Hist A (G.layN.setE (pl (eids G.es) e) 1 G.nn) := h1.setE m1 (by omega) s1
        refine h2.layE _ _ ⟨s1.ln, ?_, s1.n0, s1.n1, ?_, ?_⟩
        · show ((G.es.set _ _) ++ [_]).length ≤ 5000
          rw [List.length_append, List.length_set]
          have := hf.le
          simp
          omega
        · show 0 ≤ G.ne + 1
          have := hf.e1
          omega
        · show G.ne + 1 ≤ 1000000000
          have := hf.e2
          omega
    · omega
  · exact h
theorem Hist.un {N : Int} {A G : Gr} (h : Hist A G) (hf : Fine N G) (hN : N ≤ 800000000) (v : Int) : Hist A (unG G v) := by
  unfold unG
  split
  · next h0 =>
    unfold unE at h0
    split at h0
    · next hm =>
      split at h0
      · next hb =>
        have h2 : (plAt G v).length = 2 := by
          by_cases h2 : (plAt G v).length = 2
          · exact h2
          · unfold btwB at hb; rw [decide_eq_false h2] at hb; cases hb
        obtain ⟨p0, p1, hp, h01, h1l⟩ := plAt_two h2
        obtain ⟨m1, _⟩ := pl_mem hf.un hm
        have hu0 : un0 G v = p0 := by unfold un0; rw [hp]; rfl
        have hu1 : un1 G v = p1 := by unfold un1; rw [hp]; rfl
        have s0 := hf.sz (show N ≤ 900000000 by omega)
        unfold unD
        rw [hu0, hu1]
        have a1 := h.setE (v := (eat G.es p1).far v) (show p0 < G.es.length by omega) (side_lt (eat G.es p0) v) s0
        have s1 := s0.setE p0 ((eat G.es p0).side v) ((eat G.es p1).far v)
        have a2 := a1.takeE (p := p1) (by show p1 < (G.es.set _ _).length; rw [List.length_set]; exact h1l) s1
        exact a2.takeN m1 (s1.takeE p1)
      · omega
    · omega
  · exact h
end Go.Proofs.Ytgfiofogcnnkhaa
