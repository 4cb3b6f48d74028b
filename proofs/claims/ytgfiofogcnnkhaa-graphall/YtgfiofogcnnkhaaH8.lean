/- Pure: a graph as it should be, and that each change leaves it so. -/
import Derived.Test.YtgfiofogcnnkhaaH7
namespace Go.Proofs.Ytgfiofogcnnkhaa
open Go.RowKit Go.Sort
open Go

theorem eat_mem {l : List Ed} {j : Nat} (h : j < l.length) : eat l j ∈ l := by
  unfold eat
  rw [List.getD_eq_getElem?_getD, List.getElem?_eq_getElem h]
  exact List.getElem_mem h
theorem mem_eat {l : List Ed} {e : Ed} (h : e ∈ l) : ∃ j, j < l.length ∧ eat l j = e := by
  obtain ⟨j, hj, e⟩ := List.getElem_of_mem h
  exact ⟨j, hj, by unfold eat; rw [List.getD_eq_getElem?_getD, List.getElem?_eq_getElem hj]; exact e⟩
theorem pl_of {l : List Int} (h : Up l) {k : Nat} (hk : k < l.length) : pl l (iat l k) = k :=
  srch_end (by omega) (fun t ht => h.lt ht hk) (fun t h1 h2 => by
    rcases Nat.lt_or_ge k t with h3 | h3
    · have := h.lt h3 h2; omega
    · have : t = k := by omega
      rw [this]; exact Int.le_refl _)
structure Fine (N : Int) (G : Gr) : Prop where
  un : Up G.ns
  ue : Up (eids G.es)
  ln : G.ns.length ≤ 1024
  le : G.es.length ≤ 3072
  bn : ∀ x ∈ G.ns, 1 ≤ x ∧ x < G.nn
  be : ∀ e ∈ G.es, 1 ≤ e.id ∧ e.id < G.ne ∧ e.a ∈ G.ns ∧ e.b ∈ G.ns
  n1 : 1 ≤ G.nn
  n2 : G.nn ≤ N
  e1 : 1 ≤ G.ne
  e2 : G.ne ≤ N
theorem Fine.mono {N N' : Int} {G : Gr} (h : Fine N G) (hN : N ≤ N') : Fine N' G := ⟨h.un, h.ue, h.ln, h.le, h.bn, h.be, h.n1, Int.le_trans h.n2 hN, h.e1, Int.le_trans h.e2 hN⟩
theorem Fine.rem {N : Int} {G : Gr} (h : Fine N G) (u : Un) : Fine N (G.rem u) := ⟨h.un, h.ue, h.ln, h.le, h.bn, h.be, h.n1, h.n2, h.e1, h.e2⟩
theorem up_more {l : List Int} {x : Int} (h : Up l) (hx : ∀ y ∈ l, y < x) : Up (l ++ [x]) := by
  unfold Up at h ⊢
  rw [List.pairwise_append]
  exact ⟨h, by simp, fun a ha b hb => by rw [List.mem_singleton] at hb; rw [hb]; exact hx a ha⟩
theorem Fine.layN {N : Int} {G : Gr} (h : Fine N G) (hl : G.ns.length < 1024) : Fine (N + 1) G.layN := by
  refine Fine.rem (G := { G with ns := G.ns ++ [G.nn], nn := G.nn + 1 }) ⟨up_more h.un (fun y hy => (h.bn y hy).2), h.ue, by simp; omega, h.le, fun x hx => ?_, fun e he => ?_, by have := h.n1; show 1 ≤ G.nn + 1; omega, by have := h.n2; show G.nn + 1 ≤ N + 1; omega, h.e1, by have := h.e2; show G.ne ≤ N + 1; omega⟩ .n
  · show 1 ≤ x ∧ x < G.nn + 1
    rcases List.mem_append.1 hx with hx | hx
    · have := h.bn x hx; omega
    · rw [List.mem_singleton] at hx
      have := h.n1
      omega
  · obtain ⟨h1, h2, h3, h4⟩ := h.be e he
    exact ⟨h1, h2, List.mem_append_left _ h3, List.mem_append_left _ h4⟩
theorem Fine.layE {N : Int} {G : Gr} (h : Fine N G) (hl : G.es.length < 3072) {u v : Int} (hu : u ∈ G.ns) (hv : v ∈ G.ns) : Fine (N + 1) (G.layE u v) := by
  refine Fine.rem (G := { G with es := G.es ++ [⟨G.ne, u, v⟩], ne := G.ne + 1 }) ⟨h.un, ?_, h.ln, by simp; omega, h.bn, fun e he => ?_, h.n1, by have := h.n2; show G.nn ≤ N + 1; omega, by have := h.e1; show 1 ≤ G.ne + 1; omega, by have := h.e2; show G.ne + 1 ≤ N + 1; omega⟩ .e
  · show Up (eids (G.es ++ [⟨G.ne, u, v⟩]))
    unfold eids
    rw [List.map_append]
    refine up_more h.ue (fun y hy => ?_)
    obtain ⟨e, he, rfl⟩ := List.mem_map.1 hy
    exact (h.be e he).2.1
  · show 1 ≤ e.id ∧ e.id < G.ne + 1 ∧ e.a ∈ G.ns ∧ e.b ∈ G.ns
    rcases List.mem_append.1 he with he | he
    · obtain ⟨h1, h2, h3, h4⟩ := h.be e he
      exact ⟨h1, by omega, h3, h4⟩
    · rw [List.mem_singleton] at he
      have := h.e1
      subst he
      exact ⟨by show 1 ≤ G.ne; omega, by show G.ne < G.ne + 1; omega, hu, hv⟩
theorem Fine.takeE {N : Int} {G : Gr} (h : Fine N G) (p : Nat) : Fine N (G.takeE p) := by
  have hs : (G.es.eraseIdx p).Sublist G.es := List.eraseIdx_sublist _ _
  exact Fine.rem (G := { G with es := G.es.eraseIdx p }) ⟨h.un, List.Pairwise.sublist (hs.map _) h.ue, h.ln, Nat.le_trans hs.length_le h.le, h.bn, fun e he => h.be e (hs.subset he), h.n1, h.n2, h.e1, h.e2⟩ _
theorem put_id (x : Ed) (s : Nat) (v : Int) : (x.put s v).id = x.id := by unfold Ed.put; split <;> rfl
theorem eids_put (l : List Ed) (p s : Nat) (v : Int) : eids (l.set p ((eat l p).put s v)) = eids l := by
  unfold eids
  rw [List.map_set, put_id]
  by_cases hp : p < l.length
  · apply List.ext_getElem?
    intro j
    rw [List.getElem?_set]
    by_cases hj : p = j
    · subst hj
      rw [if_pos rfl, if_pos (by simpa using hp), List.getElem?_map, List.getElem?_eq_getElem hp]
      unfold eat
      rw [List.getD_eq_getElem?_getD, List.getElem?_eq_getElem hp]
      rfl
    · rw [if_neg hj]
  · rw [List.set_eq_of_length_le (by simp; omega)]
theorem put_ends (x : Ed) (s : Nat) (v : Int) : ((x.put s v).a = x.a ∨ (x.put s v).a = v) ∧ ((x.put s v).b = x.b ∨ (x.put s v).b = v) := by
  unfold Ed.put
  split
  · exact ⟨Or.inr rfl, Or.inl rfl⟩
  · exact ⟨Or.inl rfl, Or.inr rfl⟩
theorem Fine.setE {N : Int} {G : Gr} (h : Fine N G) {p : Nat} (s : Nat) {v : Int} (hp : p < G.es.length) (hv : v ∈ G.ns) : Fine N (G.setE p s v) := by
  refine Fine.rem (G := { G with es := G.es.set p ((eat G.es p).put s v) }) ⟨h.un, by show Up (eids (G.es.set p _)); rw [eids_put]; exact h.ue, h.ln, by rw [List.length_set]; exact h.le, h.bn, fun e he => ?_, h.n1, h.n2, h.e1, h.e2⟩ _
  rcases List.mem_or_eq_of_mem_set he with he | he
  · exact h.be e he
  · obtain ⟨h1, h2, h3, h4⟩ := h.be _ (eat_mem hp)
    obtain ⟨k1, k2⟩ := put_ends (eat G.es p) s v
    rw [he, put_id]
    refine ⟨h1, h2, ?_, ?_⟩
    · rcases k1 with k | k <;> rw [k] <;> assumption
    · rcases k2 with k | k <;> rw [k] <;> assumption
theorem mem_erase {l : List Int} {p : Nat} {x : Int} (hx : x ∈ l) (hne : x ≠ iat l p) : x ∈ l.eraseIdx p := by
  obtain ⟨j, hj, e⟩ := List.getElem_of_mem hx
  rw [List.mem_eraseIdx_iff_getElem]
  refine ⟨j, hj, fun h => hne ?_, e⟩
  subst h
  unfold iat
  rw [List.getD_eq_getElem?_getD, List.getElem?_eq_getElem hj]
  exact e.symm
theorem Fine.takeN {N : Int} {G : Gr} (h : Fine N G) {p : Nat} (hno : ∀ e ∈ G.es, e.a ≠ iat G.ns p ∧ e.b ≠ iat G.ns p) : Fine N (G.takeN p) := by
  have hs : (G.ns.eraseIdx p).Sublist G.ns := List.eraseIdx_sublist _ _
  refine Fine.rem (G := { G with ns := G.ns.eraseIdx p }) ⟨List.Pairwise.sublist hs h.un, h.ue, Nat.le_trans hs.length_le h.ln, h.le, fun x hx => h.bn x (hs.subset hx), fun e he => ?_, h.n1, h.n2, h.e1, h.e2⟩ _
  obtain ⟨h1, h2, h3, h4⟩ := h.be e he
  exact ⟨h1, h2, mem_erase h3 (hno e he).1, mem_erase h4 (hno e he).2⟩
theorem Fine.addN {N : Int} {G : Gr} (h : Fine N G) : Fine (N + 1) (addN G) := by
  unfold Ytgfiofogcnnkhaa.addN
  split
  · exact h.mono (by omega)
  · exact h.layN (by omega)
theorem Fine.addE {N : Int} {G : Gr} (h : Fine N G) (u v : Int) : Fine (N + 1) (addE G u v) := by
  unfold Ytgfiofogcnnkhaa.addE
  split
  · rename_i h0
    unfold addEe at h0
    split at h0
    · rename_i hm
      split at h0
      · omega
      · exact h.layE (by omega) hm.1 hm.2
    · omega
  · exact h.mono (by omega)
theorem Fine.spl {N : Int} {G : Gr} (h : Fine N G) (e : Int) : Fine (N + 2) (splG G e) := by
  unfold splG
  split
  · rename_i h0
    unfold splE at h0
    split at h0
    · rename_i hm
      split at h0
      · omega
      · rename_i hl
        obtain ⟨m1, _⟩ := pl_mem h.ue hm
        rw [eids_length] at m1
        have hn : G.nn ∈ G.layN.ns := List.mem_append_right _ (List.mem_singleton.2 rfl)
        have hF := (h.layN (by omega)).setE (p := pl (eids G.es) e) 1 (v := G.nn) m1 hn
        have hb := (h.be _ (eat_mem m1)).2.2.2
        have := hF.layE (u := G.nn) (v := (eat G.es (pl (eids G.es) e)).b) (by show (G.es.set _ _).length < 3072; rw [List.length_set]; omega) hn (List.mem_append_left _ hb)
        exact this.mono (by omega)
    · omega
  · exact h.mono (by omega)
theorem touch_pl {G : Gr} {v : Int} {j : Nat} (hj : j < G.es.length) (ht : (eat G.es j).a = v ∨ (eat G.es j).b = v) : (j : Int) ∈ plAt G v := atN_mem.2 ⟨j, hj, rfl, ht⟩
theorem Fine.un_ {N : Int} {G : Gr} (h : Fine N G) (v : Int) : Fine N (unG G v) := by
  unfold unG
  split
  · rename_i h0
    unfold unE at h0
    split at h0
    · rename_i hm
      split at h0
      · rename_i hb
        unfold btwB at hb
        simp only [Bool.and_eq_true, decide_eq_true_eq, Bool.not_eq_true', decide_eq_false_iff_not] at hb
        obtain ⟨h2, l0, l1⟩ := hb
        obtain ⟨p0, p1, hp, h01, h1l⟩ := plAt_two h2
        have i0 : iat (plAt G v) 0 = p0 := by rw [hp]; rfl
        have i1 : iat (plAt G v) 1 = p1 := by rw [hp]; rfl
        rw [i0, Int.toNat_natCast] at l0
        rw [i1, Int.toNat_natCast] at l1
        unfold unD un0 un1
        rw [i0, i1, Int.toNat_natCast, Int.toNat_natCast]
        obtain ⟨x0, hx0⟩ : ∃ x, eat G.es p0 = x := ⟨_, rfl⟩
        obtain ⟨x1, hx1⟩ : ∃ x, eat G.es p1 = x := ⟨_, rfl⟩
        have t0 : x0.a = v ∨ x0.b = v := by
          obtain ⟨j, h3, h4, h5⟩ := pl_at (G := G) (v := v) (k := 0) (by omega)
          rw [i0] at h3
          have : p0 = j := by omega
          rw [← this, hx0] at h5
          exact h5
        have t1 : x1.a = v ∨ x1.b = v := by
          obtain ⟨j, h3, h4, h5⟩ := pl_at (G := G) (v := v) (k := 1) (by omega)
          rw [i1] at h3
          have : p1 = j := by omega
          rw [← this, hx1] at h5
          exact h5
        have b1 := (h.be _ (eat_mem h1l)).2.2
        rw [hx1] at b1 l1
        rw [hx0] at l0
        have hfm : x1.far v ∈ G.ns ∧ x1.far v ≠ v := by
          unfold Ed.far
          split
          · rename_i hh; exact ⟨b1.2, fun e => l1 (hh.trans e.symm)⟩
          · rename_i hh; exact ⟨b1.1, hh⟩
        have hF := (h.setE (p := p0) (x0.side v) (v := x1.far v) (by omega) hfm.1).takeE p1
        obtain ⟨m1, m2⟩ := pl_mem h.un hm
        have hF2 := hF.takeN (p := pl G.ns v) (fun e he => by
          show e.a ≠ iat G.ns (pl G.ns v) ∧ e.b ≠ iat G.ns (pl G.ns v)
          rw [m2]
          have he2 : e ∈ (G.es.set p0 ((eat G.es p0).put (x0.side v) (x1.far v))).eraseIdx p1 := he
          rw [List.mem_eraseIdx_iff_getElem] at he2
          obtain ⟨j, hj, hjp, he3⟩ := he2
          rw [List.length_set] at hj
          rw [List.getElem_set] at he3
          by_cases hjp0 : p0 = j
          · rw [if_pos hjp0] at he3
            rw [← he3, hx0]
            unfold Ed.put Ed.side
            by_cases hh : x0.a = v
            · rw [if_pos hh, if_pos rfl]
              exact ⟨hfm.2, fun e => l0 (hh.trans e.symm)⟩
            · rw [if_neg hh, if_neg (by decide)]
              exact ⟨hh, hfm.2⟩
          · rw [if_neg hjp0] at he3
            have he4 : eat G.es j = e := by
              unfold eat
              rw [List.getD_eq_getElem?_getD, List.getElem?_eq_getElem hj]
              exact he3
            have hnt : ¬ ((eat G.es j).a = v ∨ (eat G.es j).b = v) := fun ht => by
              have := touch_pl hj ht
              rw [hp] at this
              simp at this
              omega
            rw [he4] at hnt
            exact ⟨fun e => hnt (Or.inl e), fun e => hnt (Or.inr e)⟩)
        rw [hx0, hx1]
        exact hF2
      · omega
    · omega
  · exact h
end Go.Proofs.Ytgfiofogcnnkhaa
