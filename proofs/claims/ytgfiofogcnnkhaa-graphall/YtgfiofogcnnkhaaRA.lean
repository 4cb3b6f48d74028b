/- What Unsplit leaves, pure. -/
import Derived.Test.YtgfiofogcnnkhaaR8
namespace Go.Proofs.Ytgfiofogcnnkhaa
open Go.RowKit Go.Sort
open Go

theorem eat_erase (l : List Ed) (p j : Nat) : eat (l.eraseIdx p) j = if j < p then eat l j else eat l (j + 1) := by
  unfold eat
  rw [List.getD_eq_getElem?_getD, List.getElem?_eraseIdx]
  split <;> rw [List.getD_eq_getElem?_getD]
theorem eat_set2 {l : List Ed} {i j : Nat} {x : Ed} (h : j < l.length) : eat (l.set i x) j = if i = j then x else eat l j := by
  unfold eat
  rw [List.getD_eq_getElem?_getD, List.getD_eq_getElem?_getD, List.getElem?_set]
  by_cases hij : i = j
  · subst hij
    simp [h]
  · rw [if_neg hij, if_neg hij]
def unH (G : Gr) (v : Int) (p0 p1 : Nat) : Gr := { G with es := G.es.set p0 ((eat G.es p0).put ((eat G.es p0).side v) ((eat G.es p1).far v)) }
theorem far_ne {x : Ed} {v : Int} (h : x.a ≠ x.b) : x.far v ≠ v := by
  unfold Ed.far
  split
  · next h1 => exact fun e => h (h1.trans e.symm)
  · next h1 => exact h1
theorem put_not {x : Ed} {v u : Int} (h : x.a ≠ x.b) (hu : u ≠ v) : ¬ ((x.put (x.side v) u).a = v ∨ (x.put (x.side v) u).b = v) := by
  unfold Ed.side Ed.put
  by_cases h1 : x.a = v
  · simp [h1, hu]
    exact fun e => h (h1.trans e.symm)
  · simp [h1, hu]
theorem un_core {G : Gr} {v : Int} {p0 p1 : Nat} (hue : Up (eids G.es)) (hm : v ∈ G.ns) (hp : plAt G v = [(p0 : Int), (p1 : Int)]) (h0 : p0 < p1) (h1 : p1 < G.es.length) (hx : (eat G.es p0).a ≠ (eat G.es p0).b) (hy : (eat G.es p1).a ≠ (eat G.es p1).b) :
    Up (eids (unH G v p0 p1).es) ∧ (unH G v p0 p1).es.length = G.es.length ∧ dcE (unH G v p0 p1) (eat G.es p1).id = 0 ∧ dcG (unH G v p0 p1) (eat G.es p1).id = (unH G v p0 p1).takeE p1 ∧ drG ((unH G v p0 p1).takeE p1) v = ((unH G v p0 p1).takeE p1).takeN (pl G.ns v) := by
  have e1 : eids (unH G v p0 p1).es = eids G.es := eids_put _ _ _ _
  have hl : (unH G v p0 p1).es.length = G.es.length := List.length_set
  have hiat : iat (eids G.es) p1 = (eat G.es p1).id := eids_at h1
  have hpl : pl (eids G.es) (eat G.es p1).id = p1 := by rw [← hiat]; exact pl_of hue (by rw [eids_length]; exact h1)
  have hin : (eat G.es p1).id ∈ eids G.es := by
    rw [← hiat]
    unfold iat
    rw [List.getD_eq_getElem?_getD, List.getElem?_eq_getElem (by rw [eids_length]; exact h1)]
    exact List.getElem_mem _
  refine ⟨by rw [e1]; exact hue, hl, by unfold dcE; rw [e1, if_pos hin], by unfold dcG; rw [e1, if_pos hin, hpl], ?_⟩
  have hno : plAt ((unH G v p0 p1).takeE p1) v = [] := by
    rw [List.eq_nil_iff_forall_not_mem]
    intro z hz
    obtain ⟨j, hj, _, ht⟩ := atN_mem.1 hz
    have hes : ((unH G v p0 p1).takeE p1).es = (unH G v p0 p1).es.eraseIdx p1 := rfl
    have key : ∀ k, k < G.es.length → k ≠ p1 → ¬ ((eat (unH G v p0 p1).es k).a = v ∨ (eat (unH G v p0 p1).es k).b = v) := by
      intro k hk hk1
      show ¬ ((eat (G.es.set p0 _) k).a = v ∨ (eat (G.es.set p0 _) k).b = v)
      rw [eat_set2 hk]
      split
      · exact put_not hx (far_ne hy)
      · next hk0 =>
        intro ht
        have : (k : Int) ∈ plAt G v := atN_mem.2 ⟨k, hk, rfl, ht⟩
        rw [hp] at this
        simp at this
        omega
    rw [hes] at hj ht
    rw [List.length_eraseIdx, hl, if_pos h1] at hj
    rw [eat_erase] at ht
    split at ht
    · exact key j (by omega) (by omega) ht
    · exact key (j + 1) (by omega) (by omega) ht
  unfold drG
  rw [if_pos (show v ∈ ((unH G v p0 p1).takeE p1).ns from hm), hno]
  rfl
theorem un_bad {G : Gr} {v : Int} {k : Nat} (hk : k < G.es.length) (ha : (eat G.es k).a = v) (hb : (eat G.es k).b = v) : btwB G v = false := by
  by_cases h2 : (plAt G v).length = 2
  · obtain ⟨p0, p1, hp, _, _⟩ := plAt_two h2
    have : (k : Int) ∈ plAt G v := atN_mem.2 ⟨k, hk, rfl, Or.inl ha⟩
    rw [hp] at this
    unfold btwB
    rw [hp]
    have e0 : (iat [(p0 : Int), (p1 : Int)] 0).toNat = p0 := rfl
    have e1 : (iat [(p0 : Int), (p1 : Int)] 1).toNat = p1 := rfl
    rw [e0, e1]
    simp at this
    rcases this with h | h
    · have h' : p0 = k := by omega
      rw [h']
      simp [ha, hb]
    · have h' : p1 = k := by omega
      rw [h']
      simp [ha, hb]
  · unfold btwB
    rw [decide_eq_false h2]
    rfl
end Go.Proofs.Ytgfiofogcnnkhaa
