/- Stacked triangulations: no loop, no two edges alike, each triangle's nodes joined. -/
import Derived.Test.YtncnghbkdbhpbaaV1
import Derived.Test.YtncnghbkdbhpbaaF4
namespace Go.Proofs.Ytncnghbkdbhpbaa
open Go.RowKit Go.Sort
open Go

def Jn (es : List Pt) (a b : Int) : Prop := (⟨a, b⟩ : Pt) ∈ es ∨ (⟨b, a⟩ : Pt) ∈ es
theorem Jn.more {es : List Pt} {a b : Int} (h : Jn es a b) (l : List Pt) : Jn (es ++ l) a b := by
  rcases h with h | h
  · exact Or.inl (List.mem_append_left _ h)
  · exact Or.inr (List.mem_append_left _ h)
theorem Jn.flip {es : List Pt} {a b : Int} (h : Jn es a b) : Jn es b a := Or.symm h
theorem nodup_snoc {l : List Pt} {q : Pt} (h : l.Nodup) (hq : q ∉ l) : (l ++ [q]).Nodup := by
  rw [List.nodup_append]
  refine ⟨h, by simp, ?_⟩
  intro a ha b hb
  simp at hb
  subst hb
  rintro rfl
  exact hq ha
theorem prP_new {es : List Pt} {v a : Int} (hes : ∀ p, p ∈ es → p.x < v ∧ p.y < v) : (⟨a, v⟩ : Pt) ∉ es.map prP := by
  intro h
  obtain ⟨p, hp, e⟩ := List.mem_map.1 h
  have hb := hes p hp
  unfold prP at e
  split at e
  · have := congrArg Pt.y e
    simp at this
    omega
  · have := congrArg Pt.y e
    simp at this
    omega
theorem prP_edge {v a : Int} (h : a < v) : prP ⟨v, a⟩ = ⟨a, v⟩ := by unfold prP; rw [if_pos h]
def Tg (es : List Pt) (t : Tr) : Prop := t.a ≠ t.b ∧ t.b ≠ t.c ∧ t.c ≠ t.a ∧ Jn es t.a t.b ∧ Jn es t.b t.c ∧ Jn es t.c t.a
theorem stk_good (seed : Int) (j : Nat) : (∀ t, t ∈ (stk seed j).ts → Tg (stk seed j).es t) ∧ (∀ p, p ∈ (stk seed j).es → p.x ≠ p.y) ∧ ((stk seed j).es.map prP).Nodup := by
  induction j with
  | zero =>
    refine ⟨?_, ?_, ?_⟩
    · intro t ht
      simp [stk] at ht
      rcases ht with rfl | rfl <;> simp [Tg, Jn, stk]
    · intro p hp
      simp [stk] at hp
      rcases hp with rfl | rfl | rfl <;> simp
    · simp only [stk]
      decide
  | succ k ih =>
    obtain ⟨i1, i2, i3⟩ := ih
    obtain ⟨b1, b2⟩ := stk_in seed k
    have hd := drawS_lt (nextS (stk seed k).st) (stk seed k).ts.length (by rw [(stk_length seed k).1]; omega)
    have hx := i1 _ (tat_mem hd)
    have hb := b1 _ (tat_mem hd)
    obtain ⟨x, hxe⟩ : ∃ x, tat (stk seed k).ts (drawS (nextS (stk seed k).st) (stk seed k).ts.length) = x := ⟨_, rfl⟩
    rw [hxe] at hx hb
    obtain ⟨n1, n2, n3, j1, j2, j3⟩ := hx
    have hS : (stk seed (k + 1)).es = (stk seed k).es ++ [⟨3 + k, x.a⟩] ++ [⟨3 + k, x.b⟩] ++ [⟨3 + k, x.c⟩] := by simp only [stk, hxe]
    have hT : (stk seed (k + 1)).ts = (stk seed k).ts.set (drawS (nextS (stk seed k).st) (stk seed k).ts.length) ⟨x.a, x.b, 3 + k⟩ ++ [⟨x.b, x.c, 3 + k⟩, ⟨x.c, x.a, 3 + k⟩] := by simp only [stk, hxe]
    rw [hS, hT]
    obtain ⟨E, hE⟩ : ∃ E, (stk seed k).es = E := ⟨_, rfl⟩
    rw [hE] at i1 i2 i3 b2 j1 j2 j3 ⊢
    have va : Jn (E ++ [⟨3 + k, x.a⟩] ++ [⟨3 + k, x.b⟩] ++ [⟨3 + k, x.c⟩]) (3 + k) x.a := Or.inl (by simp)
    have vb : Jn (E ++ [⟨3 + k, x.a⟩] ++ [⟨3 + k, x.b⟩] ++ [⟨3 + k, x.c⟩]) (3 + k) x.b := Or.inl (by simp)
    have vc : Jn (E ++ [⟨3 + k, x.a⟩] ++ [⟨3 + k, x.b⟩] ++ [⟨3 + k, x.c⟩]) (3 + k) x.c := Or.inl (by simp)
    have up : ∀ a b, Jn E a b → Jn (E ++ [⟨3 + k, x.a⟩] ++ [⟨3 + k, x.b⟩] ++ [⟨3 + k, x.c⟩]) a b := fun a b h => ((h.more _).more _).more _
    refine ⟨?_, ?_, ?_⟩
    · intro t ht
      rcases List.mem_append.1 ht with ht | ht
      · rcases List.mem_or_eq_of_mem_set ht with h | rfl
        · obtain ⟨m1, m2, m3, m4, m5, m6⟩ := i1 t h
          exact ⟨m1, m2, m3, up _ _ m4, up _ _ m5, up _ _ m6⟩
        · exact ⟨n1, by simp only []; omega, by simp only []; omega, up _ _ j1, vb.flip, va⟩
      · simp at ht
        rcases ht with rfl | rfl
        · exact ⟨n2, by simp only []; omega, by simp only []; omega, up _ _ j2, vc.flip, vb⟩
        · exact ⟨n3, by simp only []; omega, by simp only []; omega, up _ _ j3, va.flip, vc⟩
    · intro p hp
      simp only [List.mem_append, List.mem_singleton] at hp
      rcases hp with ((hp | rfl) | rfl) | rfl
      · exact i2 p hp
      · simp only []; omega
      · simp only []; omega
      · simp only []; omega
    · have hn : ∀ a, (⟨a, 3 + k⟩ : Pt) ∉ E.map prP := fun a => prP_new fun p hp => by have := b2 p hp; omega
      simp only [List.map_append, List.map_cons, List.map_nil]
      rw [prP_edge (show x.a < 3 + (k : Int) by omega), prP_edge (show x.b < 3 + (k : Int) by omega), prP_edge (show x.c < 3 + (k : Int) by omega)]
      refine nodup_snoc (nodup_snoc (nodup_snoc i3 (hn _)) ?_) ?_
      · intro h
        rcases List.mem_append.1 h with h | h
        · exact hn _ h
        · simp at h; omega
      · intro h
        rcases List.mem_append.1 h with h | h
        · rcases List.mem_append.1 h with h | h
          · exact hn _ h
          · simp at h; omega
        · simp at h; omega
theorem par_none {es : List Pt} (h : (es.map prP).Nodup) (e : Nat) (he : e < es.length) : parB es e = false := by
  refine parB_no fun i hi hc => ?_
  have h1 : i < (es.map prP).length := by simp; omega
  have h2 : e < (es.map prP).length := by simp; omega
  have hne := List.pairwise_iff_getElem.1 h i e h1 h2 hi
  have e1 : at' es i = es[i] := by unfold at'; rw [List.getD_eq_getElem?_getD, List.getElem?_eq_getElem (by omega)]; rfl
  have e2 : at' es e = es[e] := by unfold at'; rw [List.getD_eq_getElem?_getD, List.getElem?_eq_getElem he]; rfl
  rw [e1, e2] at hc
  simp only [List.getElem_map] at hne
  exact hne hc
end Go.Proofs.Ytncnghbkdbhpbaa
