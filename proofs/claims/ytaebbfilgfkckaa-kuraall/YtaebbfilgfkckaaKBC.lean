/- Numbers that lie in memory, appended (carried). -/
import Derived.Test.YtaebbfilgfkckaaNC
namespace Go.Proofs.Ytaebbfilgfkckaa
open Go.RowKit Go.Sort
open Go

/-- Numbers behind numbers. -/
theorem append_ints {w : World} {base : Nat} {v : Value} {l : List Int} (ho : IOwns w base v l) (p : Option Addr) (cap : Nat) (qs : List Int) (hnil : p = none → cap = 0) (hq : IHas w p qs) (hb : base ≤ w.heap.size) (hl : l.length + qs.length ≤ 90000) :
    ∃ v' w', (Builtin.append_ #[25, 25] 25 #[v, .slice p qs.length cap]).run Try.prog w = .ok v' w' ∧ IOwns w' base v' (l ++ qs) ∧ w.grownBy w' v.ownBlock := by
  obtain ⟨i0, hi0, hz0, hz1, hz2⟩ := info_parts info3
  cases p with
  | none =>
    have hqs : qs = [] := by
      rcases hq with h | ⟨b, off, h, _⟩
      · exact h
      · cases h
    subst hqs
    rw [hnil rfl]
    exact ⟨v, w, run_append_owned_none (P := Try.prog) (w := w) base 25 25 3 i0 1 Try.underlying25 hi0 v l.length (icells l) ho, by rw [List.append_nil]; exact ho, grownBy_refl _ _⟩
  | some a =>
    have hnews : ∀ j u, (icells qs)[j]? = some u → w.cell? (a.add j) = some u := by
      rcases hq with h | ⟨b, off, h, hL⟩
      · subst h; intro j u hj; simp [icells] at hj
      · cases h
        intro j u hj
        rw [icells, List.getElem?_map] at hj
        cases hq2 : qs[j]? with
        | none => rw [hq2] at hj; cases hj
        | some x =>
          rw [hq2] at hj
          cases hj
          have hjl : j < qs.length := (List.getElem?_eq_some_iff.1 hq2).1
          rw [Go.WideShapes.add_plain, hL j hjl]
          unfold iat
          rw [List.getD_eq_getElem?_getD, hq2]
          rfl
    obtain ⟨v', w', h1, h2, h3, _⟩ := run_append_own (P := Try.prog) w base 25 25 3 i0 (.int .i64 0) 1 8 Try.underlying25 hi0 hz0 hz1 hz2 rfl (by decide) v l.length (icells l) ho a qs.length cap (icells qs) (by simp [icells]) hnews (by intro u hu; rw [icells, List.mem_map] at hu; obtain ⟨x, _, rfl⟩ := hu; rfl) (by unfold maxLen; omega) (by omega) hb
    refine ⟨v', w', h1, ?_, h3⟩
    unfold IOwns
    rw [List.length_append, show icells (l ++ qs) = icells l ++ icells qs by simp [icells]]
    exact h2
end Go.Proofs.Ytaebbfilgfkckaa
