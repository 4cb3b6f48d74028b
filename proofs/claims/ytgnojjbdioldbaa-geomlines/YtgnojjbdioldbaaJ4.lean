/- The segments of any polyline; the ends that two have in common. -/
import Derived.Test.YtgnojjbdioldbaaJ3
import Derived.Deep.RegionHeld3
namespace Go.Proofs.Ytgnojjbdioldbaa
open Go.RowKit Go.Sort
open Go

theorem below_drewJ (w : World) : Below w.heap.size w w.drew := by go_grown
def segN (ps : List Pt) : Nat := if ps.length = 1 then 1 else ps.length - 1
def segZ (ps : List Pt) (j : Nat) : Pt := if ps.length = 1 then at' ps 0 else at' ps (j + 1)
set_option maxRecDepth 100000 in
set_option maxHeartbeats 4000000 in
theorem segments46one (b off cap : Nat) (y : Pt) (w : World) (c0 : w.cell? ⟨b, off, none⟩ = some (.int .i64 y.x)) (c1 : w.cell? ⟨b, off + 1, none⟩ = some (.int .i64 y.y)) : Calls Try.prog 46 #[.slice (some ⟨b, off, none⟩) 1 cap] w fun e w' => ∃ g c : Nat, e = .returned (.slice (some ⟨g, 0, none⟩) 1 c) ∧ SegAt w' g 0 y y ∧ Below w.heap.size w w' := by
  have SK : ∀ V, Below w.heap.size w V → V.cell? ⟨b, off, none⟩ = some (.int .i64 y.x) ∧ V.cell? ⟨b, off + 1, none⟩ = some (.int .i64 y.y) := fun V hB => ⟨later hB c0, later hB c1⟩
  have SK' := hide SK
  clear SK
  go_enter Try.func46, Try.ntmps46
  go_upto_region 2 with fail
  go_region_held3 (fun V => V.cell? ⟨b, off, none⟩ = some (.int .i64 y.x) ∧ V.cell? ⟨b, off + 1, none⟩ = some (.int .i64 y.y))
    (first | exact SK'.out _ (below_drewJ _) | exact SK'.out _ (by go_grown))
    (fail)
  rename_i hHeld
  clear hHeld
  go_wp2_with fail
  go_ret
  refine ⟨w.heap.size, 1, rfl, ⟨by go_cell, by go_cell, by go_cell, by go_cell⟩, by go_grown⟩
theorem segments46all (b off cap : Nat) (ps : List Pt) (w : World) (h1 : 0 < ps.length) (hl : ps.length ≤ 4096) (h : Lies w b off ps) : Calls Try.prog 46 #[.slice (some ⟨b, off, none⟩) ps.length cap] w fun e w' => ∃ g c : Nat, e = .returned (.slice (some ⟨g, 0, none⟩) (segN ps) c) ∧ (∀ j, j < segN ps → SegAt w' g j (at' ps j) (segZ ps j)) ∧ Below w.heap.size w w' := by
  by_cases h2 : ps.length = 1
  · obtain ⟨c0, c1⟩ := h 0 h1
    have e1 : segN ps = 1 := by unfold segN; rw [if_pos h2]
    rw [h2, e1]
    refine (segments46one b off cap (at' ps 0) w (by simpa using c0) (by simpa using c1)).mono ?_
    rintro e w' ⟨g, c, rfl, hs, hb⟩
    refine ⟨g, c, rfl, fun j hj => ?_, hb⟩
    have hj0 : j = 0 := by omega
    subst hj0
    unfold segZ
    rw [if_pos h2]
    exact hs
  · have e1 : segN ps = ps.length - 1 := by unfold segN; rw [if_neg h2]
    rw [e1]
    refine (segments46 b off cap ps w (by omega) hl h).mono ?_
    rintro e w' ⟨g, c, rfl, _, hs, hb⟩
    refine ⟨g, c, rfl, fun j hj => ?_, hb⟩
    unfold segZ
    rw [if_neg h2]
    exact hs j hj
def two (y z : Pt) (i : Nat) : Pt := if i = 0 then y else z
def endsN (y z u v : Pt) : Nat → List Pt
  | 0 => []
  | i + 1 => endsN y z u v i ++ if two y z i = u ∨ two y z i = v then [two y z i] else []
theorem endsN_length (y z u v : Pt) : ∀ i, (endsN y z u v i).length ≤ i
  | 0 => by simp [endsN]
  | i + 1 => by
    have := endsN_length y z u v i
    simp only [endsN, List.length_append]
    split <;> simp <;> omega
def endL (p q : List Pt) : List Pt := endsN (at' p 0) (at' p (p.length - 1)) (at' q 0) (at' q (q.length - 1)) 2
theorem endL_mem {p q : List Pt} {e : Pt} : e ∈ endL p q ↔ (e = at' p 0 ∨ e = at' p (p.length - 1)) ∧ (e = at' q 0 ∨ e = at' q (q.length - 1)) := by
  unfold endL
  simp only [endsN, two, List.nil_append, List.mem_append, if_true, Nat.one_ne_zero, if_false]
  constructor
  · rintro (h | h)
    · split at h
      · rename_i k
        simp at h
        subst h
        exact ⟨Or.inl rfl, k⟩
      · simp at h
    · split at h
      · rename_i k
        simp at h
        subst h
        exact ⟨Or.inr rfl, k⟩
      · simp at h
  · rintro ⟨rfl | rfl, h⟩
    · left; rw [if_pos h]; simp
    · right; rw [if_pos h]; simp
theorem index90a (y z : Pt) (w : World) : (Instr.index 90 (.agg #[.int .i64 y.x, .int .i64 y.y, .int .i64 z.x, .int .i64 z.y]) (.int .i64 0)).run Try.prog w = .ok (pv y.x y.y) w := by kernel_rfl
theorem index90b (y z : Pt) (w : World) : (Instr.index 90 (.agg #[.int .i64 y.x, .int .i64 y.y, .int .i64 z.x, .int .i64 z.y]) (.int .i64 1)).run Try.prog w = .ok (pv z.x z.y) w := by kernel_rfl
end Go.Proofs.Ytgnojjbdioldbaa
