/- Split, in every world. -/
import Derived.Test.YtllkadgpkbaghaaN6
import Derived.Laws.IdiomCopy
namespace Go.Proofs.Ytllkadgpkbaghaa
open Go.RowKit Go.Sort
open Go


theorem owns_setCells {base g cap n : Nat} {e : TypeId} {size : Nat} : ∀ (vs : List Value) (o : Nat) (w : World) (xs : List Value), w.ownsRow base e size (.slice (some ⟨g, 0, none⟩) n cap) n xs → o + vs.length ≤ xs.length → (w.setCells g o vs).ownsRow base e size (.slice (some ⟨g, 0, none⟩) n cap) n (xs.take o ++ vs ++ xs.drop (o + vs.length))
  | [], o, w, xs, h, _ => by
    simp only [World.setCells, List.append_nil, List.length_nil, Nat.add_zero, List.take_append_drop]
    exact h
  | v :: r, o, w, xs, h, hl => by
    have hl' : o + (r.length + 1) ≤ xs.length := by simpa using hl
    have ih := owns_setCells (base := base) (g := g) (cap := cap) (n := n) (e := e) (size := size) r (o + 1) (w.setCell ⟨g, o, none⟩ v) (xs.set o v) (World.ownsRow.stored h o v).1 (by rw [List.length_set]; omega)
    simp only [World.setCells]
    rw [list_seg_step xs o v r hl'] at ih
    exact ih
theorem grown_setCells {g : Nat} : ∀ (vs : List Value) (o : Nat) (w w0 : World) (B : Nat), Below B w0 w → B ≤ g → Below B w0 (w.setCells g o vs)
  | [], _, _, _, _, h, _ => h
  | v :: r, o, w, w0, B, h, hB => grown_setCells r (o + 1) _ w0 B (h.setCell (by exact hB) v) hB
theorem cells_one : ∀ (ps : List Pt), ∀ v ∈ cells ps, v.oneCell' = true
  | [], v, h => by simp [cells] at h
  | p :: r, v, h => by
    simp only [cells, List.mem_cons] at h
    rcases h with rfl | rfl | h
    · rfl
    · rfl
    · exact cells_one r v h
theorem run_copy22 (w : World) (ty : TypeId) (base g b off cp : Nat) (es : List Pt) (hsrc : Lies w b off es) (hR : PRow w base g (es.length + 1) (List.replicate (es.length + 1) ⟨0, 0⟩)) :
    (Builtin.copy_ #[22, 22] ty #[.slice (some ⟨g, 0, none⟩) (es.length + 1) (es.length + 1), .slice (some ⟨b, off, none⟩) es.length cp]).run Try.prog w = .ok (goInt es.length) (w.setCells g 0 (cells es)) ∧ PRow (w.setCells g 0 (cells es)) base g (es.length + 1) (es ++ [⟨0, 0⟩]) := by
  have hcl := cells_length es
  have hlist : ∀ j v, (cells es)[j]? = some v → w.cell? ((⟨b, off, none⟩ : Addr).add j) = some v := by
    intro j v hj
    have hjl : j < es.length * 2 := by
      have := (List.getElem?_eq_some_iff.1 hj).1
      omega
    rw [Go.WideShapes.add_plain]
    rcases Nat.mod_two_eq_zero_or_one j with h | h
    · obtain ⟨i, rfl⟩ : ∃ i, j = i * 2 := ⟨j / 2, by omega⟩
      have k := (cells_at es i (by omega)).1
      rw [k] at hj
      cases hj
      exact (hsrc i (by omega)).1
    · obtain ⟨i, rfl⟩ : ∃ i, j = i * 2 + 1 := ⟨j / 2, by omega⟩
      have k := (cells_at es i (by omega)).2
      rw [k] at hj
      cases hj
      rw [show off + (i * 2 + 1) = off + i * 2 + 1 by omega]
      exact (hsrc i (by omega)).2
  have hl := run_loadCells_list (P := Try.prog) w ⟨b, off, none⟩ (cells es) hlist
  have hrow : w.ownsRow base 64 2 (.slice (some ⟨g, 0, none⟩) (es.length + 1) (es.length + 1)) (es.length + 1) (cells (List.replicate (es.length + 1) ⟨0, 0⟩)) := by
    have := hR.2
    unfold Owns at this
    rw [hR.1] at this
    exact this
  have hrl : (cells (List.replicate (es.length + 1) (⟨0, 0⟩ : Pt))).length = (es.length + 1) * 2 := by rw [cells_length, List.length_replicate]
  have hst := run_storeCells_cells (P := Try.prog) g 0 (cells es) 0 w (fun j hj => by
    rw [Nat.zero_add, World.ownsRow.cellAt hrow j (by omega), List.getElem?_eq_getElem (by omega)]
    rfl) (fun j _ => by rw [Nat.zero_add]; exact World.ownsRow.frozenAt hrow j) (cells_one es)
  obtain ⟨i0, hi0, hz0, hz1, hz2⟩ := info_parts info60
  refine ⟨?_, ?_⟩
  · have hmin : Nat.min es.length (es.length + 1) = es.length := by show min _ _ = _; omega
    rw [hcl] at hl
    simp [Builtin.copy_, run_underlying Try.underlying22, Builtin.lenOf, Builtin.firstCells, sizeOf, typeInfo, hi0, hz1, hmin, hl, hst]
  · refine ⟨by simp, ?_⟩
    have k := owns_setCells (cells es) 0 w _ hrow (by omega)
    rw [Nat.zero_add, List.take_zero, List.nil_append, cells_zero, hcl, List.drop_replicate, show (es.length + 1) * 2 - es.length * 2 = 2 by omega] at k
    unfold Owns
    rw [cells_append, List.length_append]
    exact k
def splitE (n : Int) (es : List Pt) (e : Int) : Int := if netB n es then (if belowB e es.length then (if fitsB (n + 1) ((es.length : Int) + 1) then 0 else 3) else 2) else 1
def splitL (n : Int) (es : List Pt) (e : Nat) : List Pt := ((es ++ [(⟨0, 0⟩ : Pt)]).set e ⟨(at' es e).x, n⟩).set es.length ⟨n, (at' es e).y⟩
theorem splitL_length (n : Int) (es : List Pt) (e : Nat) : (splitL n es e).length = es.length + 1 := by simp [splitL]
def SplitPost (n : Int) (es : List Pt) (e0 : Int) (w : World) (e : Ending) (w' : World) : Prop :=
  (splitE n es e0 = 0 ∧ ∃ g, e = .returned (.tuple #[nv (n + 1) (some ⟨g, 0, none⟩) (es.length + 1) (es.length + 1), .int .i64 0]) ∧ PRow w' w.heap.size g (es.length + 1) (splitL n es e0.toNat)) ∨ (splitE n es e0 ≠ 0 ∧ e = .returned (.tuple #[nv 0 none 0 0, .int .i64 (splitE n es e0)]))
theorem splitE_is {n : Int} {es : List Pt} {e : Int} (h : splitE n es e = 0) : netB n es = true ∧ (0 ≤ e ∧ e < es.length) ∧ n + 1 ≤ 1024 ∧ (es.length : Int) + 1 ≤ 3072 := by
  unfold splitE at h
  by_cases k : netB n es = true
  · rw [if_pos k] at h
    by_cases k2 : belowB e es.length = true
    · rw [if_pos k2] at h
      by_cases k3 : fitsB (n + 1) ((es.length : Int) + 1) = true
      · simp [fitsB] at k3
        exact ⟨k, belowB_is k2, k3.1, by omega⟩
      · rw [if_neg k3] at h; omega
    · rw [if_neg k2] at h; omega
  · rw [if_neg k] at h; omega

end Go.Proofs.Ytllkadgpkbaghaa
