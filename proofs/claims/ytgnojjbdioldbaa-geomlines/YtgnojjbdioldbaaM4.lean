/- What the sorted places of points are: all of them, one ahead of the next. -/
import Derived.Test.YtgnojjbdioldbaaM2
import Derived.Test.YtgnojjbdioldbaaShelf
import Derived.Test.YtgnojjbdioldbaaG13
namespace Go.Proofs.Ytgnojjbdioldbaa
open Go.RowKit Go.Sort Go.Proofs
open Go

def cfA (o : Pt) (ps : List Pt) (m : Nat) (x y : Fin (m + 1)) : Int := aroundI o ps x.val y.val
def encA (m : Nat) (x : Fin (m + 1)) : Value := .int .i64 (x.val : Int)

section
variable {o : Pt} {ps : List Pt} {m : Nat} (ho : ptB o = true) (hps : mayB ps = true) (hn : o ∉ ps) (hm : ps.length = m + 1)
include ho hps hn hm
omit ho in
theorem okA (x : Fin (m + 1)) : ptB (at' ps x.val) = true ∧ at' ps x.val ≠ o := by
  have h : x.val < ps.length := by omega
  exact ⟨mayB_at hps h, fun e => hn (e ▸ at_mem h)⟩
theorem ltA (x y : Fin (m + 1)) : ltOf (cfA o ps m) x y = true ↔ fullLt o ps x.val y.val := by
  unfold ltOf cfA
  rw [decide_eq_true_eq]
  exact around_neg ho (okA hps hn hm x).1 (okA hps hn hm y).1
theorem ltA_false (x y : Fin (m + 1)) : ltOf (cfA o ps m) x y = false ↔ ¬ fullLt o ps x.val y.val := by
  rw [← ltA ho hps hn hm, Bool.not_eq_true]
omit ho in
theorem transA (x y z : Fin (m + 1)) (h1 : fullLt o ps x.val y.val) (h2 : fullLt o ps y.val z.val) : fullLt o ps x.val z.val :=
  full_trans (okA hps hn hm x).2 (okA hps hn hm y).2 (okA hps hn hm z).2 h1 h2
theorem totA (x y : Fin (m + 1)) (h1 : ltOf (cfA o ps m) x y = false) (h2 : ltOf (cfA o ps m) y x = false) : x = y := by
  rw [ltA_false ho hps hn hm] at h1 h2
  rcases full_three o ps x.val y.val with h | h | h
  · exact absurd h h1
  · exact Fin.ext h
  · exact absurd h h2
theorem swoA : SWO (ltOf (cfA o ps m)) where
  irrefl x := by rw [ltA_false ho hps hn hm]; exact full_irrefl _ _ _
  trans x y z h1 h2 := by
    rw [ltA ho hps hn hm] at h1 h2 ⊢
    exact transA hps hn hm x y z h1 h2
  ntrans x y z h1 h2 := by
    rw [ltA_false ho hps hn hm] at h1 h2 ⊢
    intro k
    rcases full_three o ps x.val y.val with h | h | h
    · exact h1 h
    · have e : x = y := Fin.ext h
      subst e
      exact h2 k
    · exact h2 (transA hps hn hm y x z h k)
theorem sortedA : (((List.finRange (m + 1)).mergeSort fun x y => !(ltOf (cfA o ps m)) y x).map Fin.val).Perm (List.range ps.length) ∧ (((List.finRange (m + 1)).mergeSort fun x y => !(ltOf (cfA o ps m)) y x).map Fin.val).Pairwise (fullLt o ps) := by
  have S := swoA ho hps hn hm
  have hperm : ((List.finRange (m + 1)).mergeSort fun x y => !(ltOf (cfA o ps m)) y x).Perm (List.finRange (m + 1)) := List.mergeSort_perm _ _
  refine ⟨?_, ?_⟩
  · refine (hperm.map Fin.val).trans ?_
    rw [hm]
    exact List.Perm.of_eq (List.ext_getElem (by simp) (by intros; simp))
  · rw [List.pairwise_map]
    have hnd : ((List.finRange (m + 1)).mergeSort fun x y => !(ltOf (cfA o ps m)) y x).Nodup := hperm.nodup_iff.2 (List.nodup_finRange _)
    have hp : ((List.finRange (m + 1)).mergeSort fun x y => !(ltOf (cfA o ps m)) y x).Pairwise (fun x y => (!(ltOf (cfA o ps m)) y x) = true) := List.pairwise_mergeSort (le := fun x y => !(ltOf (cfA o ps m)) y x)
      (fun a b c h1 h2 => by
        simp only [Bool.not_eq_true'] at h1 h2 ⊢
        exact S.ntrans _ _ _ h2 h1)
      (fun a b => by
        cases h1 : ltOf (cfA o ps m) b a
        · rfl
        · cases h2 : ltOf (cfA o ps m) a b
          · rfl
          · have := S.trans _ _ _ h1 h2
            rw [S.irrefl] at this
            cases this) _
    refine (hp.and hnd).imp ?_
    rintro x y ⟨h1, h2⟩
    rw [Bool.not_eq_true', ltA_false ho hps hn hm] at h1
    rcases full_three o ps x.val y.val with h | h | h
    · exact h
    · exact absurd (Fin.ext h) h2
    · exact absurd h h1
end
theorem sort_below {α : Type} [Inhabited α] (enc : α → Value) (w : World) (blk off m : Nat) (dk : Array α) (os : Array Obj) (hblk : blk < w.heap.size) : Below blk w (sortWorld enc w blk off m dk os) := by
  refine ⟨rfl, rfl, rfl, ?_, fun k hk => ?_⟩
  · simp [sortWorld, grow, putRow, mapBlock]
  · simp only [sortWorld, grow, putRow, mapBlock]
    rw [Array.getElem?_append_left (by simp; omega), Array.getElem?_modify, if_neg (by omega)]
    rfl
theorem rise_grow {W w' : World} (h : Rise W w') : ∃ q os', w' = grow (W.drewN q) os' := by
  obtain ⟨⟨d, os⟩, e⟩ := regrown_of_below h.b
  refine ⟨d - W.drawn, os, ?_⟩
  have hd := h.d
  rw [e] at hd ⊢
  have hd' : W.drawn ≤ d := hd
  unfold grow redrawn World.drewN
  simp only
  congr 1
  omega
theorem sort_size {α : Type} [Inhabited α] (enc : α → Value) (w : World) (blk off m : Nat) (dk : Array α) (os : Array Obj) : w.heap.size ≤ (sortWorld enc w blk off m dk os).heap.size := by
  simp [sortWorld, grow, putRow, mapBlock]
end Go.Proofs.Ytgnojjbdioldbaa
