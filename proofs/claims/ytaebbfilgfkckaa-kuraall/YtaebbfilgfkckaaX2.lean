/- The document's blank and To. -/
import Derived.Test.YtaebbfilgfkckaaV2
import Derived.Maps.AppendAt
/- Numbers appended one by one; rows of numbers: a slice of slices that grow, each in a block of its own. -/
namespace Go.Proofs.Ytaebbfilgfkckaa
open Go.RowKit Go.Sort
open Go


theorem row_apart {w : World} {g : Nat} {cur : Array Value} {ty : TypeId} {fz : Nat × Nat} {base e size n : Nat} {v : Value} {xs : List Value} (h : w.heap[g]? = some (.cells cur ty fz)) (o : w.ownsRow base e size v n xs) (he : e ≠ ty) : v.ownBlock ≠ some g := by
  intro hc
  obtain ⟨_, ⟨k1, _⟩ | ⟨g2, c2, cur2, k1, _, k2, _⟩⟩ := o
  · rw [k1] at hc; simp [Value.ownBlock] at hc
  · rw [k1] at hc
    simp only [Value.ownBlock, Option.some.injEq] at hc
    rw [hc, h] at k2
    cases k2
    exact he rfl
theorem append_int {w : World} {base k : Nat} {v : Value} {l : List Int} {x : Int} (o : IOwns w base v l) (hk : w.cell? ⟨k, 0, none⟩ = some (.int .i64 x)) (hb : base ≤ w.heap.size) (hl : l.length ≤ 90000) :
    ∃ v' w', (Builtin.append_ #[25, 25] 25 #[v, .slice (some ⟨k, 0, none⟩) 1 1]).run Try.prog w = .ok v' w' ∧ IOwns w' base v' (l ++ [x]) ∧ w.grownBy w' v.ownBlock ∧ (v'.ownBlock = v.ownBlock ∨ v'.ownBlock = some w.heap.size) := by
  obtain ⟨i0, hi0, hz0, hz1, hz2⟩ := info_parts info3
  have hnews : ∀ j u, [Value.int .i64 x][j]? = some u → w.cell? ((⟨k, 0, none⟩ : Addr).add j) = some u := by
    intro j u hj
    cases j with
    | zero => simp at hj; subst hj; exact hk
    | succ k => simp at hj
  obtain ⟨v', w', h1, h2, h3, _, h5⟩ := run_append_own_at (P := Try.prog) w base 25 25 3 i0 (.int .i64 0) 1 8 Try.underlying25 hi0 hz0 hz1 hz2 rfl (by decide) v l.length (icells l) o ⟨k, 0, none⟩ 1 1 [.int .i64 x] rfl hnews (by simp [Value.oneCell']) (by unfold maxLen; omega) (by omega) hb
  exact ⟨v', w', h1, iowns_more h2, h3, h5⟩
theorem one_int (w : World) (x : Int) : (w.alloc (.cells #[.int .i64 x] 3)).cell? ⟨w.heap.size, 0, none⟩ = some (.int .i64 x) := by go_cell
def upd {α : Type} (f : Nat → α) (a : Nat) (x : α) : Nat → α := fun v => if v = a then x else f v
theorem upd_same {α : Type} (f : Nat → α) (a : Nat) (x : α) : upd f a x a = x := by simp [upd]
theorem upd_other {α : Type} (f : Nat → α) {a b : Nat} (x : α) (h : b ≠ a) : upd f a x b = f b := by simp [upd, h]
def Rows (w : World) (B g n : Nat) (rv : Nat → Value) (L : Nat → List Int) : Prop :=
  w.ownsRow B 25 1 (.slice (some ⟨g, 0, none⟩) n n) n ((List.range n).map rv) ∧
  (∀ u v k, u < n → v < n → (rv u).ownBlock = some k → (rv v).ownBlock = some k → u = v) ∧
  ∀ v, v < n → IOwns w B (rv v) (L v)
theorem row_kind {w : World} {B e size g n c : Nat} {m : Nat} {xs : List Value} (h : w.ownsRow B e size (.slice (some ⟨g, 0, none⟩) n c) m xs) : ∃ cur, w.heap[g]? = some (.cells cur e (0, 0)) := by
  obtain ⟨_, ⟨h1, _⟩ | ⟨g1, c1, cur1, h1, h2, h3, _⟩⟩ := h
  · cases h1
  simp only [Value.slice.injEq, Option.some.injEq, Addr.mk.injEq] at h1
  rw [h1.1.1]
  exact ⟨_, h3⟩
theorem Rows.cell {w : World} {B g n v : Nat} {rv : Nat → Value} {L : Nat → List Int} (h : Rows w B g n rv L) (hv : v < n) : w.cell? ⟨g, v, none⟩ = some (rv v) ∧ w.frozen? ⟨g, v, none⟩ = false := by
  refine ⟨?_, World.ownsRow.frozenAt h.1 v⟩
  rw [World.ownsRow.cellAt h.1 v (by omega)]
  simp [hv]
theorem Rows.later {w w' : World} {B g n : Nat} {rv : Nat → Value} {L : Nat → List Int} (h : Rows w B g n rv L) (hb : Below w.heap.size w w') : Rows w' B g n rv L :=
  ⟨World.ownsRow.kept h.1 (grown_below hb) (Or.inr (by simp [Value.ownBlock])), h.2.1, fun v hv => (h.2.2 v hv).later hb⟩
theorem Rows.base {w : World} {B B' g n : Nat} {rv : Nat → Value} {L : Nat → List Int} (h : Rows w B g n rv L) (hb : B' ≤ B) : Rows w B' g n rv L :=
  ⟨owns_base h.1 hb, h.2.1, fun v hv => (h.2.2 v hv).base hb⟩
theorem Rows.size {w : World} {B g n : Nat} {rv : Nat → Value} {L : Nat → List Int} (h : Rows w B g n rv L) : B ≤ g ∧ g < w.heap.size := World.ownsRow.lt h.1 g rfl
/-- A number behind a row. -/
theorem Rows.put {w w' : World} {B g n a : Nat} {rv : Nat → Value} {L : Nat → List Int} {x : Int} {v' : Value} (h : Rows w B g n rv L) (ha : a < n) (o : IOwns w' B v' (L a ++ [x])) (gr : w.grownBy w' (rv a).ownBlock) (hv : v'.ownBlock = (rv a).ownBlock ∨ v'.ownBlock = some w.heap.size) :
    Rows (w'.setCell ⟨g, a, none⟩ v') B g n (upd rv a v') (upd L a (L a ++ [x])) := by
  obtain ⟨h1, h2, h3⟩ := h
  obtain ⟨cur, hg⟩ := row_kind h1
  have hap : (rv a).ownBlock ≠ some g := row_apart hg (h3 a ha) (by decide)
  have h1' := World.ownsRow.kept h1 gr (Or.inr (fun e => hap e.symm))
  obtain ⟨cur', hg'⟩ := row_kind h1'
  refine ⟨?_, ?_, ?_⟩
  · have q := (World.ownsRow.stored h1' a v').1
    rw [show ((List.range n).map (upd rv a v')) = ((List.range n).map rv).set a v' from ?_]
    · exact q
    apply List.ext_getElem
    · simp
    intro i h4 h5
    simp only [List.getElem_map, List.getElem_range, List.getElem_set]
    by_cases hia : a = i
    · subst hia; simp [upd]
    · rw [if_neg hia, upd_other _ _ (fun e => hia e.symm)]
  · intro u v k hu hv' e1 e2
    by_cases hua : u = a <;> by_cases hva : v = a
    · omega
    · rw [hua, upd_same] at e1
      rw [upd_other _ _ hva] at e2
      rcases hv with h | h
      · rw [h] at e1
        rw [hua]
        exact h2 a v k ha hv' e1 e2
      · rw [h] at e1
        have := (World.ownsRow.lt (h3 v hv') k e2).2
        injection e1 with e1
        omega
    · rw [hva, upd_same] at e2
      rw [upd_other _ _ hua] at e1
      rcases hv with h | h
      · rw [h] at e2
        rw [hva]
        exact h2 u a k hu ha e1 e2
      · rw [h] at e2
        have := (World.ownsRow.lt (h3 u hu) k e1).2
        injection e2 with e2
        omega
    · rw [upd_other _ _ hua] at e1
      rw [upd_other _ _ hva] at e2
      exact h2 u v k hu hv' e1 e2
  · intro v hv'
    by_cases hva : v = a
    · rw [hva, upd_same, upd_same]
      exact ownsRow_setCell_other (a := ⟨g, a, none⟩) o (row_apart hg' o (by decide)) _
    · rw [upd_other _ _ hva, upd_other _ _ hva]
      have k1 : IOwns w' B (rv v) (L v) := by
        refine World.ownsRow.kept (h3 v hv') gr ?_
        cases hb : (rv v).ownBlock with
        | none => exact Or.inl rfl
        | some k => exact Or.inr (fun e => hva (h2 v a k hv' ha hb e.symm))
      exact ownsRow_setCell_other (a := ⟨g, a, none⟩) k1 (row_apart hg' k1 (by decide)) _
/-- The half-edges below h that leave v, rising. -/
def outL (es : List Pt) (h v : Nat) : List Int := ((List.range h).filter fun k => decide (fromL es k = (v : Int))).map fun (k : Nat) => (k : Int)
theorem outL_more (es : List Pt) (h : Nat) {x : Nat} (hx : fromL es h = x) : outL es (h + 1) = upd (outL es h) x (outL es h x ++ [(h : Int)]) := by
  funext v
  unfold upd outL
  rw [List.range_succ, List.filter_append, List.map_append]
  by_cases hv : v = x
  · subst hv; simp [hx]
  · have : ¬ (x : Int) = v := by omega
    simp [hx, hv, this]
theorem outL_zero (es : List Pt) (v : Nat) : outL es 0 v = [] := rfl
theorem outL_length (es : List Pt) (h v : Nat) : (outL es h v).length ≤ h := by
  unfold outL
  rw [List.length_map]
  exact Nat.le_trans (List.length_filter_le _ _) (by simp)
theorem outL_at {es : List Pt} {h v j : Nat} (hj : j < (outL es h v).length) : ∃ k : Nat, iat (outL es h v) j = k ∧ k < h ∧ fromL es k = v := by
  have hm := iat_mem hj
  unfold outL at hm
  obtain ⟨k, hk, he⟩ := List.mem_map.1 hm
  obtain ⟨h1, h2⟩ := List.mem_filter.1 hk
  refine ⟨k, he.symm, by simpa using h1, by simpa using h2⟩
theorem outL_mem {es : List Pt} {h v k : Nat} (hk : k < h) (hf : fromL es k = v) : ∃ j, j < (outL es h v).length ∧ iat (outL es h v) j = k := by
  apply mem_iat
  unfold outL
  exact List.mem_map.2 ⟨k, List.mem_filter.2 ⟨by simpa using hk, by simpa using hf⟩, rfl⟩
end Go.Proofs.Ytaebbfilgfkckaa

namespace Go.Proofs.Ytaebbfilgfkckaa
open Go.RowKit Go.Sort
open Go


/-- The end of an edge that a half-edge comes to. -/
def toL (es : List Pt) (h : Nat) : Int := if h % 2 = 0 then (at' es (h / 2)).y else (at' es (h / 2)).x
theorem toL_in {m : Int} {es : List Pt} (hm : netB m es = true) (h : Nat) (hl : h < 2 * es.length) : 0 ≤ toL es h ∧ toL es h < m := by
  obtain ⟨_, _, _, hE⟩ := netB_is hm
  have := hE (h / 2) (by omega)
  unfold toL
  split <;> omega
set_option maxHeartbeats 1000000 in
theorem to43 (n : Int) (p : Option Addr) (es : List Pt) (cap h : Nat) (w : World) (hh : Has w p es) (hl : h < 2 * es.length) (hb : es.length ≤ 100000) : Calls Try.prog 36 #[nv n p es.length cap, .int .i64 h] w fun e w' => e = .returned (.int .i64 (toL es h)) ∧ Below w.heap.size w w' := by
  have hk : h / 2 < es.length := by omega
  rcases hh with h0 | ⟨b, off, rfl, hL⟩
  · subst h0; simp at hk
  obtain ⟨c0, c1⟩ := hL (h / 2) hk
  have zb : b < w.heap.size := block_lt_of_cell c0
  have hd : Int.tdiv (h : Int) 2 = ((h / 2 : Nat) : Int) := by rw [Int.tdiv_eq_ediv_of_nonneg (by omega)]; exact (Int.natCast_ediv h 2).symm
  have hr : Int.tmod (h : Int) 2 = ((h % 2 : Nat) : Int) := by rw [Int.tmod_eq_emod_of_nonneg (by omega)]; exact (Int.natCast_emod h 2).symm
  have HF : Hid (toL es h = if h % 2 = 0 then (at' es (h / 2)).y else (at' es (h / 2)).x) := rfl
  obtain ⟨x, hx⟩ : ∃ x, at' es (h / 2) = x := ⟨_, rfl⟩
  rw [hx] at c0 c1 HF
  have hr2 : h % 2 < 2 := by omega
  have hkl : h / 2 ≤ 100000 := by omega
  obtain ⟨q, hq⟩ : ∃ q, h / 2 = q := ⟨_, rfl⟩
  obtain ⟨r, hre⟩ : ∃ r, h % 2 = r := ⟨_, rfl⟩
  rw [hq] at c0 c1 hd hk hkl
  rw [hre] at hr HF hr2
  have i1 : (q : Int) < es.length := by omega
  have i2 : (0 : Int) ≤ q := by omega
  clear hx hL hq hre
  have h01 : r = 0 ∨ r = 1 := by omega
  rcases h01 with rfl | rfl
  · go_enter Try.func36, Try.ntmps36
    go_wp2
    go_ret
    exact ⟨retI (by rw [HF.out]; simp), by go_grown⟩
  · go_enter Try.func36, Try.ntmps36
    go_wp2
    go_ret
    exact ⟨retI (by rw [HF.out]; simp), by go_grown⟩
/-- So many of a number, as far as they are laid. -/
def fillL (n k : Nat) (x : Int) : List Int := List.replicate k x ++ List.replicate (n - k) 0
theorem fillL_length (n k : Nat) (x : Int) (h : k ≤ n) : (fillL n k x).length = n := by simp [fillL]; omega
theorem fillL_set (n k : Nat) (x : Int) (h : k < n) : (fillL n k x).set k x = fillL n (k + 1) x := by
  unfold fillL
  rw [List.set_append_right _ _ (by simp), List.length_replicate, Nat.sub_self, show n - k = (n - (k + 1)) + 1 by omega, List.replicate_succ, List.set_cons_zero, List.replicate_succ' (n := k), List.append_assoc]
  rfl
end Go.Proofs.Ytaebbfilgfkckaa
