/- The document's blank and To. -/
import Derived.Test.YtobkejnlkjieoaaZC01
import Derived.Maps.AppendAt
import Derived.Deep.DeepCutAuto
import Derived.Deep.RegionHeld3
import Derived.Lib.QuietBelow
import Derived.BigQuiet
import Derived.Deep.QuietTactic
/- Numbers appended one by one; rows of numbers: a slice of slices that grow, each in a block of its own. -/
namespace Go.Proofs.Ytobkejnlkjieoaa
open Go.RowKit Go.Sort
open Go


theorem row_apart {w : World} {g : Nat} {cur : Array Value} {ty : TypeId} {fz : Nat × Nat} {base e size n : Nat} {v : Value} {xs : List Value} (h : w.heap[g]? = some (.cells cur ty fz)) (o : w.ownsRow base e size v n xs) (he : e ≠ ty) : v.ownBlock ≠ some g := by
  intro hc
  obtain ⟨_, ⟨k1, _⟩ | ⟨g2, c2, cur2, k1, _, k2, _⟩⟩ := o
  · rw [k1] at hc; simp [Value.ownBlock] at hc
  · rw [k1] at hc
    simp only [Value.ownBlock, Option.some.injEq] at hc
    rw [hc, h] at k2
    cases k2
    exact he rfl
theorem append_int {w : World} {base k : Nat} {v : Value} {l : List Int} {x : Int} (o : IOwns w base v l) (hk : w.cell? ⟨k, 0, none⟩ = some (.int .i64 x)) (hb : base ≤ w.heap.size) (hl : l.length ≤ 90000) :
    ∃ v' w', (Builtin.append_ #[32, 32] 32 #[v, .slice (some ⟨k, 0, none⟩) 1 1]).run Try.prog w = .ok v' w' ∧ IOwns w' base v' (l ++ [x]) ∧ w.grownBy w' v.ownBlock ∧ (v'.ownBlock = v.ownBlock ∨ v'.ownBlock = some w.heap.size) := by
  obtain ⟨i0, hi0, hz0, hz1, hz2⟩ := info_parts info3
  have hnews : ∀ j u, [Value.int .i64 x][j]? = some u → w.cell? ((⟨k, 0, none⟩ : Addr).add j) = some u := by
    intro j u hj
    cases j with
    | zero => simp at hj; subst hj; exact hk
    | succ k => simp at hj
  obtain ⟨v', w', h1, h2, h3, _, h5⟩ := run_append_own_at (P := Try.prog) w base 32 32 3 i0 (.int .i64 0) 1 8 Try.underlying32 hi0 hz0 hz1 hz2 rfl (by decide) v l.length (icells l) o ⟨k, 0, none⟩ 1 1 [.int .i64 x] rfl hnews (by simp [Value.oneCell']) (by unfold maxLen; omega) (by omega) hb
  exact ⟨v', w', h1, iowns_more h2, h3, h5⟩
theorem one_int (w : World) (x : Int) : (w.alloc (.cells #[.int .i64 x] 3)).cell? ⟨w.heap.size, 0, none⟩ = some (.int .i64 x) := by go_cell
def upd {α : Type} (f : Nat → α) (a : Nat) (x : α) : Nat → α := fun v => if v = a then x else f v
theorem upd_same {α : Type} (f : Nat → α) (a : Nat) (x : α) : upd f a x a = x := by simp [upd]
theorem upd_other {α : Type} (f : Nat → α) {a b : Nat} (x : α) (h : b ≠ a) : upd f a x b = f b := by simp [upd, h]
def Rows (w : World) (B g n : Nat) (rv : Nat → Value) (L : Nat → List Int) : Prop :=
  w.ownsRow B 32 1 (.slice (some ⟨g, 0, none⟩) n n) n ((List.range n).map rv) ∧
  (∀ u v k, u < n → v < n → (rv u).ownBlock = some k → (rv v).ownBlock = some k → u = v) ∧
  ∀ v, v < n → IOwns w B (rv v) (L v)
theorem row_kind {w : World} {B e size g n c : Nat} {m : Nat} {xs : List Value} (h : w.ownsRow B e size (.slice (some ⟨g, 0, none⟩) n c) m xs) : ∃ cur, w.heap[g]? = some (.cells cur e (0, 0)) := by
  obtain ⟨_, ⟨h1, _⟩ | ⟨g1, c1, cur1, h1, h2, h3, _⟩⟩ := h
  · cases h1
  simp only [Value.slice.injEq, Option.some.injEq, Addr.mk.injEq] at h1
  rw [h1.1.1]
  exact ⟨_, h3⟩
theorem Rows.cell {w : World} {B g n v : Nat} {rv : Nat → Value} {L : Nat → List Int} (h : Rows w B g n rv L) (hv : v < n) : w.cell? ⟨g, v, none⟩ = some (rv v) ∧ w.frozen? ⟨g, v, none⟩ = false := by
  refine ⟨?_, World.ownsRow.frozenAt h.1 v⟩
  rw [World.ownsRow.cellAt h.1 v (by omega)]
  simp [hv]
theorem Rows.later {w w' : World} {B g n : Nat} {rv : Nat → Value} {L : Nat → List Int} (h : Rows w B g n rv L) (hb : Below w.heap.size w w') : Rows w' B g n rv L :=
  ⟨World.ownsRow.kept h.1 (grown_below hb) (Or.inr (by simp [Value.ownBlock])), h.2.1, fun v hv => (h.2.2 v hv).later hb⟩
theorem Rows.base {w : World} {B B' g n : Nat} {rv : Nat → Value} {L : Nat → List Int} (h : Rows w B g n rv L) (hb : B' ≤ B) : Rows w B' g n rv L :=
  ⟨owns_base h.1 hb, h.2.1, fun v hv => (h.2.2 v hv).base hb⟩
theorem Rows.size {w : World} {B g n : Nat} {rv : Nat → Value} {L : Nat → List Int} (h : Rows w B g n rv L) : B ≤ g ∧ g < w.heap.size := World.ownsRow.lt h.1 g rfl
/-- A number behind a row. -/
theorem Rows.put {w w' : World} {B g n a : Nat} {rv : Nat → Value} {L : Nat → List Int} {x : Int} {v' : Value} (h : Rows w B g n rv L) (ha : a < n) (o : IOwns w' B v' (L a ++ [x])) (gr : w.grownBy w' (rv a).ownBlock) (hv : v'.ownBlock = (rv a).ownBlock ∨ v'.ownBlock = some w.heap.size) :
    Rows (w'.setCell ⟨g, a, none⟩ v') B g n (upd rv a v') (upd L a (L a ++ [x])) := by
  obtain ⟨h1, h2, h3⟩ := h
  obtain ⟨cur, hg⟩ := row_kind h1
  have hap : (rv a).ownBlock ≠ some g := row_apart hg (h3 a ha) (by decide)
  have h1' := World.ownsRow.kept h1 gr (Or.inr (fun e => hap e.symm))
  obtain ⟨cur', hg'⟩ := row_kind h1'
  refine ⟨?_, ?_, ?_⟩
  · have q := (World.ownsRow.stored h1' a v').1
    rw [show ((List.range n).map (upd rv a v')) = ((List.range n).map rv).set a v' from ?_]
    · exact q
    apply List.ext_getElem
    · simp
    intro i h4 h5
    simp only [List.getElem_map, List.getElem_range, List.getElem_set]
    by_cases hia : a = i
    · subst hia; simp [upd]
    · rw [if_neg hia, upd_other _ _ (fun e => hia e.symm)]
  · intro u v k hu hv' e1 e2
    by_cases hua : u = a <;> by_cases hva : v = a
    · omega
    · rw [hua, upd_same] at e1
      rw [upd_other _ _ hva] at e2
      rcases hv with h | h
      · rw [h] at e1
        rw [hua]
        exact h2 a v k ha hv' e1 e2
      · rw [h] at e1
        have := (World.ownsRow.lt (h3 v hv') k e2).2
        injection e1 with e1
        omega
    · rw [hva, upd_same] at e2
      rw [upd_other _ _ hua] at e1
      rcases hv with h | h
      · rw [h] at e2
        rw [hva]
        exact h2 u a k hu ha e1 e2
      · rw [h] at e2
        have := (World.ownsRow.lt (h3 u hu) k e1).2
        injection e2 with e2
        omega
    · rw [upd_other _ _ hua] at e1
      rw [upd_other _ _ hva] at e2
      exact h2 u v k hu hv' e1 e2
  · intro v hv'
    by_cases hva : v = a
    · rw [hva, upd_same, upd_same]
      exact ownsRow_setCell_other (a := ⟨g, a, none⟩) o (row_apart hg' o (by decide)) _
    · rw [upd_other _ _ hva, upd_other _ _ hva]
      have k1 : IOwns w' B (rv v) (L v) := by
        refine World.ownsRow.kept (h3 v hv') gr ?_
        cases hb : (rv v).ownBlock with
        | none => exact Or.inl rfl
        | some k => exact Or.inr (fun e => hva (h2 v a k hv' ha hb e.symm))
      exact ownsRow_setCell_other (a := ⟨g, a, none⟩) k1 (row_apart hg' k1 (by decide)) _
/-- The half-edges below h that leave v, rising. -/
def outL (es : List Pt) (h v : Nat) : List Int := ((List.range h).filter fun k => decide (fromL es k = (v : Int))).map fun (k : Nat) => (k : Int)
theorem outL_more (es : List Pt) (h : Nat) {x : Nat} (hx : fromL es h = x) : outL es (h + 1) = upd (outL es h) x (outL es h x ++ [(h : Int)]) := by
  funext v
  unfold upd outL
  rw [List.range_succ, List.filter_append, List.map_append]
  by_cases hv : v = x
  · subst hv; simp [hx]
  · have : ¬ (x : Int) = v := by omega
    simp [hx, hv, this]
theorem outL_zero (es : List Pt) (v : Nat) : outL es 0 v = [] := rfl
theorem outL_length (es : List Pt) (h v : Nat) : (outL es h v).length ≤ h := by
  unfold outL
  rw [List.length_map]
  exact Nat.le_trans (List.length_filter_le _ _) (by simp)
theorem outL_at {es : List Pt} {h v j : Nat} (hj : j < (outL es h v).length) : ∃ k : Nat, iat (outL es h v) j = k ∧ k < h ∧ fromL es k = v := by
  have hm := iat_mem hj
  unfold outL at hm
  obtain ⟨k, hk, he⟩ := List.mem_map.1 hm
  obtain ⟨h1, h2⟩ := List.mem_filter.1 hk
  refine ⟨k, he.symm, by simpa using h1, by simpa using h2⟩
theorem outL_mem {es : List Pt} {h v k : Nat} (hk : k < h) (hf : fromL es k = v) : ∃ j, j < (outL es h v).length ∧ iat (outL es h v) j = k := by
  apply mem_iat
  unfold outL
  exact List.mem_map.2 ⟨k, List.mem_filter.2 ⟨by simpa using hk, by simpa using hf⟩, rfl⟩
end Go.Proofs.Ytobkejnlkjieoaa

namespace Go.Proofs.Ytobkejnlkjieoaa
open Go.RowKit Go.Sort
open Go


/-- The end of an edge that a half-edge comes to. -/
def toL (es : List Pt) (h : Nat) : Int := if h % 2 = 0 then (at' es (h / 2)).y else (at' es (h / 2)).x
theorem toL_in {m : Int} {es : List Pt} (hm : netB m es = true) (h : Nat) (hl : h < 2 * es.length) : 0 ≤ toL es h ∧ toL es h < m := by
  obtain ⟨_, _, _, hE⟩ := netB_is hm
  have := hE (h / 2) (by omega)
  unfold toL
  split <;> omega
set_option maxHeartbeats 1000000 in
theorem to43 (n : Int) (p : Option Addr) (es : List Pt) (cap h : Nat) (w : World) (hh : Has w p es) (hl : h < 2 * es.length) (hb : es.length ≤ 100000) : Calls Try.prog 43 #[nv n p es.length cap, .int .i64 h] w fun e w' => e = .returned (.int .i64 (toL es h)) ∧ Below w.heap.size w w' := by
  have hk : h / 2 < es.length := by omega
  rcases hh with h0 | ⟨b, off, rfl, hL⟩
  · subst h0; simp at hk
  obtain ⟨c0, c1⟩ := hL (h / 2) hk
  have zb : b < w.heap.size := block_lt_of_cell c0
  have hd : Int.tdiv (h : Int) 2 = ((h / 2 : Nat) : Int) := by rw [Int.tdiv_eq_ediv_of_nonneg (by omega)]; exact (Int.natCast_ediv h 2).symm
  have hr : Int.tmod (h : Int) 2 = ((h % 2 : Nat) : Int) := by rw [Int.tmod_eq_emod_of_nonneg (by omega)]; exact (Int.natCast_emod h 2).symm
  have HF : Hid (toL es h = if h % 2 = 0 then (at' es (h / 2)).y else (at' es (h / 2)).x) := rfl
  obtain ⟨x, hx⟩ : ∃ x, at' es (h / 2) = x := ⟨_, rfl⟩
  rw [hx] at c0 c1 HF
  have hr2 : h % 2 < 2 := by omega
  have hkl : h / 2 ≤ 100000 := by omega
  obtain ⟨q, hq⟩ : ∃ q, h / 2 = q := ⟨_, rfl⟩
  obtain ⟨r, hre⟩ : ∃ r, h % 2 = r := ⟨_, rfl⟩
  rw [hq] at c0 c1 hd hk hkl
  rw [hre] at hr HF hr2
  have i1 : (q : Int) < es.length := by omega
  have i2 : (0 : Int) ≤ q := by omega
  clear hx hL hq hre
  have h01 : r = 0 ∨ r = 1 := by omega
  rcases h01 with rfl | rfl
  · go_enter Try.func43, Try.ntmps43
    go_wp2
    go_ret
    exact ⟨retI (by rw [HF.out]; simp), by go_grown⟩
  · go_enter Try.func43, Try.ntmps43
    go_wp2
    go_ret
    exact ⟨retI (by rw [HF.out]; simp), by go_grown⟩
/-- So many of a number, as far as they are laid. -/
def fillL (n k : Nat) (x : Int) : List Int := List.replicate k x ++ List.replicate (n - k) 0
theorem fillL_length (n k : Nat) (x : Int) (h : k ≤ n) : (fillL n k x).length = n := by simp [fillL]; omega
theorem fillL_set (n k : Nat) (x : Int) (h : k < n) : (fillL n k x).set k x = fillL n (k + 1) x := by
  unfold fillL
  rw [List.set_append_right _ _ (by simp), List.length_replicate, Nat.sub_self, show n - k = (n - (k + 1)) + 1 by omega, List.replicate_succ, List.set_cons_zero, List.replicate_succ' (n := k), List.append_assoc]
  rfl
end Go.Proofs.Ytobkejnlkjieoaa

/- The document's Outs: of all nodes the half-edges that leave them. -/
namespace Go.Proofs.Ytobkejnlkjieoaa
open Go.RowKit Go.Sort
open Go


theorem info41 : (Try.prog.info? 32).map (fun i => (i.zero, i.size, i.bytes)) = some (some (.slice none 0 0), 1, 24) := by kernel_rfl
theorem rows_made {w : World} {base g n : Nat} (es : List Pt) (h : w.ownsRow base 32 1 (.slice (some ⟨g, 0, none⟩) n n) n (madeCells #[.slice none 0 0] n).toList) : Rows w base g n (fun _ => .slice none 0 0) (outL es 0) := by
  rw [toList_madeCells_one] at h
  refine ⟨?_, fun u v k _ _ e => by simp [Value.ownBlock] at e, fun v _ => IOwns.nil _ _⟩
  rw [show ((List.range n).map fun _ => Value.slice none 0 0) = List.replicate n (.slice none 0 0) from by apply List.ext_getElem <;> simp]
  exact h
theorem cell_other {U : World} {g j : Nat} {b v : Value} {A : Addr} (h : U.cell? A = some v) (hne : A.block ≠ g) : (U.setCell ⟨g, j, none⟩ b).cell? A = some v := by
  have n2 : (⟨g, j, none⟩ : Addr) ≠ A := fun e => hne (by rw [← e])
  rw [World.cell?_setCell_other _ _ _ _ n2]; exact h
theorem Rows.slot {w w' : World} {B g n a : Nat} {rv : Nat → Value} {L : Nat → List Int} (h : Rows w B g n rv L) (ha : a < n) (gr : w.grownBy w' (rv a).ownBlock) : g < w'.heap.size ∧ w'.cell? ⟨g, a, none⟩ = some (rv a) ∧ w'.frozen? ⟨g, a, none⟩ = false := by
  obtain ⟨h1, _, h3⟩ := h
  obtain ⟨cur, hg⟩ := row_kind h1
  have hap : (rv a).ownBlock ≠ some g := row_apart hg (h3 a ha) (by decide)
  have h1' := World.ownsRow.kept h1 gr (Or.inr (fun e => hap e.symm))
  refine ⟨(World.ownsRow.lt h1' g rfl).2, ?_, World.ownsRow.frozenAt h1' a⟩
  rw [World.ownsRow.cellAt h1' a (by omega)]
  simp [ha]
end Go.Proofs.Ytobkejnlkjieoaa

/- The document's Ints. -/
namespace Go.Proofs.Ytobkejnlkjieoaa
open Go.RowKit Go.Sort
open Go


set_option maxHeartbeats 1000000 in
theorem ints30 (p q : Option Addr) (a b : List Int) (cp cq : Nat) (w : World) (hla : a.length ≤ maxLen) (hp : IHas w p a) (hq : IHas w q b) : Calls Try.prog 19 #[.slice p a.length cp, .slice q b.length cq] w fun e w' => e = .returned (.bool (decide (a = b))) ∧ Below w.heap.size w w' := by
  have H := hide hp
  have K := hide hq
  unfold maxLen at hla
  clear hp hq
  by_cases hl : a.length = b.length
  · go_enter Try.func19, Try.ntmps19
    have hli : ((a.length : Int) == b.length) = true := by simp [hl]
    go_wp2_with fail
    go_loopw [5] (fun t wr => ∃ i : Nat, i ≤ a.length ∧ t = .int .i64 i ∧ Hid (∀ j, j < i → iat a j = iat b j) ∧ Hid (Below w.heap.size w wr)) (fun t _ => a.length - (intOf t).toNat)
    case atStart => exact ⟨0, by omega, rfl, fun j hj => by omega, Below.refl _ _⟩
    case round =>
      obtain ⟨i, hi, rfl, HP, HB⟩ := hrel
      by_cases hlt : i < a.length
      · rcases H.out.later HB.out with h | ⟨b1, o1, rfl, l1⟩
        · subst h; simp at hlt
        rcases K.out.later HB.out with h | ⟨b2, o2, rfl, l2⟩
        · rw [h] at hl; simp at hl; rw [hl] at hlt; simp at hlt
        have c0 := l1 i hlt
        have d0 := l2 i (by omega)
        clear l1 l2
        obtain ⟨x, hx⟩ : ∃ x, iat a i = x := ⟨_, rfl⟩
        obtain ⟨y, hy⟩ : ∃ y, iat b i = y := ⟨_, rfl⟩
        rw [hx] at c0
        rw [hy] at d0
        have e1 : (i : Int) < a.length := by omega
        have e2 : (i : Int) < b.length := by omega
        by_cases hxy : x = y
        · subst hxy
          go_wp2_with fail
          go_quiet (fail)
          go_wp2
          go_roundw
          case rel => exact ⟨i + 1, by omega, by go_num, more HP.out (by rw [hx, hy]), below_drewN HB.out⟩
          case measure => simp [intOf]; omega
        · have hxb : (x == y) = false := by simpa using hxy
          go_wp2_with fail
          go_quiet (fail)
          go_wp2
          go_ret
          refine ⟨retB ?_, below_drewN HB.out⟩
          have hne : a ≠ b := by
            intro e
            subst e
            rw [hx] at hy
            exact absurd hy hxy
          simp [hne]
      · go_wp2
        go_ret
        have : i = a.length := by omega
        subst this
        exact ⟨retB (by simp [iat_ext hl HP.out]), HB.out⟩
  · go_enter Try.func19, Try.ntmps19
    have hli : ((a.length : Int) == b.length) = false := by simp; omega
    go_wp2
    go_ret
    refine ⟨retB ?_, Below.refl _ _⟩
    have hne : a ≠ b := fun e => hl (by rw [e])
    simp [hne]

end Go.Proofs.Ytobkejnlkjieoaa

/- Light, Twin, Kept. -/
namespace Go.Proofs.Ytobkejnlkjieoaa
open Go.RowKit Go.Sort
open Go


set_option maxRecDepth 100000 in
set_option maxHeartbeats 8000000 in
theorem twin11 (n : Int) (p : Option Addr) (es : List Pt) (cp : Nat) (w : World) (hnil : p = none → cp = 0) (hl : es.length ≤ 90000) (h : Has w p es) : Calls Try.prog 10 #[nv n p es.length cp] w fun e w' => ∃ g c, e = .returned (nv n (some ⟨g, 0, none⟩) es.length c) ∧ Owns w' w.heap.size (.slice (some ⟨g, 0, none⟩) (es.length + 1) c) (es ++ [mk]) ∧ es.length + 1 ≤ c ∧ Below w.heap.size w w' := by
  obtain ⟨W, hW, hb, a0, b0⟩ := two_nets w n p es.length cp
  have HB := hide hb
  have HA := hide a0
  have hws : w.heap.size + 1 < W.heap.size := block_lt_of_cell b0.1
  have hW0 := h.later hb
  have hel : (es ++ [mk]).length = es.length + 1 := by simp
  obtain ⟨v1, D1, e1, o1, gr1⟩ := append_prs (w := W.drew) (base := W.heap.size) (v := .slice none 0 0) (l := []) (Owns.nil _ _) p cp es hnil (hW0.later (below_drew _)) (by simp) (by simp; omega)
  have hb1 : Below W.heap.size W D1 := below_grown (w := W.drew) (below_drew _) (Owns.nil W.drew W.heap.size) (Nat.le_refl _) (by simp) gr1
  rw [List.nil_append] at o1
  obtain ⟨q, c, rfl, _, _, _, _⟩ := o1.form
  have hb1' : Below W.heap.size W (D1.alloc (.cells #[.int .i64 (-7), .int .i64 7] 56)) := hb1.alloc hb1.size _
  have o1' := o1.later (w' := D1.alloc (.cells #[.int .i64 (-7), .int .i64 7] 56)) (by go_grown)
  obtain ⟨v2, D2, e2, o2, gr2⟩ := append_prs o1' (some ⟨D1.heap.size, 0, none⟩) 1 [mk] (fun h => by cases h) (Or.inr ⟨_, _, rfl, mk_lies D1 _ rfl⟩) hb1'.size (by simp; omega)
  have hb2 : Below W.heap.size W D2 := below_grown hb1' o1' (Nat.le_refl _) hb1'.size gr2
  obtain ⟨g2, c2, rfl, hc2, _, _⟩ := owns_block o2 (by simp)
  rw [hel] at o2 e2 hc2
  have hbW : Below W.heap.size W (W.alloc (.cells #[.int .i64 (-7), .int .i64 7] 56)).drew := by go_grown
  obtain ⟨v3, F1, e3, o3, gr3⟩ := append_prs (w := (W.alloc (.cells #[.int .i64 (-7), .int .i64 7] 56)).drew) (base := W.heap.size) (v := .slice none 0 0) (l := []) (Owns.nil _ _) p cp es hnil (hW0.later hbW) hbW.size (by simp; omega)
  have hg3 : Below (W.alloc (.cells #[.int .i64 (-7), .int .i64 7] 56)).drew.heap.size (W.alloc (.cells #[.int .i64 (-7), .int .i64 7] 56)).drew F1 := below_grown (Below.refl _ _) (Owns.nil (W.alloc (.cells #[.int .i64 (-7), .int .i64 7] 56)).drew (W.alloc (.cells #[.int .i64 (-7), .int .i64 7] 56)).drew.heap.size) (Nat.le_refl _) (Nat.le_refl _) gr3
  have hb3 : Below W.heap.size W F1 := Below.trans hbW (hg3.mono hbW.size)
  rw [List.nil_append] at o3
  obtain ⟨q3, c3, rfl, _, _, _, _⟩ := o3.form
  obtain ⟨v4, F2, e4, o4, gr4⟩ := append_prs o3 (some ⟨W.heap.size, 0, none⟩) 1 [mk] (fun h => by cases h) (Or.inr ⟨_, _, rfl, ((mk_lies W _ rfl).later (below_drew _)).later hg3⟩) hb3.size (by simp; omega)
  have hb4 : Below W.heap.size W F2 := below_grown hb3 o3 (Nat.le_refl _) hb3.size gr4
  obtain ⟨g4, c4, rfl, hc4, _, _⟩ := owns_block o4 (by simp)
  rw [hel] at o4 e4 hc4
  simp only [List.length_cons, List.length_nil, Nat.zero_add] at e2 e4
  have HO2 := hide o2
  have HO4 := hide o4
  have HN2 := hide (b0.later hb2)
  have HN4 := hide (b0.later hb4)
  have HA1 := hide (a0.later hb1)
  have HA1' := hide (a0.later hb1')
  have HA2 := hide (a0.later hb2)
  have HAW := hide (a0.later hbW)
  have HA3 := hide (a0.later hb3)
  have HA4 := hide (a0.later hb4)
  have HB2 := hide (below_step hb hb2)
  have HB4 := hide (below_step hb hb4)
  have k1 : (es.length : Int) ≤ c2 := by omega
  have k2 : (es.length : Int) ≤ c4 := by omega
  have k3 : (0 : Int) ≤ es.length := by omega
  have zw : w.heap.size < W.heap.size := by omega
  obtain ⟨q0, q1, _, _⟩ := a0
  obtain ⟨r0, r1, r2, r3⟩ := HN2.out
  obtain ⟨s0, s1, s2, s3⟩ := HN4.out
  clear hb h o1 o1' o2 o3 o4 gr1 gr2 gr3 gr4 hb1 hb1' hb2 hb3 hb4 hbW hg3 hW0 b0 hel
  go_enter Try.func10, Try.ntmps10
  go_wp2_with fail
  rw [← hW]
  clear hW
  go_region_held3 (fun W => W.cell? ⟨w.heap.size, 0, none⟩ = some (.int .i64 n) ∧ W.cell? ⟨w.heap.size, 1, none⟩ = some (.slice p es.length cp))
    (first | exact ⟨HA.out.1, HA.out.2.1⟩ | exact ⟨HA1.out.1, HA1.out.2.1⟩ | exact ⟨HA1'.out.1, HA1'.out.2.1⟩ | exact ⟨HA2.out.1, HA2.out.2.1⟩ | exact ⟨HAW.out.1, HAW.out.2.1⟩ | exact ⟨HA3.out.1, HA3.out.2.1⟩ | exact ⟨HA4.out.1, HA4.out.2.1⟩ | exact ⟨other2 HA2.out.1 (by simp), other2 HA2.out.2.1 (by simp)⟩ | exact ⟨other2 HA4.out.1 (by simp), other2 HA4.out.2.1 (by simp)⟩)
    (first | (refine step_run_append (by rfl) (.const (.slice none 0 0)) (.tmp 6) 22 (by rfl) 22 (by rfl) (.slice none 0 0) (.slice p es.length cp) (.slice q es.length c) D1 (by rfl) (by rfl) ?_ ?_; with_reducible exact e1) | (refine step_run_append (by rfl) (.const (.slice none 0 0)) (.tmp 6) 22 (by rfl) 22 (by rfl) (.slice none 0 0) (.slice p es.length cp) (.slice q3 es.length c3) F1 (by rfl) (by rfl) ?_ ?_; with_reducible exact e3) | (refine step_run_append (by rfl) (.tmp 7) (.tmp 9) 22 (by rfl) 22 (by rfl) (.slice q es.length c) (.slice (some ⟨D1.heap.size, 0, none⟩) 1 1) (.slice (some ⟨g2, 0, none⟩) (es.length + 1) c2) D2 (by rfl) (by rfl) ?_ ?_; with_reducible exact e2) | (refine step_run_append (by rfl) (.tmp 7) (.tmp 9) 22 (by rfl) 22 (by rfl) (.slice q3 es.length c3) (.slice (some ⟨W.heap.size, 0, none⟩) 1 1) (.slice (some ⟨g4, 0, none⟩) (es.length + 1) c4) F2 (by rfl) (by rfl) ?_ ?_; with_reducible exact e4))
  all_goals
    rename_i hHeld
    clear hHeld
  · obtain ⟨V, hV⟩ : ∃ V, V = (D2.setCell ⟨w.heap.size + 1, 0, none⟩ (.int .i64 n)).setCell ⟨w.heap.size + 1, 1, none⟩ (.slice (some ⟨g2, 0, none⟩) es.length c2) := ⟨_, rfl⟩
    have kV : NOwn V (w.heap.size + 1) n (some ⟨g2, 0, none⟩) es.length c2 := by rw [hV]; exact HN2.out.set _ _ _ _
    have bV : Below w.heap.size w V := by rw [hV]; exact (HB2.out.setCell (by simp) _).setCell (by simp) _
    have oV : Owns V w.heap.size (.slice (some ⟨g2, 0, none⟩) (es.length + 1) c2) (es ++ [mk]) := by rw [hV]; exact (owns_other (owns_other HO2.out hws _) hws _).base HB.out.size
    rw [← hV]
    go_wp2_with fail
    exact bodyPost_ret (ret_net1 Try.results10 rfl kV) rfl ⟨g2, c2, rfl, oV, hc2, bV⟩
  · obtain ⟨V, hV⟩ : ∃ V, V = (F2.setCell ⟨w.heap.size + 1, 0, none⟩ (.int .i64 n)).setCell ⟨w.heap.size + 1, 1, none⟩ (.slice (some ⟨g4, 0, none⟩) es.length c4) := ⟨_, rfl⟩
    have kV : NOwn V (w.heap.size + 1) n (some ⟨g4, 0, none⟩) es.length c4 := by rw [hV]; exact HN4.out.set _ _ _ _
    have bV : Below w.heap.size w V := by rw [hV]; exact (HB4.out.setCell (by simp) _).setCell (by simp) _
    have oV : Owns V w.heap.size (.slice (some ⟨g4, 0, none⟩) (es.length + 1) c4) (es ++ [mk]) := by rw [hV]; exact (owns_other (owns_other HO4.out hws _) hws _).base HB.out.size
    rw [← hV]
    go_wp2_with fail
    exact bodyPost_ret (ret_net1 Try.results10 rfl kV) rfl ⟨g4, c4, rfl, oV, hc4, bV⟩
theorem lies_left {w : World} {b off : Nat} {a c : List Pt} (h : Lies w b off (a ++ c)) : Lies w b off a := fun j hj => by
  have := h j (by rw [List.length_append]; omega)
  have e : at' (a ++ c) j = at' a j := by unfold at'; rw [List.getD_eq_getElem?_getD, List.getD_eq_getElem?_getD, List.getElem?_append_left hj]
  rw [e] at this
  exact this
theorem at_last (es : List Pt) (p : Pt) : at' (es ++ [p]) es.length = p := by
  unfold at'; rw [List.getD_eq_getElem?_getD, List.getElem?_append_right (Nat.le_refl _)]; simp
set_option maxRecDepth 100000 in
set_option maxHeartbeats 8000000 in
theorem kept17 (n : Int) (g c : Nat) (p : Option Addr) (es : List Pt) (cp : Nat) (w : World) (hl : es.length ≤ 90000) (hc : es.length + 1 ≤ c) (ht : Lies w g 0 (es ++ [mk])) (h : Has w p es) : Calls Try.prog 15 #[nv n (some ⟨g, 0, none⟩) es.length c, nv n p es.length cp] w fun e w' => e = .returned (.bool true) ∧ Below w.heap.size w w' := by
  obtain ⟨U, hU, hb, a0, b0⟩ := two_args w n n (some ⟨g, 0, none⟩) p es.length es.length c cp
  have hm := ht es.length (by simp)
  rw [at_last, Nat.zero_add] at hm
  have m0 : U.cell? ⟨g, es.length * 2, none⟩ = some (.int .i64 (-7)) := later hb hm.1
  have m1 : U.cell? ⟨g, es.length * 2 + 1, none⟩ = some (.int .i64 7) := later hb hm.2
  have HB := hide hb
  have hT := hide ((lies_left ht).later hb)
  have hH := hide (h.later hb)
  obtain ⟨q0, q1, _, _⟩ := a0
  obtain ⟨r0, r1, _, _⟩ := b0
  clear h ht hb hm
  have CA : ∀ dd os, Calls Try.prog 21 #[nv n (some ⟨g, 0, none⟩) es.length c, nv n p es.length cp] (grow (redrawn U dd) os) fun e w'' => e = .returned (.bool true) ∧ ∃ p : Regrown, w'' = grow (redrawn U p.d) p.os := fun dd os => Calls.regrown_of (by
    have := same22 n n (some ⟨g, 0, none⟩) p es es c cp (grow (redrawn U dd) os) (by omega) (Or.inr ⟨g, 0, rfl, hT.out.later (below_regrown U dd os)⟩) (hH.out.later (below_regrown U dd os))
    rw [show sameB n n es es = true by unfold sameB; simp] at this
    exact this)
  have heq : ∀ w, (Op.equalIn 10000 56 (.agg #[.int .i64 (-7), .int .i64 7]) (.agg #[.int .i64 (-7), .int .i64 7])).run Try.prog w = .ok true w := fun w => by
    have := eq60 mk mk w
    rw [decide_eq_true (rfl : mk = mk)] at this
    exact this
  have k1 : (es.length : Int) + 1 ≤ c := by omega
  have k2 : (0 : Int) ≤ es.length := by omega
  have k3 : (es.length : Int) < (es.length : Int) + 1 := by omega
  have f0 := cell_regrown q0
  have f1 := cell_regrown q1
  have f2 := cell_regrown r0
  have f3 := cell_regrown r1
  have f4 := cell_regrown m0
  have f5 := cell_regrown m1
  go_enter Try.func15, Try.ntmps15
  go_wp2_with fail
  rw [← hU]
  clear hU
  refine wp_region_quiet_below (by kernel_rfl) (by kernel_rfl) ?_
  repeat (go_big_quiet_step (first | with_reducible exact CA _ _))
  refine wpQuiet_nil ?_
  intro x1 hw'
  have hbx1 : Below U.heap.size U x1 := by
    obtain ⟨⟨dq, osq⟩, hw''⟩ := hw'
    rw [hw'']
    exact below_regrown U dq osq
  clear hw' f0 f1 f2 f3 f4 f5 CA
  go_wp2_with fail
  go_ret
  exact ⟨rfl, below_step HB.out hbx1⟩
end Go.Proofs.Ytobkejnlkjieoaa

/- Rotations in memory: lists of lists; Light, Lists, slices.Equal, EqualFunc. -/
namespace Go.Proofs.Ytobkejnlkjieoaa
open Go.RowKit Go.Sort
open Go

def lat (rs : List (List Int)) (v : Nat) : List Int := rs.getD v []
theorem lat_ext {a b : List (List Int)} (hl : a.length = b.length) (h : ∀ v, v < a.length → lat a v = lat b v) : a = b := by
  refine List.ext_getElem hl ?_
  intro i h1 h2
  have := h i h1
  unfold lat at this
  rw [List.getD_eq_getElem?_getD, List.getD_eq_getElem?_getD, List.getElem?_eq_getElem h1, List.getElem?_eq_getElem h2] at this
  simpa using this
/-- A rotation lies in memory: a slice of slices, whatever they share. -/
def RHas (w : World) (p : Option Addr) (rs : List (List Int)) : Prop := rs = [] ∨ ∃ b off, p = some ⟨b, off, none⟩ ∧ ∀ v, v < rs.length → ∃ a c, w.cell? ⟨b, off + v, none⟩ = some (.slice a (lat rs v).length c) ∧ IHas w a (lat rs v) ∧ (lat rs v).length ≤ maxLen ∧ (lat rs v).length ≤ c ∧ (a = none → c = 0)
theorem RHas.later {w w' : World} {p : Option Addr} {rs : List (List Int)} (h : RHas w p rs) (hb : Below w.heap.size w w') : RHas w' p rs := by
  rcases h with h | ⟨b, off, hp, h⟩
  · exact Or.inl h
  · exact Or.inr ⟨b, off, hp, fun v hv => by obtain ⟨a, c, h1, h2, h3⟩ := h v hv; exact ⟨a, c, Ytobkejnlkjieoaa.later hb h1, h2.later hb, h3⟩⟩
theorem RHas.at_ {w : World} {p : Option Addr} {rs : List (List Int)} (h : RHas w p rs) {v : Nat} (hv : v < rs.length) : ∃ b off a c, p = some ⟨b, off, none⟩ ∧ w.cell? ⟨b, off + v, none⟩ = some (.slice a (lat rs v).length c) ∧ IHas w a (lat rs v) ∧ (lat rs v).length ≤ maxLen ∧ (lat rs v).length ≤ c ∧ (a = none → c = 0) := by
  rcases h with h | ⟨b, off, hp, h⟩
  · rw [h] at hv; simp at hv
  · obtain ⟨a, c, h1, h2, h3⟩ := h v hv
    exact ⟨b, off, a, c, hp, h1, h2, h3⟩
def RetB (e : Ending) : Prop := ∃ b : Bool, e = .returned (.bool b)
set_option maxRecDepth 100000 in
set_option maxHeartbeats 4000000 in
/-- The document's Lists. -/
theorem lists29 (p q : Option Addr) (a b : List (List Int)) (cp cq : Nat) (w : World) (hla : a.length ≤ maxLen) (hp : RHas w p a) (hq : RHas w q b) : Calls Try.prog 28 #[.slice p a.length cp, .slice q b.length cq] w fun e w' => e = .returned (.bool (decide (a = b))) ∧ Below w.heap.size w w' := by
  have H := hide hp
  have K := hide hq
  unfold maxLen at hla
  clear hp hq
  by_cases hl : a.length = b.length
  · go_enter Try.func28, Try.ntmps28
    have hli : ((a.length : Int) == b.length) = true := by simp [hl]
    go_wp2_with fail
    go_loopw [5] (fun t wr => ∃ i : Nat, i ≤ a.length ∧ t = .int .i64 i ∧ Hid (∀ j, j < i → lat a j = lat b j) ∧ Hid (Below w.heap.size w wr)) (fun t _ => a.length - (intOf t).toNat)
    case atStart => exact ⟨0, by omega, rfl, fun j hj => by omega, Below.refl _ _⟩
    case round =>
      obtain ⟨i, hi, rfl, HP, HB⟩ := hrel
      by_cases hlt : i < a.length
      · obtain ⟨b1, o1, a1, k1, rfl, c0, m1, z1⟩ := (H.out.later HB.out).at_ hlt
        obtain ⟨b2, o2, a2, k2, rfl, d0, m2, z2⟩ := (K.out.later HB.out).at_ (by omega : i < b.length)
        have I0 : Hid (∀ V, Below wr.heap.size wr V → Calls Try.prog 19 #[.slice a1 (lat a i).length k1, .slice a2 (lat b i).length k2] V fun e w' => e = .returned (.bool (decide (lat a i = lat b i))) ∧ Below V.heap.size V w') := fun V hV => ints30 a1 a2 (lat a i) (lat b i) k1 k2 V z1.1 (m1.later hV) (m2.later hV)
        have e1 : (i : Int) < a.length := by omega
        have e2 : (i : Int) < b.length := by omega
        have CI : ∀ dd os, Calls Try.prog 19 #[.slice a1 (lat a i).length k1, .slice a2 (lat b i).length k2] (grow (redrawn wr dd) os) fun e w'' => e = .returned (.bool (decide (lat a i = lat b i))) ∧ ∃ p : Regrown, w'' = grow (redrawn wr p.d) p.os := fun dd os => Calls.regrown_of (I0.out _ (below_regrown wr dd os))
        have F0 := cell_regrown c0
        have G0 := cell_regrown d0
        obtain ⟨D, hD⟩ : ∃ D, decide (lat a i = lat b i) = D := ⟨_, rfl⟩
        have HD := hide hD
        rw [hD] at CI
        clear m1 m2 z1 z2 hD I0
        go_upto_region 6 with fail
        refine wp_region_quiet_below (by kernel_rfl) (by kernel_rfl) ?_
        repeat (go_big_quiet_step (first | with_reducible exact CI _ _))
        refine wpQuiet_nil ?_
        intro w3 hw'
        have hb3 : Below wr.heap.size wr w3 := by
          obtain ⟨⟨dq, osq⟩, hw''⟩ := hw'
          rw [hw'']
          exact below_regrown wr dq osq
        have HBq := hide (below_step HB.out hb3)
        clear hw' hb3 F0 G0 c0 d0 CI
        cases D
        · go_wp2
          go_ret
          refine ⟨retB ?_, HBq.out⟩
          have h1 := of_decide_eq_false HD.out
          have hne : a ≠ b := fun e => h1 (by rw [e])
          simp [hne]
        · go_wp2
          go_roundw
          case rel => exact ⟨i + 1, by omega, by go_num, fun j hj => by
            by_cases hji : j = i
            · rw [hji]; exact of_decide_eq_true HD.out
            · exact HP.out j (by omega), HBq.out⟩
          case measure => simp [intOf]; omega
      · go_wp2
        go_ret
        have : i = a.length := by omega
        subst this
        exact ⟨retB (by simp [lat_ext hl HP.out]), HB.out⟩
  · go_enter Try.func28, Try.ntmps28
    have hli : ((a.length : Int) == b.length) = false := by simp; omega
    go_wp2
    go_ret
    refine ⟨retB ?_, Below.refl _ _⟩
    have hne : a ≠ b := fun e => hl (by rw [e])
    simp [hne]
end Go.Proofs.Ytobkejnlkjieoaa
