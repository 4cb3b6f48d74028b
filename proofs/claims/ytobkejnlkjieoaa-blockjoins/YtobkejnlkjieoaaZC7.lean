/- begin: the walk's struct is made; a region whose orders are walked by what holds whichever came. -/
import Derived.Test.YtobkejnlkjieoaaZC6
import Derived.Test.YtobkejnlkjieoaaZB4
import Derived.Deep.RegionHeld3
namespace Go.Proofs.Ytobkejnlkjieoaa
open Go.RowKit Go.Sort
open Go
/-- Whatever order is picked: what holds by what has come up holds until all of these have. -/
theorem wpAnyH_upto {P : Program} {md : Region.Mode} {ops : Array Oper} {Q : Exit → Act → World → Prop} {S : World → Prop} (I : Nat → Array Bool → Act → World → Prop) (f0 : Nat)
    (h0 : ∀ l a w, I 0 l a w → wpAnyH P md ops Q S f0 l a w)
    (hs : ∀ f l a w, I (f + 1) l a w → (Region.ready md ops l = [] → Q .normal a w) ∧ ∀ i ∈ Region.ready md ops l, wpOp P ops Q i (fun a' w' => S w' ∧ I f (l.setIfInBounds i true) a' w') a w) :
    ∀ f l a w, I f l a w → wpAnyH P md ops Q S (f0 + f) l a w := by
  intro f
  induction f with
  | zero => intro l a w h; exact h0 l a w h
  | succ f ih =>
    intro l a w h
    obtain ⟨h1, h2⟩ := hs f l a w h
    exact ⟨h1, fun i hi => wpOp_mono (fun a' w' k => ⟨k.1, ih _ _ _ k.2⟩) (h2 i hi)⟩
/-- An operation without a guard. -/
theorem wpOp_of {P : Program} {ops : Array Oper} {Q : Exit → Act → World → Prop} {i : Nat} {o : Oper} (ho : ops[i]? = some o) (hg : o.guard = none) {K : Act → World → Prop} {a : Act} {w : World} (h : Oper.wp P o a w K Q) : wpOp P ops Q i K a w := by
  unfold wpOp
  simp only [ho]
  rw [if_pos (by simp [Region.wanted, hg])]
  exact Or.inl h
theorem step_all {α : Type} {l rs : List α} {A : Prop} {X : α → Prop} (hr : l = rs) (hne : rs ≠ []) (h : ∀ i ∈ rs, X i) : (l = [] → A) ∧ ∀ i ∈ l, X i := by
  subst hr
  exact ⟨fun h0 => absurd h0 hne, h⟩
theorem wpAnyH_at {P : Program} {md : Region.Mode} {ops : Array Oper} {Q : Exit → Act → World → Prop} {S : World → Prop} {f f' : Nat} {l l' : Array Bool} {a : Act} {w : World} (h1 : f = f') (h2 : l = l') (h : wpAnyH P md ops Q S f' l' a w) : wpAnyH P md ops Q S f l a w := by
  subst h1; subst h2; exact h
theorem brow_made {w : World} {base g n : Nat} (h : w.ownsRow base 4 1 (.slice (some ⟨g, 0, none⟩) n n) n (madeCells #[.bool false] n).toList) : BRow w base g n (fun _ => false) := by
  unfold BRow
  rw [show ((List.range n).map fun _ => Value.bool false) = (madeCells #[.bool false] n).toList from ?_]
  · exact h
  · rw [toList_madeCells_one]
    refine List.ext_getElem (by simp) ?_
    intro k h1 h2
    simp
theorem OR.base {w : World} {B B' g gr n : Nat} {es : List Pt} {h : Nat} {X : List Int} (o : OR w B g gr n es h X) (hb : B' ≤ B) : OR w B' g gr n es h X := ⟨owns_base o.rows hb, o.room.base hb, o.lay⟩
theorem OR.qrow {n : Nat} {es : List Pt} (hm : netB n es = true) {w : World} {B g gr : Nat} {X : List Int} (o : OR w B g gr n es (2 * es.length) X) : QRow w B g n (rvB es gr (2 * es.length)) fun v => (ob es v).drop 0 := by
  refine ⟨o.rows, fun v hv => ⟨some ⟨gr, ovB es v, none⟩, odH es (2 * es.length) v, rfl, ?_, ?_, Nat.le_refl _, (fun h => by cases h), fun _ ad h => ?_⟩⟩
  · by_cases h0 : odH es (2 * es.length) v = 0
    · left
      exact List.length_eq_zero_iff.1 h0
    · right
      refine ⟨gr, ovB es v, rfl, fun j hj => ?_⟩
      have hj' : j < odH es (2 * es.length) v := hj
      have hov := ov_in hm hv (by omega)
      have htot : offB es v + odH es (2 * es.length) v ≤ 2 * es.length := by
        have := off_le hm (show v + 1 ≤ n from hv)
        rw [off_next] at this
        exact this
      rw [(o.room.cell (show ovB es v + j < 2 * es.length by omega)).1, hov, o.lay v hv j hj']
      rfl
  · show odH es (2 * es.length) v ≤ maxLen
    obtain ⟨_, _, hes, _⟩ := netB_is hm
    have : odH es (2 * es.length) v ≤ 2 * es.length := outL_length es (2 * es.length) v
    unfold maxLen
    omega
  · injection h with h
    rw [← h]
    exact fun e => o.ne e.symm
def bn (b : Bool) : Nat := if b then 0 else 1
theorem bn_true : bn true = 0 := rfl
theorem bn_false : bn false = 1 := rfl
/-- What holds by what has come up. -/
structure BJ (W w : World) (B m : Nat) (es : List Pt) (b2 b3 b6 b9 b13 : Bool) (v5 v6 v9 v12 v16 : Value) (g gr : Nat) (X : List Int) (k6 gp gl go : Nat) : Prop where
  bel : Below W.heap.size W w
  h2 : b2 = true → v5 = .slice (some ⟨g, 0, none⟩) m m ∧ OR w B g gr m es (2 * es.length) X
  h3 : b3 = true → v6 = .slice (some ⟨k6, 0, none⟩) 1 1 ∧ w.cell? ⟨k6, 0, none⟩ = some (.int .i64 (-1))
  h6 : b6 = true → v9 = .slice (some ⟨gp, 0, none⟩) m m ∧ IRow w B gp m (List.replicate m (-1))
  h9 : b9 = true → v12 = .slice (some ⟨gl, 0, none⟩) m m ∧ IRow w B gl m (List.replicate m 0)
  h13 : b13 = true → v16 = .slice (some ⟨go, 0, none⟩) es.length es.length ∧ BRow w B go es.length (fun _ => false)
  d26 : b2 = true → b6 = true → gr ≠ gp
  d29 : b2 = true → b9 = true → gr ≠ gl
  d69 : b6 = true → b9 = true → gp ≠ gl
section
variable {W w w' : World} {B m : Nat} {es : List Pt} {b2 b3 b6 b9 b13 : Bool} {v5 v6 v9 v12 v16 : Value} {g gr : Nat} {X : List Int} {k6 gp gl go : Nat}
theorem BJ.later (h : BJ W w B m es b2 b3 b6 b9 b13 v5 v6 v9 v12 v16 g gr X k6 gp gl go) (hb : Below w.heap.size w w') : BJ W w' B m es b2 b3 b6 b9 b13 v5 v6 v9 v12 v16 g gr X k6 gp gl go :=
  ⟨below_step h.bel hb, fun k => ⟨(h.h2 k).1, (h.h2 k).2.later hb⟩, fun k => ⟨(h.h3 k).1, Ytobkejnlkjieoaa.later hb (h.h3 k).2⟩, fun k => ⟨(h.h6 k).1, (h.h6 k).2.later hb⟩, fun k => ⟨(h.h9 k).1, (h.h9 k).2.later hb⟩, fun k => ⟨(h.h13 k).1, (h.h13 k).2.later hb⟩, h.d26, h.d29, h.d69⟩
theorem BJ.put2 (h : BJ W w B m es false b3 b6 b9 b13 v5 v6 v9 v12 v16 g gr X k6 gp gl go) {g1 gr1 : Nat} {X1 : List Int} (hO : OR w' w.heap.size g1 gr1 m es (2 * es.length) X1) (hb : Below w.heap.size w w') (hB : B ≤ W.heap.size) : BJ W w' B m es true b3 b6 b9 b13 (.slice (some ⟨g1, 0, none⟩) m m) v6 v9 v12 v16 g1 gr1 X1 k6 gp gl go := by
  have q := h.later hb
  have hs := h.bel.size
  have hr := hO.room.lt.1
  exact ⟨q.bel, fun _ => ⟨rfl, hO.base (by omega)⟩, q.h3, q.h6, q.h9, q.h13, fun _ k => by have := (h.h6 k).2.lt.2; omega, fun _ k => by have := (h.h9 k).2.lt.2; omega, h.d69⟩
theorem BJ.put3 (h : BJ W w B m es b2 false b6 b9 b13 v5 v6 v9 v12 v16 g gr X k6 gp gl go) {k1 : Nat} (hc : w'.cell? ⟨k1, 0, none⟩ = some (.int .i64 (-1))) (hb : Below w.heap.size w w') : BJ W w' B m es b2 true b6 b9 b13 v5 (.slice (some ⟨k1, 0, none⟩) 1 1) v9 v12 v16 g gr X k1 gp gl go := by
  have q := h.later hb
  exact ⟨q.bel, q.h2, fun _ => ⟨rfl, hc⟩, q.h6, q.h9, q.h13, h.d26, h.d29, h.d69⟩
theorem BJ.put6 (h : BJ W w B m es b2 b3 false b9 b13 v5 v6 v9 v12 v16 g gr X k6 gp gl go) {g1 : Nat} (hI : IRow w' w.heap.size g1 m (List.replicate m (-1))) (hb : Below w.heap.size w w') (hB : B ≤ W.heap.size) : BJ W w' B m es b2 b3 true b9 b13 v5 v6 (.slice (some ⟨g1, 0, none⟩) m m) v12 v16 g gr X k6 g1 gl go := by
  have q := h.later hb
  have hs := h.bel.size
  have hr := hI.lt.1
  exact ⟨q.bel, q.h2, q.h3, fun _ => ⟨rfl, hI.base (by omega)⟩, q.h9, q.h13, fun k _ => by have := (h.h2 k).2.room.lt.2; omega, h.d29, fun _ k => by have := (h.h9 k).2.lt.2; omega⟩
theorem BJ.put9 (h : BJ W w B m es b2 b3 b6 false b13 v5 v6 v9 v12 v16 g gr X k6 gp gl go) {g1 : Nat} (hI : IRow w' w.heap.size g1 m (List.replicate m 0)) (hb : Below w.heap.size w w') (hB : B ≤ W.heap.size) : BJ W w' B m es b2 b3 b6 true b13 v5 v6 v9 (.slice (some ⟨g1, 0, none⟩) m m) v16 g gr X k6 gp g1 go := by
  have q := h.later hb
  have hs := h.bel.size
  have hr := hI.lt.1
  exact ⟨q.bel, q.h2, q.h3, q.h6, fun _ => ⟨rfl, hI.base (by omega)⟩, q.h13, h.d26, fun k _ => by have := (h.h2 k).2.room.lt.2; omega, fun k _ => by have := (h.h6 k).2.lt.2; omega⟩
theorem BJ.put13 (h : BJ W w B m es b2 b3 b6 b9 false v5 v6 v9 v12 v16 g gr X k6 gp gl go) {g1 : Nat} (hI : BRow w' w.heap.size g1 es.length (fun _ => false)) (hb : Below w.heap.size w w') (hB : B ≤ W.heap.size) : BJ W w' B m es b2 b3 b6 b9 true v5 v6 v9 v12 (.slice (some ⟨g1, 0, none⟩) es.length es.length) g gr X k6 gp gl g1 := by
  have q := h.later hb
  have hs := h.bel.size
  exact ⟨q.bel, q.h2, q.h3, q.h6, q.h9, fun _ => ⟨rfl, owns_base hI (by omega)⟩, h.d26, h.d29, h.d69⟩
end
def BI7 (W : World) (B m kb : Nat) (p : Option Addr) (cp : Nat) (es : List Pt) (f : Nat) (l : Array Bool) (a : Act) (V : World) : Prop := ∃ (b2 b3 b6 b9 b13 : Bool) (v5 v6 v9 v12 v16 : Value), l = #[true, true, b2, b3, true, true, b6, true, true, b9, true, true, true, b13, false, false, false] ∧ a = { tmps := #[nv m p es.length cp, .pointer (some ⟨kb, 0, none⟩), .pointer none, .agg #[.int .i64 m, .slice p es.length cp], .agg #[.int .i64 m, .slice p es.length cp], v5, v6, .pointer (some ⟨kb, 0, none⟩), .int .i64 m, v9, .pointer (some ⟨kb, 0, none⟩), .int .i64 m, v12, .pointer (some ⟨kb, 1, none⟩), .slice p es.length cp, .int .i64 es.length, v16, undef, undef], defers := [] } ∧ f = bn b2 + bn b3 + bn b6 + bn b9 + bn b13 ∧ (b6 = true → b2 = true ∧ b3 = true) ∧ ∃ g gr X k6 gp gl go, BJ W V B m es b2 b3 b6 b9 b13 v5 v6 v9 v12 v16 g gr X k6 gp gl go
theorem fnL_const (n : Nat) (x : Int) : fnL n (fun _ => x) = List.replicate n x := by
  unfold fnL
  apply List.ext_getElem <;> simp
/-- The struct, made. -/
theorem BJ.made {W w : World} {B m : Nat} {es : List Pt} (hm : netB m es = true) {v5 v6 v9 v12 v16 : Value} {g gr : Nat} {X : List Int} {k6 gp gl go cp : Nat} {p : Option Addr} (h : BJ W w B m es true true true true true v5 v6 v9 v12 v16 g gr X k6 gp gl go) (hB : B ≤ W.heap.size) {w' : World}
    (hw : w' = w.alloc (.cells #[.int .i64 m, .slice p es.length cp, v5, v9, v12, v16, .int .i64 0, .slice none 0 0, .slice none 0 0, .nilFunc] 86)) : SM w' B w.heap.size m p es cp g gp gl go (rvB es gr (2 * es.length)) (.slice none 0 0) (.slice none 0 0) .nilFunc zeroB ∧ Below w.heap.size w w' ∧ ∀ v, v < m → ∀ b, (rvB es gr (2 * es.length) v).ownBlock = some b → B ≤ b ∧ b < w'.heap.size := by
  have hb : Below w.heap.size w w' := by rw [hw]; go_grown
  have q := h.later hb
  obtain ⟨e5, o⟩ := q.h2 rfl
  obtain ⟨e9, ip⟩ := q.h6 rfl
  obtain ⟨e12, il⟩ := q.h9 rfl
  obtain ⟨e16, bo⟩ := q.h13 rfl
  have hs := h.bel.size
  have hbox : w'.ownsRow B 86 10 (.slice (some ⟨w.heap.size, 0, none⟩) 1 1) 1 [.int .i64 m, .slice p es.length cp, .slice (some ⟨g, 0, none⟩) m m, .slice (some ⟨gp, 0, none⟩) m m, .slice (some ⟨gl, 0, none⟩) m m, .slice (some ⟨go, 0, none⟩) es.length es.length, .int .i64 0, .slice none 0 0, .slice none 0 0, .nilFunc] := by
    refine ⟨rfl, Or.inr ⟨w.heap.size, 1, _, rfl, by omega, by rw [hw]; exact heap_alloc_new _ _, by omega, by unfold maxLen; omega, rfl, ?_⟩⟩
    rw [e5, e9, e12, e16]
    rfl
  rw [← fnL_const] at ip il
  have d1 := h.d26 rfl rfl
  have d2 := h.d29 rfl rfl
  have d3 := h.d69 rfl rfl
  have hrv : ∀ v b, (rvB es gr (2 * es.length) v).ownBlock = some b → b = gr := fun v b k => by
    have : some gr = some b := k
    injection this with this
    exact this.symm
  refine ⟨⟨hbox, ip, il, bo, IOwns.nil _ _, IOwns.nil _ _, o.qrow hm, ⟨d3, by simp [Value.ownBlock], by simp [Value.ownBlock], by simp [Value.ownBlock], by simp [Value.ownBlock]⟩, fun b k => by simp [Value.ownBlock] at k, fun v _ b k => ?_, fun v _ k => ?_, fun v _ k => ?_⟩, hb, fun v _ b k => ?_⟩
  · have := hrv v b k
    subst this
    exact ⟨d1, d2, by simp [Value.ownBlock], by simp [Value.ownBlock]⟩
  · have e := hrv v _ k
    have h1 := (h.h2 rfl).2.room.lt.2
    omega
  · exact own_ne o.room.2 bo (by decide) (g := go) (by rw [← hrv v _ k]; rfl) rfl
  · rw [hrv v b k]
    exact o.room.lt
set_option maxRecDepth 100000 in
set_option maxHeartbeats 16000000 in
theorem begin57 (m : Nat) (p : Option Addr) (es : List Pt) (cp : Nat) (w : World) (h : Has w p es) (hm : netB m es = true) : Calls Try.prog 57 #[nv m p es.length cp] w fun e w' => ∃ k gr gp gl go rv, e = .returned (.pointer (some ⟨k, 0, none⟩)) ∧ SM w' w.heap.size k m p es cp gr gp gl go rv (.slice none 0 0) (.slice none 0 0) .nilFunc zeroB ∧ Below w.heap.size w w' ∧ (∀ v, v < m → ∀ b, (rv v).ownBlock = some b → w.heap.size ≤ b ∧ b < w'.heap.size) := by
  obtain ⟨W, hW, hb, a0⟩ := one_net w m p es.length cp
  obtain ⟨n0, n1, hes, hE⟩ := netB_is hm
  have HM := hide hm
  have HH := hide (h.later hb)
  have HB := hide hb
  have HA := hide a0
  have hws : w.heap.size < W.heap.size := block_lt_of_cell a0.1
  have HSZ : Hid (w.heap.size ≤ W.heap.size) := Nat.le_of_lt hws
  clear h hb hE hm a0
  obtain ⟨i0, hi0, hz0, hz1, hz2⟩ := info_parts info3
  obtain ⟨j0, hj0, jz0, jz1, jz2⟩ := info_parts info4
  go_enter Try.func57, Try.ntmps57
  go_upto_region 1 with fail
  rw [← hW]
  obtain ⟨kb, hkb⟩ : ∃ kb, w.heap.size = kb := ⟨_, rfl⟩
  have HS : Hid (∀ V, Below W.heap.size W V → V.cell? ⟨kb, 0, none⟩ = some (.int .i64 m) ∧ V.cell? ⟨kb, 1, none⟩ = some (.slice p es.length cp)) := fun V hV => by
    obtain ⟨r0, r1, _, _⟩ := HA.out.later hV
    rw [hkb] at r0 r1
    exact ⟨r0, r1⟩
  have HKB := hide hkb
  rw [hkb]
  clear hW hkb
  obtain ⟨q1, q2⟩ := HS.out W (Below.refl _ _)
  refine wp_region_held_drew (S := (fun V => V.cell? ⟨kb, 0, none⟩ = some (.int .i64 m) ∧ V.cell? ⟨kb, 1, none⟩ = some (.slice p es.length cp))) (by kernel_rfl) (by exact ⟨q1, q2⟩) (fun hHeld => ?_)
  obtain ⟨V0, hV0⟩ : ∃ V, V = W.drew := ⟨_, rfl⟩
  have HB0 : Hid (Below W.heap.size W V0) := by show Below _ _ _; rw [hV0]; exact below_drew _
  rw [← hV0] at hHeld ⊢
  clear hV0 q1 q2
  obtain ⟨q1, q2⟩ := HS.out _ HB0.out
  refine wpAnyH_take (i := 0) (v := ?v1) rfl (by kernel_rfl) (by kernel_rfl) (by kernel_rfl) (fun _ _ _ h => h) (Or.inl ⟨by rfl, ?hy1⟩) (by assumption) ?rest1
  case hy1 => (intro w hSw; (try dsimp only at hSw); go_simp; try with_reducible rfl)
  try simp only [Act.put, List.getElem_toArray, List.getElem_cons_zero, List.setIfInBounds_toArray, List.set_cons_zero, List.set_cons_succ]
  refine wpAnyH_take (i := 1) (v := ?v2) rfl (by kernel_rfl) (by kernel_rfl) (by kernel_rfl) (fun _ _ _ h => h) (Or.inl ⟨by rfl, ?hy2⟩) (by assumption) ?rest2
  case hy2 => (intro w hSw; (try dsimp only at hSw); go_simp; try with_reducible rfl)
  try simp only [Act.put, List.getElem_toArray, List.getElem_cons_zero, List.getElem_cons_succ, List.setIfInBounds_toArray, List.set_cons_zero, List.set_cons_succ]
  refine wpAnyH_take (i := 4) (v := ?v3) rfl (by kernel_rfl) (by kernel_rfl) (by kernel_rfl) (fun _ _ _ h => h) (Or.inl ⟨by rfl, ?hy3⟩) (by assumption) ?rest3
  case hy3 => (intro w hSw; (try dsimp only at hSw); go_simp; try with_reducible rfl)
  try simp only [Act.put, List.getElem_toArray, List.getElem_cons_zero, List.getElem_cons_succ, List.setIfInBounds_toArray, List.set_cons_zero, List.set_cons_succ]
  refine wpAnyH_take (i := 5) (v := ?v4) rfl (by kernel_rfl) (by kernel_rfl) (by kernel_rfl) (fun _ _ _ h => h) (Or.inl ⟨by rfl, ?hy4⟩) (by assumption) ?rest4
  case hy4 => (intro w hSw; (try dsimp only at hSw); go_simp; try with_reducible rfl)
  try simp only [Act.put, List.getElem_toArray, List.getElem_cons_zero, List.getElem_cons_succ, List.setIfInBounds_toArray, List.set_cons_zero, List.set_cons_succ]
  refine wpAnyH_take (i := 7) (v := ?v5) rfl (by kernel_rfl) (by kernel_rfl) (by kernel_rfl) (fun _ _ _ h => h) (Or.inl ⟨by rfl, ?hy5⟩) (by assumption) ?rest5
  case hy5 => (intro w hSw; (try dsimp only at hSw); go_simp; try with_reducible rfl)
  try simp only [Act.put, List.getElem_toArray, List.getElem_cons_zero, List.getElem_cons_succ, List.setIfInBounds_toArray, List.set_cons_zero, List.set_cons_succ]
  refine wpAnyH_take (i := 8) (v := ?v6) rfl (by kernel_rfl) (by kernel_rfl) (by kernel_rfl) (fun _ _ _ h => h) (Or.inl ⟨by rfl, ?hy6⟩) (by assumption) ?rest6
  case hy6 => (intro w hSw; (try dsimp only at hSw); go_simp; try with_reducible rfl)
  try simp only [Act.put, List.getElem_toArray, List.getElem_cons_zero, List.getElem_cons_succ, List.setIfInBounds_toArray, List.set_cons_zero, List.set_cons_succ]
  refine wpAnyH_take (i := 10) (v := ?v7) rfl (by kernel_rfl) (by kernel_rfl) (by kernel_rfl) (fun _ _ _ h => h) (Or.inl ⟨by rfl, ?hy7⟩) (by assumption) ?rest7
  case hy7 => (intro w hSw; (try dsimp only at hSw); go_simp; try with_reducible rfl)
  try simp only [Act.put, List.getElem_toArray, List.getElem_cons_zero, List.getElem_cons_succ, List.setIfInBounds_toArray, List.set_cons_zero, List.set_cons_succ]
  refine wpAnyH_take (i := 11) (v := ?v8) rfl (by kernel_rfl) (by kernel_rfl) (by kernel_rfl) (fun _ _ _ h => h) (Or.inl ⟨by rfl, ?hy8⟩) (by assumption) ?rest8
  case hy8 => (intro w hSw; (try dsimp only at hSw); go_simp; try with_reducible rfl)
  try simp only [Act.put, List.getElem_toArray, List.getElem_cons_zero, List.getElem_cons_succ, List.setIfInBounds_toArray, List.set_cons_zero, List.set_cons_succ]
  refine wpAnyH_take (i := 12) (v := ?v9) rfl (by kernel_rfl) (by kernel_rfl) (by kernel_rfl) (fun _ _ _ h => h) (Or.inl ⟨by rfl, ?hy9⟩) (by assumption) ?rest9
  case hy9 => (intro w hSw; (try dsimp only at hSw); go_simp; try with_reducible rfl)
  try simp only [Act.put, List.getElem_toArray, List.getElem_cons_zero, List.getElem_cons_succ, List.setIfInBounds_toArray, List.set_cons_zero, List.set_cons_succ]
  refine wpAnyH_at (f' := 3 + 5) (l' := #[true, true, false, false, true, true, false, true, true, false, true, true, true, false, false, false, false]) (by kernel_rfl) (by kernel_rfl) ?_
  refine wpAnyH_upto (BI7 W w.heap.size m kb p cp es) 3 ?h0 ?hs 5 _ _ _ ?init
  case init =>
    unfold BI7
    exact ⟨false, false, false, false, false, undef, undef, undef, undef, undef, rfl, rfl, rfl, by simp, 0, 0, [], 0, 0, 0, 0, HB0.out, by simp, by simp, by simp, by simp, by simp, by simp, by simp, by simp⟩
  case hs =>
    clear hHeld
    intro f l a V hI7
    unfold BI7 at hI7
    obtain ⟨b2, b3, b6, b9, b13, v5, v6, v9, v12, v16, rfl, rfl, hf, h6, g, gr, X, k6, gp, gl, go, hJ⟩ := hI7
    have HJ := hide hJ
    clear hJ q1 q2
    obtain ⟨q1, q2⟩ := HS.out _ HJ.out.bel
    cases b2 <;> cases b3 <;> cases b6 <;> cases b9 <;> cases b13
    · refine step_all (rs := [2, 3, 9, 13]) (by kernel_rfl) (by simp) ?_
      intro i hi
      simp only [List.mem_cons, List.not_mem_nil, or_false] at hi
      rcases hi with rfl | rfl | rfl | rfl
      · refine wpOp_of (o := { dst := some 5, op := Op.call { callee := Callee.value (Operand.func 69), args := #[.tmp 4], argTypes := #[24] }, type := 29, pos := "search.go:48", after := #[{ on := 1, ground := Ground.data }], guard := none }) rfl rfl ?_
        clear q1 q2
        obtain ⟨q1, q2⟩ := HS.out _ HJ.out.bel
        go_simp
        refine (outs69 m p es cp V (HH.out.later HJ.out.bel) HM.out).mono ?_
        rintro e V1 ⟨g1, gr1, X1, rfl, hO, hb⟩
        have HK := hide (HJ.out.put2 hO hb HSZ.out)
        refine ⟨by exact HS.out _ HK.out.bel, by unfold BI7; exact ⟨true, false, false, false, false, _, v6, v9, v12, v16, by rfl, by rfl, by simp only [bn_true, bn_false] at hf ⊢; omega, by simp, g1, gr1, X1, k6, gp, gl, go, HK.out⟩⟩
      · refine wpOp_of (o := { dst := some 6, op := Op.buildSlice 32 1 #[(0, .const (Value.int IntKind.i64 (-1)))], type := 32, pos := "search.go:46", after := #[], guard := none }) rfl rfl ?_
        go_simp
        obtain ⟨V1, hV⟩ : ∃ V1, V1 = V.alloc (.cells #[.int .i64 (-1)] 3) := ⟨_, rfl⟩
        have hb : Below V.heap.size V V1 := by rw [hV]; go_grown
        have hc : V1.cell? ⟨V.heap.size, 0, none⟩ = some (.int .i64 (-1)) := by rw [hV]; exact one_int _ _
        rw [← hV]
        have HK := hide (HJ.out.put3 hc hb)
        refine ⟨by exact HS.out _ HK.out.bel, by unfold BI7; exact ⟨false, true, false, false, false, v5, _, v9, v12, v16, by rfl, by rfl, by simp only [bn_true, bn_false] at hf ⊢; omega, by simp, g, gr, X, V.heap.size, gp, gl, go, HK.out⟩⟩
      · refine wpOp_of (o := { dst := some 12, op := Op.makeSlice 32 (.tmp 11) (.tmp 11), type := 32, pos := "search.go:46", after := #[{ on := 8, ground := Ground.data }, { on := 8, ground := Ground.data }], guard := none }) rfl rfl ?_
        refine oper_make V (.tmp 11) (.tmp 11) 32 (by rfl) V.heap.size 3 i0 (.int .i64 0) 1 Try.underlying32 hi0 hz0 hz1 .i64 .i64 (m : Int) (m : Int) m (by rfl) (by rfl) rfl rfl (by rw [hz2]; omega) (by unfold maxLen; omega) (Nat.le_refl _) ?_
        intro V1 hown hgrow
        have hb := below_made hgrow
        have hI : IRow V1 V.heap.size V.heap.size m (List.replicate m 0) := by rw [Nat.mul_one, show (Value.int .i64 0).cells = #[.int .i64 0] from rfl] at hown; exact irow_made hown
        have HK := hide (HJ.out.put9 hI hb HSZ.out)
        refine ⟨by exact HS.out _ HK.out.bel, by unfold BI7; exact ⟨false, false, false, true, false, v5, v6, v9, _, v16, by rfl, by rfl, by simp only [bn_true, bn_false] at hf ⊢; omega, by simp, g, gr, X, k6, gp, V.heap.size, go, HK.out⟩⟩
      · refine wpOp_of (o := { dst := some 16, op := Op.makeSlice 55 (.tmp 15) (.tmp 15), type := 55, pos := "search.go:46", after := #[{ on := 12, ground := Ground.data }, { on := 12, ground := Ground.data }], guard := none }) rfl rfl ?_
        refine oper_make V (.tmp 15) (.tmp 15) 55 (by rfl) V.heap.size 4 j0 (.bool false) 1 Try.underlying55 hj0 jz0 jz1 .i64 .i64 (es.length : Int) (es.length : Int) es.length (by rfl) (by rfl) rfl rfl (by rw [jz2]; omega) (by unfold maxLen; omega) (Nat.le_refl _) ?_
        intro V1 hown hgrow
        have hb := below_made hgrow
        have hI : BRow V1 V.heap.size V.heap.size es.length (fun _ => false) := by rw [Nat.mul_one, show (Value.bool false).cells = #[.bool false] from rfl] at hown; exact brow_made hown
        have HK := hide (HJ.out.put13 hI hb HSZ.out)
        refine ⟨by exact HS.out _ HK.out.bel, by unfold BI7; exact ⟨false, false, false, false, true, v5, v6, v9, v12, _, by rfl, by rfl, by simp only [bn_true, bn_false] at hf ⊢; omega, by simp, g, gr, X, k6, gp, gl, V.heap.size, HK.out⟩⟩
    · refine step_all (rs := [2, 3, 9]) (by kernel_rfl) (by simp) ?_
      intro i hi
      simp only [List.mem_cons, List.not_mem_nil, or_false] at hi
      rcases hi with rfl | rfl | rfl
      · refine wpOp_of (o := { dst := some 5, op := Op.call { callee := Callee.value (Operand.func 69), args := #[.tmp 4], argTypes := #[24] }, type := 29, pos := "search.go:48", after := #[{ on := 1, ground := Ground.data }], guard := none }) rfl rfl ?_
        clear q1 q2
        obtain ⟨q1, q2⟩ := HS.out _ HJ.out.bel
        go_simp
        refine (outs69 m p es cp V (HH.out.later HJ.out.bel) HM.out).mono ?_
        rintro e V1 ⟨g1, gr1, X1, rfl, hO, hb⟩
        have HK := hide (HJ.out.put2 hO hb HSZ.out)
        refine ⟨by exact HS.out _ HK.out.bel, by unfold BI7; exact ⟨true, false, false, false, true, _, v6, v9, v12, v16, by rfl, by rfl, by simp only [bn_true, bn_false] at hf ⊢; omega, by simp, g1, gr1, X1, k6, gp, gl, go, HK.out⟩⟩
      · refine wpOp_of (o := { dst := some 6, op := Op.buildSlice 32 1 #[(0, .const (Value.int IntKind.i64 (-1)))], type := 32, pos := "search.go:46", after := #[], guard := none }) rfl rfl ?_
        go_simp
        obtain ⟨V1, hV⟩ : ∃ V1, V1 = V.alloc (.cells #[.int .i64 (-1)] 3) := ⟨_, rfl⟩
        have hb : Below V.heap.size V V1 := by rw [hV]; go_grown
        have hc : V1.cell? ⟨V.heap.size, 0, none⟩ = some (.int .i64 (-1)) := by rw [hV]; exact one_int _ _
        rw [← hV]
        have HK := hide (HJ.out.put3 hc hb)
        refine ⟨by exact HS.out _ HK.out.bel, by unfold BI7; exact ⟨false, true, false, false, true, v5, _, v9, v12, v16, by rfl, by rfl, by simp only [bn_true, bn_false] at hf ⊢; omega, by simp, g, gr, X, V.heap.size, gp, gl, go, HK.out⟩⟩
      · refine wpOp_of (o := { dst := some 12, op := Op.makeSlice 32 (.tmp 11) (.tmp 11), type := 32, pos := "search.go:46", after := #[{ on := 8, ground := Ground.data }, { on := 8, ground := Ground.data }], guard := none }) rfl rfl ?_
        refine oper_make V (.tmp 11) (.tmp 11) 32 (by rfl) V.heap.size 3 i0 (.int .i64 0) 1 Try.underlying32 hi0 hz0 hz1 .i64 .i64 (m : Int) (m : Int) m (by rfl) (by rfl) rfl rfl (by rw [hz2]; omega) (by unfold maxLen; omega) (Nat.le_refl _) ?_
        intro V1 hown hgrow
        have hb := below_made hgrow
        have hI : IRow V1 V.heap.size V.heap.size m (List.replicate m 0) := by rw [Nat.mul_one, show (Value.int .i64 0).cells = #[.int .i64 0] from rfl] at hown; exact irow_made hown
        have HK := hide (HJ.out.put9 hI hb HSZ.out)
        refine ⟨by exact HS.out _ HK.out.bel, by unfold BI7; exact ⟨false, false, false, true, true, v5, v6, v9, _, v16, by rfl, by rfl, by simp only [bn_true, bn_false] at hf ⊢; omega, by simp, g, gr, X, k6, gp, V.heap.size, go, HK.out⟩⟩
    · refine step_all (rs := [2, 3, 13]) (by kernel_rfl) (by simp) ?_
      intro i hi
      simp only [List.mem_cons, List.not_mem_nil, or_false] at hi
      rcases hi with rfl | rfl | rfl
      · refine wpOp_of (o := { dst := some 5, op := Op.call { callee := Callee.value (Operand.func 69), args := #[.tmp 4], argTypes := #[24] }, type := 29, pos := "search.go:48", after := #[{ on := 1, ground := Ground.data }], guard := none }) rfl rfl ?_
        clear q1 q2
        obtain ⟨q1, q2⟩ := HS.out _ HJ.out.bel
        go_simp
        refine (outs69 m p es cp V (HH.out.later HJ.out.bel) HM.out).mono ?_
        rintro e V1 ⟨g1, gr1, X1, rfl, hO, hb⟩
        have HK := hide (HJ.out.put2 hO hb HSZ.out)
        refine ⟨by exact HS.out _ HK.out.bel, by unfold BI7; exact ⟨true, false, false, true, false, _, v6, v9, v12, v16, by rfl, by rfl, by simp only [bn_true, bn_false] at hf ⊢; omega, by simp, g1, gr1, X1, k6, gp, gl, go, HK.out⟩⟩
      · refine wpOp_of (o := { dst := some 6, op := Op.buildSlice 32 1 #[(0, .const (Value.int IntKind.i64 (-1)))], type := 32, pos := "search.go:46", after := #[], guard := none }) rfl rfl ?_
        go_simp
        obtain ⟨V1, hV⟩ : ∃ V1, V1 = V.alloc (.cells #[.int .i64 (-1)] 3) := ⟨_, rfl⟩
        have hb : Below V.heap.size V V1 := by rw [hV]; go_grown
        have hc : V1.cell? ⟨V.heap.size, 0, none⟩ = some (.int .i64 (-1)) := by rw [hV]; exact one_int _ _
        rw [← hV]
        have HK := hide (HJ.out.put3 hc hb)
        refine ⟨by exact HS.out _ HK.out.bel, by unfold BI7; exact ⟨false, true, false, true, false, v5, _, v9, v12, v16, by rfl, by rfl, by simp only [bn_true, bn_false] at hf ⊢; omega, by simp, g, gr, X, V.heap.size, gp, gl, go, HK.out⟩⟩
      · refine wpOp_of (o := { dst := some 16, op := Op.makeSlice 55 (.tmp 15) (.tmp 15), type := 55, pos := "search.go:46", after := #[{ on := 12, ground := Ground.data }, { on := 12, ground := Ground.data }], guard := none }) rfl rfl ?_
        refine oper_make V (.tmp 15) (.tmp 15) 55 (by rfl) V.heap.size 4 j0 (.bool false) 1 Try.underlying55 hj0 jz0 jz1 .i64 .i64 (es.length : Int) (es.length : Int) es.length (by rfl) (by rfl) rfl rfl (by rw [jz2]; omega) (by unfold maxLen; omega) (Nat.le_refl _) ?_
        intro V1 hown hgrow
        have hb := below_made hgrow
        have hI : BRow V1 V.heap.size V.heap.size es.length (fun _ => false) := by rw [Nat.mul_one, show (Value.bool false).cells = #[.bool false] from rfl] at hown; exact brow_made hown
        have HK := hide (HJ.out.put13 hI hb HSZ.out)
        refine ⟨by exact HS.out _ HK.out.bel, by unfold BI7; exact ⟨false, false, false, true, true, v5, v6, v9, v12, _, by rfl, by rfl, by simp only [bn_true, bn_false] at hf ⊢; omega, by simp, g, gr, X, k6, gp, gl, V.heap.size, HK.out⟩⟩
    · refine step_all (rs := [2, 3]) (by kernel_rfl) (by simp) ?_
      intro i hi
      simp only [List.mem_cons, List.not_mem_nil, or_false] at hi
      rcases hi with rfl | rfl
      · refine wpOp_of (o := { dst := some 5, op := Op.call { callee := Callee.value (Operand.func 69), args := #[.tmp 4], argTypes := #[24] }, type := 29, pos := "search.go:48", after := #[{ on := 1, ground := Ground.data }], guard := none }) rfl rfl ?_
        clear q1 q2
        obtain ⟨q1, q2⟩ := HS.out _ HJ.out.bel
        go_simp
        refine (outs69 m p es cp V (HH.out.later HJ.out.bel) HM.out).mono ?_
        rintro e V1 ⟨g1, gr1, X1, rfl, hO, hb⟩
        have HK := hide (HJ.out.put2 hO hb HSZ.out)
        refine ⟨by exact HS.out _ HK.out.bel, by unfold BI7; exact ⟨true, false, false, true, true, _, v6, v9, v12, v16, by rfl, by rfl, by simp only [bn_true, bn_false] at hf ⊢; omega, by simp, g1, gr1, X1, k6, gp, gl, go, HK.out⟩⟩
      · refine wpOp_of (o := { dst := some 6, op := Op.buildSlice 32 1 #[(0, .const (Value.int IntKind.i64 (-1)))], type := 32, pos := "search.go:46", after := #[], guard := none }) rfl rfl ?_
        go_simp
        obtain ⟨V1, hV⟩ : ∃ V1, V1 = V.alloc (.cells #[.int .i64 (-1)] 3) := ⟨_, rfl⟩
        have hb : Below V.heap.size V V1 := by rw [hV]; go_grown
        have hc : V1.cell? ⟨V.heap.size, 0, none⟩ = some (.int .i64 (-1)) := by rw [hV]; exact one_int _ _
        rw [← hV]
        have HK := hide (HJ.out.put3 hc hb)
        refine ⟨by exact HS.out _ HK.out.bel, by unfold BI7; exact ⟨false, true, false, true, true, v5, _, v9, v12, v16, by rfl, by rfl, by simp only [bn_true, bn_false] at hf ⊢; omega, by simp, g, gr, X, V.heap.size, gp, gl, go, HK.out⟩⟩
    · exact absurd h6 (by simp)
    · exact absurd h6 (by simp)
    · exact absurd h6 (by simp)
    · exact absurd h6 (by simp)
    · refine step_all (rs := [2, 9, 13]) (by kernel_rfl) (by simp) ?_
      intro i hi
      simp only [List.mem_cons, List.not_mem_nil, or_false] at hi
      rcases hi with rfl | rfl | rfl
      · refine wpOp_of (o := { dst := some 5, op := Op.call { callee := Callee.value (Operand.func 69), args := #[.tmp 4], argTypes := #[24] }, type := 29, pos := "search.go:48", after := #[{ on := 1, ground := Ground.data }], guard := none }) rfl rfl ?_
        clear q1 q2
        obtain ⟨q1, q2⟩ := HS.out _ HJ.out.bel
        go_simp
        refine (outs69 m p es cp V (HH.out.later HJ.out.bel) HM.out).mono ?_
        rintro e V1 ⟨g1, gr1, X1, rfl, hO, hb⟩
        have HK := hide (HJ.out.put2 hO hb HSZ.out)
        refine ⟨by exact HS.out _ HK.out.bel, by unfold BI7; exact ⟨true, true, false, false, false, _, v6, v9, v12, v16, by rfl, by rfl, by simp only [bn_true, bn_false] at hf ⊢; omega, by simp, g1, gr1, X1, k6, gp, gl, go, HK.out⟩⟩
      · refine wpOp_of (o := { dst := some 12, op := Op.makeSlice 32 (.tmp 11) (.tmp 11), type := 32, pos := "search.go:46", after := #[{ on := 8, ground := Ground.data }, { on := 8, ground := Ground.data }], guard := none }) rfl rfl ?_
        refine oper_make V (.tmp 11) (.tmp 11) 32 (by rfl) V.heap.size 3 i0 (.int .i64 0) 1 Try.underlying32 hi0 hz0 hz1 .i64 .i64 (m : Int) (m : Int) m (by rfl) (by rfl) rfl rfl (by rw [hz2]; omega) (by unfold maxLen; omega) (Nat.le_refl _) ?_
        intro V1 hown hgrow
        have hb := below_made hgrow
        have hI : IRow V1 V.heap.size V.heap.size m (List.replicate m 0) := by rw [Nat.mul_one, show (Value.int .i64 0).cells = #[.int .i64 0] from rfl] at hown; exact irow_made hown
        have HK := hide (HJ.out.put9 hI hb HSZ.out)
        refine ⟨by exact HS.out _ HK.out.bel, by unfold BI7; exact ⟨false, true, false, true, false, v5, v6, v9, _, v16, by rfl, by rfl, by simp only [bn_true, bn_false] at hf ⊢; omega, by simp, g, gr, X, k6, gp, V.heap.size, go, HK.out⟩⟩
      · refine wpOp_of (o := { dst := some 16, op := Op.makeSlice 55 (.tmp 15) (.tmp 15), type := 55, pos := "search.go:46", after := #[{ on := 12, ground := Ground.data }, { on := 12, ground := Ground.data }], guard := none }) rfl rfl ?_
        refine oper_make V (.tmp 15) (.tmp 15) 55 (by rfl) V.heap.size 4 j0 (.bool false) 1 Try.underlying55 hj0 jz0 jz1 .i64 .i64 (es.length : Int) (es.length : Int) es.length (by rfl) (by rfl) rfl rfl (by rw [jz2]; omega) (by unfold maxLen; omega) (Nat.le_refl _) ?_
        intro V1 hown hgrow
        have hb := below_made hgrow
        have hI : BRow V1 V.heap.size V.heap.size es.length (fun _ => false) := by rw [Nat.mul_one, show (Value.bool false).cells = #[.bool false] from rfl] at hown; exact brow_made hown
        have HK := hide (HJ.out.put13 hI hb HSZ.out)
        refine ⟨by exact HS.out _ HK.out.bel, by unfold BI7; exact ⟨false, true, false, false, true, v5, v6, v9, v12, _, by rfl, by rfl, by simp only [bn_true, bn_false] at hf ⊢; omega, by simp, g, gr, X, k6, gp, gl, V.heap.size, HK.out⟩⟩
    · refine step_all (rs := [2, 9]) (by kernel_rfl) (by simp) ?_
      intro i hi
      simp only [List.mem_cons, List.not_mem_nil, or_false] at hi
      rcases hi with rfl | rfl
      · refine wpOp_of (o := { dst := some 5, op := Op.call { callee := Callee.value (Operand.func 69), args := #[.tmp 4], argTypes := #[24] }, type := 29, pos := "search.go:48", after := #[{ on := 1, ground := Ground.data }], guard := none }) rfl rfl ?_
        clear q1 q2
        obtain ⟨q1, q2⟩ := HS.out _ HJ.out.bel
        go_simp
        refine (outs69 m p es cp V (HH.out.later HJ.out.bel) HM.out).mono ?_
        rintro e V1 ⟨g1, gr1, X1, rfl, hO, hb⟩
        have HK := hide (HJ.out.put2 hO hb HSZ.out)
        refine ⟨by exact HS.out _ HK.out.bel, by unfold BI7; exact ⟨true, true, false, false, true, _, v6, v9, v12, v16, by rfl, by rfl, by simp only [bn_true, bn_false] at hf ⊢; omega, by simp, g1, gr1, X1, k6, gp, gl, go, HK.out⟩⟩
      · refine wpOp_of (o := { dst := some 12, op := Op.makeSlice 32 (.tmp 11) (.tmp 11), type := 32, pos := "search.go:46", after := #[{ on := 8, ground := Ground.data }, { on := 8, ground := Ground.data }], guard := none }) rfl rfl ?_
        refine oper_make V (.tmp 11) (.tmp 11) 32 (by rfl) V.heap.size 3 i0 (.int .i64 0) 1 Try.underlying32 hi0 hz0 hz1 .i64 .i64 (m : Int) (m : Int) m (by rfl) (by rfl) rfl rfl (by rw [hz2]; omega) (by unfold maxLen; omega) (Nat.le_refl _) ?_
        intro V1 hown hgrow
        have hb := below_made hgrow
        have hI : IRow V1 V.heap.size V.heap.size m (List.replicate m 0) := by rw [Nat.mul_one, show (Value.int .i64 0).cells = #[.int .i64 0] from rfl] at hown; exact irow_made hown
        have HK := hide (HJ.out.put9 hI hb HSZ.out)
        refine ⟨by exact HS.out _ HK.out.bel, by unfold BI7; exact ⟨false, true, false, true, true, v5, v6, v9, _, v16, by rfl, by rfl, by simp only [bn_true, bn_false] at hf ⊢; omega, by simp, g, gr, X, k6, gp, V.heap.size, go, HK.out⟩⟩
    · refine step_all (rs := [2, 13]) (by kernel_rfl) (by simp) ?_
      intro i hi
      simp only [List.mem_cons, List.not_mem_nil, or_false] at hi
      rcases hi with rfl | rfl
      · refine wpOp_of (o := { dst := some 5, op := Op.call { callee := Callee.value (Operand.func 69), args := #[.tmp 4], argTypes := #[24] }, type := 29, pos := "search.go:48", after := #[{ on := 1, ground := Ground.data }], guard := none }) rfl rfl ?_
        clear q1 q2
        obtain ⟨q1, q2⟩ := HS.out _ HJ.out.bel
        go_simp
        refine (outs69 m p es cp V (HH.out.later HJ.out.bel) HM.out).mono ?_
        rintro e V1 ⟨g1, gr1, X1, rfl, hO, hb⟩
        have HK := hide (HJ.out.put2 hO hb HSZ.out)
        refine ⟨by exact HS.out _ HK.out.bel, by unfold BI7; exact ⟨true, true, false, true, false, _, v6, v9, v12, v16, by rfl, by rfl, by simp only [bn_true, bn_false] at hf ⊢; omega, by simp, g1, gr1, X1, k6, gp, gl, go, HK.out⟩⟩
      · refine wpOp_of (o := { dst := some 16, op := Op.makeSlice 55 (.tmp 15) (.tmp 15), type := 55, pos := "search.go:46", after := #[{ on := 12, ground := Ground.data }, { on := 12, ground := Ground.data }], guard := none }) rfl rfl ?_
        refine oper_make V (.tmp 15) (.tmp 15) 55 (by rfl) V.heap.size 4 j0 (.bool false) 1 Try.underlying55 hj0 jz0 jz1 .i64 .i64 (es.length : Int) (es.length : Int) es.length (by rfl) (by rfl) rfl rfl (by rw [jz2]; omega) (by unfold maxLen; omega) (Nat.le_refl _) ?_
        intro V1 hown hgrow
        have hb := below_made hgrow
        have hI : BRow V1 V.heap.size V.heap.size es.length (fun _ => false) := by rw [Nat.mul_one, show (Value.bool false).cells = #[.bool false] from rfl] at hown; exact brow_made hown
        have HK := hide (HJ.out.put13 hI hb HSZ.out)
        refine ⟨by exact HS.out _ HK.out.bel, by unfold BI7; exact ⟨false, true, false, true, true, v5, v6, v9, v12, _, by rfl, by rfl, by simp only [bn_true, bn_false] at hf ⊢; omega, by simp, g, gr, X, k6, gp, gl, V.heap.size, HK.out⟩⟩
    · refine step_all (rs := [2]) (by kernel_rfl) (by simp) ?_
      intro i hi
      simp only [List.mem_cons, List.not_mem_nil, or_false] at hi
      subst hi
      refine wpOp_of (o := { dst := some 5, op := Op.call { callee := Callee.value (Operand.func 69), args := #[.tmp 4], argTypes := #[24] }, type := 29, pos := "search.go:48", after := #[{ on := 1, ground := Ground.data }], guard := none }) rfl rfl ?_
      clear q1 q2
      obtain ⟨q1, q2⟩ := HS.out _ HJ.out.bel
      go_simp
      refine (outs69 m p es cp V (HH.out.later HJ.out.bel) HM.out).mono ?_
      rintro e V1 ⟨g1, gr1, X1, rfl, hO, hb⟩
      have HK := hide (HJ.out.put2 hO hb HSZ.out)
      refine ⟨by exact HS.out _ HK.out.bel, by unfold BI7; exact ⟨true, true, false, true, true, _, v6, v9, v12, v16, by rfl, by rfl, by simp only [bn_true, bn_false] at hf ⊢; omega, by simp, g1, gr1, X1, k6, gp, gl, go, HK.out⟩⟩
    · exact absurd h6 (by simp)
    · exact absurd h6 (by simp)
    · exact absurd h6 (by simp)
    · exact absurd h6 (by simp)
    · refine step_all (rs := [3, 9, 13]) (by kernel_rfl) (by simp) ?_
      intro i hi
      simp only [List.mem_cons, List.not_mem_nil, or_false] at hi
      rcases hi with rfl | rfl | rfl
      · refine wpOp_of (o := { dst := some 6, op := Op.buildSlice 32 1 #[(0, .const (Value.int IntKind.i64 (-1)))], type := 32, pos := "search.go:46", after := #[], guard := none }) rfl rfl ?_
        go_simp
        obtain ⟨V1, hV⟩ : ∃ V1, V1 = V.alloc (.cells #[.int .i64 (-1)] 3) := ⟨_, rfl⟩
        have hb : Below V.heap.size V V1 := by rw [hV]; go_grown
        have hc : V1.cell? ⟨V.heap.size, 0, none⟩ = some (.int .i64 (-1)) := by rw [hV]; exact one_int _ _
        rw [← hV]
        have HK := hide (HJ.out.put3 hc hb)
        refine ⟨by exact HS.out _ HK.out.bel, by unfold BI7; exact ⟨true, true, false, false, false, v5, _, v9, v12, v16, by rfl, by rfl, by simp only [bn_true, bn_false] at hf ⊢; omega, by simp, g, gr, X, V.heap.size, gp, gl, go, HK.out⟩⟩
      · refine wpOp_of (o := { dst := some 12, op := Op.makeSlice 32 (.tmp 11) (.tmp 11), type := 32, pos := "search.go:46", after := #[{ on := 8, ground := Ground.data }, { on := 8, ground := Ground.data }], guard := none }) rfl rfl ?_
        refine oper_make V (.tmp 11) (.tmp 11) 32 (by rfl) V.heap.size 3 i0 (.int .i64 0) 1 Try.underlying32 hi0 hz0 hz1 .i64 .i64 (m : Int) (m : Int) m (by rfl) (by rfl) rfl rfl (by rw [hz2]; omega) (by unfold maxLen; omega) (Nat.le_refl _) ?_
        intro V1 hown hgrow
        have hb := below_made hgrow
        have hI : IRow V1 V.heap.size V.heap.size m (List.replicate m 0) := by rw [Nat.mul_one, show (Value.int .i64 0).cells = #[.int .i64 0] from rfl] at hown; exact irow_made hown
        have HK := hide (HJ.out.put9 hI hb HSZ.out)
        refine ⟨by exact HS.out _ HK.out.bel, by unfold BI7; exact ⟨true, false, false, true, false, v5, v6, v9, _, v16, by rfl, by rfl, by simp only [bn_true, bn_false] at hf ⊢; omega, by simp, g, gr, X, k6, gp, V.heap.size, go, HK.out⟩⟩
      · refine wpOp_of (o := { dst := some 16, op := Op.makeSlice 55 (.tmp 15) (.tmp 15), type := 55, pos := "search.go:46", after := #[{ on := 12, ground := Ground.data }, { on := 12, ground := Ground.data }], guard := none }) rfl rfl ?_
        refine oper_make V (.tmp 15) (.tmp 15) 55 (by rfl) V.heap.size 4 j0 (.bool false) 1 Try.underlying55 hj0 jz0 jz1 .i64 .i64 (es.length : Int) (es.length : Int) es.length (by rfl) (by rfl) rfl rfl (by rw [jz2]; omega) (by unfold maxLen; omega) (Nat.le_refl _) ?_
        intro V1 hown hgrow
        have hb := below_made hgrow
        have hI : BRow V1 V.heap.size V.heap.size es.length (fun _ => false) := by rw [Nat.mul_one, show (Value.bool false).cells = #[.bool false] from rfl] at hown; exact brow_made hown
        have HK := hide (HJ.out.put13 hI hb HSZ.out)
        refine ⟨by exact HS.out _ HK.out.bel, by unfold BI7; exact ⟨true, false, false, false, true, v5, v6, v9, v12, _, by rfl, by rfl, by simp only [bn_true, bn_false] at hf ⊢; omega, by simp, g, gr, X, k6, gp, gl, V.heap.size, HK.out⟩⟩
    · refine step_all (rs := [3, 9]) (by kernel_rfl) (by simp) ?_
      intro i hi
      simp only [List.mem_cons, List.not_mem_nil, or_false] at hi
      rcases hi with rfl | rfl
      · refine wpOp_of (o := { dst := some 6, op := Op.buildSlice 32 1 #[(0, .const (Value.int IntKind.i64 (-1)))], type := 32, pos := "search.go:46", after := #[], guard := none }) rfl rfl ?_
        go_simp
        obtain ⟨V1, hV⟩ : ∃ V1, V1 = V.alloc (.cells #[.int .i64 (-1)] 3) := ⟨_, rfl⟩
        have hb : Below V.heap.size V V1 := by rw [hV]; go_grown
        have hc : V1.cell? ⟨V.heap.size, 0, none⟩ = some (.int .i64 (-1)) := by rw [hV]; exact one_int _ _
        rw [← hV]
        have HK := hide (HJ.out.put3 hc hb)
        refine ⟨by exact HS.out _ HK.out.bel, by unfold BI7; exact ⟨true, true, false, false, true, v5, _, v9, v12, v16, by rfl, by rfl, by simp only [bn_true, bn_false] at hf ⊢; omega, by simp, g, gr, X, V.heap.size, gp, gl, go, HK.out⟩⟩
      · refine wpOp_of (o := { dst := some 12, op := Op.makeSlice 32 (.tmp 11) (.tmp 11), type := 32, pos := "search.go:46", after := #[{ on := 8, ground := Ground.data }, { on := 8, ground := Ground.data }], guard := none }) rfl rfl ?_
        refine oper_make V (.tmp 11) (.tmp 11) 32 (by rfl) V.heap.size 3 i0 (.int .i64 0) 1 Try.underlying32 hi0 hz0 hz1 .i64 .i64 (m : Int) (m : Int) m (by rfl) (by rfl) rfl rfl (by rw [hz2]; omega) (by unfold maxLen; omega) (Nat.le_refl _) ?_
        intro V1 hown hgrow
        have hb := below_made hgrow
        have hI : IRow V1 V.heap.size V.heap.size m (List.replicate m 0) := by rw [Nat.mul_one, show (Value.int .i64 0).cells = #[.int .i64 0] from rfl] at hown; exact irow_made hown
        have HK := hide (HJ.out.put9 hI hb HSZ.out)
        refine ⟨by exact HS.out _ HK.out.bel, by unfold BI7; exact ⟨true, false, false, true, true, v5, v6, v9, _, v16, by rfl, by rfl, by simp only [bn_true, bn_false] at hf ⊢; omega, by simp, g, gr, X, k6, gp, V.heap.size, go, HK.out⟩⟩
    · refine step_all (rs := [3, 13]) (by kernel_rfl) (by simp) ?_
      intro i hi
      simp only [List.mem_cons, List.not_mem_nil, or_false] at hi
      rcases hi with rfl | rfl
      · refine wpOp_of (o := { dst := some 6, op := Op.buildSlice 32 1 #[(0, .const (Value.int IntKind.i64 (-1)))], type := 32, pos := "search.go:46", after := #[], guard := none }) rfl rfl ?_
        go_simp
        obtain ⟨V1, hV⟩ : ∃ V1, V1 = V.alloc (.cells #[.int .i64 (-1)] 3) := ⟨_, rfl⟩
        have hb : Below V.heap.size V V1 := by rw [hV]; go_grown
        have hc : V1.cell? ⟨V.heap.size, 0, none⟩ = some (.int .i64 (-1)) := by rw [hV]; exact one_int _ _
        rw [← hV]
        have HK := hide (HJ.out.put3 hc hb)
        refine ⟨by exact HS.out _ HK.out.bel, by unfold BI7; exact ⟨true, true, false, true, false, v5, _, v9, v12, v16, by rfl, by rfl, by simp only [bn_true, bn_false] at hf ⊢; omega, by simp, g, gr, X, V.heap.size, gp, gl, go, HK.out⟩⟩
      · refine wpOp_of (o := { dst := some 16, op := Op.makeSlice 55 (.tmp 15) (.tmp 15), type := 55, pos := "search.go:46", after := #[{ on := 12, ground := Ground.data }, { on := 12, ground := Ground.data }], guard := none }) rfl rfl ?_
        refine oper_make V (.tmp 15) (.tmp 15) 55 (by rfl) V.heap.size 4 j0 (.bool false) 1 Try.underlying55 hj0 jz0 jz1 .i64 .i64 (es.length : Int) (es.length : Int) es.length (by rfl) (by rfl) rfl rfl (by rw [jz2]; omega) (by unfold maxLen; omega) (Nat.le_refl _) ?_
        intro V1 hown hgrow
        have hb := below_made hgrow
        have hI : BRow V1 V.heap.size V.heap.size es.length (fun _ => false) := by rw [Nat.mul_one, show (Value.bool false).cells = #[.bool false] from rfl] at hown; exact brow_made hown
        have HK := hide (HJ.out.put13 hI hb HSZ.out)
        refine ⟨by exact HS.out _ HK.out.bel, by unfold BI7; exact ⟨true, false, false, true, true, v5, v6, v9, v12, _, by rfl, by rfl, by simp only [bn_true, bn_false] at hf ⊢; omega, by simp, g, gr, X, k6, gp, gl, V.heap.size, HK.out⟩⟩
    · refine step_all (rs := [3]) (by kernel_rfl) (by simp) ?_
      intro i hi
      simp only [List.mem_cons, List.not_mem_nil, or_false] at hi
      subst hi
      refine wpOp_of (o := { dst := some 6, op := Op.buildSlice 32 1 #[(0, .const (Value.int IntKind.i64 (-1)))], type := 32, pos := "search.go:46", after := #[], guard := none }) rfl rfl ?_
      go_simp
      obtain ⟨V1, hV⟩ : ∃ V1, V1 = V.alloc (.cells #[.int .i64 (-1)] 3) := ⟨_, rfl⟩
      have hb : Below V.heap.size V V1 := by rw [hV]; go_grown
      have hc : V1.cell? ⟨V.heap.size, 0, none⟩ = some (.int .i64 (-1)) := by rw [hV]; exact one_int _ _
      rw [← hV]
      have HK := hide (HJ.out.put3 hc hb)
      refine ⟨by exact HS.out _ HK.out.bel, by unfold BI7; exact ⟨true, true, false, true, true, v5, _, v9, v12, v16, by rfl, by rfl, by simp only [bn_true, bn_false] at hf ⊢; omega, by simp, g, gr, X, V.heap.size, gp, gl, go, HK.out⟩⟩
    · exact absurd h6 (by simp)
    · exact absurd h6 (by simp)
    · exact absurd h6 (by simp)
    · exact absurd h6 (by simp)
    · refine step_all (rs := [6, 9, 13]) (by kernel_rfl) (by simp) ?_
      intro i hi
      simp only [List.mem_cons, List.not_mem_nil, or_false] at hi
      rcases hi with rfl | rfl | rfl
      · refine wpOp_of (o := { dst := some 9, op := Op.call { callee := Callee.value (Operand.func 60), args := #[.tmp 6, .tmp 8], argTypes := #[32, 3] }, type := 32, pos := "search.go:49", after := #[{ on := 3, ground := Ground.data }, { on := 5, ground := Ground.data }, { on := 2, ground := Ground.chain }], guard := none }) rfl rfl ?_
        obtain ⟨e6, c6⟩ := HJ.out.h3 rfl
        subst e6
        go_simp
        refine (repeat52 k6 m (-1) V (by omega) c6).mono ?_
        rintro e V1 ⟨gp1, rfl, hI, hb⟩
        have HK := hide (HJ.out.put6 hI hb HSZ.out)
        refine ⟨by exact HS.out _ HK.out.bel, by unfold BI7; exact ⟨true, true, true, false, false, v5, _, _, v12, v16, by rfl, by rfl, by simp only [bn_true, bn_false] at hf ⊢; omega, by simp, g, gr, X, k6, gp1, gl, go, HK.out⟩⟩
      · refine wpOp_of (o := { dst := some 12, op := Op.makeSlice 32 (.tmp 11) (.tmp 11), type := 32, pos := "search.go:46", after := #[{ on := 8, ground := Ground.data }, { on := 8, ground := Ground.data }], guard := none }) rfl rfl ?_
        refine oper_make V (.tmp 11) (.tmp 11) 32 (by rfl) V.heap.size 3 i0 (.int .i64 0) 1 Try.underlying32 hi0 hz0 hz1 .i64 .i64 (m : Int) (m : Int) m (by rfl) (by rfl) rfl rfl (by rw [hz2]; omega) (by unfold maxLen; omega) (Nat.le_refl _) ?_
        intro V1 hown hgrow
        have hb := below_made hgrow
        have hI : IRow V1 V.heap.size V.heap.size m (List.replicate m 0) := by rw [Nat.mul_one, show (Value.int .i64 0).cells = #[.int .i64 0] from rfl] at hown; exact irow_made hown
        have HK := hide (HJ.out.put9 hI hb HSZ.out)
        refine ⟨by exact HS.out _ HK.out.bel, by unfold BI7; exact ⟨true, true, false, true, false, v5, v6, v9, _, v16, by rfl, by rfl, by simp only [bn_true, bn_false] at hf ⊢; omega, by simp, g, gr, X, k6, gp, V.heap.size, go, HK.out⟩⟩
      · refine wpOp_of (o := { dst := some 16, op := Op.makeSlice 55 (.tmp 15) (.tmp 15), type := 55, pos := "search.go:46", after := #[{ on := 12, ground := Ground.data }, { on := 12, ground := Ground.data }], guard := none }) rfl rfl ?_
        refine oper_make V (.tmp 15) (.tmp 15) 55 (by rfl) V.heap.size 4 j0 (.bool false) 1 Try.underlying55 hj0 jz0 jz1 .i64 .i64 (es.length : Int) (es.length : Int) es.length (by rfl) (by rfl) rfl rfl (by rw [jz2]; omega) (by unfold maxLen; omega) (Nat.le_refl _) ?_
        intro V1 hown hgrow
        have hb := below_made hgrow
        have hI : BRow V1 V.heap.size V.heap.size es.length (fun _ => false) := by rw [Nat.mul_one, show (Value.bool false).cells = #[.bool false] from rfl] at hown; exact brow_made hown
        have HK := hide (HJ.out.put13 hI hb HSZ.out)
        refine ⟨by exact HS.out _ HK.out.bel, by unfold BI7; exact ⟨true, true, false, false, true, v5, v6, v9, v12, _, by rfl, by rfl, by simp only [bn_true, bn_false] at hf ⊢; omega, by simp, g, gr, X, k6, gp, gl, V.heap.size, HK.out⟩⟩
    · refine step_all (rs := [6, 9]) (by kernel_rfl) (by simp) ?_
      intro i hi
      simp only [List.mem_cons, List.not_mem_nil, or_false] at hi
      rcases hi with rfl | rfl
      · refine wpOp_of (o := { dst := some 9, op := Op.call { callee := Callee.value (Operand.func 60), args := #[.tmp 6, .tmp 8], argTypes := #[32, 3] }, type := 32, pos := "search.go:49", after := #[{ on := 3, ground := Ground.data }, { on := 5, ground := Ground.data }, { on := 2, ground := Ground.chain }], guard := none }) rfl rfl ?_
        obtain ⟨e6, c6⟩ := HJ.out.h3 rfl
        subst e6
        go_simp
        refine (repeat52 k6 m (-1) V (by omega) c6).mono ?_
        rintro e V1 ⟨gp1, rfl, hI, hb⟩
        have HK := hide (HJ.out.put6 hI hb HSZ.out)
        refine ⟨by exact HS.out _ HK.out.bel, by unfold BI7; exact ⟨true, true, true, false, true, v5, _, _, v12, v16, by rfl, by rfl, by simp only [bn_true, bn_false] at hf ⊢; omega, by simp, g, gr, X, k6, gp1, gl, go, HK.out⟩⟩
      · refine wpOp_of (o := { dst := some 12, op := Op.makeSlice 32 (.tmp 11) (.tmp 11), type := 32, pos := "search.go:46", after := #[{ on := 8, ground := Ground.data }, { on := 8, ground := Ground.data }], guard := none }) rfl rfl ?_
        refine oper_make V (.tmp 11) (.tmp 11) 32 (by rfl) V.heap.size 3 i0 (.int .i64 0) 1 Try.underlying32 hi0 hz0 hz1 .i64 .i64 (m : Int) (m : Int) m (by rfl) (by rfl) rfl rfl (by rw [hz2]; omega) (by unfold maxLen; omega) (Nat.le_refl _) ?_
        intro V1 hown hgrow
        have hb := below_made hgrow
        have hI : IRow V1 V.heap.size V.heap.size m (List.replicate m 0) := by rw [Nat.mul_one, show (Value.int .i64 0).cells = #[.int .i64 0] from rfl] at hown; exact irow_made hown
        have HK := hide (HJ.out.put9 hI hb HSZ.out)
        refine ⟨by exact HS.out _ HK.out.bel, by unfold BI7; exact ⟨true, true, false, true, true, v5, v6, v9, _, v16, by rfl, by rfl, by simp only [bn_true, bn_false] at hf ⊢; omega, by simp, g, gr, X, k6, gp, V.heap.size, go, HK.out⟩⟩
    · refine step_all (rs := [6, 13]) (by kernel_rfl) (by simp) ?_
      intro i hi
      simp only [List.mem_cons, List.not_mem_nil, or_false] at hi
      rcases hi with rfl | rfl
      · refine wpOp_of (o := { dst := some 9, op := Op.call { callee := Callee.value (Operand.func 60), args := #[.tmp 6, .tmp 8], argTypes := #[32, 3] }, type := 32, pos := "search.go:49", after := #[{ on := 3, ground := Ground.data }, { on := 5, ground := Ground.data }, { on := 2, ground := Ground.chain }], guard := none }) rfl rfl ?_
        obtain ⟨e6, c6⟩ := HJ.out.h3 rfl
        subst e6
        go_simp
        refine (repeat52 k6 m (-1) V (by omega) c6).mono ?_
        rintro e V1 ⟨gp1, rfl, hI, hb⟩
        have HK := hide (HJ.out.put6 hI hb HSZ.out)
        refine ⟨by exact HS.out _ HK.out.bel, by unfold BI7; exact ⟨true, true, true, true, false, v5, _, _, v12, v16, by rfl, by rfl, by simp only [bn_true, bn_false] at hf ⊢; omega, by simp, g, gr, X, k6, gp1, gl, go, HK.out⟩⟩
      · refine wpOp_of (o := { dst := some 16, op := Op.makeSlice 55 (.tmp 15) (.tmp 15), type := 55, pos := "search.go:46", after := #[{ on := 12, ground := Ground.data }, { on := 12, ground := Ground.data }], guard := none }) rfl rfl ?_
        refine oper_make V (.tmp 15) (.tmp 15) 55 (by rfl) V.heap.size 4 j0 (.bool false) 1 Try.underlying55 hj0 jz0 jz1 .i64 .i64 (es.length : Int) (es.length : Int) es.length (by rfl) (by rfl) rfl rfl (by rw [jz2]; omega) (by unfold maxLen; omega) (Nat.le_refl _) ?_
        intro V1 hown hgrow
        have hb := below_made hgrow
        have hI : BRow V1 V.heap.size V.heap.size es.length (fun _ => false) := by rw [Nat.mul_one, show (Value.bool false).cells = #[.bool false] from rfl] at hown; exact brow_made hown
        have HK := hide (HJ.out.put13 hI hb HSZ.out)
        refine ⟨by exact HS.out _ HK.out.bel, by unfold BI7; exact ⟨true, true, false, true, true, v5, v6, v9, v12, _, by rfl, by rfl, by simp only [bn_true, bn_false] at hf ⊢; omega, by simp, g, gr, X, k6, gp, gl, V.heap.size, HK.out⟩⟩
    · refine step_all (rs := [6]) (by kernel_rfl) (by simp) ?_
      intro i hi
      simp only [List.mem_cons, List.not_mem_nil, or_false] at hi
      subst hi
      refine wpOp_of (o := { dst := some 9, op := Op.call { callee := Callee.value (Operand.func 60), args := #[.tmp 6, .tmp 8], argTypes := #[32, 3] }, type := 32, pos := "search.go:49", after := #[{ on := 3, ground := Ground.data }, { on := 5, ground := Ground.data }, { on := 2, ground := Ground.chain }], guard := none }) rfl rfl ?_
      obtain ⟨e6, c6⟩ := HJ.out.h3 rfl
      subst e6
      go_simp
      refine (repeat52 k6 m (-1) V (by omega) c6).mono ?_
      rintro e V1 ⟨gp1, rfl, hI, hb⟩
      have HK := hide (HJ.out.put6 hI hb HSZ.out)
      refine ⟨by exact HS.out _ HK.out.bel, by unfold BI7; exact ⟨true, true, true, true, true, v5, _, _, v12, v16, by rfl, by rfl, by simp only [bn_true, bn_false] at hf ⊢; omega, by simp, g, gr, X, k6, gp1, gl, go, HK.out⟩⟩
    · refine step_all (rs := [9, 13]) (by kernel_rfl) (by simp) ?_
      intro i hi
      simp only [List.mem_cons, List.not_mem_nil, or_false] at hi
      rcases hi with rfl | rfl
      · refine wpOp_of (o := { dst := some 12, op := Op.makeSlice 32 (.tmp 11) (.tmp 11), type := 32, pos := "search.go:46", after := #[{ on := 8, ground := Ground.data }, { on := 8, ground := Ground.data }], guard := none }) rfl rfl ?_
        refine oper_make V (.tmp 11) (.tmp 11) 32 (by rfl) V.heap.size 3 i0 (.int .i64 0) 1 Try.underlying32 hi0 hz0 hz1 .i64 .i64 (m : Int) (m : Int) m (by rfl) (by rfl) rfl rfl (by rw [hz2]; omega) (by unfold maxLen; omega) (Nat.le_refl _) ?_
        intro V1 hown hgrow
        have hb := below_made hgrow
        have hI : IRow V1 V.heap.size V.heap.size m (List.replicate m 0) := by rw [Nat.mul_one, show (Value.int .i64 0).cells = #[.int .i64 0] from rfl] at hown; exact irow_made hown
        have HK := hide (HJ.out.put9 hI hb HSZ.out)
        refine ⟨by exact HS.out _ HK.out.bel, by unfold BI7; exact ⟨true, true, true, true, false, v5, v6, v9, _, v16, by rfl, by rfl, by simp only [bn_true, bn_false] at hf ⊢; omega, by simp, g, gr, X, k6, gp, V.heap.size, go, HK.out⟩⟩
      · refine wpOp_of (o := { dst := some 16, op := Op.makeSlice 55 (.tmp 15) (.tmp 15), type := 55, pos := "search.go:46", after := #[{ on := 12, ground := Ground.data }, { on := 12, ground := Ground.data }], guard := none }) rfl rfl ?_
        refine oper_make V (.tmp 15) (.tmp 15) 55 (by rfl) V.heap.size 4 j0 (.bool false) 1 Try.underlying55 hj0 jz0 jz1 .i64 .i64 (es.length : Int) (es.length : Int) es.length (by rfl) (by rfl) rfl rfl (by rw [jz2]; omega) (by unfold maxLen; omega) (Nat.le_refl _) ?_
        intro V1 hown hgrow
        have hb := below_made hgrow
        have hI : BRow V1 V.heap.size V.heap.size es.length (fun _ => false) := by rw [Nat.mul_one, show (Value.bool false).cells = #[.bool false] from rfl] at hown; exact brow_made hown
        have HK := hide (HJ.out.put13 hI hb HSZ.out)
        refine ⟨by exact HS.out _ HK.out.bel, by unfold BI7; exact ⟨true, true, true, false, true, v5, v6, v9, v12, _, by rfl, by rfl, by simp only [bn_true, bn_false] at hf ⊢; omega, by simp, g, gr, X, k6, gp, gl, V.heap.size, HK.out⟩⟩
    · refine step_all (rs := [9]) (by kernel_rfl) (by simp) ?_
      intro i hi
      simp only [List.mem_cons, List.not_mem_nil, or_false] at hi
      subst hi
      refine wpOp_of (o := { dst := some 12, op := Op.makeSlice 32 (.tmp 11) (.tmp 11), type := 32, pos := "search.go:46", after := #[{ on := 8, ground := Ground.data }, { on := 8, ground := Ground.data }], guard := none }) rfl rfl ?_
      refine oper_make V (.tmp 11) (.tmp 11) 32 (by rfl) V.heap.size 3 i0 (.int .i64 0) 1 Try.underlying32 hi0 hz0 hz1 .i64 .i64 (m : Int) (m : Int) m (by rfl) (by rfl) rfl rfl (by rw [hz2]; omega) (by unfold maxLen; omega) (Nat.le_refl _) ?_
      intro V1 hown hgrow
      have hb := below_made hgrow
      have hI : IRow V1 V.heap.size V.heap.size m (List.replicate m 0) := by rw [Nat.mul_one, show (Value.int .i64 0).cells = #[.int .i64 0] from rfl] at hown; exact irow_made hown
      have HK := hide (HJ.out.put9 hI hb HSZ.out)
      refine ⟨by exact HS.out _ HK.out.bel, by unfold BI7; exact ⟨true, true, true, true, true, v5, v6, v9, _, v16, by rfl, by rfl, by simp only [bn_true, bn_false] at hf ⊢; omega, by simp, g, gr, X, k6, gp, V.heap.size, go, HK.out⟩⟩
    · refine step_all (rs := [13]) (by kernel_rfl) (by simp) ?_
      intro i hi
      simp only [List.mem_cons, List.not_mem_nil, or_false] at hi
      subst hi
      refine wpOp_of (o := { dst := some 16, op := Op.makeSlice 55 (.tmp 15) (.tmp 15), type := 55, pos := "search.go:46", after := #[{ on := 12, ground := Ground.data }, { on := 12, ground := Ground.data }], guard := none }) rfl rfl ?_
      refine oper_make V (.tmp 15) (.tmp 15) 55 (by rfl) V.heap.size 4 j0 (.bool false) 1 Try.underlying55 hj0 jz0 jz1 .i64 .i64 (es.length : Int) (es.length : Int) es.length (by rfl) (by rfl) rfl rfl (by rw [jz2]; omega) (by unfold maxLen; omega) (Nat.le_refl _) ?_
      intro V1 hown hgrow
      have hb := below_made hgrow
      have hI : BRow V1 V.heap.size V.heap.size es.length (fun _ => false) := by rw [Nat.mul_one, show (Value.bool false).cells = #[.bool false] from rfl] at hown; exact brow_made hown
      have HK := hide (HJ.out.put13 hI hb HSZ.out)
      refine ⟨by exact HS.out _ HK.out.bel, by unfold BI7; exact ⟨true, true, true, true, true, v5, v6, v9, v12, _, by rfl, by rfl, by simp only [bn_true, bn_false] at hf ⊢; omega, by simp, g, gr, X, k6, gp, gl, V.heap.size, HK.out⟩⟩
    · simp only [bn_true] at hf; omega
  case h0 =>
    clear hHeld
    intro l a V hI7
    unfold BI7 at hI7
    obtain ⟨b2, b3, b6, b9, b13, v5, v6, v9, v12, v16, rfl, rfl, hf, h6, g, gr, X, k6, gp, gl, go, hJ⟩ := hI7
    have HJ := hide hJ
    clear hJ q1 q2
    obtain ⟨q1, q2⟩ := HS.out _ HJ.out.bel
    have hHeld : V.cell? ⟨kb, 0, none⟩ = some (.int .i64 m) ∧ V.cell? ⟨kb, 1, none⟩ = some (.slice p es.length cp) := ⟨q1, q2⟩
    cases b2
    · rw [bn_false] at hf; omega
    cases b3
    · rw [bn_false] at hf; omega
    cases b6
    · rw [bn_false] at hf; omega
    cases b9
    · rw [bn_false] at hf; omega
    cases b13
    · rw [bn_false] at hf; omega
    clear hf h6
    obtain ⟨e5, _⟩ := HJ.out.h2 rfl
    obtain ⟨e9, _⟩ := HJ.out.h6 rfl
    obtain ⟨e12, _⟩ := HJ.out.h9 rfl
    obtain ⟨e16, _⟩ := HJ.out.h13 rfl
    subst e5 e9 e12 e16
    refine wpAnyH_take (i := 14) (v := ?v10) rfl (by kernel_rfl) (by kernel_rfl) (by kernel_rfl) (fun _ _ _ h => h) (Or.inl ⟨by rfl, ?hy10⟩) (by assumption) ?rest10
    case hy10 => (intro w hSw; (try dsimp only at hSw); go_simp; try with_reducible rfl)
    try simp only [Act.put, List.getElem_toArray, List.getElem_cons_zero, List.getElem_cons_succ, List.setIfInBounds_toArray, List.set_cons_zero, List.set_cons_succ]
    refine wpAnyH_ready (rs := [15]) (by kernel_rfl) (by simp) ?_
    refine ready_cons ({ dst := some 18, op := Op.box 86 (.tmp 17), type := 82, pos := "search.go:46", after := #[{ on := 14, ground := Ground.data }], guard := none }) rfl rfl (fun K hK => ?_) ?_
    · clear hHeld
      go_simp
      obtain ⟨V1, hV⟩ : ∃ V1, V1 = V.alloc (.cells #[.int .i64 m, .slice p es.length cp, .slice (some ⟨g, 0, none⟩) m m, .slice (some ⟨gp, 0, none⟩) m m, .slice (some ⟨gl, 0, none⟩) m m, .slice (some ⟨go, 0, none⟩) es.length es.length, .int .i64 0, .slice none 0 0, .slice none 0 0, .nilFunc] 86) := ⟨_, rfl⟩
      have HMd := hide (HJ.out.made HM.out (cp := cp) (p := p) HSZ.out hV)
      have HBV := hide (below_step HJ.out.bel HMd.out.2.1)
      rw [← hV]
      clear hV q1 q2
      obtain ⟨q1, q2⟩ := HS.out _ HBV.out
      refine hK.out _ _ (by first | with_reducible exact ⟨q1, q2⟩ | (dsimp only; with_reducible exact ⟨q1, q2⟩)) (fun hHeld => ?_)
      clear hK K
      try simp only [List.setIfInBounds_toArray, List.set_cons_zero, List.set_cons_succ]
      refine wpAnyH_take (i := 16) (v := ?v11) rfl (by kernel_rfl) (by kernel_rfl) (by kernel_rfl) (fun _ _ _ h => h) (Or.inl ⟨by rfl, ?hy11⟩) (by assumption) ?rest11
      case hy11 => (intro w hSw; (try dsimp only at hSw); go_simp; try with_reducible rfl)
      try simp only [Act.put, List.getElem_toArray, List.getElem_cons_zero, List.getElem_cons_succ, List.setIfInBounds_toArray, List.set_cons_zero, List.set_cons_succ]
      refine wpAnyH_done (by kernel_rfl) ?_ _
      clear hHeld
      go_wp2_with fail
      go_ret
      exact ⟨_, _, _, _, _, _, rfl, HMd.out.1, below_step HB.out HBV.out, HMd.out.2.2⟩
    exact AllReadyH.nil
end Go.Proofs.Ytobkejnlkjieoaa
