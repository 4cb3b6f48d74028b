/- The walk in memory; find. -/
import Derived.Test.YtobkejnlkjieoaaZC12
import Derived.Test.YtobkejnlkjieoaaZC02
import Derived.Test.YtobkejnlkjieoaaZC11
namespace Go.Proofs.Ytobkejnlkjieoaa
open Go.RowKit Go.Sort
open Go
theorem other1' {U : World} {g i : Nat} {a v : Value} {A : Addr} (h : U.cell? A = some v) (hne : A.block ≠ g) : (U.setCell ⟨g, i, none⟩ a).cell? A = some v := by
  rw [World.cell?_setCell_other _ _ _ _ (fun e => hne (by rw [← e]))]
  exact h
structure QRow (w : World) (B g n : Nat) (rv : Nat → Value) (L : Nat → List Int) : Prop where
  own : w.ownsRow B 32 1 (.slice (some ⟨g, 0, none⟩) n n) n ((List.range n).map rv)
  row : ∀ x, x < n → ∃ a c, rv x = .slice a (L x).length c ∧ IHas w a (L x) ∧ (L x).length ≤ maxLen ∧ (L x).length ≤ c ∧ (a = none → c = 0) ∧ (L x ≠ [] → ∀ ad, a = some ad → ad.block ≠ g)
theorem QRow.cell {w : World} {B g n x : Nat} {rv : Nat → Value} {L : Nat → List Int} (h : QRow w B g n rv L) (hx : x < n) : w.cell? ⟨g, x, none⟩ = some (rv x) ∧ w.frozen? ⟨g, x, none⟩ = false := by
  refine ⟨?_, World.ownsRow.frozenAt h.own x⟩
  rw [World.ownsRow.cellAt h.own x (by omega)]
  simp [hx]
theorem QRow.lt {w : World} {B g n : Nat} {rv : Nat → Value} {L : Nat → List Int} (h : QRow w B g n rv L) : B ≤ g ∧ g < w.heap.size := World.ownsRow.lt h.own g rfl
theorem QRow.later {w w' : World} {B g n : Nat} {rv : Nat → Value} {L : Nat → List Int} (h : QRow w B g n rv L) (hb : Below w.heap.size w w') : QRow w' B g n rv L :=
  ⟨World.ownsRow.kept h.own (grown_below hb) (Or.inr (by simp [Value.ownBlock])), fun x hx => by
    obtain ⟨a, c, h1, h2, h3⟩ := h.row x hx
    exact ⟨a, c, h1, h2.later hb, h3⟩⟩
theorem ihas_other {w : World} {a : Option Addr} {l : List Int} {g i : Nat} {u : Value} (h : IHas w a l) (hne : l ≠ [] → ∀ ad, a = some ad → ad.block ≠ g) : IHas (w.setCell ⟨g, i, none⟩ u) a l := by
  rcases h with h | ⟨b, off, rfl, hL⟩
  · exact Or.inl h
  · by_cases hl : l = []
    · exact Or.inl hl
    refine Or.inr ⟨b, off, rfl, fun j hj => ?_⟩
    exact other1' (hL j hj) (show b ≠ g from hne hl ⟨b, off, none⟩ rfl)
theorem QRow.set {w : World} {B g n k : Nat} {rv : Nat → Value} {L : Nat → List Int} (h : QRow w B g n rv L) {a : Option Addr} {c : Nat} {l : List Int} (h1 : IHas w a l) (h2 : l.length ≤ maxLen) (h3 : l.length ≤ c) (h4 : a = none → c = 0) (h5 : l ≠ [] → ∀ ad, a = some ad → ad.block ≠ g) : QRow (w.setCell ⟨g, k, none⟩ (.slice a l.length c)) B g n (upd rv k (.slice a l.length c)) (upd L k l) := by
  refine ⟨?_, fun x hx => ?_⟩
  · have q := (World.ownsRow.stored h.own k (.slice a l.length c)).1
    rw [show ((List.range n).map (upd rv k (.slice a l.length c))) = ((List.range n).map rv).set k (.slice a l.length c) from ?_]
    · exact q
    apply List.ext_getElem
    · simp
    intro i h4 h5
    simp only [List.getElem_map, List.getElem_range, List.getElem_set]
    by_cases hia : k = i
    · subst hia; simp [upd]
    · rw [if_neg hia, upd_other _ _ (fun e => hia e.symm)]
  · by_cases hkx : x = k
    · subst hkx; rw [upd_same, upd_same]; exact ⟨a, c, rfl, ihas_other h1 h5, h2, h3, h4, h5⟩
    · rw [upd_other _ _ hkx, upd_other _ _ hkx]
      obtain ⟨a', c', e1, e2, e3, e4, e5, e6⟩ := h.row x hx
      exact ⟨a', c', e1, ihas_other e2 e6, e3, e4, e5, e6⟩
/-- A row of truths. -/
def BRow (w : World) (base g n : Nat) (f : Nat → Bool) : Prop := w.ownsRow base 4 1 (.slice (some ⟨g, 0, none⟩) n n) n ((List.range n).map fun i => .bool (f i))
theorem BRow.later {w w' : World} {base g n : Nat} {f : Nat → Bool} (h : BRow w base g n f) (hb : Below w.heap.size w w') : BRow w' base g n f := World.ownsRow.kept h (grown_below hb) (Or.inr (by simp [Value.ownBlock]))
theorem BRow.cell {w : World} {base g n : Nat} {f : Nat → Bool} (h : BRow w base g n f) {i : Nat} (hi : i < n) : w.cell? ⟨g, i, none⟩ = some (.bool (f i)) ∧ w.frozen? ⟨g, i, none⟩ = false := by
  refine ⟨?_, World.ownsRow.frozenAt h i⟩
  rw [World.ownsRow.cellAt h i (by omega)]
  simp [hi]
theorem BRow.lt {w : World} {base g n : Nat} {f : Nat → Bool} (h : BRow w base g n f) : base ≤ g ∧ g < w.heap.size := World.ownsRow.lt h g rfl
theorem BRow.set {w : World} {base g n : Nat} {f : Nat → Bool} (h : BRow w base g n f) {i : Nat} (_hi : i < n) : BRow (w.setCell ⟨g, i, none⟩ (.bool true)) base g n (fun x => if x = i then true else f x) := by
  have q := (World.ownsRow.stored h i (.bool true)).1
  unfold BRow
  rw [show ((List.range n).map fun x => Value.bool (if x = i then true else f x)) = ((List.range n).map fun x => Value.bool (f x)).set i (.bool true) from ?_]
  · exact q
  · refine List.ext_getElem (by simp) ?_
    intro k h1 h2
    simp only [List.getElem_map, List.getElem_range, List.getElem_set]
    by_cases e : i = k
    · rw [if_pos e, if_pos e.symm]
    · rw [if_neg e, if_neg (fun h => e h.symm)]
theorem BRow.congr {w : World} {base g n : Nat} {f f' : Nat → Bool} (h : BRow w base g n f) (he : ∀ i, i < n → f i = f' i) : BRow w base g n f' := by
  unfold BRow at h ⊢
  rw [show ((List.range n).map fun x => Value.bool (f' x)) = ((List.range n).map fun x => Value.bool (f x)) from ?_]
  · exact h
  · refine List.map_congr_left ?_
    intro i hi
    rw [he i (List.mem_range.1 hi)]
/-- A function's first values, as a list. -/
def fnL (n : Nat) (f : Nat → Int) : List Int := (List.range n).map f
theorem fnL_length (n : Nat) (f : Nat → Int) : (fnL n f).length = n := by simp [fnL]
theorem fnL_at {n : Nat} (f : Nat → Int) {v : Nat} (h : v < n) : iat (fnL n f) v = f v := by
  unfold fnL iat
  rw [List.getD_eq_getElem?_getD, List.getElem?_map, List.getElem?_range h]
  rfl
theorem fnL_set {n : Nat} (f : Nat → Int) {v : Nat} (_h : v < n) (x : Int) : (fnL n f).set v x = fnL n (upd f v x) := by
  unfold fnL
  refine List.ext_getElem (by simp) fun i h1 h2 => ?_
  simp only [List.getElem_set, List.getElem_map, List.getElem_range]
  by_cases e : v = i
  · rw [if_pos e, e, upd_same]
  · rw [if_neg e, upd_other _ _ fun h => e h.symm]
/-- The walk's struct and what it holds. -/
structure SM (w : World) (B k n : Nat) (p : Option Addr) (es : List Pt) (cp gr gp gl go : Nat) (rv : Nat → Value) (vt vo sh : Value) (s : BS) : Prop where
  box : w.ownsRow B 86 10 (.slice (some ⟨k, 0, none⟩) 1 1) 1 [.int .i64 n, .slice p es.length cp, .slice (some ⟨gr, 0, none⟩) n n, .slice (some ⟨gp, 0, none⟩) n n, .slice (some ⟨gl, 0, none⟩) n n, .slice (some ⟨go, 0, none⟩) es.length es.length, .int .i64 (s.fd : Nat), vt, vo, sh]
  pl : IRow w B gp n (fnL n s.pl)
  lw : IRow w B gl n (fnL n s.lw)
  ov : BRow w B go es.length s.ov
  tr : IOwns w B vt (s.tr.map fun (x : Nat) => (x : Int))
  op : IOwns w B vo (s.op.map fun (x : Nat) => (x : Int))
  rw : QRow w B gr n rv fun v => (ob es v).drop (s.rs v)
  n1 : gp ≠ gl ∧ vt.ownBlock ≠ some gp ∧ vt.ownBlock ≠ some gl ∧ vo.ownBlock ≠ some gp ∧ vo.ownBlock ≠ some gl
  n2 : ∀ b, vt.ownBlock = some b → vo.ownBlock ≠ some b
  n3 : ∀ v, v < n → ∀ b, (rv v).ownBlock = some b → b ≠ gp ∧ b ≠ gl ∧ vt.ownBlock ≠ some b ∧ vo.ownBlock ≠ some b
  n4 : ∀ v, v < n → (rv v).ownBlock ≠ some k
  n5 : ∀ v, v < n → (rv v).ownBlock ≠ some go
theorem SM.later {w w' : World} {B k n : Nat} {p : Option Addr} {es : List Pt} {cp gr gp gl go : Nat} {rv : Nat → Value} {vt vo sh : Value} {s : BS} (h : SM w B k n p es cp gr gp gl go rv vt vo sh s) (hb : Below w.heap.size w w') : SM w' B k n p es cp gr gp gl go rv vt vo sh s :=
  ⟨World.ownsRow.kept h.box (grown_below hb) (Or.inr (by simp [Value.ownBlock])), h.pl.later hb, h.lw.later hb, h.ov.later hb, h.tr.later hb, h.op.later hb, h.rw.later hb, h.n1, h.n2, h.n3, h.n4, h.n5⟩
/-- The struct's cells. -/
theorem SM.cell {w : World} {B k n : Nat} {p : Option Addr} {es : List Pt} {cp gr gp gl go : Nat} {rv : Nat → Value} {vt vo sh : Value} {s : BS} (h : SM w B k n p es cp gr gp gl go rv vt vo sh s) (j : Nat) (hj : j < 10) : w.cell? ⟨k, j, none⟩ = [.int .i64 n, .slice p es.length cp, .slice (some ⟨gr, 0, none⟩) n n, .slice (some ⟨gp, 0, none⟩) n n, .slice (some ⟨gl, 0, none⟩) n n, .slice (some ⟨go, 0, none⟩) es.length es.length, .int .i64 (s.fd : Nat), vt, vo, sh][j]? ∧ w.frozen? ⟨k, j, none⟩ = false :=
  ⟨World.ownsRow.cellAt h.box j (by omega), World.ownsRow.frozenAt h.box j⟩
theorem own_kindB {w : World} {B e size n : Nat} {v : Value} {xs : List Value} (h : w.ownsRow B e size v n xs) {g : Nat} (hg : v.ownBlock = some g) : ∃ cur, w.heap[g]? = some (.cells cur e (0, 0)) := by
  obtain ⟨_, ⟨h1, _⟩ | ⟨g1, c1, cur1, h1, h2, h3, _⟩⟩ := h
  · rw [h1] at hg; simp [Value.ownBlock] at hg
  · rw [h1] at hg
    simp only [Value.ownBlock, Option.some.injEq] at hg
    rw [← hg]
    exact ⟨_, h3⟩
theorem own_ne {w : World} {B B' e e' size size' n n' g : Nat} {v v' : Value} {xs xs' : List Value} (h : w.ownsRow B e size v n xs) (h' : w.ownsRow B' e' size' v' n' xs') (he : e ≠ e') (hg : v.ownBlock = some g) : v'.ownBlock ≠ some g := fun hg' => by
  obtain ⟨c1, h1⟩ := own_kindB h hg
  obtain ⟨c2, h2⟩ := own_kindB h' hg'
  rw [h1] at h2
  injection h2 with h2
  injection h2 with _ h3 _
  exact he h3
theorem QRow.away {w : World} {B g n j i : Nat} {rv : Nat → Value} {L : Nat → List Int} (h : QRow w B g n rv L) (hne : g ≠ j) (hb : ∀ x, x < n → (rv x).ownBlock ≠ some j) (u : Value) : QRow (w.setCell ⟨j, i, none⟩ u) B g n rv L := by
  refine ⟨ownsRow_setCell_other (a := ⟨j, i, none⟩) h.own (by simp [Value.ownBlock]; exact hne) u, fun x hx => ?_⟩
  obtain ⟨a, c, e1, e2, e3⟩ := h.row x hx
  refine ⟨a, c, e1, ihas_other e2 fun _ ad e he => hb x hx ?_, e3⟩
  rw [e1, e, ← he]
  rfl
/-- One number of a row of numbers is written. -/
theorem SM.put {w : World} {B k n : Nat} {p : Option Addr} {es : List Pt} {cp gr gp gl go : Nat} {rv : Nat → Value} {vt vo sh : Value} {s : BS} (h : SM w B k n p es cp gr gp gl go rv vt vo sh s) {v : Nat} (hv : v < n) (x : Int) : SM (w.setCell ⟨gp, v, none⟩ (.int .i64 x)) B k n p es cp gr gp gl go rv vt vo sh { s with pl := upd s.pl v x } ∧ SM (w.setCell ⟨gl, v, none⟩ (.int .i64 x)) B k n p es cp gr gp gl go rv vt vo sh { s with lw := upd s.lw v x } := by
  have kp : (Value.slice (some ⟨k, 0, none⟩) 1 1).ownBlock ≠ some gp := fun e => own_ne h.box h.pl.2 (by decide) e rfl
  have kl : (Value.slice (some ⟨k, 0, none⟩) 1 1).ownBlock ≠ some gl := fun e => own_ne h.box h.lw.2 (by decide) e rfl
  have op' : (Value.slice (some ⟨go, 0, none⟩) es.length es.length).ownBlock ≠ some gp := fun e => own_ne h.ov h.pl.2 (by decide) e rfl
  have ol : (Value.slice (some ⟨go, 0, none⟩) es.length es.length).ownBlock ≠ some gl := fun e => own_ne h.ov h.lw.2 (by decide) e rfl
  have rp : gr ≠ gp := fun e => own_ne h.rw.own h.pl.2 (by decide) (by rw [e]; rfl) rfl
  have rl : gr ≠ gl := fun e => own_ne h.rw.own h.lw.2 (by decide) (by rw [e]; rfl) rfl
  obtain ⟨a1, a2, a3, a4, a5⟩ := h.n1
  have b1 : ∀ y, y < n → (rv y).ownBlock ≠ some gp := fun y hy e => (h.n3 y hy gp e).1 rfl
  have b2 : ∀ y, y < n → (rv y).ownBlock ≠ some gl := fun y hy e => (h.n3 y hy gl e).2.1 rfl
  constructor
  · refine ⟨ownsRow_setCell_other (a := ⟨gp, v, none⟩) h.box kp _, ?_, ⟨h.lw.1, ownsRow_setCell_other (a := ⟨gp, v, none⟩) h.lw.2 (by simp [Value.ownBlock]; exact fun e => a1 e.symm) _⟩, ownsRow_setCell_other (a := ⟨gp, v, none⟩) h.ov op' _, ownsRow_setCell_other (a := ⟨gp, v, none⟩) h.tr a2 _, ownsRow_setCell_other (a := ⟨gp, v, none⟩) h.op a4 _, h.rw.away rp b1 _, h.n1, h.n2, h.n3, h.n4, h.n5⟩
    have := h.pl.set v x
    rw [fnL_set _ hv] at this
    exact this
  · refine ⟨ownsRow_setCell_other (a := ⟨gl, v, none⟩) h.box kl _, ⟨h.pl.1, ownsRow_setCell_other (a := ⟨gl, v, none⟩) h.pl.2 (by simp [Value.ownBlock]; exact a1) _⟩, ?_, ownsRow_setCell_other (a := ⟨gl, v, none⟩) h.ov ol _, ownsRow_setCell_other (a := ⟨gl, v, none⟩) h.tr a3 _, ownsRow_setCell_other (a := ⟨gl, v, none⟩) h.op a5 _, h.rw.away rl b2 _, h.n1, h.n2, h.n3, h.n4, h.n5⟩
    have := h.lw.set v x
    rw [fnL_set _ hv] at this
    exact this
/-- What stands beside the struct does not see it written. -/
theorem SM.store {w : World} {B k n : Nat} {p : Option Addr} {es : List Pt} {cp gr gp gl go : Nat} {rv : Nat → Value} {vt vo sh : Value} {s : BS} (h : SM w B k n p es cp gr gp gl go rv vt vo sh s) (fd : Nat) : SM (w.setCell ⟨k, 6, none⟩ (.int .i64 (fd : Nat))) B k n p es cp gr gp gl go rv vt vo sh { s with fd := fd } := by
  have kk : (Value.slice (some ⟨k, 0, none⟩) 1 1).ownBlock = some k := rfl
  exact ⟨(World.ownsRow.stored h.box 6 (.int .i64 (fd : Nat))).1, ⟨h.pl.1, ownsRow_setCell_other (a := ⟨k, 6, none⟩) h.pl.2 (fun e => own_ne h.pl.2 h.box (by decide) e kk) _⟩, ⟨h.lw.1, ownsRow_setCell_other (a := ⟨k, 6, none⟩) h.lw.2 (fun e => own_ne h.lw.2 h.box (by decide) e kk) _⟩, ownsRow_setCell_other (a := ⟨k, 6, none⟩) h.ov (fun e => own_ne h.ov h.box (by decide) e kk) _, ownsRow_setCell_other (a := ⟨k, 6, none⟩) h.tr (fun e => own_ne h.tr h.box (by decide) e kk) _, ownsRow_setCell_other (a := ⟨k, 6, none⟩) h.op (fun e => own_ne h.op h.box (by decide) e kk) _, h.rw.away (fun e => own_ne h.rw.own h.box (by decide) (by rw [e]; rfl) kk) (fun y hy e => h.n4 y hy e) _, h.n1, h.n2, h.n3, h.n4, h.n5⟩
set_option maxRecDepth 100000 in
set_option maxHeartbeats 8000000 in
theorem find74 (B k n : Nat) (p : Option Addr) (es : List Pt) (cp gr gp gl go : Nat) (rv : Nat → Value) (vt vo sh : Value) (s : BS) (v : Nat) (w : World) (h : SM w B k n p es cp gr gp gl go rv vt vo sh s) (hv : v < n) (hf : s.fd ≤ 100000) : Calls Try.prog 74 #[.pointer (some ⟨k, 0, none⟩), .int .i64 v] w fun e w' => e = .returned (.tuple #[]) ∧ SM w' B k n p es cp gr gp gl go rv vt vo sh (findB v s) ∧ Frame w w' (fun b => b = k ∨ b = gp ∨ b = gl) := by
  obtain ⟨c3, f3⟩ := h.cell 3 (by omega)
  obtain ⟨c4, f4⟩ := h.cell 4 (by omega)
  obtain ⟨c6, f6⟩ := h.cell 6 (by omega)
  simp only [List.getElem?_cons_succ, List.getElem?_cons_zero] at c3 c4 c6
  obtain ⟨p0, p1⟩ := h.pl.cell hv
  obtain ⟨l0, l1⟩ := h.lw.cell hv
  have v1 : (v : Int) < n := by omega
  have kp : k ≠ gp := fun e => own_ne h.box h.pl.2 (by decide) rfl (by rw [e]; rfl)
  have kl : k ≠ gl := fun e => own_ne h.box h.lw.2 (by decide) rfl (by rw [e]; rfl)
  have pl : gp ≠ gl := h.n1.1
  have HH := hide h
  obtain ⟨a, ha⟩ : ∃ x, iat (fnL n s.pl) v = x := ⟨_, rfl⟩
  obtain ⟨b, hb⟩ : ∃ x, iat (fnL n s.lw) v = x := ⟨_, rfl⟩
  obtain ⟨fd, hfd⟩ : ∃ x, s.fd = x := ⟨_, rfl⟩
  have HFD := hide hfd
  rw [ha] at p0
  rw [hb] at l0
  rw [hfd] at c6 hf
  clear h ha hb hfd
  go_enter Try.func74, Try.ntmps74
  go_upto_region 0 with fail
  go_region
  obtain ⟨V, hV⟩ : ∃ V, V = ((w.setCell ⟨gp, v, none⟩ (.int .i64 (fd : Nat))).setCell ⟨gl, v, none⟩ (.int .i64 (fd : Nat))).drew := ⟨_, rfl⟩
  have HS : Hid (SM V B k n p es cp gr gp gl go rv vt vo sh { s with pl := upd s.pl v (fd : Nat), lw := upd s.lw v (fd : Nat) }) := by
    show SM _ _ _ _ _ _ _ _ _ _ _ _ _ _ _ _
    rw [hV]
    exact (((HH.out.put hv (fd : Nat)).1.put hv (fd : Nat)).2).later (below_drew _)
  have HF : Hid (Frame w V (fun b => b = k ∨ b = gp ∨ b = gl)) := by
    show Frame _ _ _
    rw [hV]
    exact ((Frame.set w ⟨gp, v, none⟩ _ (Or.inr (Or.inl rfl))).trans (Frame.set _ ⟨gl, v, none⟩ _ (Or.inr (Or.inr rfl)))).trans (Frame.of_below (below_drew _) _)
  rw [← hV]
  clear hV c3 c4 c6 f3 f4 f6 p0 p1 l0 l1
  obtain ⟨c6, f6⟩ := HS.out.cell 6 (by omega)
  simp only [List.getElem?_cons_succ, List.getElem?_cons_zero] at c6
  rw [HFD.out] at c6
  have HT : Hid (SM (V.setCell ⟨k, 6, none⟩ (.int .i64 ((fd + 1 : Nat) : Int))) B k n p es cp gr gp gl go rv vt vo sh (findB v s)) := by
    have := HS.out.store (fd + 1)
    show SM _ _ _ _ _ _ _ _ _ _ _ _ _ _ _ _
    unfold findB
    rw [HFD.out]
    exact this
  have HG : Hid (Frame w (V.setCell ⟨k, 6, none⟩ (.int .i64 ((fd + 1 : Nat) : Int))) (fun b => b = k ∨ b = gp ∨ b = gl)) := HF.out.trans (Frame.set _ _ _ (Or.inl rfl))
  have e1 : ((fd + 1 : Nat) : Int) = (fd : Int) + 1 := by omega
  rw [e1] at HT HG
  clear e1
  go_wp2
  go_end0
  exact ⟨rfl, HT.out, HG.out⟩
end Go.Proofs.Ytobkejnlkjieoaa

/- parted's memory: the walk's struct, and the variables that its closure caught. -/
namespace Go.Proofs.Ytobkejnlkjieoaa
open Go.RowKit Go.Sort
open Go
/-- The closure: its catch in the order in which it is made. -/
def shV (cs cc co : Nat) : Value := .func (.func 58) #[] #[(Value.pointer (some ⟨cs, 0, none⟩)), (Value.pointer (some ⟨cc, 0, none⟩)), (Value.pointer (some ⟨co, 0, none⟩))]
/-- All that parted holds. -/
structure PM (w : World) (B k n : Nat) (p : Option Addr) (es : List Pt) (cp gr gp gl go cs cc co gof : Nat) (rv : Nat → Value) (vt vo : Value) (s : BS) : Prop where
  sm : SM w B k n p es cp gr gp gl go rv vt vo (shV cs cc co) s
  vs : w.ownsRow B 82 1 (.slice (some ⟨cs, 0, none⟩) 1 1) 1 [(Value.pointer (some ⟨k, 0, none⟩))]
  vc : IRow w B cc 1 [(s.ct : Int)]
  va : w.ownsRow B 32 1 (.slice (some ⟨co, 0, none⟩) 1 1) 1 [.slice (some ⟨gof, 0, none⟩) es.length es.length]
  of : IRow w B gof es.length (fnL es.length s.bk)
  d1 : cc ≠ gof ∧ cc ≠ gp ∧ cc ≠ gl ∧ gof ≠ gp ∧ gof ≠ gl ∧ co ≠ gr
  d2 : vt.ownBlock ≠ some cc ∧ vt.ownBlock ≠ some gof ∧ vo.ownBlock ≠ some cc ∧ vo.ownBlock ≠ some gof
  d3 : ∀ v, v < n → ∀ b, (rv v).ownBlock = some b → b ≠ cc ∧ b ≠ gof ∧ b ≠ co ∧ b ≠ cs
  d4 : ∀ v, v < n → ∀ b, (rv v).ownBlock = some b → b < w.heap.size
/-- With what changes left open. -/
def PW (w : World) (B k n : Nat) (p : Option Addr) (es : List Pt) (cp gr gp gl go cs cc co gof : Nat) (s : BS) : Prop := ∃ rv vt vo, PM w B k n p es cp gr gp gl go cs cc co gof rv vt vo s
section
variable {w w' : World} {B k n : Nat} {p : Option Addr} {es : List Pt} {cp gr gp gl go cs cc co gof : Nat} {rv : Nat → Value} {vt vo : Value} {s s' : BS}
theorem own_ne' {w : World} {B B' e e' size size' n n' : Nat} {c c' m m' : Nat} {h h' : Nat} {xs xs' : List Value} (o : w.ownsRow B e size (.slice (some ⟨h, 0, none⟩) c m) n xs) (o' : w.ownsRow B' e' size' (.slice (some ⟨h', 0, none⟩) c' m') n' xs') (he : e ≠ e') : h ≠ h' := fun k => own_ne o o' he (g := h) rfl (by rw [k]; rfl)
/-- The blocks that the struct's own part writes; the rest stands. -/
theorem PM.step (h : PM w B k n p es cp gr gp gl go cs cc co gof rv vt vo s) {q : Nat → Prop} (f : Frame w w' q) (hq : ∀ b, q b → b ≠ cs ∧ b ≠ cc ∧ b ≠ co ∧ b ≠ gof) (hs : SM w' B k n p es cp gr gp gl go rv vt vo (shV cs cc co) s') (hb : s'.bk = s.bk) (hc : s'.ct = s.ct) : PM w' B k n p es cp gr gp gl go cs cc co gof rv vt vo s' := by
  refine ⟨hs, f.row h.vs fun i hi hqi => ?_, ?_, f.row h.va fun i hi hqi => ?_, ?_, h.d1, h.d2, h.d3, fun v hv b hb => Nat.lt_of_lt_of_le (h.d4 v hv b hb) f.size⟩
  · simp [Value.ownBlock] at hi
    exact (hq i hqi).1 hi.symm
  · rw [hc]
    exact ⟨h.vc.1, f.row h.vc.2 fun i hi hqi => by simp [Value.ownBlock] at hi; exact (hq i hqi).2.1 hi.symm⟩
  · simp [Value.ownBlock] at hi
    exact (hq i hqi).2.2.1 hi.symm
  · rw [hb]
    exact ⟨h.of.1, f.row h.of.2 fun i hi hqi => by simp [Value.ownBlock] at hi; exact (hq i hqi).2.2.2 hi.symm⟩
theorem PM.later (h : PM w B k n p es cp gr gp gl go cs cc co gof rv vt vo s) (hb : Below w.heap.size w w') : PM w' B k n p es cp gr gp gl go cs cc co gof rv vt vo s :=
  h.step (Frame.of_below hb fun _ => False) (fun _ e => e.elim) (h.sm.later hb) rfl rfl
theorem PM.ne (h : PM w B k n p es cp gr gp gl go cs cc co gof rv vt vo s) : k ≠ cs ∧ k ≠ cc ∧ k ≠ co ∧ k ≠ gof ∧ gp ≠ cs ∧ gp ≠ co ∧ gl ≠ cs ∧ gl ≠ co ∧ go ≠ cs ∧ go ≠ cc ∧ go ≠ co ∧ go ≠ gof ∧ gr ≠ cs ∧ gr ≠ cc ∧ gr ≠ gof :=
  ⟨own_ne' h.sm.box h.vs (by decide), own_ne' h.sm.box h.vc.2 (by decide), own_ne' h.sm.box h.va (by decide), own_ne' h.sm.box h.of.2 (by decide), own_ne' h.sm.pl.2 h.vs (by decide), own_ne' h.sm.pl.2 h.va (by decide), own_ne' h.sm.lw.2 h.vs (by decide), own_ne' h.sm.lw.2 h.va (by decide), own_ne' h.sm.ov h.vs (by decide), own_ne' h.sm.ov h.vc.2 (by decide), own_ne' h.sm.ov h.va (by decide), own_ne' h.sm.ov h.of.2 (by decide), own_ne' h.sm.rw.own h.vs (by decide), own_ne' h.sm.rw.own h.vc.2 (by decide), own_ne' h.sm.rw.own h.of.2 (by decide)⟩
theorem PM.vcell (h : PM w B k n p es cp gr gp gl go cs cc co gof rv vt vo s) : w.cell? ⟨cs, 0, none⟩ = some ((Value.pointer (some ⟨k, 0, none⟩))) ∧ w.cell? ⟨cc, 0, none⟩ = some (.int .i64 s.ct) ∧ w.frozen? ⟨cc, 0, none⟩ = false ∧ w.cell? ⟨co, 0, none⟩ = some (.slice (some ⟨gof, 0, none⟩) es.length es.length) :=
  ⟨World.ownsRow.cellAt h.vs 0 (by omega), (h.vc.cell (by omega : 0 < 1)).1, (h.vc.cell (by omega : 0 < 1)).2, World.ownsRow.cellAt h.va 0 (by omega)⟩
end
end Go.Proofs.Ytobkejnlkjieoaa
