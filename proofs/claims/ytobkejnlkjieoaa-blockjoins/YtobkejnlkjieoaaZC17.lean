/- The walk's struct: what is stored in it, piece by piece. -/
import Derived.Test.YtobkejnlkjieoaaZC13
import Derived.BigRegion
import Derived.Deep.QuietTactic
import Derived.BigQuiet
import Derived.Lib.QuietBelow
namespace Go.Proofs.Ytobkejnlkjieoaa
open Go.RowKit Go.Sort
open Go
section
variable {w w1 w' : World} {B k n : Nat} {p : Option Addr} {es : List Pt} {cp gr gp gl go : Nat} {rv : Nat → Value} {vt vo sh : Value} {s : BS}
theorem not_some {v : Value} {b c : Nat} (h : v.ownBlock ≠ some b) (hc : v.ownBlock = some c) : c ≠ b := fun e => h (by rw [hc, e])
/-- The struct, one of its cells stored; the rest elsewhere. -/
theorem SM.field (h : SM w B k n p es cp gr gp gl go rv vt vo sh s) (j : Nat) (u : Value) : (w.setCell ⟨k, j, none⟩ u).ownsRow B 86 10 (.slice (some ⟨k, 0, none⟩) 1 1) 1 ([.int .i64 n, .slice p es.length cp, .slice (some ⟨gr, 0, none⟩) n n, .slice (some ⟨gp, 0, none⟩) n n, .slice (some ⟨gl, 0, none⟩) n n, .slice (some ⟨go, 0, none⟩) es.length es.length, .int .i64 (s.fd : Nat), vt, vo, sh].set j u) ∧ IRow (w.setCell ⟨k, j, none⟩ u) B gp n (fnL n s.pl) ∧ IRow (w.setCell ⟨k, j, none⟩ u) B gl n (fnL n s.lw) ∧ BRow (w.setCell ⟨k, j, none⟩ u) B go es.length s.ov ∧ IOwns (w.setCell ⟨k, j, none⟩ u) B vt (s.tr.map fun (x : Nat) => (x : Int)) ∧ IOwns (w.setCell ⟨k, j, none⟩ u) B vo (s.op.map fun (x : Nat) => (x : Int)) ∧ QRow (w.setCell ⟨k, j, none⟩ u) B gr n rv fun v => (ob es v).drop (s.rs v) := by
  have kk : (Value.slice (some ⟨k, 0, none⟩) 1 1).ownBlock = some k := rfl
  exact ⟨(World.ownsRow.stored h.box j u).1, ⟨h.pl.1, ownsRow_setCell_other (a := ⟨k, j, none⟩) h.pl.2 (fun e => own_ne h.pl.2 h.box (by decide) e kk) _⟩, ⟨h.lw.1, ownsRow_setCell_other (a := ⟨k, j, none⟩) h.lw.2 (fun e => own_ne h.lw.2 h.box (by decide) e kk) _⟩, ownsRow_setCell_other (a := ⟨k, j, none⟩) h.ov (fun e => own_ne h.ov h.box (by decide) e kk) _, ownsRow_setCell_other (a := ⟨k, j, none⟩) h.tr (fun e => own_ne h.tr h.box (by decide) e kk) _, ownsRow_setCell_other (a := ⟨k, j, none⟩) h.op (fun e => own_ne h.op h.box (by decide) e kk) _, h.rw.away (fun e => own_ne h.rw.own h.box (by decide) (by rw [e]; rfl) kk) (fun y hy e => h.n4 y hy e) _⟩
/-- What no other piece lies in may change. -/
theorem SM.frame (h : SM w B k n p es cp gr gp gl go rv vt vo sh s) {q : Nat → Prop} (f : Frame w w1 q) (q1 : ¬ q k ∧ ¬ q gp ∧ ¬ q gl ∧ ¬ q go ∧ ¬ q gr) (qr : ∀ v, v < n → ∀ b, (rv v).ownBlock = some b → ¬ q b) : w1.ownsRow B 86 10 (.slice (some ⟨k, 0, none⟩) 1 1) 1 [.int .i64 n, .slice p es.length cp, .slice (some ⟨gr, 0, none⟩) n n, .slice (some ⟨gp, 0, none⟩) n n, .slice (some ⟨gl, 0, none⟩) n n, .slice (some ⟨go, 0, none⟩) es.length es.length, .int .i64 (s.fd : Nat), vt, vo, sh] ∧ IRow w1 B gp n (fnL n s.pl) ∧ IRow w1 B gl n (fnL n s.lw) ∧ BRow w1 B go es.length s.ov ∧ QRow w1 B gr n rv fun v => (ob es v).drop (s.rs v) := by
  refine ⟨f.row h.box fun i hi => ?_, ⟨h.pl.1, f.row h.pl.2 fun i hi => ?_⟩, ⟨h.lw.1, f.row h.lw.2 fun i hi => ?_⟩, f.row h.ov fun i hi => ?_, ⟨f.row h.rw.own fun i hi => ?_, fun x hx => ?_⟩⟩
  · simp [Value.ownBlock] at hi; rw [← hi]; exact q1.1
  · simp [Value.ownBlock] at hi; rw [← hi]; exact q1.2.1
  · simp [Value.ownBlock] at hi; rw [← hi]; exact q1.2.2.1
  · simp [Value.ownBlock] at hi; rw [← hi]; exact q1.2.2.2.1
  · simp [Value.ownBlock] at hi; rw [← hi]; exact q1.2.2.2.2
  · obtain ⟨a, c, e1, e2, e3⟩ := h.rw.row x hx
    refine ⟨a, c, e1, ?_, e3⟩
    rcases e2 with e2 | ⟨b, off, e2, hL⟩
    · exact Or.inl e2
    · exact Or.inr ⟨b, off, e2, fun j hj => f.cell (hL j hj) (qr x hx b (by rw [e1, e2]; rfl))⟩
/-- Blocks of unlike pieces. -/
theorem SM.nes (h : SM w B k n p es cp gr gp gl go rv vt vo sh s) : vt.ownBlock ≠ some k ∧ vt.ownBlock ≠ some go ∧ vt.ownBlock ≠ some gr ∧ vo.ownBlock ≠ some k ∧ vo.ownBlock ≠ some go ∧ vo.ownBlock ≠ some gr :=
  ⟨fun e => own_ne h.tr h.box (by decide) e rfl, fun e => own_ne h.tr h.ov (by decide) e rfl, fun e => own_ne h.tr h.rw.own (by decide) e rfl, fun e => own_ne h.op h.box (by decide) e rfl, fun e => own_ne h.op h.ov (by decide) e rfl, fun e => own_ne h.op h.rw.own (by decide) e rfl⟩
theorem SM.sizes (h : SM w B k n p es cp gr gp gl go rv vt vo sh s) : k < w.heap.size ∧ gp < w.heap.size ∧ gl < w.heap.size ∧ go < w.heap.size ∧ gr < w.heap.size ∧ B ≤ k ∧ B ≤ gp ∧ B ≤ gl ∧ B ≤ go ∧ B ≤ gr := by
  obtain ⟨a1, a2⟩ := World.ownsRow.lt h.box k rfl
  obtain ⟨b1, b2⟩ := h.pl.lt
  obtain ⟨c1, c2⟩ := h.lw.lt
  obtain ⟨d1, d2⟩ := h.ov.lt
  obtain ⟨e1, e2⟩ := h.rw.lt
  exact ⟨a2, b2, c2, d2, e2, a1, b1, c1, d1, e1⟩
theorem own_lt {w : World} {B e sz m : Nat} {v : Value} {xs : List Value} (o : w.ownsRow B e sz v m xs) {b : Nat} (hb : v.ownBlock = some b) : B ≤ b ∧ b < w.heap.size := World.ownsRow.lt o b hb
/-- Where each node's row lies, if it has one. -/
theorem SM.rvlt (h : SM w B k n p es cp gr gp gl go rv vt vo sh s) {u : Value} (hu : u.ownBlock = vo.ownBlock ∨ u.ownBlock = some w.heap.size) (hr : ∀ v, v < n → ∀ b, (rv v).ownBlock = some b → b < w.heap.size) : ∀ v, v < n → ∀ b, (rv v).ownBlock = some b → u.ownBlock ≠ some b := fun v hv b hb e => by
  rcases hu with hu | hu
  · rw [hu] at e; exact (h.n3 v hv b hb).2.2.2 e
  · rw [hu] at e
    have := hr v hv b hb
    injection e with e
    omega
/-- An open edge more. -/
theorem SM.pushO (h : SM w B k n p es cp gr gp gl go rv vt vo sh s) {vo' : Value} {x : Nat} (f : w.grownBy w1 vo.ownBlock) (o : IOwns w1 B vo' ((s.op ++ [x]).map fun (x : Nat) => (x : Int))) (hv : vo'.ownBlock = vo.ownBlock ∨ vo'.ownBlock = some w.heap.size) (hr : ∀ v, v < n → ∀ b, (rv v).ownBlock = some b → b < w.heap.size) : SM (w1.setCell ⟨k, 8, none⟩ vo') B k n p es cp gr gp gl go rv vt vo' sh { s with op := s.op ++ [x] } := by
  obtain ⟨a1, a2, a3, a4, a5, a6⟩ := h.nes
  obtain ⟨b1, b2, b3, b4, b5, _⟩ := h.sizes
  obtain ⟨n1, n2, n3, n4, n5⟩ := h.n1
  have F : Frame w w1 (fun b => vo.ownBlock = some b) := Frame.grown f fun i hi => hi
  obtain ⟨g1, g2, g3, g4, g5⟩ := h.frame F ⟨a4, n4, n5, a5, a6⟩ (fun v hv b hb => (h.n3 v hv b hb).2.2.2)
  have g6 : IOwns w1 B vt (s.tr.map fun (x : Nat) => (x : Int)) := F.iowns h.tr fun i hi => h.n2 i hi
  have kk : (Value.slice (some ⟨k, 0, none⟩) 1 1).ownBlock = some k := rfl
  have hne : ∀ b, b < w.heap.size → vo.ownBlock ≠ some b → vo'.ownBlock ≠ some b := fun b hb h0 e => by
    rcases hv with hv | hv
    · rw [hv] at e; exact h0 e
    · rw [hv] at e; injection e with e; omega
  refine ⟨(World.ownsRow.stored g1 8 vo').1, ⟨g2.1, ownsRow_setCell_other (a := ⟨k, 8, none⟩) g2.2 (fun e => own_ne g2.2 g1 (by decide) e kk) _⟩, ⟨g3.1, ownsRow_setCell_other (a := ⟨k, 8, none⟩) g3.2 (fun e => own_ne g3.2 g1 (by decide) e kk) _⟩, ownsRow_setCell_other (a := ⟨k, 8, none⟩) g4 (fun e => own_ne g4 g1 (by decide) e kk) _, ownsRow_setCell_other (a := ⟨k, 8, none⟩) g6 (fun e => own_ne g6 g1 (by decide) e kk) _, ownsRow_setCell_other (a := ⟨k, 8, none⟩) o (fun e => own_ne o g1 (by decide) e kk) _, g5.away (fun e => own_ne g5.own g1 (by decide) (by rw [e]; rfl) kk) (fun y hy e => h.n4 y hy e) _, ⟨n1, n2, n3, hne _ b2 n4, hne _ b3 n5⟩, fun b hb => hne b (own_lt h.tr hb).2 (h.n2 b hb), fun v hv' b hb => ?_, h.n4, h.n5⟩
  obtain ⟨c1, c2, c3, c4⟩ := h.n3 v hv' b hb
  exact ⟨c1, c2, c3, h.rvlt hv hr v hv' b hb⟩
/-- A half-edge more on the trail. -/
theorem SM.pushT (h : SM w B k n p es cp gr gp gl go rv vt vo sh s) {vt' : Value} {x : Nat} (f : w.grownBy w1 vt.ownBlock) (o : IOwns w1 B vt' ((s.tr ++ [x]).map fun (x : Nat) => (x : Int))) (hv : vt'.ownBlock = vt.ownBlock ∨ vt'.ownBlock = some w.heap.size) (hr : ∀ v, v < n → ∀ b, (rv v).ownBlock = some b → b < w.heap.size) : SM (w1.setCell ⟨k, 7, none⟩ vt') B k n p es cp gr gp gl go rv vt' vo sh { s with tr := s.tr ++ [x] } := by
  obtain ⟨a1, a2, a3, a4, a5, a6⟩ := h.nes
  obtain ⟨b1, b2, b3, b4, b5, _⟩ := h.sizes
  obtain ⟨n1, n2, n3, n4, n5⟩ := h.n1
  have F : Frame w w1 (fun b => vt.ownBlock = some b) := Frame.grown f fun i hi => hi
  obtain ⟨g1, g2, g3, g4, g5⟩ := h.frame F ⟨a1, n2, n3, a2, a3⟩ (fun v hv b hb => (h.n3 v hv b hb).2.2.1)
  have g6 : IOwns w1 B vo (s.op.map fun (x : Nat) => (x : Int)) := F.iowns h.op fun i hi e => h.n2 i e hi
  have kk : (Value.slice (some ⟨k, 0, none⟩) 1 1).ownBlock = some k := rfl
  have hne : ∀ b, b < w.heap.size → vt.ownBlock ≠ some b → vt'.ownBlock ≠ some b := fun b hb h0 e => by
    rcases hv with hv | hv
    · rw [hv] at e; exact h0 e
    · rw [hv] at e; injection e with e; omega
  refine ⟨(World.ownsRow.stored g1 7 vt').1, ⟨g2.1, ownsRow_setCell_other (a := ⟨k, 7, none⟩) g2.2 (fun e => own_ne g2.2 g1 (by decide) e kk) _⟩, ⟨g3.1, ownsRow_setCell_other (a := ⟨k, 7, none⟩) g3.2 (fun e => own_ne g3.2 g1 (by decide) e kk) _⟩, ownsRow_setCell_other (a := ⟨k, 7, none⟩) g4 (fun e => own_ne g4 g1 (by decide) e kk) _, ownsRow_setCell_other (a := ⟨k, 7, none⟩) o (fun e => own_ne o g1 (by decide) e kk) _, ownsRow_setCell_other (a := ⟨k, 7, none⟩) g6 (fun e => own_ne g6 g1 (by decide) e kk) _, g5.away (fun e => own_ne g5.own g1 (by decide) (by rw [e]; rfl) kk) (fun y hy e => h.n4 y hy e) _, ⟨n1, hne _ b2 n2, hne _ b3 n3, n4, n5⟩, fun b hb e => ?_, fun v hv' b hb => ?_, h.n4, h.n5⟩
  · rcases hv with hv | hv
    · rw [hv] at hb; exact h.n2 b hb e
    · rw [hv] at hb
      injection hb with hb
      have := (own_lt h.op e).2
      omega
  · obtain ⟨c1, c2, c3, c4⟩ := h.n3 v hv' b hb
    exact ⟨c1, c2, hne b (hr v hv' b hb) c3, c4⟩
/-- A shorter list of one's own. -/
theorem iowns_take {w : World} {B : Nat} {v : Value} {l : List Int} (o : IOwns w B v l) (h0 : 0 < l.length) : ∃ g c, v = .slice (some ⟨g, 0, none⟩) l.length c ∧ l.length ≤ c ∧ IOwns w B (.slice (some ⟨g, 0, none⟩) (l.length - 1) c) l.dropLast := by
  obtain ⟨h1, ⟨h2, h3⟩ | ⟨g, cap, cur, h2, h3, h4, h5, h6, h7, h8⟩⟩ := o
  · omega
  · refine ⟨g, cap, h2, h5, ?_⟩
    refine ⟨by simp [icells], Or.inr ⟨g, cap, cur, by rw [List.length_dropLast], h3, h4, by rw [List.length_dropLast]; omega, h6, h7, ?_⟩⟩
    rw [show icells l.dropLast = (icells l).dropLast by simp [icells, List.map_dropLast], ← h8, List.length_dropLast]
    rw [List.dropLast_eq_take, List.length_take, List.take_take]
    congr 1
    have := congrArg List.length h8
    simp [icells] at this
    simp
    omega
/-- The last open edge goes. -/
theorem SM.popO (h : SM w B k n p es cp gr gp gl go rv vt vo sh s) {vo' : Value} (o : IOwns w B vo' (s.op.dropLast.map fun (x : Nat) => (x : Int))) (hv : vo'.ownBlock = vo.ownBlock) : SM (w.setCell ⟨k, 8, none⟩ vo') B k n p es cp gr gp gl go rv vt vo' sh { s with op := s.op.dropLast } := by
  obtain ⟨g1, g2, g3, g4, g5, _, g7⟩ := h.field 8 vo'
  obtain ⟨n1, n2, n3, n4, n5⟩ := h.n1
  have kk : (Value.slice (some ⟨k, 0, none⟩) 1 1).ownBlock = some k := rfl
  refine ⟨g1, g2, g3, g4, g5, ownsRow_setCell_other (a := ⟨k, 8, none⟩) o (fun e => own_ne o h.box (by decide) e kk) _, g7, ⟨n1, n2, n3, by rw [hv]; exact n4, by rw [hv]; exact n5⟩, fun b hb => by rw [hv]; exact h.n2 b hb, fun v hv' b hb => ?_, h.n4, h.n5⟩
  obtain ⟨c1, c2, c3, c4⟩ := h.n3 v hv' b hb
  exact ⟨c1, c2, c3, by rw [hv]; exact c4⟩
theorem SM.popT (h : SM w B k n p es cp gr gp gl go rv vt vo sh s) {vt' : Value} (o : IOwns w B vt' (s.tr.dropLast.map fun (x : Nat) => (x : Int))) (hv : vt'.ownBlock = vt.ownBlock) : SM (w.setCell ⟨k, 7, none⟩ vt') B k n p es cp gr gp gl go rv vt' vo sh { s with tr := s.tr.dropLast } := by
  obtain ⟨g1, g2, g3, g4, _, g6, g7⟩ := h.field 7 vt'
  obtain ⟨n1, n2, n3, n4, n5⟩ := h.n1
  have kk : (Value.slice (some ⟨k, 0, none⟩) 1 1).ownBlock = some k := rfl
  refine ⟨g1, g2, g3, g4, ownsRow_setCell_other (a := ⟨k, 7, none⟩) o (fun e => own_ne o h.box (by decide) e kk) _, g6, g7, ⟨n1, by rw [hv]; exact n2, by rw [hv]; exact n3, n4, n5⟩, fun b hb => h.n2 b (by rw [← hv]; exact hb), fun v hv' b hb => ?_, h.n4, h.n5⟩
  obtain ⟨c1, c2, c3, c4⟩ := h.n3 v hv' b hb
  exact ⟨c1, c2, by rw [hv]; exact c3, c4⟩
/-- An edge is gone over. -/
theorem SM.setOver (h : SM w B k n p es cp gr gp gl go rv vt vo sh s) {e : Nat} (he : e < es.length) : SM (w.setCell ⟨go, e, none⟩ (.bool true)) B k n p es cp gr gp gl go rv vt vo sh { s with ov := upd s.ov e true } := by
  obtain ⟨a1, a2, a3, a4, a5, a6⟩ := h.nes
  have gg : (Value.slice (some ⟨go, 0, none⟩) es.length es.length).ownBlock = some go := rfl
  refine ⟨ownsRow_setCell_other (a := ⟨go, e, none⟩) h.box (fun e => own_ne h.box h.ov (by decide) e gg) _, ⟨h.pl.1, ownsRow_setCell_other (a := ⟨go, e, none⟩) h.pl.2 (fun e => own_ne h.pl.2 h.ov (by decide) e gg) _⟩, ⟨h.lw.1, ownsRow_setCell_other (a := ⟨go, e, none⟩) h.lw.2 (fun e => own_ne h.lw.2 h.ov (by decide) e gg) _⟩, h.ov.set he, ownsRow_setCell_other (a := ⟨go, e, none⟩) h.tr a2 _, ownsRow_setCell_other (a := ⟨go, e, none⟩) h.op a5 _, h.rw.away (fun e => own_ne h.rw.own h.ov (by decide) (by rw [e]; rfl) gg) (fun y hy e => h.n5 y hy e) _, h.n1, h.n2, h.n3, h.n4, h.n5⟩
/-- A row of half-edges is cut. -/
theorem SM.cutRow (h : SM w B k n p es cp gr gp gl go rv vt vo sh s) {v : Nat} {a : Option Addr} {c : Nat} {rs' : Nat} (h1 : IHas w a ((ob es v).drop rs')) (h2 : ((ob es v).drop rs').length ≤ maxLen) (h3 : ((ob es v).drop rs').length ≤ c) (h4 : a = none → c = 0) (hb : ∀ b, (Value.slice a ((ob es v).drop rs').length c).ownBlock = some b → (rv v).ownBlock = some b) (hg : ∀ b, (rv v).ownBlock = some b → b ≠ gr) : SM (w.setCell ⟨gr, v, none⟩ (.slice a ((ob es v).drop rs').length c)) B k n p es cp gr gp gl go (upd rv v (.slice a ((ob es v).drop rs').length c)) vt vo sh { s with rs := upd s.rs v rs' } := by
  obtain ⟨a1, a2, a3, a4, a5, a6⟩ := h.nes
  have gg : (Value.slice (some ⟨gr, 0, none⟩) n n).ownBlock = some gr := rfl
  have hrv : ∀ u, u < n → ∀ b, (upd rv v (.slice a ((ob es v).drop rs').length c) u).ownBlock = some b → (rv u).ownBlock = some b := fun u hu b e => by
    by_cases eu : u = v
    · rw [eu, upd_same] at e
      rw [eu]
      exact hb b e
    · rw [upd_other _ _ eu] at e
      exact e
  refine ⟨ownsRow_setCell_other (a := ⟨gr, v, none⟩) h.box (fun e => own_ne h.box h.rw.own (by decide) e gg) _, ⟨h.pl.1, ownsRow_setCell_other (a := ⟨gr, v, none⟩) h.pl.2 (fun e => own_ne h.pl.2 h.rw.own (by decide) e gg) _⟩, ⟨h.lw.1, ownsRow_setCell_other (a := ⟨gr, v, none⟩) h.lw.2 (fun e => own_ne h.lw.2 h.rw.own (by decide) e gg) _⟩, ownsRow_setCell_other (a := ⟨gr, v, none⟩) h.ov (fun e => own_ne h.ov h.rw.own (by decide) e gg) _, ownsRow_setCell_other (a := ⟨gr, v, none⟩) h.tr a3 _, ownsRow_setCell_other (a := ⟨gr, v, none⟩) h.op a6 _, ?_, h.n1, h.n2, fun u hu b e => h.n3 u hu b (hrv u hu b e), fun u hu e => h.n4 u hu (hrv u hu k e), fun u hu e => h.n5 u hu (hrv u hu go e)⟩
  have q := h.rw.set (k := v) h1 h2 h3 h4 (fun _ ad e => hg ad.block (hb ad.block (by rw [e]; rfl)))
  rw [show (fun u => (ob es u).drop (upd s.rs v rs' u)) = upd (fun u => (ob es u).drop (s.rs u)) v ((ob es v).drop rs') from ?_]
  · exact q
  funext u
  by_cases eu : u = v
  · rw [eu, upd_same, upd_same]
  · rw [upd_other _ _ eu, upd_other _ _ eu]
end
end Go.Proofs.Ytobkejnlkjieoaa

/- The closure that shuts a block. -/
namespace Go.Proofs.Ytobkejnlkjieoaa
open Go.RowKit Go.Sort
open Go
/-- Edges popped down to so many. -/
def cutS (q : Nat) (s : BS) : BS := { s with op := s.op.take q, bk := fun e => if e ∈ s.op.drop q then (s.ct : Int) else s.bk e }
def ctS (s : BS) : BS := { s with ct := s.ct + 1 }
theorem cutS_full (s : BS) : cutS s.op.length s = s := by
  unfold cutS
  simp
theorem cutS_shut {s : BS} {f : Nat} (hf : f ∈ s.op) : ctS (cutS (s.op.takeWhile fun e => decide (e ≠ f)).length s) = shutB f s := by
  obtain ⟨b, h1, h2⟩ := tw_split hf
  unfold ctS cutS shutB
  have e1 : s.op.take (s.op.takeWhile fun e => decide (e ≠ f)).length = s.op.takeWhile fun e => decide (e ≠ f) := by
    conv => lhs; arg 2; rw [h1]
    rw [List.take_left]
  have e2 : s.op.drop (s.op.takeWhile fun e => decide (e ≠ f)).length = s.op.dropWhile fun e => decide (e ≠ f) := by
    conv => lhs; arg 2; rw [h1]
    rw [List.drop_left, h2]
  rw [e1, e2]
theorem cutS_pop {s : BS} {q : Nat} (hq : q < s.op.length) : (cutS (q + 1) s).op.dropLast = (cutS q s).op ∧ (cutS q s).bk = upd (cutS (q + 1) s).bk (s.op[q]'hq) (s.ct : Int) := by
  constructor
  · show (s.op.take (q + 1)).dropLast = s.op.take q
    rw [List.dropLast_eq_take, List.length_take, List.take_take]
    congr 1
    omega
  · funext e
    show (if e ∈ s.op.drop q then (s.ct : Int) else s.bk e) = upd (fun e => if e ∈ s.op.drop (q + 1) then (s.ct : Int) else s.bk e) _ _ e
    unfold upd
    have key : e ∈ s.op.drop q ↔ e = s.op[q] ∨ e ∈ s.op.drop (q + 1) := by rw [List.drop_eq_getElem_cons hq, List.mem_cons]
    by_cases h : e = s.op[q]
    · rw [if_pos (key.2 (Or.inl h)), if_pos h]
    · rw [if_neg h]
      by_cases h2 : e ∈ s.op.drop (q + 1)
      · rw [if_pos (key.2 (Or.inr h2))]
        exact (if_pos h2).symm
      · rw [if_neg (fun k => (key.1 k).elim h h2)]
        exact (if_neg h2).symm
theorem at_first {l : List Nat} {f q : Nat} (hn : l.Nodup) (hf : f ∈ l) (hq : q < l.length) : l[q] = f ↔ q = (l.takeWhile fun e => decide (e ≠ f)).length := by
  obtain ⟨b, h1, _⟩ := tw_split hf
  have hlen := congrArg List.length h1
  rw [List.length_append, List.length_cons] at hlen
  have e1 : l[(l.takeWhile fun e => decide (e ≠ f)).length]'(by omega) = f := by
    have : l[(l.takeWhile fun e => decide (e ≠ f)).length]? = some f := by
      conv => lhs; arg 1; rw [h1]
      simp
    exact (List.getElem?_eq_some_iff.1 this).2
  constructor
  · intro h
    exact (List.getElem_inj hn).1 (h.trans e1.symm)
  · intro h
    subst h
    exact e1
section
variable {B k n : Nat} {p : Option Addr} {es : List Pt} {cp gr gp gl go cs cc co gof : Nat} {rv : Nat → Value} {vt : Value}
theorem SM.keep {w w' : World} {sh vo : Value} {s : BS} (h : SM w B k n p es cp gr gp gl go rv vt vo sh s) {q : Nat → Prop} (f : Frame w w' q) (q1 : ¬ q k ∧ ¬ q gp ∧ ¬ q gl ∧ ¬ q go ∧ ¬ q gr) (qr : ∀ v, v < n → ∀ b, (rv v).ownBlock = some b → ¬ q b) (qt : ∀ b, vt.ownBlock = some b → ¬ q b) (qo : ∀ b, vo.ownBlock = some b → ¬ q b) : SM w' B k n p es cp gr gp gl go rv vt vo sh s := by
  obtain ⟨g1, g2, g3, g4, g5⟩ := h.frame f q1 qr
  exact ⟨g1, g2, g3, g4, f.iowns h.tr qt, f.iowns h.op qo, g5, h.n1, h.n2, h.n3, h.n4, h.n5⟩
/-- What changes but closes no block. -/
theorem PM.stepG {w w' : World} {rv' : Nat → Value} {vt' vo vo' : Value} {s s' : BS} (h : PM w B k n p es cp gr gp gl go cs cc co gof rv vt vo s) {q : Nat → Prop} (f : Frame w w' q) (hq : ∀ b, q b → b ≠ cs ∧ b ≠ cc ∧ b ≠ co ∧ b ≠ gof) (hs : SM w' B k n p es cp gr gp gl go rv' vt' vo' (shV cs cc co) s') (hb : s'.bk = s.bk) (hc : s'.ct = s.ct)
    (ht : vt'.ownBlock = vt.ownBlock ∨ vt'.ownBlock = some w.heap.size) (ho : vo'.ownBlock = vo.ownBlock ∨ vo'.ownBlock = some w.heap.size) (hr : ∀ v, v < n → ∀ b, (rv' v).ownBlock = some b → (rv v).ownBlock = some b) : PM w' B k n p es cp gr gp gl go cs cc co gof rv' vt' vo' s' := by
  have c1 := h.vc.lt.2
  have c2 := h.of.lt.2
  have hne : ∀ {u v : Value}, (u.ownBlock = v.ownBlock ∨ u.ownBlock = some w.heap.size) → ∀ b, b < w.heap.size → v.ownBlock ≠ some b → u.ownBlock ≠ some b := fun hv b hb h0 e => by
    rcases hv with hv | hv
    · rw [hv] at e; exact h0 e
    · rw [hv] at e; injection e with e; omega
  refine ⟨hs, f.row h.vs fun i hi hqi => ?_, ?_, f.row h.va fun i hi hqi => ?_, ?_, h.d1, ⟨hne ht _ c1 h.d2.1, hne ht _ c2 h.d2.2.1, hne ho _ c1 h.d2.2.2.1, hne ho _ c2 h.d2.2.2.2⟩, fun v hv b hb => h.d3 v hv b (hr v hv b hb), fun v hv b hb => Nat.lt_of_lt_of_le (h.d4 v hv b (hr v hv b hb)) f.size⟩
  · simp [Value.ownBlock] at hi
    exact (hq i hqi).1 hi.symm
  · rw [hc]
    exact ⟨h.vc.1, f.row h.vc.2 fun i hi hqi => by simp [Value.ownBlock] at hi; exact (hq i hqi).2.1 hi.symm⟩
  · simp [Value.ownBlock] at hi
    exact (hq i hqi).2.2.1 hi.symm
  · rw [hb]
    exact ⟨h.of.1, f.row h.of.2 fun i hi hqi => by simp [Value.ownBlock] at hi; exact (hq i hqi).2.2.2 hi.symm⟩
/-- An edge's block is written. -/
theorem PM.setOf {w : World} {vo : Value} {s : BS} (h : PM w B k n p es cp gr gp gl go cs cc co gof rv vt vo s) {e : Nat} (he : e < es.length) (x : Int) : PM (w.setCell ⟨gof, e, none⟩ (.int .i64 x)) B k n p es cp gr gp gl go cs cc co gof rv vt vo { s with bk := upd s.bk e x } := by
  obtain ⟨m1, m2, m3, m4, m5, m6, m7, m8, m9, m10, m11, m12, m13, m14, m15⟩ := h.ne
  obtain ⟨d1, d2, d3, d4, d5, d6⟩ := h.d1
  have f := Frame.set w ⟨gof, e, none⟩ (.int .i64 x) (p := fun b => b = gof) rfl
  have h1 := h.sm.keep f ⟨m4, fun e => d4 e.symm, fun e => d5 e.symm, m12, m15⟩ (fun v hv b hb => (h.d3 v hv b hb).2.1) (fun b hb e => h.d2.2.1 (by rw [hb, e])) (fun b hb e => h.d2.2.2.2 (by rw [hb, e]))
  have q := h.of.set e x
  rw [fnL_set _ he] at q
  exact ⟨⟨h1.box, h1.pl, h1.lw, h1.ov, h1.tr, h1.op, h1.rw, h1.n1, h1.n2, h1.n3, h1.n4, h1.n5⟩, f.row h.vs fun i hi hqi => by simp [Value.ownBlock] at hi; subst hi; exact own_ne' h.vs h.of.2 (by decide) hqi, ⟨h.vc.1, f.row h.vc.2 fun i hi hqi => by simp [Value.ownBlock] at hi; subst hi; exact d1 hqi⟩, f.row h.va fun i hi hqi => by simp [Value.ownBlock] at hi; subst hi; exact own_ne' h.va h.of.2 (by decide) hqi, q, h.d1, h.d2, h.d3, fun v hv b hb => Nat.lt_of_lt_of_le (h.d4 v hv b hb) f.size⟩
/-- A block more is whole. -/
theorem PM.setCt {w : World} {vo : Value} {s : BS} (h : PM w B k n p es cp gr gp gl go cs cc co gof rv vt vo s) : PM (w.setCell ⟨cc, 0, none⟩ (.int .i64 ((s.ct : Int) + 1))) B k n p es cp gr gp gl go cs cc co gof rv vt vo (ctS s) := by
  obtain ⟨m1, m2, m3, m4, m5, m6, m7, m8, m9, m10, m11, m12, m13, m14, m15⟩ := h.ne
  obtain ⟨d1, d2, d3, d4, d5, d6⟩ := h.d1
  have f := Frame.set w ⟨cc, 0, none⟩ (.int .i64 ((s.ct : Int) + 1)) (p := fun b => b = cc) rfl
  have h1 := h.sm.keep f ⟨m2, fun e => d2 e.symm, fun e => d3 e.symm, m10, m14⟩ (fun v hv b hb => (h.d3 v hv b hb).1) (fun b hb e => h.d2.1 (by rw [hb, e])) (fun b hb e => h.d2.2.2.1 (by rw [hb, e]))
  have q := h.vc.set 0 ((s.ct : Int) + 1)
  exact ⟨⟨h1.box, h1.pl, h1.lw, h1.ov, h1.tr, h1.op, h1.rw, h1.n1, h1.n2, h1.n3, h1.n4, h1.n5⟩, f.row h.vs fun i hi hqi => by simp [Value.ownBlock] at hi; subst hi; exact own_ne' h.vs h.vc.2 (by decide) hqi, q, f.row h.va fun i hi hqi => by simp [Value.ownBlock] at hi; subst hi; exact own_ne' h.va h.vc.2 (by decide) hqi, ⟨h.of.1, f.row h.of.2 fun i hi hqi => by simp [Value.ownBlock] at hi; subst hi; exact d1 hqi.symm⟩, h.d1, h.d2, h.d3, fun v hv b hb => Nat.lt_of_lt_of_le (h.d4 v hv b hb) f.size⟩
/-- The last open edge goes. -/
theorem PM.popO {w : World} {vo vo' : Value} {s : BS} (h : PM w B k n p es cp gr gp gl go cs cc co gof rv vt vo s) (o : IOwns w B vo' (s.op.dropLast.map fun (x : Nat) => (x : Int))) (hv : vo'.ownBlock = vo.ownBlock) : PM (w.setCell ⟨k, 8, none⟩ vo') B k n p es cp gr gp gl go cs cc co gof rv vt vo' { s with op := s.op.dropLast } := by
  obtain ⟨m1, m2, m3, m4, _⟩ := h.ne
  exact h.stepG (Frame.set w ⟨k, 8, none⟩ vo' (p := fun b => b = k) rfl) (fun b e => by subst e; exact ⟨m1, m2, m3, m4⟩) (h.sm.popO o hv) rfl rfl (Or.inl rfl) (Or.inl hv) (fun v hv b hb => hb)
set_option maxRecDepth 100000 in
set_option maxHeartbeats 8000000 in
theorem shut58 {w : World} {vo : Value} {s : BS} (f : Nat) (h : PM w B k n p es cp gr gp gl go cs cc co gof rv vt vo s) (hf : f ∈ s.op) (hnd : s.op.Nodup) (hin : ∀ e ∈ s.op, e < es.length) (hc : s.ct ≤ 100000) (hol : s.op.length ≤ 100000) : Calls Try.prog 58 #[.int .i64 f, (Value.pointer (some ⟨cs, 0, none⟩)), (Value.pointer (some ⟨cc, 0, none⟩)), (Value.pointer (some ⟨co, 0, none⟩))] w fun e w' => e = .returned (.tuple #[]) ∧ (∃ vo', PM w' B k n p es cp gr gp gl go cs cc co gof rv vt vo' (shutB f s)) ∧ Frame w w' (fun b => B ≤ b) := by
  have HH := hide h
  have HAT : Hid (∀ q, (hq : q < s.op.length) → (s.op[q] = f ↔ q = (s.op.takeWhile fun e => decide (e ≠ f)).length)) := fun q hq => at_first hnd hf hq
  have hless := tw_less hf
  have HSH := hide (cutS_shut hf)
  have HIN := hide hin
  obtain ⟨a, ha⟩ : ∃ a, (s.op.takeWhile fun e => decide (e ≠ f)).length = a := ⟨_, rfl⟩
  rw [ha] at HAT hless HSH
  obtain ⟨m, hm⟩ : ∃ m, s.op.length = m := ⟨_, rfl⟩
  have HM := hide hm
  rw [hm] at hless hol
  have HC : Hid (PM w B k n p es cp gr gp gl go cs cc co gof rv vt vo (cutS m s)) := by
    show PM _ _ _ _ _ _ _ _ _ _ _ _ _ _ _ _ _ _ _
    rw [← hm, cutS_full]
    exact h
  obtain ⟨ct, hct⟩ : ∃ x, s.ct = x := ⟨_, rfl⟩
  have HCT := hide hct
  rw [hct] at hc
  obtain ⟨b1, b2⟩ := World.ownsRow.lt h.sm.box k rfl
  obtain ⟨b3, b4⟩ := h.of.lt
  obtain ⟨b5, b6⟩ := h.vc.lt
  clear h hf hnd hin ha hm hct
  go_enter Try.func58, Try.ntmps58
  go_wp2_with fail
  go_loopg [5] (m + 1) (fun gk t5 wr => ∃ (q : Nat) (x : Int) (vo : Value), t5 = .int .i64 x ∧ q < gk ∧ a ≤ q ∧ q ≤ m ∧ Hid (x = if hq : q < s.op.length then (s.op[q] : Int) else -1) ∧ Hid (PM wr B k n p es cp gr gp gl go cs cc co gof rv vt vo (cutS q s)) ∧ Hid (Frame w wr (fun b => B ≤ b)))
  case atStart => exact ⟨m, -1, vo, rfl, by omega, by omega, by omega, (by show _ = _; rw [dif_neg (by have := HM.out; omega)]), HC.out, Frame.of_below (Below.refl _ _) _⟩
  case round =>
    obtain ⟨q, x, vo, rfl, hgk, haq, hqm, HX, HP, HF⟩ := hrel
    by_cases hq : q = a
    · have hxf : x = f := by
        have h1 : q < s.op.length := by have := HM.out; omega
        have := HX.out
        rw [dif_pos h1, (HAT.out q h1).2 hq] at this
        exact this
      subst hxf
      obtain ⟨_, v1, v2, _⟩ := HP.out.vcell
      have v1' : wr.cell? ⟨cc, 0, none⟩ = some (.int .i64 (ct : Int)) := by rw [v1]; show some (Value.int .i64 ((s.ct : Nat) : Int)) = _; rw [HCT.out]
      clear v1
      have HR : Hid (PM (wr.setCell ⟨cc, 0, none⟩ (.int .i64 ((ct : Int) + 1))) B k n p es cp gr gp gl go cs cc co gof rv vt vo (shutB f s)) := by
        have := HP.out.setCt
        rw [show (cutS q s).ct = ct from HCT.out] at this
        rw [hq, HSH.out] at this
        exact this
      have HG : Hid (Frame w (wr.setCell ⟨cc, 0, none⟩ (.int .i64 ((ct : Int) + 1))) (fun b => B ≤ b)) := HF.out.trans (Frame.set _ _ _ b5)
      clear HX HP HF HC hq
      go_wp2
      go_end0
      exact ⟨rfl, ⟨vo, HR.out⟩, HG.out⟩
    · obtain ⟨q, rfl⟩ : ∃ q', q = q' + 1 := ⟨q - 1, by omega⟩
      have hlt : q < s.op.length := by have := HM.out; omega
      have hxne : ¬ x = (f : Int) := fun e => by
        have := HX.out
        by_cases h1 : q + 1 < s.op.length
        · rw [dif_pos h1] at this
          have h2 := (HAT.out (q + 1) h1).1 (by omega)
          omega
        · rw [dif_neg h1] at this
          omega
      obtain ⟨e, he⟩ : ∃ e, s.op[q] = e := ⟨_, rfl⟩
      have hel : e < es.length := by rw [← he]; exact HIN.out _ (List.getElem_mem hlt)
      have hlen : ((cutS (q + 1) s).op.map fun (x : Nat) => (x : Int)).length = q + 1 := by
        show ((s.op.take (q + 1)).map _).length = _
        rw [List.length_map, List.length_take]
        omega
      have ol := HP.out.sm.op
      obtain ⟨g, c, e1, e2, e3⟩ := iowns_take ol (by omega)
      rw [hlen] at e1 e2 e3
      subst e1
      have hat : iat ((cutS (q + 1) s).op.map fun (x : Nat) => (x : Int)) q = (e : Int) := by
        show iat ((s.op.take (q + 1)).map fun (x : Nat) => (x : Int)) q = (e : Int)
        unfold iat
        rw [List.getD_eq_getElem?_getD, List.getElem?_map, List.getElem?_take_of_lt (by omega), List.getElem?_eq_getElem hlt, he]
        rfl
      have o0 : wr.cell? ⟨g, q, none⟩ = some (.int .i64 (e : Int)) := by
        have := IOwns.at_ (by rw [hlen]; exact ol) (j := q) (by omega)
        rw [hat] at this
        exact this
      obtain ⟨k0, k1⟩ := HP.out.sm.cell 8 (by omega)
      simp only [List.getElem?_cons_succ, List.getElem?_cons_zero] at k0
      obtain ⟨s0, v1, v2, r0⟩ := HP.out.vcell
      have v1' : wr.cell? ⟨cc, 0, none⟩ = some (.int .i64 (ct : Int)) := by rw [v1]; show some (Value.int .i64 ((s.ct : Nat) : Int)) = _; rw [HCT.out]
      obtain ⟨m1, m2, m3, m4, m5, m6, m7, m8, m9, m10, m11, m12, m13, m14, m15⟩ := HP.out.ne
      have hgk2 : g ≠ k := fun e => HP.out.sm.nes.2.2.2.1 (by rw [e]; rfl)
      have hq2 : q ≤ 100000 := by omega
      have hqc : q + 1 ≤ c := e2
      have HO : Hid (IOwns wr B (.slice (some ⟨g, 0, none⟩) q c) ((cutS (q + 1) s).op.dropLast.map fun (x : Nat) => (x : Int))) := by
        have := e3
        rw [show q + 1 - 1 = q by omega, ← List.map_dropLast] at this
        exact this
      have HE : Hid (∃ hq : q < s.op.length, s.op[q] = e) := ⟨hlt, he⟩
      clear v1 HX hlen hat ol he e3 HC
      have HS := hide s0
      clear m1 m2 m3 m4 m5 m6 m7 m8 m9 m10 m11 m12 m13 m14 m15 v2 r0 hlt
      go_upto_region 2 with fail
      go_region
      obtain ⟨V, hV⟩ : ∃ V, V = wr.drew := ⟨_, rfl⟩
      have hbV : Below wr.heap.size wr V := by rw [hV]; exact below_drew _
      have k2 := later hbV k0
      have s2 := later hbV s0
      have l2 := laterF hbV k0 k1
      have HV := hide hbV
      rw [← hV]
      clear hV k0 s0 o0 k1 hbV
      go_upto_region 3 with fail
      go_region
      obtain ⟨U, hU⟩ : ∃ U, U = (V.setCell ⟨k, 8, none⟩ (.slice (some ⟨g, 0, none⟩) q c)).drew := ⟨_, rfl⟩
      have HP3 : Hid (PM U B k n p es cp gr gp gl go cs cc co gof rv vt (.slice (some ⟨g, 0, none⟩) q c) { cutS (q + 1) s with op := (cutS (q + 1) s).op.dropLast }) := by
        show PM _ _ _ _ _ _ _ _ _ _ _ _ _ _ _ _ _ _ _
        rw [hU]
        exact ((HP.out.later HV.out).popO (vo' := .slice (some ⟨g, 0, none⟩) q c) (HO.out.later HV.out) rfl).later (below_drew _)
      have HF3 : Hid (Frame w U (fun b => B ≤ b)) := by
        show Frame _ _ _
        rw [hU]
        exact ((HF.out.trans (Frame.of_below HV.out _)).trans (Frame.set _ _ _ b1)).trans (Frame.of_below (below_drew _) _)
      rw [← hU]
      clear hU k2 s2 l2
      obtain ⟨_, y1, _, y3⟩ := HP3.out.vcell
      have y1' : U.cell? ⟨cc, 0, none⟩ = some (.int .i64 (ct : Int)) := by rw [y1]; show some (Value.int .i64 ((s.ct : Nat) : Int)) = _; rw [HCT.out]
      obtain ⟨f0, f1⟩ := HP3.out.of.cell hel
      obtain ⟨fb, hfb⟩ : ∃ z, iat (fnL es.length (cutS (q + 1) s).bk) e = z := ⟨_, rfl⟩
      have f0' : U.cell? ⟨gof, e, none⟩ = some (.int .i64 fb) := by rw [← hfb]; exact f0
      have hel2 : (e : Int) < es.length := by omega
      have HP4 : Hid (PM (U.setCell ⟨gof, e, none⟩ (.int .i64 (ct : Int))) B k n p es cp gr gp gl go cs cc co gof rv vt (.slice (some ⟨g, 0, none⟩) q c) (cutS q s)) := by
        have h1 := HP3.out.setOf hel (ct : Int)
        obtain ⟨hq1, hq2⟩ := HE.out
        obtain ⟨z1, z2⟩ := cutS_pop hq1
        rw [hq2, HCT.out] at z2
        have z3 : ({ cutS (q + 1) s with op := (cutS (q + 1) s).op.dropLast, bk := upd (cutS (q + 1) s).bk e (ct : Int) } : BS) = cutS q s := by
          rw [z1, ← z2]
          rfl
        rw [← z3]
        exact h1
      have HF4 : Hid (Frame w (U.setCell ⟨gof, e, none⟩ (.int .i64 (ct : Int))) (fun b => B ≤ b)) := HF3.out.trans (Frame.set _ _ _ b3)
      clear y1 f0 hfb HP3 HF3 HO HV HP HF HS
      go_wp2
      go_roundg (q + 1)
      case measure => omega
      case rel =>
        refine ⟨q, (e : Int), .slice (some ⟨g, 0, none⟩) q c, by go_num, by omega, by omega, by omega, ?_, HP4.out, HF4.out⟩
        obtain ⟨hq1, hq2⟩ := HE.out
        show (e : Int) = _
        rw [dif_pos hq1, hq2]
end
end Go.Proofs.Ytobkejnlkjieoaa

/- parted's memory, step by step. -/
namespace Go.Proofs.Ytobkejnlkjieoaa
open Go.RowKit Go.Sort
open Go
section
variable {w w1 w' : World} {B k n : Nat} {p : Option Addr} {es : List Pt} {cp gr gp gl go cs cc co gof : Nat} {rv : Nat → Value} {vt vo : Value} {s s' : BS}
theorem PM.sizes (h : PM w B k n p es cp gr gp gl go cs cc co gof rv vt vo s) : B ≤ k ∧ B ≤ gp ∧ B ≤ gl ∧ B ≤ go ∧ B ≤ gr ∧ B ≤ cc ∧ B ≤ gof ∧ B ≤ w.heap.size ∧ k < w.heap.size := by
  obtain ⟨a1, a2, a3, a4, a5, a6, a7, a8, a9, a10⟩ := h.sm.sizes
  exact ⟨a6, a7, a8, a9, a10, h.vc.lt.1, h.of.lt.1, by omega, a1⟩
theorem PM.setOver (h : PM w B k n p es cp gr gp gl go cs cc co gof rv vt vo s) {e : Nat} (he : e < es.length) : PM (w.setCell ⟨go, e, none⟩ (.bool true)) B k n p es cp gr gp gl go cs cc co gof rv vt vo { s with ov := upd s.ov e true } := by
  obtain ⟨m1, m2, m3, m4, m5, m6, m7, m8, m9, m10, m11, m12, m13, m14, m15⟩ := h.ne
  exact h.stepG (Frame.set w ⟨go, e, none⟩ (.bool true) (p := fun b => b = go) rfl) (fun b e => by subst e; exact ⟨m9, m10, m11, m12⟩) (h.sm.setOver he) rfl rfl (Or.inl rfl) (Or.inl rfl) (fun v hv b hb => hb)
theorem PM.putLw (h : PM w B k n p es cp gr gp gl go cs cc co gof rv vt vo s) {v : Nat} (hv : v < n) (x : Int) : PM (w.setCell ⟨gl, v, none⟩ (.int .i64 x)) B k n p es cp gr gp gl go cs cc co gof rv vt vo { s with lw := upd s.lw v x } := by
  obtain ⟨m1, m2, m3, m4, m5, m6, m7, m8, m9, m10, m11, m12, m13, m14, m15⟩ := h.ne
  obtain ⟨d1, d2, d3, d4, d5, d6⟩ := h.d1
  exact h.stepG (Frame.set w ⟨gl, v, none⟩ (.int .i64 x) (p := fun b => b = gl) rfl) (fun b e => by subst e; exact ⟨m7, fun k => d3 k.symm, m8, fun k => d5 k.symm⟩) (h.sm.put hv x).2 rfl rfl (Or.inl rfl) (Or.inl rfl) (fun v hv b hb => hb)
theorem PM.pushO (h : PM w B k n p es cp gr gp gl go cs cc co gof rv vt vo s) {vo' : Value} {x : Nat} (f : w.grownBy w1 vo.ownBlock) (o : IOwns w1 B vo' ((s.op ++ [x]).map fun (x : Nat) => (x : Int))) (hv : vo'.ownBlock = vo.ownBlock ∨ vo'.ownBlock = some w.heap.size) : PM (w1.setCell ⟨k, 8, none⟩ vo') B k n p es cp gr gp gl go cs cc co gof rv vt vo' { s with op := s.op ++ [x] } ∧ Frame w (w1.setCell ⟨k, 8, none⟩ vo') (fun b => B ≤ b) := by
  obtain ⟨m1, m2, m3, m4, m5, m6, m7, m8, m9, m10, m11, m12, m13, m14, m15⟩ := h.ne
  have F1 : Frame w w1 (fun b => b = k ∨ vo.ownBlock = some b) := Frame.grown f fun i hi => Or.inr hi
  have F := F1.trans (Frame.set w1 ⟨k, 8, none⟩ vo' (p := fun b => b = k ∨ vo.ownBlock = some b) (Or.inl rfl))
  refine ⟨h.stepG F (fun b e => ?_) (h.sm.pushO f o hv h.d4) rfl rfl (Or.inl rfl) hv (fun v hv b hb => hb), F.mono fun i _ hi => ?_⟩
  · rcases e with e | e
    · subst e; exact ⟨m1, m2, m3, m4⟩
    · refine ⟨fun k => own_ne h.sm.op h.vs (by decide) e (by rw [k]; rfl), fun k => h.d2.2.2.1 (by rw [e, k]), fun k => own_ne h.sm.op h.va (by decide) e (by rw [k]; rfl), fun k => h.d2.2.2.2 (by rw [e, k])⟩
  · rcases hi with hi | hi
    · rw [hi]; exact h.sizes.1
    · exact (own_lt h.sm.op hi).1
theorem PM.pushT (h : PM w B k n p es cp gr gp gl go cs cc co gof rv vt vo s) {vt' : Value} {x : Nat} (f : w.grownBy w1 vt.ownBlock) (o : IOwns w1 B vt' ((s.tr ++ [x]).map fun (x : Nat) => (x : Int))) (hv : vt'.ownBlock = vt.ownBlock ∨ vt'.ownBlock = some w.heap.size) : PM (w1.setCell ⟨k, 7, none⟩ vt') B k n p es cp gr gp gl go cs cc co gof rv vt' vo { s with tr := s.tr ++ [x] } ∧ Frame w (w1.setCell ⟨k, 7, none⟩ vt') (fun b => B ≤ b) := by
  obtain ⟨m1, m2, m3, m4, m5, m6, m7, m8, m9, m10, m11, m12, m13, m14, m15⟩ := h.ne
  have F1 : Frame w w1 (fun b => b = k ∨ vt.ownBlock = some b) := Frame.grown f fun i hi => Or.inr hi
  have F := F1.trans (Frame.set w1 ⟨k, 7, none⟩ vt' (p := fun b => b = k ∨ vt.ownBlock = some b) (Or.inl rfl))
  refine ⟨h.stepG F (fun b e => ?_) (h.sm.pushT f o hv h.d4) rfl rfl hv (Or.inl rfl) (fun v hv b hb => hb), F.mono fun i _ hi => ?_⟩
  · rcases e with e | e
    · subst e; exact ⟨m1, m2, m3, m4⟩
    · refine ⟨fun k => own_ne h.sm.tr h.vs (by decide) e (by rw [k]; rfl), fun k => h.d2.1 (by rw [e, k]), fun k => own_ne h.sm.tr h.va (by decide) e (by rw [k]; rfl), fun k => h.d2.2.1 (by rw [e, k])⟩
  · rcases hi with hi | hi
    · rw [hi]; exact h.sizes.1
    · exact (own_lt h.sm.tr hi).1
theorem PM.popT (h : PM w B k n p es cp gr gp gl go cs cc co gof rv vt vo s) {vt' : Value} (o : IOwns w B vt' (s.tr.dropLast.map fun (x : Nat) => (x : Int))) (hv : vt'.ownBlock = vt.ownBlock) : PM (w.setCell ⟨k, 7, none⟩ vt') B k n p es cp gr gp gl go cs cc co gof rv vt' vo { s with tr := s.tr.dropLast } := by
  obtain ⟨m1, m2, m3, m4, _⟩ := h.ne
  exact h.stepG (Frame.set w ⟨k, 7, none⟩ vt' (p := fun b => b = k) rfl) (fun b e => by subst e; exact ⟨m1, m2, m3, m4⟩) (h.sm.popT o hv) rfl rfl (Or.inl hv) (Or.inl rfl) (fun v hv b hb => hb)
theorem PM.cutRow (h : PM w B k n p es cp gr gp gl go cs cc co gof rv vt vo s) {v : Nat} {a : Option Addr} {c : Nat} {rs' : Nat} (h1 : IHas w a ((ob es v).drop rs')) (h2 : ((ob es v).drop rs').length ≤ maxLen) (h3 : ((ob es v).drop rs').length ≤ c) (h4 : a = none → c = 0) (hb : ∀ b, (Value.slice a ((ob es v).drop rs').length c).ownBlock = some b → (rv v).ownBlock = some b) (hg : ∀ b, (rv v).ownBlock = some b → b ≠ gr) : PM (w.setCell ⟨gr, v, none⟩ (.slice a ((ob es v).drop rs').length c)) B k n p es cp gr gp gl go cs cc co gof (upd rv v (.slice a ((ob es v).drop rs').length c)) vt vo { s with rs := upd s.rs v rs' } := by
  obtain ⟨m1, m2, m3, m4, m5, m6, m7, m8, m9, m10, m11, m12, m13, m14, m15⟩ := h.ne
  obtain ⟨d1, d2, d3, d4, d5, d6⟩ := h.d1
  refine h.stepG (Frame.set w ⟨gr, v, none⟩ _ (p := fun b => b = gr) rfl) (fun b e => by subst e; exact ⟨m13, m14, fun k => d6 k.symm, m15⟩) (h.sm.cutRow h1 h2 h3 h4 hb hg) rfl rfl (Or.inl rfl) (Or.inl rfl) (fun u hu b e => ?_)
  by_cases eu : u = v
  · rw [eu, upd_same] at e
    rw [eu]
    exact hb b e
  · rw [upd_other _ _ eu] at e
    exact e
/-- find, with all that stands beside it. -/
theorem find74' (v : Nat) (h : PM w B k n p es cp gr gp gl go cs cc co gof rv vt vo s) (hv : v < n) (hf : s.fd ≤ 100000) : Calls Try.prog 74 #[.pointer (some ⟨k, 0, none⟩), .int .i64 v] w fun e w' => e = .returned (.tuple #[]) ∧ PM w' B k n p es cp gr gp gl go cs cc co gof rv vt vo (findB v s) ∧ Frame w w' (fun b => B ≤ b) := by
  obtain ⟨m1, m2, m3, m4, m5, m6, m7, m8, m9, m10, m11, m12, m13, m14, m15⟩ := h.ne
  obtain ⟨d1, d2, d3, d4, d5, d6⟩ := h.d1
  refine (find74 B k n p es cp gr gp gl go rv vt vo _ s v w h.sm hv hf).mono ?_
  rintro e w' ⟨h1, h2, h3⟩
  obtain ⟨z1, z2, z3, _⟩ := h.sizes
  refine ⟨h1, h.stepG h3 (fun b e => ?_) h2 rfl rfl (Or.inl rfl) (Or.inl rfl) (fun v hv b hb => hb), h3.mono fun i _ hi => ?_⟩
  · rcases e with e | e | e
    · subst e; exact ⟨m1, m2, m3, m4⟩
    · subst e; exact ⟨m5, fun k => d2 k.symm, m6, fun k => d4 k.symm⟩
    · subst e; exact ⟨m7, fun k => d3 k.symm, m8, fun k => d5 k.symm⟩
  · rcases hi with hi | hi | hi
    · rw [hi]; exact z1
    · rw [hi]; exact z2
    · rw [hi]; exact z3
end
end Go.Proofs.Ytobkejnlkjieoaa
