/- The document's Copy and Chosen, appends (carried). -/
import Derived.Test.YtobkejnlkjieoaaZC01
import Derived.Test.YtobkejnlkjieoaaZC02
import Derived.Deep.DeepCutAuto
import Derived.Test.YtobkejnlkjieoaaZC11
import Derived.ArgAppend
namespace Go.Proofs.Ytobkejnlkjieoaa
open Go.RowKit Go.Sort
open Go

/-- A number behind numbers that are owned: what comes of an append, and that nothing below changes. -/
theorem push_int {w : World} {B : Nat} {v : Value} {l : List Int} (o : IOwns w B v l) (x : Int) (hB : B ≤ w.heap.size) (hl : l.length ≤ 90000) : ∃ v' w', (Builtin.append_ #[32, 32] 32 #[v, .slice (some ⟨w.heap.size, 0, none⟩) 1 1]).run Try.prog (w.alloc (.cells #[.int .i64 x] 3)) = .ok v' w' ∧ IOwns w' B v' (l ++ [x]) ∧ Below B w w' := by
  have o' : IOwns (w.alloc (.cells #[.int .i64 x] 3)) B v l := o.later (by go_grown)
  obtain ⟨v', w', e1, o1, gr, _⟩ := append_int o' (one_int w x) (by simp; omega) hl
  exact ⟨v', w', e1, o1, below_grown (w := w.alloc (.cells #[.int .i64 x] 3)) (by go_grown) o' (Nat.le_refl _) (by simp; omega) gr⟩
set_option maxRecDepth 100000 in
set_option maxHeartbeats 4000000 in
theorem copy53 (n : Int) (p : Option Addr) (es : List Pt) (cp : Nat) (w : World) (hnil : p = none → cp = 0) (hl : es.length ≤ 90000) (h : Has w p es) : Calls Try.prog 33 #[nv n p es.length cp] w fun e w' => ∃ q c, e = .returned (nv n q es.length c) ∧ Owns w' w.heap.size (.slice q es.length c) es ∧ Below w.heap.size w w' := by
  obtain ⟨W, hW, hb, a0, b0⟩ := two_nets w n p es.length cp
  have HB := hide hb
  have HA := hide a0
  have HN := hide b0
  have hws : w.heap.size + 1 < W.heap.size := block_lt_of_cell b0.1
  obtain ⟨v1, D1, e1, o1, gr1⟩ := append_prs (w := W.drew) (base := W.heap.size) (v := .slice none 0 0) (l := []) (Owns.nil _ _) p cp es hnil ((h.later hb).later (below_drew _)) (by simp) (by simp; omega)
  have hb1 : Below W.heap.size W D1 := below_grown (w := W.drew) (below_drew _) (Owns.nil W.drew W.heap.size) (Nat.le_refl _) (by simp) gr1
  rw [List.nil_append] at o1
  obtain ⟨q, c, rfl, _, _, _, _⟩ := o1.form
  have HO1 := hide o1
  have HB1 := hide (below_step hb hb1)
  have HN1 := hide (b0.later hb1)
  have HA1 := hide (a0.later hb1)
  clear hb h o1 gr1 hb1
  obtain ⟨q0, q1, _, _⟩ := a0
  obtain ⟨r0, r1, r2, r3⟩ := HN1.out
  clear b0
  go_enter Try.func33, Try.ntmps33
  go_wp2_with fail
  rw [← hW]
  clear hW
  go_region_held3 (fun W => W.cell? ⟨w.heap.size, 0, none⟩ = some (.int .i64 n) ∧ W.cell? ⟨w.heap.size, 1, none⟩ = some (.slice p es.length cp))
    (first | exact ⟨HA.out.1, HA.out.2.1⟩ | exact ⟨HA1.out.1, HA1.out.2.1⟩ | exact ⟨other2 HA1.out.1 (by simp), other2 HA1.out.2.1 (by simp)⟩)
    (first | (refine step_run_append (by rfl) (.const (.slice none 0 0)) (.tmp 6) 22 (by rfl) 22 (by rfl) (.slice none 0 0) (.slice p es.length cp) (.slice q es.length c) D1 (by rfl) (by rfl) ?_ ?_; with_reducible exact e1))
  rename_i hHeld
  clear hHeld
  obtain ⟨V, hV⟩ : ∃ V, V = (D1.setCell ⟨w.heap.size + 1, 0, none⟩ (.int .i64 n)).setCell ⟨w.heap.size + 1, 1, none⟩ (.slice q es.length c) := ⟨_, rfl⟩
  have kV : NOwn V (w.heap.size + 1) n q es.length c := by rw [hV]; exact HN1.out.set _ _ _ _
  have bV : Below w.heap.size w V := by rw [hV]; exact (HB1.out.setCell (by simp) _).setCell (by simp) _
  have oV : Owns V w.heap.size (.slice q es.length c) es := by rw [hV]; exact (owns_other (owns_other HO1.out hws _) hws _).base HB.out.size
  rw [← hV]
  go_wp2_with fail
  exact bodyPost_ret (ret_net1 Try.results33 rfl kV) rfl ⟨q, c, rfl, oV, bV⟩
/-- One edge behind the others, in a list of the call's own. -/
theorem app1 {w : World} {B : Nat} {v : Value} {l : List Pt} (o : Owns w B v l) (x y : Int) (hB : B ≤ w.heap.size) (hl : l.length ≤ 90000) : ∃ v' w', (Builtin.append_ #[22, 22] 22 #[v, .slice (some ⟨w.heap.size, 0, none⟩) 1 1]).run Try.prog (w.alloc (.cells #[.int .i64 x, .int .i64 y] 56)) = .ok v' w' ∧ Owns w' B v' (l ++ [⟨x, y⟩]) ∧ (w.alloc (.cells #[.int .i64 x, .int .i64 y] 56)).grownBy w' v.ownBlock ∧ Below B w w' := by
  have o' : Owns (w.alloc (.cells #[.int .i64 x, .int .i64 y] 56)) B v l := o.later (by go_grown)
  have hL : Lies (w.alloc (.cells #[.int .i64 x, .int .i64 y] 56)) w.heap.size 0 [⟨x, y⟩] := by
    intro j hj
    simp at hj
    subst hj
    exact ⟨by simp only [at', List.getD_cons_zero]; go_cell, by simp only [at', List.getD_cons_zero]; go_cell⟩
  obtain ⟨v', w', e1, o1, gr⟩ := append_prs o' (some ⟨w.heap.size, 0, none⟩) 1 [⟨x, y⟩] (fun h => by cases h) (Or.inr ⟨_, _, rfl, hL⟩) (by simp; omega) (by simp; omega)
  exact ⟨v', w', e1, o1, gr, below_grown (w := w.alloc (.cells #[.int .i64 x, .int .i64 y] 56)) ((Below.refl _ _).alloc hB _) o' (Nat.le_refl _) (by simp; omega) gr⟩
theorem wp_append {P : Program} {w : World} {o : Oper} {a : Act} {K : Act → World → Prop} {Q : Exit → Act → World → Prop} (s x : Operand) (t : TypeId)
    (ho : o.op = .call { callee := .builtin .append, args := #[s, x], argTypes := #[t, t] }) (ty : TypeId) (hty : o.type = ty) (vs vx v' : Value) (w' : World) (hs : a.eval s = vs) (hx : a.eval x = vx)
    (hr : (Builtin.append_ #[t, t] ty #[vs, vx]).run P w = .ok v' w') (h : K (a.put o.dst v') w') : Oper.wp P o a w K Q := by
  subst hty
  unfold Oper.wp execOp
  simp only [ho, resolve, invoke, builtin, Sem.run_bind, Sem.run_pure, Result.andThen_ok, List.map_toArray, List.map_cons, List.map_nil, hs, hx, hr]
  exact h
theorem nown_set1 {W : World} {g : Nat} {n : Int} {p : Option Addr} {l c : Nat} (h : NOwn W g n p l c) (p' : Option Addr) (l' c' : Nat) : NOwn (W.setCell ⟨g, 1, none⟩ (.slice p' l' c')) g n p' l' c' := by
  obtain ⟨q0, q1, q2, q3⟩ := h
  refine ⟨?_, ?_, ?_, ?_⟩
  all_goals go_cell
theorem nown_below {W W' : World} {B g : Nat} {n : Int} {p : Option Addr} {l c : Nat} (h : NOwn W g n p l c) (hb : Below B W W') (hg : g < B) : NOwn W' g n p l c := by
  obtain ⟨q0, q1, q2, q3⟩ := h
  exact ⟨(hb.cell (p := ⟨g, 0, none⟩) hg).trans q0, (hb.cell (p := ⟨g, 1, none⟩) hg).trans q1, (hb.frozen (p := ⟨g, 0, none⟩) hg).trans q2, (hb.frozen (p := ⟨g, 1, none⟩) hg).trans q3⟩
end Go.Proofs.Ytobkejnlkjieoaa

/- Frames; regions walked by hand; a list of lists (carried). -/
namespace Go.Proofs.Ytobkejnlkjieoaa
open Go.RowKit Go.Sort
open Go
/-- All blocks that were there are as they were, but for those that are named. -/
structure Frame (w w' : World) (p : Nat → Prop) : Prop where
  os : w'.os = w.os
  tape : w'.tape = w.tape
  output : w'.output = w.output
  size : w.heap.size ≤ w'.heap.size
  block : ∀ i, i < w.heap.size → ¬ p i → w'.heap[i]? = w.heap[i]?
theorem Frame.below {w w' : World} {p : Nat → Prop} {B : Nat} (h : Frame w w' p) (hB : B ≤ w.heap.size) (hp : ∀ i, p i → B ≤ i) : Below B w w' :=
  ⟨h.os, h.tape, h.output, h.size, fun i hi => h.block i (by omega) (fun k => by have := hp i k; omega)⟩
theorem Frame.row {w w' : World} {p : Nat → Prop} {base e size n : Nat} {v : Value} {xs : List Value} (h : Frame w w' p) (o : w.ownsRow base e size v n xs) (hp : ∀ i, v.ownBlock = some i → ¬ p i) : w'.ownsRow base e size v n xs := by
  obtain ⟨h0, ⟨h1, h2⟩ | ⟨g, cap, cur, h1, h2, h3, h4⟩⟩ := o
  · exact ⟨h0, Or.inl ⟨h1, h2⟩⟩
  · refine ⟨h0, Or.inr ⟨g, cap, cur, h1, h2, ?_, h4⟩⟩
    rw [h.block g (Array.getElem?_eq_some_iff.1 h3).1 (hp g (by rw [h1]; rfl))]
    exact h3
theorem Frame.iowns {w w' : World} {p : Nat → Prop} {B : Nat} {v : Value} {L : List Int} (h : Frame w w' p) (o : IOwns w B v L) (hp : ∀ i, v.ownBlock = some i → ¬ p i) : IOwns w' B v L := h.row o hp
theorem Frame.of_below {w w' : World} (h : Below w.heap.size w w') (p : Nat → Prop) : Frame w w' p := ⟨h.os, h.tape, h.output, h.size, fun i hi _ => h.block i hi⟩
theorem Frame.trans {a b c : World} {p : Nat → Prop} (h : Frame a b p) (k : Frame b c p) : Frame a c p :=
  ⟨k.os.trans h.os, k.tape.trans h.tape, k.output.trans h.output, Nat.le_trans h.size k.size, fun i hi hp => (k.block i (Nat.lt_of_lt_of_le hi h.size) hp).trans (h.block i hi hp)⟩
theorem Frame.mono {a b : World} {p q : Nat → Prop} (h : Frame a b p) (hpq : ∀ i, i < a.heap.size → p i → q i) : Frame a b q :=
  ⟨h.os, h.tape, h.output, h.size, fun i hi hq => h.block i hi (fun hp => hq (hpq i hi hp))⟩
theorem Frame.set (w : World) (a : Addr) (v : Value) {p : Nat → Prop} (hp : p a.block) : Frame w (w.setCell a v) p :=
  ⟨rfl, rfl, rfl, by simp [World.setCell], fun _ _ hi => Below.heap_setCell _ _ _ _ (fun e => hi (by first | (rw [e]; exact hp) | (rw [← e]; exact hp)))⟩
theorem Frame.grown {w w' : World} {r : Option Nat} {p : Nat → Prop} (h : w.grownBy w' r) (hp : ∀ i, r = some i → p i) : Frame w w' p :=
  ⟨h.os, h.tape, h.output, h.size, fun i hi hn => h.block i hi (fun e => hn (hp i e.symm))⟩
/-- An operation that gives a value. -/
theorem wp_val {P : Program} {o : Oper} {a : Act} {w w2 : World} {K : Act → World → Prop} {Q : Exit → Act → World → Prop} {v : Value} (h : (execOp a.eval o).run P w = .ok (.value v) w2) (hk : K (a.put o.dst v) w2) : Oper.wp P o a w K Q := by
  unfold Oper.wp
  rw [h]
  exact hk
/-- One of those that may come up, where it has no guard: the step stands as it is. -/
theorem ready_cons {P : Program} {md : Region.Mode} {ops : Array Oper} {Q : Exit → Act → World → Prop} {S : World → Prop} {fuel : Nat} {listed : Array Bool} {a : Act} {w : World} {i : Nat} (o : Oper) {rs : List Nat} (ho : ops[i]? = some o) (hg : o.guard = none)
    (h : ∀ K' : Act → World → Prop, Go.Shut (∀ a w, S w → (S w → wpAnyH P md ops Q S fuel (listed.setIfInBounds i true) a w) → K' a w) → Oper.wp P o a w K' Q)
    (hs : AllReadyH P md ops Q S fuel listed a w rs) : AllReadyH P md ops Q S fuel listed a w (i :: rs) :=
  AllReadyH.cons ho (fun K hK => by rw [if_pos (by simp [Region.wanted, hg])]; exact h K hK) hs
theorem grown_cell {w w' : World} {r : Option Nat} (h : w.grownBy w' r) {a : Addr} {v : Value} (hc : w.cell? a = some v) (hr : r ≠ some a.block) : w'.cell? a = some v ∧ w'.frozen? a = w.frozen? a := by
  have hb : a.block < w.heap.size := block_lt_of_cell hc
  have := h.block a.block hb (fun e => hr e.symm)
  unfold World.cell? World.frozen? at *
  rw [this]
  exact ⟨hc, rfl⟩

theorem Frame.cell {w w' : World} {q : Nat → Prop} {a : Addr} {v : Value} (h : Frame w w' q) (hc : w.cell? a = some v) (hq : ¬ q a.block) : w'.cell? a = some v := by
  rw [World.cell?_of_block (h.block a.block (block_lt_of_cell hc) hq)]
  exact hc
theorem Frame.frozen {w w' : World} {q : Nat → Prop} {a : Addr} {v : Value} {b : Bool} (h : Frame w w' q) (hc : w.cell? a = some v) (hf : w.frozen? a = b) (hq : ¬ q a.block) : w'.frozen? a = b := by
  rw [World.frozen?_of_block (h.block a.block (block_lt_of_cell hc) hq)]
  exact hf
theorem Frame.nown {w w' : World} {q : Nat → Prop} {k : Nat} {n : Int} {p : Option Addr} {l c : Nat} (h : Frame w w' q) (o : NOwn w k n p l c) (hq : ¬ q k) : NOwn w' k n p l c :=
  ⟨h.cell o.1 hq, h.cell o.2.1 hq, h.frozen o.1 o.2.2.1 hq, h.frozen o.2.1 o.2.2.2 hq⟩
theorem Frame.has {w w' : World} {q : Nat → Prop} {p : Option Addr} {es : List Pt} (h : Frame w w' q) (o : Has w p es) (hq : ∀ a, p = some a → es = [] ∨ ¬ q a.block) : Has w' p es := by
  rcases o with o | ⟨b, off, rfl, hL⟩
  · exact Or.inl o
  · rcases hq ⟨b, off, none⟩ rfl with h0 | h0
    · exact Or.inl h0
    · refine Or.inr ⟨b, off, rfl, fun j hj => ?_⟩
      obtain ⟨c0, c1⟩ := hL j hj
      exact ⟨h.cell c0 h0, h.cell c1 h0⟩
theorem oper_append {P : Program} {w : World} {o : Oper} {a : Act} {K : Act → World → Prop} {Q : Exit → Act → World → Prop} (s x : Operand) (t : TypeId)
    (ho : o.op = .call { callee := .builtin .append, args := #[s, x], argTypes := #[t, t] }) (ty : TypeId) (hty : o.type = ty) (vs vx v' : Value) (w' : World) (hs : a.eval s = vs) (hx : a.eval x = vx)
    (hr : (Builtin.append_ #[t, t] ty #[vs, vx]).run P w = .ok v' w') (h : K (a.put o.dst v') w') : Oper.wp P o a w K Q := by
  subst hty
  unfold Oper.wp execOp
  simp only [ho, resolve, invoke, builtin, Sem.run_bind, Sem.run_pure, Result.andThen_ok, List.map_toArray, List.map_cons, List.map_nil, hs, hx, hr]
  exact h
section
variable {w w' : World} {B k n sz : Nat} {lv : Value} {rv : Nat → Value} {L : Nat → List Int}
theorem lst_kind {B n : Nat} {lv : Value} {xs : List Value} (h : w.ownsRow B 32 1 lv n xs) {g : Nat} (hg : lv.ownBlock = some g) : ∃ cur, w.heap[g]? = some (.cells cur 32 (0, 0)) := by
  obtain ⟨_, ⟨h1, _⟩ | ⟨g1, c1, cur1, h1, h2, h3, _⟩⟩ := h
  · rw [h1] at hg; simp [Value.ownBlock] at hg
  · rw [h1] at hg
    simp only [Value.ownBlock, Option.some.injEq] at hg
    rw [← hg]
    exact ⟨_, h3⟩
theorem lst_apart {B B' n : Nat} {lv v : Value} {xs : List Value} {l : List Int} (h : w.ownsRow B 32 1 lv n xs) (o : IOwns w B' v l) {g : Nat} (hg : lv.ownBlock = some g) : v.ownBlock ≠ some g := by
  obtain ⟨cur, hk⟩ := lst_kind h hg
  exact row_apart hk o (by decide)
theorem append_lst {base g n : Nat} {v x : Value} {xs : List Value} (o : w.ownsRow base 32 1 v n xs) (hk : w.cell? ⟨g, 0, none⟩ = some x) (hx : x.oneCell' = true) (hb : base ≤ w.heap.size) (hl : n ≤ 2000000) :
    ∃ v' w', (Builtin.append_ #[29, 29] 29 #[v, .slice (some ⟨g, 0, none⟩) 1 1]).run Try.prog w = .ok v' w' ∧ w'.ownsRow base 32 1 v' (n + 1) (xs ++ [x]) ∧ w.grownBy w' v.ownBlock ∧ (v'.ownBlock = v.ownBlock ∨ v'.ownBlock = some w.heap.size) := by
  obtain ⟨i0, hi0, hz0, hz1, hz2⟩ := info_parts info41
  have hnews : ∀ j u, [x][j]? = some u → w.cell? ((⟨g, 0, none⟩ : Addr).add j) = some u := by
    intro j u hj
    cases j with
    | zero => simp at hj; subst hj; exact hk
    | succ k => simp at hj
  obtain ⟨v', w', h1, h2, h3, _, h5⟩ := run_append_own_at (P := Try.prog) w base 29 29 32 i0 (.slice none 0 0) 1 24 Try.underlying29 hi0 hz0 hz1 hz2 rfl (by decide) v n xs o ⟨g, 0, none⟩ 1 1 [x] rfl hnews (by simp [hx]) (by unfold maxLen; omega) (by omega) hb
  exact ⟨v', w', h1, h2, h3, h5⟩
end
end Go.Proofs.Ytobkejnlkjieoaa

/- Half-edges of all nodes in one room: how many leave each, and where they lie; the rows in memory. -/
namespace Go.Proofs.Ytobkejnlkjieoaa
open Go.RowKit Go.Sort
open Go
theorem iat_pt {l : List Int} {j : Nat} {x : Int} (h : j < l.length) : iat (l.set j x) j = x := by
  rw [iat_set _ _ _ _ h, if_pos rfl]
theorem iat_pt_ne {l : List Int} {j k : Nat} {x : Int} (h : k ≠ j) : iat (l.set j x) k = iat l k := by
  unfold iat
  rw [List.getD_eq_getElem?_getD, List.getD_eq_getElem?_getD, List.getElem?_set_ne (fun e => h e.symm)]
/-- The sum of the first values. -/
def smN : Nat → (Nat → Nat) → Nat
  | 0, _ => 0
  | n + 1, f => smN n f + f n
theorem smN_congr {n : Nat} {f g : Nat → Nat} (h : ∀ v, v < n → f v = g v) : smN n f = smN n g := by
  induction n with
  | zero => rfl
  | succ n ih => unfold smN; rw [ih fun v hv => h v (by omega), h n (by omega)]
theorem smN_more {n x : Nat} {f g : Nat → Nat} (hx : x < n) (h : ∀ v, v ≠ x → g v = f v) (h1 : g x = f x + 1) : smN n g = smN n f + 1 := by
  induction n with
  | zero => omega
  | succ n ih =>
    unfold smN
    by_cases e : x = n
    · subst e
      rw [smN_congr (f := g) (g := f) fun v hv => h v (by omega), h1]
      omega
    · rw [ih (by omega), h n (fun k => e k.symm)]
      omega
theorem smN_zero (n : Nat) : smN n (fun _ => 0) = 0 := by
  induction n with
  | zero => rfl
  | succ n ih => show smN n _ + 0 = 0; rw [ih]
theorem smN_mono {a b : Nat} (f : Nat → Nat) (h : a ≤ b) : smN a f ≤ smN b f := by
  induction b with
  | zero => rw [show a = 0 by omega]; exact Nat.le_refl _
  | succ b ih =>
    by_cases e : a = b + 1
    · rw [e]; exact Nat.le_refl _
    · have := ih (by omega)
      rw [smN]; omega
/-- How many of the first half-edges leave a node. -/
def odH (es : List Pt) (h v : Nat) : Nat := (outL es h v).length
theorem dg_more {es : List Pt} {h x : Nat} (hx : fromL es h = x) : odH es (h + 1) = upd (odH es h) x (odH es h x + 1) := by
  funext v
  unfold odH
  rw [outL_more es h hx]
  unfold upd
  split
  · simp
  · rfl
theorem dg_total {n : Nat} {es : List Pt} (hm : netB n es = true) : ∀ h, h ≤ 2 * es.length → smN n (odH es h) = h := by
  intro h
  induction h with
  | zero => intro _; exact (smN_congr fun v _ => by simp [odH, outL_zero]).trans (smN_zero n)
  | succ h ih =>
    intro hh
    have hf := fromL_in hm h (by omega)
    have e : fromL es h = ((fromL es h).toNat : Int) := by omega
    rw [dg_more e, smN_more (f := odH es h) (x := (fromL es h).toNat) (by omega) (fun v hv => upd_other _ _ hv) (upd_same _ _ _), ih (by omega)]
/-- Where the half-edges of a node begin. -/
def offB (es : List Pt) (v : Nat) : Nat := smN v (odH es (2 * es.length))
theorem off_next (es : List Pt) (v : Nat) : offB es (v + 1) = offB es v + odH es (2 * es.length) v := rfl
theorem off_le {n : Nat} {es : List Pt} (hm : netB n es = true) {v : Nat} (hv : v ≤ n) : offB es v ≤ 2 * es.length := by
  have := smN_mono (odH es (2 * es.length)) hv
  rw [dg_total hm _ (Nat.le_refl _)] at this
  exact this
theorem off_step {es : List Pt} {u v : Nat} (h : u < v) : offB es u + odH es (2 * es.length) u ≤ offB es v := by
  have := smN_mono (odH es (2 * es.length)) (show u + 1 ≤ v from h)
  exact this
theorem dg_le (es : List Pt) {h h' : Nat} (hh : h ≤ h') (v : Nat) : odH es h v ≤ odH es h' v := by
  unfold odH outL
  rw [List.length_map, List.length_map]
  refine List.Sublist.length_le (List.Sublist.filter _ ?_)
  exact List.range_sublist.2 hh
/-- Where a node's row begins in the room: where nothing is left of the room it goes no further. -/
def ovB (es : List Pt) : Nat → Nat
  | 0 => 0
  | v + 1 => if 2 * es.length - offB es v = odH es (2 * es.length) v then ovB es v else ovB es v + odH es (2 * es.length) v
theorem ov_is {es : List Pt} : ∀ {v : Nat}, offB es v < 2 * es.length → ovB es v = offB es v := by
  intro v
  induction v with
  | zero => intro _; rfl
  | succ v ih =>
    intro h
    rw [off_next] at h
    rw [ovB, if_neg (by omega), ih (by omega), off_next]
theorem ov_in {n : Nat} {es : List Pt} (hm : netB n es = true) {v : Nat} (hv : v < n) (h : 0 < odH es (2 * es.length) v) : ovB es v = offB es v := by
  have := off_le hm (show v + 1 ≤ n from hv)
  rw [off_next] at this
  exact ov_is (by omega)
/-- The value of a node's row, so many of its half-edges laid. -/
def rvB (es : List Pt) (gr h v : Nat) : Value := .slice (some ⟨gr, ovB es v, none⟩) (odH es h v) (odH es (2 * es.length) v)
/-- The rows in one room, the first half-edges laid. -/
structure OR (w : World) (B g gr n : Nat) (es : List Pt) (h : Nat) (X : List Int) : Prop where
  rows : w.ownsRow B 32 1 (.slice (some ⟨g, 0, none⟩) n n) n ((List.range n).map (rvB es gr h))
  room : IRow w B gr (2 * es.length) X
  lay : ∀ v, v < n → ∀ j, j < odH es h v → iat X (offB es v + j) = iat (outL es h v) j
theorem OR.later {w w' : World} {B g gr n : Nat} {es : List Pt} {h : Nat} {X : List Int} (o : OR w B g gr n es h X) (hb : Below w.heap.size w w') : OR w' B g gr n es h X :=
  ⟨World.ownsRow.kept o.rows (grown_below hb) (Or.inr (by simp [Value.ownBlock])), o.room.later hb, o.lay⟩
theorem OR.ne {w : World} {B g gr n : Nat} {es : List Pt} {h : Nat} {X : List Int} (o : OR w B g gr n es h X) : g ≠ gr := fun e => by
  obtain ⟨cur, hg⟩ := row_kind o.rows
  exact row_apart hg o.room.2 (by decide) (by rw [e]; rfl)
theorem OR.cell {w : World} {B g gr n : Nat} {es : List Pt} {h : Nat} {X : List Int} (o : OR w B g gr n es h X) {v : Nat} (hv : v < n) : w.cell? ⟨g, v, none⟩ = some (rvB es gr h v) ∧ w.frozen? ⟨g, v, none⟩ = false := by
  refine ⟨?_, World.ownsRow.frozenAt o.rows v⟩
  rw [World.ownsRow.cellAt o.rows v (by omega)]
  simp [hv]
theorem map_put {n x : Nat} {f : Nat → Value} (u : Value) : ((List.range n).map f).set x u = (List.range n).map (upd f x u) := by
  apply List.ext_getElem
  · simp
  intro i h4 h5
  simp only [List.getElem_map, List.getElem_range, List.getElem_set]
  by_cases hia : x = i
  · subst hia; simp [upd]
  · rw [if_neg hia, upd_other _ _ (fun e => hia e.symm)]
/-- One half-edge more. -/
theorem OR.put {n : Nat} {es : List Pt} (hm : netB n es = true) {w : World} {B g gr h : Nat} {X : List Int} (o : OR w B g gr n es h X) {x : Nat} (hx : fromL es h = x) (hxn : x < n) (hl : h < 2 * es.length) :
    OR ((w.setCell ⟨gr, ovB es x + odH es h x, none⟩ (.int .i64 (h : Nat))).setCell ⟨g, x, none⟩ (.slice (some ⟨gr, ovB es x, none⟩) (odH es h x + 1) (odH es (2 * es.length) x))) B g gr n es (h + 1) (X.set (offB es x + odH es h x) (h : Nat)) := by
  have hd := dg_more hx
  have hle : odH es h x + 1 ≤ odH es (2 * es.length) x := by
    have := dg_le es (show h + 1 ≤ 2 * es.length from hl) x
    rw [hd, upd_same] at this
    exact this
  have htot : offB es x + odH es (2 * es.length) x ≤ 2 * es.length := by
    have := off_le hm (show x + 1 ≤ n from hxn)
    rw [off_next] at this
    exact this
  have hXl : X.length = 2 * es.length := o.room.1
  have hov : ovB es x = offB es x := ov_in hm hxn (by omega)
  rw [hov]
  refine ⟨?_, irow_other (o.room.set _ _) (fun e => o.ne e) _, ?_⟩
  · have o1 := ownsRow_setCell_other (a := ⟨gr, offB es x + odH es h x, none⟩) o.rows (by simp [Value.ownBlock]; exact o.ne) (.int .i64 (h : Nat))
    have q := (World.ownsRow.stored o1 x (.slice (some ⟨gr, offB es x, none⟩) (odH es h x + 1) (odH es (2 * es.length) x))).1
    rw [map_put] at q
    rw [show rvB es gr (h + 1) = upd (rvB es gr h) x (.slice (some ⟨gr, offB es x, none⟩) (odH es h x + 1) (odH es (2 * es.length) x)) from ?_]
    · exact q
    funext v
    unfold rvB
    rw [hd]
    by_cases e : v = x
    · rw [e, upd_same, upd_same, hov]
    · rw [upd_other _ _ e, upd_other _ _ e]
  · intro v hv j hj
    rw [hd] at hj
    rw [outL_more es h hx]
    by_cases e : v = x
    · subst e
      rw [upd_same] at hj ⊢
      by_cases ej : j = odH es h v
      · subst ej
        rw [iat_pt (by rw [hXl]; omega)]
        unfold iat odH
        simp
      · have hj' : j < odH es h v := by omega
        rw [iat_pt_ne (by omega), o.lay v hv j hj']
        unfold iat
        rw [List.getD_eq_getElem?_getD, List.getD_eq_getElem?_getD, List.getElem?_append_left (show j < (outL es h v).length from hj')]
    · rw [upd_other _ _ e] at hj ⊢
      have hj2 : j < odH es (2 * es.length) v := Nat.lt_of_lt_of_le hj (dg_le es (by omega) v)
      rw [iat_pt_ne ?_, o.lay v hv j hj]
      rcases Nat.lt_or_gt_of_ne e with k | k
      · have := off_step (es := es) k
        omega
      · have := off_step (es := es) k
        omega
end Go.Proofs.Ytobkejnlkjieoaa

/- kura's comesTo and outs, in every world (carried from walk's). -/
namespace Go.Proofs.Ytobkejnlkjieoaa
open Go.RowKit Go.Sort
open Go

set_option maxHeartbeats 1000000 in
theorem comes54 (n : Int) (p : Option Addr) (es : List Pt) (cap h : Nat) (w : World) (hh : Has w p es) (hl : h < 2 * es.length) (hb : es.length ≤ 100000) : Calls Try.prog 70 #[nv n p es.length cap, .int .i64 h] w fun e w' => e = .returned (.int .i64 (toL es h)) ∧ Below w.heap.size w w' := by
  have hk : h / 2 < es.length := by omega
  rcases hh with h0 | ⟨b, off, rfl, hL⟩
  · subst h0; simp at hk
  obtain ⟨c0, c1⟩ := hL (h / 2) hk
  have zb : b < w.heap.size := block_lt_of_cell c0
  have hd : Int.tdiv (h : Int) 2 = ((h / 2 : Nat) : Int) := by rw [Int.tdiv_eq_ediv_of_nonneg (by omega)]; exact (Int.natCast_ediv h 2).symm
  have hr : Int.tmod (h : Int) 2 = ((h % 2 : Nat) : Int) := by rw [Int.tmod_eq_emod_of_nonneg (by omega)]; exact (Int.natCast_emod h 2).symm
  have HF : Hid (toL es h = if h % 2 = 0 then (at' es (h / 2)).y else (at' es (h / 2)).x) := rfl
  obtain ⟨x, hx⟩ : ∃ x, at' es (h / 2) = x := ⟨_, rfl⟩
  rw [hx] at c0 c1 HF
  have hr2 : h % 2 < 2 := by omega
  have hkl : h / 2 ≤ 100000 := by omega
  obtain ⟨q, hq⟩ : ∃ q, h / 2 = q := ⟨_, rfl⟩
  obtain ⟨r, hre⟩ : ∃ r, h % 2 = r := ⟨_, rfl⟩
  rw [hq] at c0 c1 hd hk hkl
  rw [hre] at hr HF hr2
  have i1 : (q : Int) < es.length := by omega
  have i2 : (0 : Int) ≤ q := by omega
  clear hx hL hq hre
  have h01 : r = 0 ∨ r = 1 := by omega
  rcases h01 with rfl | rfl
  · go_enter Try.func70, Try.ntmps70
    go_wp2
    go_ret
    exact ⟨retI (by rw [HF.out]; simp), by go_grown⟩
  · go_enter Try.func70, Try.ntmps70
    go_wp2
    go_ret
    exact ⟨retI (by rw [HF.out]; simp), by go_grown⟩

set_option maxRecDepth 100000 in
set_option maxHeartbeats 8000000 in
theorem outs39 (m : Nat) (p : Option Addr) (es : List Pt) (cp : Nat) (w : World) (h : Has w p es) (hm : netB m es = true) : Calls Try.prog 54 #[nv m p es.length cp] w fun e w' => ∃ g rv, e = .returned (.slice (some ⟨g, 0, none⟩) m m) ∧ Rows w' w.heap.size g m rv (outL es (2 * es.length)) ∧ Below w.heap.size w w' := by
  obtain ⟨W, hW, hb, a0⟩ := one_net w m p es.length cp
  obtain ⟨n0, n1, hes, hE⟩ := netB_is hm
  have HEE := hide hE
  have HH := hide (h.later hb)
  have HB := hide hb
  have HA := hide a0
  have hws : w.heap.size < W.heap.size := block_lt_of_cell a0.1
  have hWs : W.heap.size = w.heap.size + 1 := by rw [hW]; simp
  obtain ⟨q0, q1, _, _⟩ := a0
  clear h hb hE
  obtain ⟨i0, hi0, hz0, hz1, hz2⟩ := info_parts info41
  go_enter Try.func54, Try.ntmps54
  go_wp2_with (refine wpList_make_full _ rfl (.tmp 9) (.tmp 9) 29 rfl (w.alloc (nbx m p es.length cp)).heap.size 32 i0 (.slice none 0 0) 1 Try.underlying29 hi0 hz0 hz1 .i64 .i64 _ _ m rfl rfl rfl rfl ?c1 ?c2 ?c3 ?_)
  case c1 => rw [hz2]; omega
  case c2 => unfold maxLen; omega
  case c3 => exact Nat.le_refl _
  intro w2 hown hgrow
  have hgrow' : W.grownBy w2 none := by rw [hW]; exact hgrow
  have HR2 := hide (rows_made es hown)
  have hb2 := below_made hgrow'
  have HB2 := hide hb2
  have HSZ := hide hWs
  clear hown hgrow hgrow' hW hWs q0 q1
  obtain ⟨q0, q1, _, _⟩ := HA.out.later hb2
  clear hb2
  go_wp2_with fail
  obtain ⟨g, hg⟩ : ∃ g, w.heap.size + 1 = g := ⟨_, rfl⟩
  obtain ⟨kb, hkb⟩ : ∃ kb, w.heap.size = kb := ⟨_, rfl⟩
  rw [hg] at HR2 HSZ ⊢
  rw [hkb] at HA hws q0 q1 ⊢
  have HK := hide (And.intro hg hkb)
  clear hg hkb q0 q1
  go_loopw [14] (fun t wr => ∃ i : Nat, i ≤ es.length ∧ t = .int .i64 i ∧ Hid (Below W.heap.size W wr) ∧ Hid (∃ rv, Rows wr g g m rv (outL es (2 * i)))) (fun t _ => es.length - (intOf t).toNat)
  case atStart => exact ⟨0, by omega, rfl, HB2.out, _, HR2.out⟩
  case round =>
    obtain ⟨i, hi, rfl, HBr, HR⟩ := hrel
    by_cases hlt : i < es.length
    · obtain ⟨rv, hrv⟩ := HR.out
      obtain ⟨f0, f1, f2, f3⟩ := HEE.out i hlt
      have hq : ∃ b off, p = some ⟨b, off, none⟩ ∧ Lies W b off es := by
        rcases HH.out with h0 | h0
        · subst h0; simp at hlt
        · exact h0
      obtain ⟨b, off, rfl, hLW⟩ := hq
      obtain ⟨c0, c1⟩ := hLW.later HBr.out i hlt
      have i1 : (i : Int) < es.length := by omega
      have i2 : (0 : Int) ≤ i := by omega
      have nb : b < wr.heap.size := block_lt_of_cell c0
      go_wp2_with fail
      obtain ⟨V, hV⟩ : ∃ V, V = wr.alloc (.cells #[.int .i64 (at' es i).x, .int .i64 (at' es i).y] 56) := ⟨_, rfl⟩
      have hbV : Below wr.heap.size wr V := by rw [hV]; go_grown
      have HBV := hide (below_step HBr.out hbV)
      have HRV := hide (hrv.later hbV)
      rw [← hV]
      clear hV hbV c0 c1 hrv HR HBr
      obtain ⟨kv, hkv⟩ : ∃ kv, wr.heap.size = kv := ⟨_, rfl⟩
      rw [hkv]
      clear hkv nb
      go_loopw [20] (fun t wr => ∃ s : Nat, s ≤ 2 ∧ t = .int .i64 s ∧ Hid (Below W.heap.size W wr) ∧ Hid (∃ rv, Rows wr g g m rv (outL es (2 * i + s)))) (fun t _ => 2 - (intOf t).toNat)
      case atStart => exact ⟨0, by omega, rfl, HBV.out, rv, HRV.out⟩
      case round =>
        clear HBV HRV
        obtain ⟨s, hs, rfl, HBi, HRi⟩ := hrel
        obtain ⟨rv, hRv⟩ := HRi.out
        rcases (by omega : s = 0 ∨ s = 1 ∨ s = 2) with rfl | rfl | rfl
        · rw [Nat.add_zero] at hRv
          have hfx : fromL es (2 * i) = (at' es i).x := by unfold fromL; rw [if_pos (by omega), show 2 * i / 2 = i by omega]
          obtain ⟨x, hx⟩ : ∃ x : Nat, (at' es i).x = x := ⟨(at' es i).x.toNat, by omega⟩
          have hxm : x < m := by omega
          rw [hx] at hfx
          have hD := hide (outL_more es (2 * i) hfx)
          have hL := outL_length es (2 * i) x
          obtain ⟨U, hU⟩ : ∃ U, U = wr.alloc (.cells #[.int .i64 (2 * (i : Int))] 3) := ⟨_, rfl⟩
          have hbU : Below wr.heap.size wr U := by rw [hU]; go_grown
          have hlit : U.cell? ⟨wr.heap.size, 0, none⟩ = some (.int .i64 (2 * (i : Int))) := by rw [hU]; exact one_int _ _
          have hRU := hRv.later hbU
          have hrx := hRU.2.2 x hxm
          obtain ⟨v1, D, e1, o1, gr, at1⟩ := append_int hrx hlit (by have := HBi.out.size; have := hbU.size; have := HSZ.out; omega) (by omega)
          obtain ⟨p1, l1, c1, rfl⟩ : ∃ p1 l1 c1, v1 = .slice p1 l1 c1 := by obtain ⟨p1, c1, h1, _⟩ := o1.form; exact ⟨_, _, _, h1⟩
          have HRD := hide (hRU.put hxm o1 gr at1)
          obtain ⟨hgl, z0, zf⟩ := Rows.slot hRU hxm gr
          have HBD : Hid (Below W.heap.size W (D.setCell ⟨g, x, none⟩ (.slice p1 l1 c1))) := (below_grown (below_step HBi.out hbU) hrx (by have := HSZ.out; omega) (by have := HBi.out.size; have := hbU.size; omega) gr).setCell (by have := HSZ.out; simp; omega) _
          obtain ⟨y0, yf⟩ := hRv.cell hxm
          have IX : ∀ V, (Instr.index 56 (pv (at' es i).x (at' es i).y) (.int .i64 0)).run Try.prog V = .ok (.int .i64 (at' es i).x) V := fun V => by kernel_rfl
          rw [hU] at e1
          have k1 : (x : Int) < m := by omega
          have k2 : (0 : Int) ≤ x := by omega
          have k3 : g ≠ wr.heap.size := by have := hRv.size; omega
          have k4 : g < wr.heap.size := hRv.size.2
          rw [hx] at IX ⊢
          obtain ⟨ay, hay⟩ : ∃ ay, (at' es i).y = ay := ⟨_, rfl⟩
          rw [hay] at IX ⊢
          clear hx hfx hL hU hbU hlit hRU hrx o1 gr at1 hRv HRi hay
          go_wp2_with (at_builtin; refine wpList_run_append rfl (.tmp 29) (.tmp 34) 32 rfl 32 rfl _ _ _ D rfl rfl e1 ?_)
          clear e1 y0 yf IX
          go_wp2
          go_roundw
          case rel => exact ⟨1, by omega, by go_num, HBD.out, _, by rw [show 2 * i + 1 = 2 * i + 1 by omega, hD.out]; exact HRD.out⟩
          case measure => simp [intOf]
        · have hfx : fromL es (2 * i + 1) = (at' es i).y := by unfold fromL; rw [if_neg (by omega), show (2 * i + 1) / 2 = i by omega]
          obtain ⟨x, hx⟩ : ∃ x : Nat, (at' es i).y = x := ⟨(at' es i).y.toNat, by omega⟩
          have hxm : x < m := by omega
          rw [hx] at hfx
          have hD := hide (outL_more es (2 * i + 1) hfx)
          have hL := outL_length es (2 * i + 1) x
          obtain ⟨U, hU⟩ : ∃ U, U = wr.alloc (.cells #[.int .i64 (2 * (i : Int) + 1)] 3) := ⟨_, rfl⟩
          have hbU : Below wr.heap.size wr U := by rw [hU]; go_grown
          have hlit : U.cell? ⟨wr.heap.size, 0, none⟩ = some (.int .i64 (2 * (i : Int) + 1)) := by rw [hU]; exact one_int _ _
          have hRU := hRv.later hbU
          have hrx := hRU.2.2 x hxm
          obtain ⟨v1, D, e1, o1, gr, at1⟩ := append_int hrx hlit (by have := HBi.out.size; have := hbU.size; have := HSZ.out; omega) (by omega)
          obtain ⟨p1, l1, c1, rfl⟩ : ∃ p1 l1 c1, v1 = .slice p1 l1 c1 := by obtain ⟨p1, c1, h1, _⟩ := o1.form; exact ⟨_, _, _, h1⟩
          have HRD := hide (hRU.put hxm o1 gr at1)
          obtain ⟨hgl, z0, zf⟩ := Rows.slot hRU hxm gr
          have HBD : Hid (Below W.heap.size W (D.setCell ⟨g, x, none⟩ (.slice p1 l1 c1))) := (below_grown (below_step HBi.out hbU) hrx (by have := HSZ.out; omega) (by have := HBi.out.size; have := hbU.size; omega) gr).setCell (by have := HSZ.out; simp; omega) _
          obtain ⟨y0, yf⟩ := hRv.cell hxm
          have IX : ∀ V, (Instr.index 56 (pv (at' es i).x (at' es i).y) (.int .i64 1)).run Try.prog V = .ok (.int .i64 (at' es i).y) V := fun V => by kernel_rfl
          rw [hU] at e1
          have k1 : (x : Int) < m := by omega
          have k2 : (0 : Int) ≤ x := by omega
          have k3 : g ≠ wr.heap.size := by have := hRv.size; omega
          have k4 : g < wr.heap.size := hRv.size.2
          rw [hx] at IX ⊢
          obtain ⟨ay, hay⟩ : ∃ ay, (at' es i).x = ay := ⟨_, rfl⟩
          rw [hay] at IX ⊢
          clear hx hfx hL hU hbU hlit hRU hrx o1 gr at1 hRv HRi hay
          go_wp2_with (at_builtin; refine wpList_run_append rfl (.tmp 29) (.tmp 34) 32 rfl 32 rfl _ _ _ D rfl rfl e1 ?_)
          clear e1 y0 yf IX
          go_wp2
          go_roundw
          case rel => exact ⟨2, by omega, by go_num, HBD.out, _, by rw [show 2 * i + 2 = 2 * i + 1 + 1 by omega, hD.out]; exact HRD.out⟩
          case measure => simp [intOf]
        · have HRn := hide hRv
          clear hRv HRi
          go_wp2
          go_roundw
          case rel => exact ⟨i + 1, by omega, by go_num, HBi.out, rv, by rw [show 2 * (i + 1) = 2 * i + 2 by omega]; exact HRn.out⟩
          case measure => simp [intOf]; omega
    · have hin : i = es.length := by omega
      have hlt' : ¬ (i : Int) < es.length := by omega
      rw [hin] at HR
      clear hin
      obtain ⟨rv, hrv⟩ := HR.out
      go_wp2
      go_ret
      refine ⟨g, rfl, ⟨rv, hrv.base ?_⟩, below_step HB.out HBr.out⟩
      have := HK.out
      omega
end Go.Proofs.Ytobkejnlkjieoaa

/- block: leaves; the law's Light. -/
namespace Go.Proofs.Ytobkejnlkjieoaa
open Go.RowKit Go.Sort
open Go
set_option maxHeartbeats 1000000 in
theorem leaves85 (n : Int) (p : Option Addr) (es : List Pt) (cap h : Nat) (w : World) (hh : Has w p es) (hl : h < 2 * es.length) (hb : es.length ≤ 100000) : Calls Try.prog 85 #[nv n p es.length cap, .int .i64 h] w fun e w' => e = .returned (.int .i64 (fromL es h)) ∧ Below w.heap.size w w' := by
  have hk : h / 2 < es.length := by omega
  rcases hh with h0 | ⟨b, off, rfl, hL⟩
  · subst h0; simp at hk
  obtain ⟨c0, c1⟩ := hL (h / 2) hk
  have zb : b < w.heap.size := block_lt_of_cell c0
  have hd : Int.tdiv (h : Int) 2 = ((h / 2 : Nat) : Int) := by rw [Int.tdiv_eq_ediv_of_nonneg (by omega)]; exact (Int.natCast_ediv h 2).symm
  have hr : Int.tmod (h : Int) 2 = ((h % 2 : Nat) : Int) := by rw [Int.tmod_eq_emod_of_nonneg (by omega)]; exact (Int.natCast_emod h 2).symm
  have HF : Hid (fromL es h = if h % 2 = 0 then (at' es (h / 2)).x else (at' es (h / 2)).y) := rfl
  obtain ⟨x, hx⟩ : ∃ x, at' es (h / 2) = x := ⟨_, rfl⟩
  rw [hx] at c0 c1 HF
  have hr2 : h % 2 < 2 := by omega
  have hkl : h / 2 ≤ 100000 := by omega
  obtain ⟨q, hq⟩ : ∃ q, h / 2 = q := ⟨_, rfl⟩
  obtain ⟨r, hre⟩ : ∃ r, h % 2 = r := ⟨_, rfl⟩
  rw [hq] at c0 c1 hd hk hkl
  rw [hre] at hr HF hr2
  have i1 : (q : Int) < es.length := by omega
  have i2 : (0 : Int) ≤ q := by omega
  clear hx hL hq hre
  have h01 : r = 0 ∨ r = 1 := by omega
  rcases h01 with rfl | rfl
  · go_enter Try.func85, Try.ntmps85
    go_wp2
    go_ret
    exact ⟨retI (by rw [HF.out]; simp), by go_grown⟩
  · go_enter Try.func85, Try.ntmps85
    go_wp2
    go_ret
    exact ⟨retI (by rw [HF.out]; simp), by go_grown⟩

/-- Few enough nodes and edges, or no net. -/
def liB (n : Int) (es : List Pt) : Bool := !netB n es || (decide (n ≤ 40) && decide (es.length ≤ 60))
set_option maxRecDepth 100000 in
set_option maxHeartbeats 4000000 in
theorem light9 (n : Int) (p : Option Addr) (es : List Pt) (cp : Nat) (w : World) (h : Has w p es) : Calls Try.prog 9 #[nv n p es.length cp] w fun e w' => e = .returned (.bool (liB n es)) ∧ Below w.heap.size w w' := by
  obtain ⟨W, hW, hb0, a0⟩ := one_net w n p es.length cp
  have C1 := hide (may12 n p es cp W (h.later hb0))
  have HB := hide hb0
  have HA := hide a0
  obtain ⟨q0, q1, _, _⟩ := a0
  have HL : Hid (liB n es = (!netB n es || (decide (n ≤ 40) && decide (es.length ≤ 60)))) := rfl
  clear h hb0
  go_enter Try.func9, Try.ntmps9
  go_upto_region 1 with fail
  rw [← hW]
  clear hW
  go_wp2_with fail
  refine C1.out.mono ?_
  rintro r w1 ⟨rfl, hb1⟩
  have HE := hide (below_step HB.out hb1)
  obtain ⟨q0, q1, _, _⟩ := HA.out.later hb1
  clear C1 hb1
  obtain ⟨m, hm⟩ : ∃ m, netB n es = m := ⟨_, rfl⟩
  rw [hm] at HL ⊢
  clear hm
  cases m
  · go_wp2
    go_ret
    exact ⟨retB (by rw [HL.out]; rfl), HE.out⟩
  · by_cases h1 : n ≤ 40
    · by_cases h2 : es.length ≤ 60
      · have h3 : (es.length : Int) ≤ 60 := by omega
        go_wp2
        go_ret
        exact ⟨retB (by rw [HL.out]; simp [h1, h2]), HE.out⟩
      · have h3 : ¬ (es.length : Int) ≤ 60 := by omega
        go_wp2
        go_ret
        exact ⟨retB (by rw [HL.out]; simp [h2]; omega), HE.out⟩
    · go_wp2
      go_ret
      exact ⟨retB (by rw [HL.out]; simp; omega), HE.out⟩
end Go.Proofs.Ytobkejnlkjieoaa
