/- graph's small functions; remember. -/
import Derived.Test.YtgfiofogcnnkhaaGA
namespace Go.Proofs.Ytgfiofogcnnkhaa
open Go.RowKit Go.Sort
open Go

theorem wpList_run_append {P : Program} {w : World} {ops : Array Oper} {rest : List Oper} {o : Oper} {a : Act} {Q : Exit → Act → World → Prop} (hgd : o.guard = none) (s x : Operand) (t : TypeId)
    (ho : o.op = .call { callee := .builtin .append, args := #[s, x], argTypes := #[t, t] }) (ty : TypeId) (hty : o.type = ty) (vs vx v' : Value) (w' : World) (hs : a.eval s = vs) (hx : a.eval x = vx)
    (hr : (Builtin.append_ #[t, t] ty #[vs, vx]).run P w = .ok v' w') (h : wpList P ops Q rest (a.put o.dst v') w') : wpList P ops Q (o :: rest) a w := by
  subst hty
  refine wpList_plain hgd fun K hK => ?_
  unfold Oper.wp execOp
  simp only [ho, resolve, invoke, builtin, Sem.run_bind, Sem.run_pure, Result.andThen_ok, List.map_toArray, List.map_cons, List.map_nil, hs, hx, hr]
  exact hK _ _ h
theorem append_row {w : World} {base : Nat} {v : Value} {n : Nat} {xs : List Value} (t e : TypeId) (z : Value) (size bytes : Nat) (ht : Try.prog.underlying t = some (.slice e)) (hinfo : (Try.prog.info? e).map (fun i => (i.zero, i.size, i.bytes)) = some (some z, size, bytes)) (hzs : z.cells.size = size) (hsz : 0 < size) (o : w.ownsRow base e size v n xs) (k : Nat) (news : List Value) (fz : Nat × Nat) (e' : TypeId) (hk : w.heap[k]? = some (.cells news.toArray e' fz)) (hl : news.length = size) (h1 : ∀ u ∈ news, u.oneCell' = true) (hn : n ≤ 5000000) (hb : bytes ≤ 100) (hbase : base ≤ w.heap.size) :
    ∃ p l c w', (Builtin.append_ #[t, t] t #[v, .slice (some ⟨k, 0, none⟩) 1 1]).run Try.prog w = .ok (.slice p l c) w' ∧ w'.ownsRow base e size (.slice p l c) (n + 1) (xs ++ news) ∧ w.grownBy w' v.ownBlock ∧ ((Value.slice p l c).ownBlock = v.ownBlock ∨ (Value.slice p l c).ownBlock = some w.heap.size) := by
  obtain ⟨i0, hi0, hz0, hz1, hz2⟩ := info_parts hinfo
  obtain ⟨v', w', a1, a2, a3, _, a5⟩ := run_append_own_at (P := Try.prog) w base t t e i0 z size bytes ht hi0 hz0 hz1 hz2 hzs hsz v n xs o ⟨k, 0, none⟩ 1 1 news (by omega) (World.news_of_block hk) h1 (by unfold maxLen; omega) (by have : (n + 1) * bytes ≤ 5000001 * 100 := Nat.mul_le_mul (by omega) hb; omega) hbase
  obtain ⟨p, l, c, rfl⟩ : ∃ p l c, v' = .slice p l c := by
    obtain ⟨_, ⟨k1, _⟩ | ⟨g2, c2, cur2, k1, _, k2, _⟩⟩ := a2
    · exact ⟨_, _, _, k1⟩
    · exact ⟨_, _, _, k1⟩
  exact ⟨p, l, c, w', a1, a2, a3, a5⟩
theorem row_form {w : World} {B e size n : Nat} {v : Value} {xs : List Value} (o : w.ownsRow B e size v n xs) : ∃ p c, v = .slice p n c ∧ n ≤ c ∧ c ≤ maxLen := by
  obtain ⟨_, ⟨k1, k2⟩ | ⟨g2, c2, cur2, k1, _, k2, k3, k4, _⟩⟩ := o
  · exact ⟨none, 0, by rw [k1, k2], by omega, by unfold maxLen; omega⟩
  · exact ⟨_, _, k1, k3, k4⟩
theorem GAt.form {w : World} {b : Nat} {s : GV} {G : Gr} (h : GAt w b s G) : ∃ pn cn pe ce pm cm pd cd t, s = ⟨.slice pn G.ns.length cn, .slice pe G.es.length ce, .slice pm G.ms.length cm, .slice pd G.dn.length cd, t⟩ ∧ G.ns.length ≤ cn ∧ cn ≤ maxLen ∧ G.es.length ≤ ce ∧ ce ≤ maxLen ∧ G.ms.length ≤ cm ∧ cm ≤ maxLen ∧ G.dn.length ≤ cd ∧ cd ≤ maxLen := by
  obtain ⟨vn, ve, vm, vd, t⟩ := s
  obtain ⟨pn, cn, h1, h2, h3⟩ := row_form h.nod
  obtain ⟨pe, ce, h4, h5, h6⟩ := row_form h.edg
  obtain ⟨pm, cm, h7, h8, h9⟩ := row_form h.mks
  obtain ⟨fs, o, _⟩ := h.don
  obtain ⟨pd, cd, h10, h11, h12⟩ := row_form o
  simp only at h1 h4 h7 h10
  subst h1 h4 h7 h10
  exact ⟨pn, cn, pe, ce, pm, cm, pd, cd, t, rfl, h2, h3, h5, h6, h8, h9, h11, h12⟩
theorem info81 : (Try.prog.info? 81).map (fun i => (i.zero, i.size, i.bytes)) = some (some (.agg #[.bool false, .slice none 0 0, .slice none 0 0, .int .i64 0, .int .i64 0, .slice none 0 0, .int .i64 0, .slice none 0 0]), 8, 128) := by kernel_rfl
theorem info76 : (Try.prog.info? 76).map (fun i => (i.zero, i.size, i.bytes)) = some (some (.agg #[.int .i64 0, .int .i64 0, .int .i64 0]), 3, 24) := by kernel_rfl
theorem info89 : (Try.prog.info? 89).map (fun i => (i.zero, i.size, i.bytes)) = some (some (.agg #[.int .i64 0, .int .i64 0]), 2, 16) := by kernel_rfl
theorem info93 : (Try.prog.info? 93).map (fun i => (i.zero, i.size, i.bytes)) = some (some .nilFunc, 1, 8) := by kernel_rfl

theorem none50 (b : Nat) (s : GV) (G : Gr) (w : World) (h : GAt w b s G) : Calls Try.prog 50 #[ptr b] w fun e w' => e = .returned (.bool false) ∧ w' = w := by
  obtain ⟨q0, _⟩ := h.cells
  clear h
  go_enter Try.func50, Try.ntmps50
  go_wp2
  go_ret
  exact ⟨rfl, rfl⟩
theorem none50nil (w : World) : Calls Try.prog 50 #[.pointer none] w fun e w' => e = .returned (.bool true) ∧ w' = w := by
  go_enter Try.func50, Try.ntmps50
  go_wp2
  go_ret
  exact ⟨rfl, rfl⟩
theorem nodesFull52 (b : Nat) (s : GV) (G : Gr) (w : World) (h : GAt w b s G) (hl : G.ns.length ≤ 1024) : Calls Try.prog 52 #[ptr b] w fun e w' => e = .returned (.bool (decide (1024 ≤ G.ns.length))) ∧ w' = w := by
  obtain ⟨_, q1, _⟩ := h.cells
  obtain ⟨pn, cn, pe, ce, pm, cm, pd, cd, _, rfl, _⟩ := h.form
  clear h
  go_enter Try.func52, Try.ntmps52
  go_wp2
  go_ret
  exact ⟨retB (by simp; omega), rfl⟩
theorem edgesFull53 (b : Nat) (s : GV) (G : Gr) (w : World) (h : GAt w b s G) (hl : G.es.length ≤ 3072) : Calls Try.prog 53 #[ptr b] w fun e w' => e = .returned (.bool (decide (3072 ≤ G.es.length))) ∧ w' = w := by
  obtain ⟨_, _, q1, _⟩ := h.cells
  obtain ⟨pn, cn, pe, ce, pm, cm, pd, cd, _, rfl, _⟩ := h.form
  clear h
  go_enter Try.func53, Try.ntmps53
  go_wp2
  go_ret
  exact ⟨retB (by simp; omega), rfl⟩
/-- A call that answers v and leaves the graph as G'. -/
def Turns (w : World) (b : Nat) (s : GV) (v : Value) (G' : Gr) (e : Ending) (w' : World) : Prop := e = .returned v ∧ ∃ s', GAt w' b s' G' ∧ GFr w w' b s s'
theorem UnAt.fn {w : World} {N : Nat → Prop} {f : Value} {u : Un} (h : UnAt w N f u) : ∃ k l, f = .func (.func k) #[] l := by
  cases u with
  | n => exact ⟨_, _, h⟩
  | e => exact ⟨_, _, h⟩
  | tn p id => obtain ⟨_, _, h, _⟩ := h; exact ⟨_, _, h⟩
  | te p x => obtain ⟨_, _, h, _⟩ := h; exact ⟨_, _, h⟩
  | se p s was => obtain ⟨_, _, _, h, _⟩ := h; exact ⟨_, _, h⟩
theorem UnAll.more {w : World} {N : Nat → Prop} {fs : List Value} {us : List Un} {f : Value} {u : Un} (h : UnAll w N fs us) (k : UnAt w N f u) : UnAll w N (fs ++ [f]) (us ++ [u]) := by
  refine ⟨by simp [h.1], fun j f' u' h1 h2 => ?_⟩
  by_cases hj : j < fs.length
  · rw [List.getElem?_append_left hj] at h1
    rw [List.getElem?_append_left (by rw [← h.1]; exact hj)] at h2
    exact h.2 j f' u' h1 h2
  · rw [List.getElem?_append_right (by omega)] at h1
    rw [List.getElem?_append_right (by rw [← h.1]; omega), ← h.1] at h2
    cases hd : j - fs.length with
    | zero =>
      rw [hd] at h1 h2
      simp at h1 h2
      rw [← h1, ← h2]
      exact k
    | succ m => rw [hd] at h1; simp at h1
set_option maxRecDepth 100000 in
set_option maxHeartbeats 4000000 in
theorem remember73 (b : Nat) (s : GV) (G : Gr) (f : Value) (u : Un) (w : World) (h : GAt w b s G) (hu : UnAt w (GN b s) f u) (hl : G.dn.length ≤ 5000000) (hm : G.ms.length ≤ 64) : Calls Try.prog 73 #[ptr b, f] w (Turns w b s (.tuple #[]) (G.rem u)) := by
  obtain ⟨fk, fl, rfl⟩ := hu.fn
  obtain ⟨_, _, _, _, _, q5, _, q7⟩ := h.cells
  have f7 := h.free 7
  have hb := h.lt
  obtain ⟨pn, cn, pe, ce, pm, cm, pd, cd, _, hs, _⟩ := h.form
  by_cases h0 : G.ms.length = 0
  · have hr : G.rem u = G := by unfold Gr.rem; rw [if_pos h0]
    rw [hr]
    have H := hide h
    rw [hs] at q5
    simp only [h0] at q5
    clear h hu q7 hs h0 hm hl hr
    go_enter Try.func73, Try.ntmps73
    go_wp2
    go_end0
    exact ⟨rfl, s, H.out, GFr.of_below (Below.refl _ _)⟩
  · obtain ⟨U, hU⟩ : ∃ U, U = w.alloc (.cells #[.func (.func fk) #[] fl] 93) := ⟨_, rfl⟩
    have hbU : Below w.heap.size w U := by rw [hU]; go_grown
    have hlit : U.heap[w.heap.size]? = some (.cells [Value.func (.func fk) #[] fl].toArray 93 (0, 0)) := by rw [hU]; exact heap_alloc_new _ _
    obtain ⟨fs, o, hua, _⟩ := h.don
    have oU : U.ownsRow 0 93 1 s.vd G.dn.length fs := (Frame.of_below hbU (fun _ => False)).row o (fun _ _ => id)
    obtain ⟨p1, l1, c1, D, e1, o1, gr, at1⟩ := append_row 79 93 .nilFunc 1 8 Try.underlying79 info93 rfl (by decide) oU w.heap.size [.func (.func fk) #[] fl] _ _ hlit rfl (by simp [Value.oneCell']) hl (by decide) (by omega)
    have hfr : Frame w D (fun i => s.vd.ownBlock = some i) := (Frame.of_below hbU _).trans (Frame.grown gr (fun i e => e))
    have hlie : ∀ i, (Value.slice p1 l1 c1).ownBlock = some i → s.vd.ownBlock = some i ∨ w.heap.size ≤ i := fun i hi => by
      rcases at1 with e | e
      · left; rw [← e]; exact hi
      · right
        rw [e] at hi
        injection hi with hi
        have := hbU.size
        omega
    have R := h.setDn (l := G.dn ++ [u]) hfr (by rw [List.length_append]; exact o1) hlie (hua.more hu)
    have hr : G.rem u = { G with dn := G.dn ++ [u] } := by unfold Gr.rem; rw [if_neg h0]
    have HR : Hid (GAt (D.setCell ⟨b, 7, none⟩ (.slice p1 l1 c1)) b { s with vd := .slice p1 l1 c1 } (G.rem u) ∧ GFr w (D.setCell ⟨b, 7, none⟩ (.slice p1 l1 c1)) b s { s with vd := .slice p1 l1 c1 }) := by show _ ∧ _; rw [hr]; exact R
    have hdn : (Value.slice pd G.dn.length cd).ownBlock ≠ some b := by
      have := box_ne h.box o (by decide)
      rw [hs] at this
      exact this
    have z7 : D.cell? ⟨b, 7, none⟩ = some s.vd := by
      have := hfr.cell q7 (by rw [hs]; exact hdn)
      exact this
    have zf : D.frozen? ⟨b, 7, none⟩ = false := by
      rw [World.frozen?_of_block (hfr.block b hb (by rw [hs]; exact hdn))]; exact f7
    have hm0 : (0 : Int) < G.ms.length := by omega
    have hbne : b ≠ w.heap.size := by omega
    rw [hU] at e1
    subst hs
    simp only at q5 q7 e1 z7
    clear h hu hua o oU o1 gr at1 hfr hlie R hr h0 hdn hU hlit hbU
    go_enter Try.func73, Try.ntmps73
    go_wp2_with (at_builtin; refine wpList_run_append rfl (.tmp 14) (.tmp 16) 79 rfl 79 rfl _ _ _ D rfl rfl e1 ?_)
    go_end0
    exact ⟨rfl, _, HR.out.1, HR.out.2⟩
end Go.Proofs.Ytgfiofogcnnkhaa
