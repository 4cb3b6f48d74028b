/- New, layNode, AddNode. -/
import Derived.Test.YtgfiofogcnnkhaaGC
namespace Go.Proofs.Ytgfiofogcnnkhaa
open Go.RowKit Go.Sort
open Go

def G0 : Gr := ⟨[], [], 1, 1, [], 0, []⟩
theorem new31 (w : World) : Calls Try.prog 31 #[] w fun e w' => ∃ b s, e = .returned (ptr b) ∧ GAt w' b s G0 ∧ Below w.heap.size w w' ∧ ∀ k, GB b s k → w.heap.size ≤ k := by
  go_enter Try.func31, Try.ntmps31
  go_wp2
  go_ret
  refine ⟨w.heap.size, ⟨.slice none 0 0, .slice none 0 0, .slice none 0 0, .slice none 0 0, fun _ => False⟩, rfl, ?_, by go_grown, ?_⟩
  · refine ⟨⟨rfl, Or.inr ⟨_, 1, _, rfl, by omega, heap_alloc_new _ _, by omega, by unfold maxLen; omega, rfl, rfl⟩⟩, World.ownsRow_nil _ _ _ _, World.ownsRow_nil _ _ _ _, World.ownsRow_nil _ _ _ _, [], World.ownsRow_nil _ _ _ _, ⟨rfl, ?_⟩, fun _ h => h.elim⟩
    intro j f u h _
    simp at h
  · rintro k (h | h | h | h | h)
    · omega
    all_goals simp [Value.ownBlock] at h
theorem icells_more (l : List Int) (x : Int) : icells (l ++ [x]) = icells l ++ [.int .i64 x] := by simp [icells]
set_option maxRecDepth 100000 in
set_option maxHeartbeats 4000000 in
theorem layNode34 (b : Nat) (s : GV) (G : Gr) (w : World) (h : GAt w b s G) (hl : G.dn.length ≤ 5000000) (hm : G.ms.length ≤ 64) (hn : G.ns.length ≤ 5000) (h0 : 0 ≤ G.nn) (h1 : G.nn ≤ 1000000000) : Calls Try.prog 34 #[ptr b] w (Turns w b s (.int .i64 G.nn) G.layN) := by
  obtain ⟨_, q1, _, q3, _⟩ := h.cells
  have f1 := h.free 1
  have f3 := h.free 3
  have hb := h.lt
  obtain ⟨pn, cn, pe, ce, pm, cm, pd, cd, _, hs, _⟩ := h.form
  obtain ⟨U, hU⟩ : ∃ U, U = w.alloc (.cells #[.int .i64 G.nn] 3) := ⟨_, rfl⟩
  have hbU : Below w.heap.size w U := by rw [hU]; go_grown
  have hlit : U.heap[w.heap.size]? = some (.cells [Value.int .i64 G.nn].toArray 3 (0, 0)) := by rw [hU]; exact heap_alloc_new _ _
  have oU : U.ownsRow 0 3 1 s.vn G.ns.length (icells G.ns) := (Frame.of_below hbU (fun _ => False)).row h.nod (fun _ _ => id)
  obtain ⟨p1, l1, c1, D, e1, o1, gr, at1⟩ := append_row 38 3 (.int .i64 0) 1 8 Try.underlying38 info3 rfl (by decide) oU w.heap.size [.int .i64 G.nn] _ _ hlit rfl (by simp [Value.oneCell']) (by omega) (by decide) (by omega)
  have hfr : Frame w D (fun i => s.vn.ownBlock = some i) := (Frame.of_below hbU _).trans (Frame.grown gr (fun i e => e))
  have hlie : ∀ i, (Value.slice p1 l1 c1).ownBlock = some i → s.vn.ownBlock = some i ∨ w.heap.size ≤ i := fun i hi => by
    rcases at1 with e | e
    · left; rw [← e]; exact hi
    · right
      rw [e] at hi
      injection hi with hi
      have := hbU.size
      omega
  obtain ⟨g1, r1⟩ := h.setN (l := G.ns ++ [G.nn]) hfr (by unfold IOwns; rw [List.length_append, icells_more]; exact o1) hlie
  obtain ⟨g2, r2⟩ := g1.setC 3 (.int .i64 (G.nn + 1)) { G with ns := G.ns ++ [G.nn], nn := G.nn + 1 } rfl rfl rfl rfl rfl
  obtain ⟨W, hW⟩ : ∃ W, W = (D.setCell ⟨b, 1, none⟩ (.slice p1 l1 c1)).setCell ⟨b, 3, none⟩ (.int .i64 (G.nn + 1)) := ⟨_, rfl⟩
  rw [← hW] at g2 r2
  have HR := hide (r1.trans r2)
  have RM := hide (remember73 b _ _ (.func (.func 74) #[] #[]) .n W g2 rfl hl hm)
  have hdn : s.vn.ownBlock ≠ some b := box_ne h.box h.nod (by decide)
  have z1 : D.cell? ⟨b, 1, none⟩ = some s.vn := hfr.cell q1 hdn
  have z3 : D.cell? ⟨b, 3, none⟩ = some (.int .i64 G.nn) := hfr.cell q3 hdn
  have zf : ∀ i, D.frozen? ⟨b, i, none⟩ = false := fun i => by
    rw [World.frozen?_of_block (hfr.block b hb hdn)]; exact h.free i
  have zf1 := zf 1
  have zf3 := zf 3
  have hbne : b ≠ w.heap.size := by omega
  rw [hU] at e1
  clear zf
  subst hs
  simp only at q1 e1 z1
  clear h oU o1 gr at1 hfr hlie hdn hU hlit hbU g1 g2 r1 r2
  go_enter Try.func34, Try.ntmps34
  go_wp2_with (at_builtin; refine wpList_run_append rfl (.tmp 12) (.tmp 14) 38 rfl 38 rfl _ _ _ D rfl rfl e1 ?_)
  rw [← hW]
  refine RM.out.mono ?_
  rintro e w' ⟨rfl, s', g', r'⟩
  have H1 := hide g'
  have H2 := hide (HR.out.trans r')
  clear g' r'
  go_wp2
  go_ret
  exact ⟨rfl, _, H1.out, H2.out⟩
def addN (G : Gr) : Gr := if 1024 ≤ G.ns.length then G else G.layN
def addNv (G : Gr) : Value := if 1024 ≤ G.ns.length then .tuple #[.int .i64 0, .int .i64 3] else .tuple #[.int .i64 G.nn, .int .i64 0]
set_option maxHeartbeats 4000000 in
theorem addNode23 (b : Nat) (s : GV) (G : Gr) (w : World) (h : GAt w b s G) (hl : G.dn.length ≤ 5000000) (hm : G.ms.length ≤ 64) (hn : G.ns.length ≤ 1024) (h0 : 0 ≤ G.nn) (h1 : G.nn ≤ 1000000000) : Calls Try.prog 23 #[ptr b] w (Turns w b s (addNv G) (addN G)) := by
  have A := none50 b s G w h
  have B := nodesFull52 b s G w h hn
  have C := hide (layNode34 b s G w h hl hm (by omega) h0 h1)
  have H := hide h
  clear h
  by_cases hf : 1024 ≤ G.ns.length
  · have e1 : addN G = G := if_pos hf
    have e2 : addNv G = .tuple #[.int .i64 0, .int .i64 3] := if_pos hf
    rw [e1, e2]
    rw [decide_eq_true hf] at B
    clear e1 e2
    go_enter Try.func23, Try.ntmps23
    go_wp2_with (first | (go_at_call 50; refine A.mono ?_; rintro e w' ⟨rfl, rfl⟩) | (go_at_call 52; refine B.mono ?_; rintro e w' ⟨rfl, rfl⟩))
    go_ret2
    exact ⟨rfl, s, H.out, GFr.of_below (Below.refl _ _)⟩
  · have e1 : addN G = G.layN := if_neg hf
    have e2 : addNv G = .tuple #[.int .i64 G.nn, .int .i64 0] := if_neg hf
    rw [e1, e2]
    rw [decide_eq_false hf] at B
    clear e1 e2
    go_enter Try.func23, Try.ntmps23
    go_wp2_with (first | (go_at_call 50; refine A.mono ?_; rintro e w' ⟨rfl, rfl⟩) | (go_at_call 52; refine B.mono ?_; rintro e w' ⟨rfl, rfl⟩) | (go_at_call 34; refine C.out.mono ?_; rintro e w' ⟨rfl, s', g', r'⟩; have H1 := hide g'; have H2 := hide r'; clear g' r'))
    go_ret2
    exact ⟨rfl, _, H1.out, H2.out⟩
end Go.Proofs.Ytgfiofogcnnkhaa
