/- What undoes a step: layNode$1, layEdge$1, setEnd$1, takeEdge$1, takeNode$1. -/
import Derived.Test.YtgfiofogcnnkhaaH1
namespace Go.Proofs.Ytgfiofogcnnkhaa
open Go.RowKit Go.Sort
open Go

def Gr.undo (G : Gr) : Un → Gr
  | .n => { G with ns := G.ns.take (G.ns.length - 1), nn := G.nn - 1 }
  | .e => { G with es := G.es.take (G.es.length - 1), ne := G.ne - 1 }
  | .tn p id => { G with ns := insI G.ns p id }
  | .te p x => { G with es := insE G.es p x }
  | .se p s was => { G with es := G.es.set p ((eat G.es p).put s was) }
def Gr.can (G : Gr) : Un → Prop
  | .n => 0 < G.ns.length
  | .e => 0 < G.es.length
  | .tn p _ => p ≤ G.ns.length
  | .te p _ => p ≤ G.es.length
  | .se p s _ => p < G.es.length ∧ s < 2
set_option maxRecDepth 100000 in
set_option maxHeartbeats 8000000 in
theorem undo74 (b : Nat) (s : GV) (G : Gr) (w : World) (h : GAt w b s G) (hn : 0 < G.ns.length) (hn2 : G.ns.length ≤ 5000) (h0 : 0 ≤ G.nn) (h1 : G.nn ≤ 1000000000) : Calls Try.prog 74 #[ptr b] w (Turns w b s (.tuple #[]) (G.undo .n)) := by
  obtain ⟨V0, hV0⟩ : ∃ V, V = w.drew := ⟨_, rfl⟩
  have hb0 : Below w.heap.size w V0 := by rw [hV0]; exact below_drew _
  have HB0 := hide hb0
  replace h := h.later hb0
  clear hb0
  obtain ⟨pn, cn, pe, ce, pm, cm, pd, cd, _, hs, k1, k2, k3, k4, _⟩ := h.form
  have oe := h.nod
  unfold IOwns at oe
  rw [hs] at oe
  obtain ⟨g, rfl, _, hg⟩ := own_some oe hn
  obtain ⟨cur, R, hcur, hnc, _, hxl⟩ := row_is oe
  obtain ⟨n, hnn⟩ : ∃ n, G.ns.length = n + 1 := ⟨G.ns.length - 1, by omega⟩
  have q1 : V0.cell? ⟨b, 1, none⟩ = some (.slice (some ⟨g, 0, none⟩) (n + 1) cn) := by have := h.cells.2.1; rw [hs, hnn] at this; exact this
  have f1 := h.free 1
  have q3 : V0.cell? ⟨b, 3, none⟩ = some (.int .i64 G.nn) := h.cells.2.2.2.1
  have f3 := h.free 3
  have o1 : V0.ownsRow 0 3 1 (.slice (some ⟨g, 0, none⟩) n cn) n (cur.take (n * 1)) := R.own (by omega) (Nat.zero_le _)
  have e1 : cur.take (n * 1) = icells (G.ns.take n) := by
    rw [← icells_take, ← hcur, List.take_take, Nat.min_eq_left (by rw [hnn]; exact Nat.mul_le_mul_right _ (by omega))]
  have e2 : (G.ns.take n).length = n := by rw [List.length_take, hnn]; omega
  rw [e1] at o1
  obtain ⟨g1, r1⟩ := h.setN (w' := V0) (l := G.ns.take n) (v := .slice (some ⟨g, 0, none⟩) n cn) (Frame.of_below (Below.refl _ _) _) (by unfold IOwns; rw [e2]; exact o1) (fun i hi => Or.inl (by rw [hs]; exact hi))
  obtain ⟨g2, r2⟩ := g1.setC 3 (.int .i64 (G.nn - 1)) (G.undo .n) (by simp [gcells, Gr.undo]) (by simp [Gr.undo, hnn]) (by simp [Gr.undo, hnn]) (by simp [Gr.undo]) (by simp [Gr.undo])
  obtain ⟨Y, hY⟩ : ∃ Y, Y = V0.setCell ⟨b, 1, none⟩ (.slice (some ⟨g, 0, none⟩) n cn) := ⟨_, rfl⟩
  have HG := hide g2
  have HR := hide ((GFr.of_below HB0.out).trans (r1.trans r2))
  have p3 : Y.cell? ⟨b, 3, none⟩ = some (.int .i64 G.nn) := by rw [hY]; exact cell_off q3 (by decide)
  have pf : Y.frozen? ⟨b, 3, none⟩ = false := by rw [hY, World.frozen?_setCell]; exact f3
  rw [← hY] at HG HR
  have i5 : (cn : Int) ≤ 9223372036854775807 := by unfold maxLen at k2; omega
  have i6 : (n : Int) ≤ cn := by omega
  have i7 : n ≤ cn := by omega
  have i8 : (n : Int) + 1 ≤ cn := by omega
  have i9 : n ≤ 5000 := by omega
  have hwn : IntKind.i64.wrap (n : Int) = n := by rw [IntKind.wrap_i64]; omega
  have i10 : (0 : Int) ≤ n := by omega
  clear h oe R hcur hxl o1 e1 e2 g1 g2 r1 r2 hs k1 k2 k3 k4 q3 f3 hnn hn hn2
  go_enter Try.func74, Try.ntmps74
  go_upto_region 0 with fail
  refine wp_region_held_drew (S := (fun _ => True)) (by kernel_rfl) trivial (fun hHeld => ?_)
  rw [← hV0]
  clear hV0 HB0
  refine wpAnyH_take (i := 0) (v := ?v1) rfl (by kernel_rfl) (by kernel_rfl) (by kernel_rfl) (fun _ _ _ h => h) (Or.inl ⟨by rfl, ?hy1⟩) (by assumption) ?rest1
  case hy1 => (intro w hSw; (try dsimp only at hSw); go_simp; try with_reducible rfl)
  try simp only [Act.put, List.setIfInBounds_toArray]
  refine wpAnyH_take (i := 1) (v := ?v2) rfl (by kernel_rfl) (by kernel_rfl) (by kernel_rfl) (fun _ _ _ h => h) (Or.inl ⟨by rfl, ?hy2⟩) (by assumption) ?rest2
  case hy2 => (intro w hSw; (try dsimp only at hSw); go_simp; try with_reducible rfl)
  try simp only [Act.put]
  refine wpAnyH_take (i := 2) (v := ?v3) rfl (by kernel_rfl) (by kernel_rfl) (by kernel_rfl) (fun _ _ _ h => h) (Or.inl ⟨by rfl, ?hy3⟩) (by assumption) ?rest3
  case hy3 => (intro w hSw; (try dsimp only at hSw); go_simp; try with_reducible rfl)
  try simp only [Act.put]
  refine wpAnyH_take (i := 3) (v := ?v4) rfl (by kernel_rfl) (by kernel_rfl) (by kernel_rfl) (fun _ _ _ h => h) (Or.inl ⟨by rfl, ?hy4⟩) (by assumption) ?rest4
  case hy4 => (intro w hSw; (try dsimp only at hSw); go_simp; try with_reducible rfl)
  try simp only [Act.put]
  refine wpAnyH_take (i := 5) (v := ?v5) rfl (by kernel_rfl) (by kernel_rfl) (by kernel_rfl) (fun _ _ _ h => h) (Or.inl ⟨by rfl, ?hy5⟩) (by assumption) ?rest5
  case hy5 => (intro w hSw; (try dsimp only at hSw); go_simp; try with_reducible rfl)
  try simp only [Act.put]
  refine wpAnyH_take (i := 6) (v := ?v6) rfl (by kernel_rfl) (by kernel_rfl) (by kernel_rfl) (fun _ _ _ h => h) (Or.inl ⟨by rfl, ?hy6⟩) (by assumption) ?rest6
  case hy6 => (intro w hSw; (try dsimp only at hSw); go_simp; try with_reducible rfl)
  try simp only [Act.put]
  refine wpAnyH_take (i := 7) (v := ?v7) rfl (by kernel_rfl) (by kernel_rfl) (by kernel_rfl) (fun _ _ _ h => h) (Or.inl ⟨by rfl, ?hy7⟩) (by assumption) ?rest7
  case hy7 => (intro w hSw; (try dsimp only at hSw); go_simp; try with_reducible rfl)
  try simp only [Act.put]
  refine wpAnyH_ready (rs := [4, 8]) (by kernel_rfl) (by simp) ?_
  refine AllReadyH.cons rfl (fun K hK => ?_) ?_
  · clear hHeld
    go_simp
    refine hK.out _ _ (trivial) (fun hHeld => ?_)
    clear hK K
    try simp only [Act.put, List.setIfInBounds_toArray, List.set_cons_zero, List.set_cons_succ]
    refine wpAnyH_ready (rs := [8]) (by kernel_rfl) (by simp) ?_
    refine AllReadyH.cons rfl (fun K hK => ?_) ?_
    · clear hHeld
      go_simp
      refine hK.out _ _ (trivial) (fun hHeld => ?_)
      clear hK K
      try simp only [Act.put, List.setIfInBounds_toArray, List.set_cons_zero, List.set_cons_succ]
      refine wpAnyH_take (i := 9) (v := ?v8) rfl (by kernel_rfl) (by kernel_rfl) (by kernel_rfl) (fun _ _ _ h => h) (Or.inl ⟨by rfl, ?hy8⟩) (by assumption) ?rest8
      case hy8 => (intro w hSw; (try dsimp only at hSw); go_simp; try with_reducible rfl)
      try simp only [Act.put, List.setIfInBounds_toArray]
      refine wpAnyH_take (i := 10) (v := ?v9) rfl (by kernel_rfl) (by kernel_rfl) (by kernel_rfl) (fun _ _ _ h => h) (Or.inl ⟨by rfl, ?hy9⟩) (by assumption) ?rest9
      case hy9 => (intro w hSw; (try dsimp only at hSw); go_simp; try with_reducible rfl)
      try simp only [Act.put]
      refine wpAnyH_take (i := 11) (v := ?v10) rfl (by kernel_rfl) (by kernel_rfl) (by kernel_rfl) (fun _ _ _ h => h) (Or.inl ⟨by rfl, ?hy10⟩) (by assumption) ?rest10
      case hy10 => (intro w hSw; (try dsimp only at hSw); go_simp; try with_reducible rfl)
      try simp only [Act.put]
      refine wpAnyH_take (i := 12) (v := ?v11) rfl (by kernel_rfl) (by kernel_rfl) (by kernel_rfl) (fun _ _ _ h => h) (Or.inl ⟨by rfl, ?hy11⟩) (by assumption) ?rest11
      case hy11 => (intro w hSw; (try dsimp only at hSw); go_simp; try with_reducible rfl)
      try simp only [Act.put]
      refine wpAnyH_take (i := 13) (v := ?v12) rfl (by kernel_rfl) (by kernel_rfl) (by kernel_rfl) (fun _ _ _ h => h) (Or.inl ⟨by rfl, ?hy12⟩) (by assumption) ?rest12
      case hy12 => (intro w hSw; (try dsimp only at hSw); go_simp; try with_reducible rfl)
      try simp only [Act.put]
      refine wpAnyH_ready (rs := [14]) (by kernel_rfl) (by simp) ?_
      refine AllReadyH.cons rfl (fun K hK => ?_) ?_
      · clear hHeld
        go_simp
        refine hK.out _ _ (trivial) (fun hHeld => ?_)
        clear hK K
        try simp only [Act.put, List.setIfInBounds_toArray, List.set_cons_zero, List.set_cons_succ]
        refine wpAnyH_done (by kernel_rfl) ?_ _
        clear hHeld
        rw [← hY]
        clear hY q1 f1
        go_wp2_with fail
        go_end0
        exact ⟨rfl, _, HG.out, HR.out⟩
      exact AllReadyH.nil
    exact AllReadyH.nil
  refine AllReadyH.cons rfl (fun K hK => ?_) ?_
  · clear hHeld
    go_simp
    refine hK.out _ _ (trivial) (fun hHeld => ?_)
    clear hK K
    try simp only [Act.put, List.setIfInBounds_toArray, List.set_cons_zero, List.set_cons_succ]
    refine wpAnyH_take (i := 9) (v := ?v13) rfl (by kernel_rfl) (by kernel_rfl) (by kernel_rfl) (fun _ _ _ h => h) (Or.inl ⟨by rfl, ?hy13⟩) (by assumption) ?rest13
    case hy13 => (intro w hSw; (try dsimp only at hSw); go_simp; try with_reducible rfl)
    try simp only [Act.put, List.setIfInBounds_toArray]
    refine wpAnyH_take (i := 10) (v := ?v14) rfl (by kernel_rfl) (by kernel_rfl) (by kernel_rfl) (fun _ _ _ h => h) (Or.inl ⟨by rfl, ?hy14⟩) (by assumption) ?rest14
    case hy14 => (intro w hSw; (try dsimp only at hSw); go_simp; try with_reducible rfl)
    try simp only [Act.put]
    refine wpAnyH_ready (rs := [4]) (by kernel_rfl) (by simp) ?_
    refine AllReadyH.cons rfl (fun K hK => ?_) ?_
    · clear hHeld
      go_simp
      refine hK.out _ _ (trivial) (fun hHeld => ?_)
      clear hK K
      try simp only [Act.put, List.setIfInBounds_toArray, List.set_cons_zero, List.set_cons_succ]
      refine wpAnyH_take (i := 11) (v := ?v15) rfl (by kernel_rfl) (by kernel_rfl) (by kernel_rfl) (fun _ _ _ h => h) (Or.inl ⟨by rfl, ?hy15⟩) (by assumption) ?rest15
      case hy15 => (intro w hSw; (try dsimp only at hSw); go_simp; try with_reducible rfl)
      try simp only [Act.put, List.setIfInBounds_toArray]
      refine wpAnyH_take (i := 12) (v := ?v16) rfl (by kernel_rfl) (by kernel_rfl) (by kernel_rfl) (fun _ _ _ h => h) (Or.inl ⟨by rfl, ?hy16⟩) (by assumption) ?rest16
      case hy16 => (intro w hSw; (try dsimp only at hSw); go_simp; try with_reducible rfl)
      try simp only [Act.put]
      refine wpAnyH_take (i := 13) (v := ?v17) rfl (by kernel_rfl) (by kernel_rfl) (by kernel_rfl) (fun _ _ _ h => h) (Or.inl ⟨by rfl, ?hy17⟩) (by assumption) ?rest17
      case hy17 => (intro w hSw; (try dsimp only at hSw); go_simp; try with_reducible rfl)
      try simp only [Act.put]
      refine wpAnyH_ready (rs := [14]) (by kernel_rfl) (by simp) ?_
      refine AllReadyH.cons rfl (fun K hK => ?_) ?_
      · clear hHeld
        go_simp
        refine hK.out _ _ (trivial) (fun hHeld => ?_)
        clear hK K
        try simp only [Act.put, List.setIfInBounds_toArray, List.set_cons_zero, List.set_cons_succ]
        refine wpAnyH_done (by kernel_rfl) ?_ _
        clear hHeld
        rw [← hY]
        clear hY q1 f1
        go_wp2_with fail
        go_end0
        exact ⟨rfl, _, HG.out, HR.out⟩
      exact AllReadyH.nil
    exact AllReadyH.nil
  exact AllReadyH.nil
set_option maxRecDepth 100000 in
set_option maxHeartbeats 8000000 in
theorem undo75 (b : Nat) (s : GV) (G : Gr) (w : World) (h : GAt w b s G) (hn : 0 < G.es.length) (hn2 : G.es.length ≤ 5000) (h0 : 0 ≤ G.ne) (h1 : G.ne ≤ 1000000000) : Calls Try.prog 75 #[ptr b] w (Turns w b s (.tuple #[]) (G.undo .e)) := by
  obtain ⟨V0, hV0⟩ : ∃ V, V = w.drew := ⟨_, rfl⟩
  have hb0 : Below w.heap.size w V0 := by rw [hV0]; exact below_drew _
  have HB0 := hide hb0
  replace h := h.later hb0
  clear hb0
  obtain ⟨pn, cn, pe, ce, pm, cm, pd, cd, _, hs, k1, k2, k3, k4, _⟩ := h.form
  have oe := h.edg
  rw [hs] at oe
  obtain ⟨g, rfl, _, hg⟩ := own_some oe hn
  obtain ⟨cur, R, hcur, hnc, _, hxl⟩ := row_is oe
  obtain ⟨n, hnn⟩ : ∃ n, G.es.length = n + 1 := ⟨G.es.length - 1, by omega⟩
  have q1 : V0.cell? ⟨b, 2, none⟩ = some (.slice (some ⟨g, 0, none⟩) (n + 1) ce) := by have := h.cells.2.2.1; rw [hs, hnn] at this; exact this
  have f1 := h.free 2
  have q3 : V0.cell? ⟨b, 4, none⟩ = some (.int .i64 G.ne) := h.cells.2.2.2.2.1
  have f3 := h.free 4
  have o1 : V0.ownsRow 0 76 3 (.slice (some ⟨g, 0, none⟩) n ce) n (cur.take (n * 3)) := R.own (by omega) (Nat.zero_le _)
  have e1 : cur.take (n * 3) = ecells (G.es.take n) := by
    rw [← ecells_take, ← hcur, List.take_take, Nat.min_eq_left (by rw [hnn]; exact Nat.mul_le_mul_right _ (by omega))]
  have e2 : (G.es.take n).length = n := by rw [List.length_take, hnn]; omega
  rw [e1] at o1
  obtain ⟨g1, r1⟩ := h.setEs (w' := V0) (l := G.es.take n) (v := .slice (some ⟨g, 0, none⟩) n ce) (Frame.of_below (Below.refl _ _) _) (by rw [e2]; exact o1) (fun i hi => Or.inl (by rw [hs]; exact hi))
  obtain ⟨g2, r2⟩ := g1.setC 4 (.int .i64 (G.ne - 1)) (G.undo .e) (by simp [gcells, Gr.undo]) (by simp [Gr.undo, hnn]) (by simp [Gr.undo, hnn]) (by simp [Gr.undo]) (by simp [Gr.undo])
  obtain ⟨Y, hY⟩ : ∃ Y, Y = V0.setCell ⟨b, 2, none⟩ (.slice (some ⟨g, 0, none⟩) n ce) := ⟨_, rfl⟩
  have HG := hide g2
  have HR := hide ((GFr.of_below HB0.out).trans (r1.trans r2))
  have p3 : Y.cell? ⟨b, 4, none⟩ = some (.int .i64 G.ne) := by rw [hY]; exact cell_off q3 (by decide)
  have pf : Y.frozen? ⟨b, 4, none⟩ = false := by rw [hY, World.frozen?_setCell]; exact f3
  rw [← hY] at HG HR
  have i5 : (ce : Int) ≤ 9223372036854775807 := by unfold maxLen at k4; omega
  have i6 : (n : Int) ≤ ce := by omega
  have i7 : n ≤ ce := by omega
  have i8 : (n : Int) + 1 ≤ ce := by omega
  have i9 : n ≤ 5000 := by omega
  have hwn : IntKind.i64.wrap (n : Int) = n := by rw [IntKind.wrap_i64]; omega
  have i10 : (0 : Int) ≤ n := by omega
  clear h oe R hcur hxl o1 e1 e2 g1 g2 r1 r2 hs k1 k2 k3 k4 q3 f3 hnn hn hn2
  go_enter Try.func75, Try.ntmps75
  go_upto_region 0 with fail
  refine wp_region_held_drew (S := (fun _ => True)) (by kernel_rfl) trivial (fun hHeld => ?_)
  rw [← hV0]
  clear hV0 HB0
  refine wpAnyH_take (i := 0) (v := ?v18) rfl (by kernel_rfl) (by kernel_rfl) (by kernel_rfl) (fun _ _ _ h => h) (Or.inl ⟨by rfl, ?hy18⟩) (by assumption) ?rest18
  case hy18 => (intro w hSw; (try dsimp only at hSw); go_simp; try with_reducible rfl)
  try simp only [Act.put, List.setIfInBounds_toArray]
  refine wpAnyH_take (i := 1) (v := ?v19) rfl (by kernel_rfl) (by kernel_rfl) (by kernel_rfl) (fun _ _ _ h => h) (Or.inl ⟨by rfl, ?hy19⟩) (by assumption) ?rest19
  case hy19 => (intro w hSw; (try dsimp only at hSw); go_simp; try with_reducible rfl)
  try simp only [Act.put]
  refine wpAnyH_take (i := 2) (v := ?v20) rfl (by kernel_rfl) (by kernel_rfl) (by kernel_rfl) (fun _ _ _ h => h) (Or.inl ⟨by rfl, ?hy20⟩) (by assumption) ?rest20
  case hy20 => (intro w hSw; (try dsimp only at hSw); go_simp; try with_reducible rfl)
  try simp only [Act.put]
  refine wpAnyH_take (i := 3) (v := ?v21) rfl (by kernel_rfl) (by kernel_rfl) (by kernel_rfl) (fun _ _ _ h => h) (Or.inl ⟨by rfl, ?hy21⟩) (by assumption) ?rest21
  case hy21 => (intro w hSw; (try dsimp only at hSw); go_simp; try with_reducible rfl)
  try simp only [Act.put]
  refine wpAnyH_take (i := 5) (v := ?v22) rfl (by kernel_rfl) (by kernel_rfl) (by kernel_rfl) (fun _ _ _ h => h) (Or.inl ⟨by rfl, ?hy22⟩) (by assumption) ?rest22
  case hy22 => (intro w hSw; (try dsimp only at hSw); go_simp; try with_reducible rfl)
  try simp only [Act.put]
  refine wpAnyH_take (i := 6) (v := ?v23) rfl (by kernel_rfl) (by kernel_rfl) (by kernel_rfl) (fun _ _ _ h => h) (Or.inl ⟨by rfl, ?hy23⟩) (by assumption) ?rest23
  case hy23 => (intro w hSw; (try dsimp only at hSw); go_simp; try with_reducible rfl)
  try simp only [Act.put]
  refine wpAnyH_take (i := 7) (v := ?v24) rfl (by kernel_rfl) (by kernel_rfl) (by kernel_rfl) (fun _ _ _ h => h) (Or.inl ⟨by rfl, ?hy24⟩) (by assumption) ?rest24
  case hy24 => (intro w hSw; (try dsimp only at hSw); go_simp; try with_reducible rfl)
  try simp only [Act.put]
  refine wpAnyH_ready (rs := [4, 8]) (by kernel_rfl) (by simp) ?_
  refine AllReadyH.cons rfl (fun K hK => ?_) ?_
  · clear hHeld
    go_simp
    refine hK.out _ _ (trivial) (fun hHeld => ?_)
    clear hK K
    try simp only [Act.put, List.setIfInBounds_toArray, List.set_cons_zero, List.set_cons_succ]
    refine wpAnyH_ready (rs := [8]) (by kernel_rfl) (by simp) ?_
    refine AllReadyH.cons rfl (fun K hK => ?_) ?_
    · clear hHeld
      go_simp
      refine hK.out _ _ (trivial) (fun hHeld => ?_)
      clear hK K
      try simp only [Act.put, List.setIfInBounds_toArray, List.set_cons_zero, List.set_cons_succ]
      refine wpAnyH_take (i := 9) (v := ?v25) rfl (by kernel_rfl) (by kernel_rfl) (by kernel_rfl) (fun _ _ _ h => h) (Or.inl ⟨by rfl, ?hy25⟩) (by assumption) ?rest25
      case hy25 => (intro w hSw; (try dsimp only at hSw); go_simp; try with_reducible rfl)
      try simp only [Act.put, List.setIfInBounds_toArray]
      refine wpAnyH_take (i := 10) (v := ?v26) rfl (by kernel_rfl) (by kernel_rfl) (by kernel_rfl) (fun _ _ _ h => h) (Or.inl ⟨by rfl, ?hy26⟩) (by assumption) ?rest26
      case hy26 => (intro w hSw; (try dsimp only at hSw); go_simp; try with_reducible rfl)
      try simp only [Act.put]
      refine wpAnyH_take (i := 11) (v := ?v27) rfl (by kernel_rfl) (by kernel_rfl) (by kernel_rfl) (fun _ _ _ h => h) (Or.inl ⟨by rfl, ?hy27⟩) (by assumption) ?rest27
      case hy27 => (intro w hSw; (try dsimp only at hSw); go_simp; try with_reducible rfl)
      try simp only [Act.put]
      refine wpAnyH_take (i := 12) (v := ?v28) rfl (by kernel_rfl) (by kernel_rfl) (by kernel_rfl) (fun _ _ _ h => h) (Or.inl ⟨by rfl, ?hy28⟩) (by assumption) ?rest28
      case hy28 => (intro w hSw; (try dsimp only at hSw); go_simp; try with_reducible rfl)
      try simp only [Act.put]
      refine wpAnyH_take (i := 13) (v := ?v29) rfl (by kernel_rfl) (by kernel_rfl) (by kernel_rfl) (fun _ _ _ h => h) (Or.inl ⟨by rfl, ?hy29⟩) (by assumption) ?rest29
      case hy29 => (intro w hSw; (try dsimp only at hSw); go_simp; try with_reducible rfl)
      try simp only [Act.put]
      refine wpAnyH_ready (rs := [14]) (by kernel_rfl) (by simp) ?_
      refine AllReadyH.cons rfl (fun K hK => ?_) ?_
      · clear hHeld
        go_simp
        refine hK.out _ _ (trivial) (fun hHeld => ?_)
        clear hK K
        try simp only [Act.put, List.setIfInBounds_toArray, List.set_cons_zero, List.set_cons_succ]
        refine wpAnyH_done (by kernel_rfl) ?_ _
        clear hHeld
        rw [← hY]
        clear hY q1 f1
        go_wp2_with fail
        go_end0
        exact ⟨rfl, _, HG.out, HR.out⟩
      exact AllReadyH.nil
    exact AllReadyH.nil
  refine AllReadyH.cons rfl (fun K hK => ?_) ?_
  · clear hHeld
    go_simp
    refine hK.out _ _ (trivial) (fun hHeld => ?_)
    clear hK K
    try simp only [Act.put, List.setIfInBounds_toArray, List.set_cons_zero, List.set_cons_succ]
    refine wpAnyH_take (i := 9) (v := ?v30) rfl (by kernel_rfl) (by kernel_rfl) (by kernel_rfl) (fun _ _ _ h => h) (Or.inl ⟨by rfl, ?hy30⟩) (by assumption) ?rest30
    case hy30 => (intro w hSw; (try dsimp only at hSw); go_simp; try with_reducible rfl)
    try simp only [Act.put, List.setIfInBounds_toArray]
    refine wpAnyH_take (i := 10) (v := ?v31) rfl (by kernel_rfl) (by kernel_rfl) (by kernel_rfl) (fun _ _ _ h => h) (Or.inl ⟨by rfl, ?hy31⟩) (by assumption) ?rest31
    case hy31 => (intro w hSw; (try dsimp only at hSw); go_simp; try with_reducible rfl)
    try simp only [Act.put]
    refine wpAnyH_ready (rs := [4]) (by kernel_rfl) (by simp) ?_
    refine AllReadyH.cons rfl (fun K hK => ?_) ?_
    · clear hHeld
      go_simp
      refine hK.out _ _ (trivial) (fun hHeld => ?_)
      clear hK K
      try simp only [Act.put, List.setIfInBounds_toArray, List.set_cons_zero, List.set_cons_succ]
      refine wpAnyH_take (i := 11) (v := ?v32) rfl (by kernel_rfl) (by kernel_rfl) (by kernel_rfl) (fun _ _ _ h => h) (Or.inl ⟨by rfl, ?hy32⟩) (by assumption) ?rest32
      case hy32 => (intro w hSw; (try dsimp only at hSw); go_simp; try with_reducible rfl)
      try simp only [Act.put, List.setIfInBounds_toArray]
      refine wpAnyH_take (i := 12) (v := ?v33) rfl (by kernel_rfl) (by kernel_rfl) (by kernel_rfl) (fun _ _ _ h => h) (Or.inl ⟨by rfl, ?hy33⟩) (by assumption) ?rest33
      case hy33 => (intro w hSw; (try dsimp only at hSw); go_simp; try with_reducible rfl)
      try simp only [Act.put]
      refine wpAnyH_take (i := 13) (v := ?v34) rfl (by kernel_rfl) (by kernel_rfl) (by kernel_rfl) (fun _ _ _ h => h) (Or.inl ⟨by rfl, ?hy34⟩) (by assumption) ?rest34
      case hy34 => (intro w hSw; (try dsimp only at hSw); go_simp; try with_reducible rfl)
      try simp only [Act.put]
      refine wpAnyH_ready (rs := [14]) (by kernel_rfl) (by simp) ?_
      refine AllReadyH.cons rfl (fun K hK => ?_) ?_
      · clear hHeld
        go_simp
        refine hK.out _ _ (trivial) (fun hHeld => ?_)
        clear hK K
        try simp only [Act.put, List.setIfInBounds_toArray, List.set_cons_zero, List.set_cons_succ]
        refine wpAnyH_done (by kernel_rfl) ?_ _
        clear hHeld
        rw [← hY]
        clear hY q1 f1
        go_wp2_with fail
        go_end0
        exact ⟨rfl, _, HG.out, HR.out⟩
      exact AllReadyH.nil
    exact AllReadyH.nil
  exact AllReadyH.nil
set_option maxRecDepth 100000 in
set_option maxHeartbeats 8000000 in
theorem undo84 (b : Nat) (s : GV) (G : Gr) (p e : Nat) (was : Int) (k1 k2 k3 : Nat) (w : World) (h : GAt w b s G) (hu1 : ¬ GB b s k1) (hu2 : ¬ GB b s k2) (hu3 : ¬ GB b s k3) (c1 : w.cell? ⟨k1, 0, none⟩ = some (.int .i64 was)) (c2 : w.cell? ⟨k2, 0, none⟩ = some (.int .i64 p)) (c3 : w.cell? ⟨k3, 0, none⟩ = some (.int .i64 e)) (hp : p < G.es.length) (he : e < 2) (hn2 : G.es.length ≤ 5000) : Calls Try.prog 84 #[ptr b, ptr k1, ptr k2, ptr k3] w (Turns w b s (.tuple #[]) (G.undo (.se p e was))) := by
  obtain ⟨pn, cn, pe, ce, pm, cm, pd, cd, _, hs, _⟩ := h.form
  have oe := h.edg
  rw [hs] at oe
  obtain ⟨g, rfl, _, hg⟩ := own_some oe (by omega)
  have hv : s.ve = .slice (some ⟨g, 0, none⟩) G.es.length ce := by rw [hs]
  have hgb : b ≠ g := fun e => h.ne.2.1 (by rw [hv, e]; rfl)
  have m1 : k1 ≠ g := fun e => hu1 (Or.inr (Or.inr (Or.inl (by rw [hv, e]; rfl))))
  have m2 : k2 ≠ g := fun e => hu2 (Or.inr (Or.inr (Or.inl (by rw [hv, e]; rfl))))
  have m3 : k3 ≠ g := fun e => hu3 (Or.inr (Or.inr (Or.inl (by rw [hv, e]; rfl))))
  obtain ⟨cur, hcw⟩ : ∃ y, w.cell? ⟨g, p * 3 + 1 + e, none⟩ = some (.int .i64 y) := by
    rcases own_ehas oe with h | ⟨g', h1, h2⟩
    · rw [h] at hp; simp at hp
    · cases h1
      obtain ⟨k0, k1, k2⟩ := h2 p hp
      by_cases he0 : e = 0
      · subst he0; exact ⟨_, k1⟩
      · have : e = 1 := by omega
        subst this; exact ⟨_, k2⟩
  have f4 : w.frozen? ⟨g, p * 3 + 1 + e, none⟩ = false := World.ownsRow.frozenAt oe _
  have q2 : w.cell? ⟨b, 2, none⟩ = some (.slice (some ⟨g, 0, none⟩) G.es.length ce) := by have := h.cells.2.2.1; rw [hs] at this; exact this
  obtain ⟨g1, r1⟩ := h.putE (g := g) (c := ce) hv p e was hp he
  have HG := hide g1
  have HR := hide r1
  have HS := hide (show w.cell? ⟨k1, 0, none⟩ = some (.int .i64 was) ∧ w.cell? ⟨k2, 0, none⟩ = some (.int .i64 p) ∧ w.cell? ⟨k3, 0, none⟩ = some (.int .i64 e) ∧ w.cell? ⟨b, 2, none⟩ = some (.slice (some ⟨g, 0, none⟩) G.es.length ce) from ⟨c1, c2, c3, q2⟩)
  have i0 : (0 : Int) ≤ p := by omega
  have i1 : (p : Int) < G.es.length := by omega
  have i2 : (0 : Int) ≤ e := by omega
  have i3 : (e : Int) < 2 := by omega
  clear h hs oe g1 r1 hu1 hu2 hu3 hv
  go_enter Try.func84, Try.ntmps84
  go_upto_region 0 with fail
  go_region_held3 (fun V => V.cell? ⟨k1, 0, none⟩ = some (.int .i64 was) ∧ V.cell? ⟨k2, 0, none⟩ = some (.int .i64 p) ∧ V.cell? ⟨k3, 0, none⟩ = some (.int .i64 e) ∧ V.cell? ⟨b, 2, none⟩ = some (.slice (some ⟨g, 0, none⟩) G.es.length ce)) (first | exact HS.out | exact ⟨cell_other HS.out.1 m1, cell_other HS.out.2.1 m2, cell_other HS.out.2.2.1 m3, cell_other HS.out.2.2.2 hgb⟩) (fail)
  rename_i hHeld
  clear hHeld
  obtain ⟨Y, hY⟩ : ∃ Y, Y = (w.setCell ⟨g, p * 3 + 1 + e, none⟩ (.int .i64 was)).drew := ⟨_, rfl⟩
  have hbY : Below (w.setCell ⟨g, p * 3 + 1 + e, none⟩ (.int .i64 was)).heap.size (w.setCell ⟨g, p * 3 + 1 + e, none⟩ (.int .i64 was)) Y := by rw [hY]; exact below_drew _
  have HG1 := hide (HG.out.later hbY)
  have HR1 := hide (HR.out.trans (GFr.of_below hbY))
  rw [← hY]
  clear hY hbY
  go_wp2_with fail
  go_end0
  exact ⟨rfl, _, HG1.out, HR1.out⟩
set_option maxRecDepth 100000 in
set_option maxHeartbeats 8000000 in
theorem undo92 (b : Nat) (s : GV) (G : Gr) (p : Nat) (x : Int) (k1 k2 : Nat) (w : World) (h : GAt w b s G) (hu1 : ¬ GB b s k1) (hu2 : ¬ GB b s k2) (cp : w.cell? ⟨k1, 0, none⟩ = some (.int .i64 p)) (cx : w.cell? ⟨k2, 0, none⟩ = some (.int .i64 x)) (hp : p ≤ G.ns.length) (hn2 : G.ns.length ≤ 5000) : Calls Try.prog 92 #[ptr b, ptr k1, ptr k2] w (Turns w b s (.tuple #[]) (G.undo (.tn p x))) := by
  obtain ⟨pn, cn, pe, ce, pm, cm, pd, cd, _, hs, _⟩ := h.form
  have HH := hide h
  have HSS := hide hs
  have m1 : k1 ≠ b := fun e => hu1 (Or.inl e)
  have m2 : k2 ≠ b := fun e => hu2 (Or.inl e)
  have HS : Hid (∀ V, Below w.heap.size w V → (V.cell? ⟨k1, 0, none⟩ = some (.int .i64 p) ∧ V.cell? ⟨k2, 0, none⟩ = some (.int .i64 x)) ∧ V.cell? ⟨b, 1, none⟩ = some (.slice pn G.ns.length cn)) := fun V hV => ⟨⟨later hV cp, later hV cx⟩, by have := (HH.out.later hV).cells.2.1; rw [HSS.out] at this; exact this⟩
  have CALL : Hid (∀ V vb, Below w.heap.size w V → V.heap[vb]? = some (.cells #[.int .i64 x] 3 (0, 0)) → w.heap.size ≤ vb → Calls Try.prog 93 #[.slice pn G.ns.length cn, .int .i64 p, .slice (some ⟨vb, 0, none⟩) 1 1] V fun e w' => ∃ p1 c1, e = .returned (.slice p1 (G.ns.length + 1) c1) ∧ (w'.cell? ⟨k1, 0, none⟩ = some (.int .i64 p) ∧ w'.cell? ⟨k2, 0, none⟩ = some (.int .i64 x)) ∧ w'.cell? ⟨b, 1, none⟩ = some (.slice pn G.ns.length cn) ∧ w'.frozen? ⟨b, 1, none⟩ = false ∧ GAt (w'.setCell ⟨b, 1, none⟩ (.slice p1 (G.ns.length + 1) c1)) b { s with vn := .slice p1 (G.ns.length + 1) c1 } (G.undo (.tn p x)) ∧ GFr w (w'.setCell ⟨b, 1, none⟩ (.slice p1 (G.ns.length + 1) c1)) b s { s with vn := .slice p1 (G.ns.length + 1) c1 }) := fun V vb hV hk hvb => by
    have hg' := HH.out.later hV
    have oe := hg'.nod
    have hv : s.vn = .slice pn G.ns.length cn := by rw [HSS.out]
    unfold IOwns at oe
    rw [hv] at oe
    refine (insert93 (.slice pn G.ns.length cn) G.ns p x 0 vb V oe hp (by omega) (Nat.zero_le _) hk (fun e => HH.out.fresh hvb (by rw [hs]; exact (Or.inr (Or.inl e))))).mono ?_
    rintro e w' ⟨p1, c1, rfl, o1, gr, at1⟩
    have hf : Frame V w' (fun i => s.vn.ownBlock = some i) := Frame.grown gr (fun i e => by rw [hv]; exact e)
    obtain ⟨g1, r1⟩ := hg'.setN (l := insI G.ns p x) hf o1 (fun i hi => by
      rcases at1 with e | e
      · left; rw [hv, ← e]; exact hi
      · right; rw [e] at hi; injection hi with hi; omega)
    obtain ⟨t0, t1⟩ := HS.out V hV
    have hne : ¬ s.vn.ownBlock = some b := hg'.ne.1
    have hne1 : ¬ s.vn.ownBlock = some k1 := fun e => hu1 (Or.inr (Or.inl e))
    have hne2 : ¬ s.vn.ownBlock = some k2 := fun e => hu2 (Or.inr (Or.inl e))
    exact ⟨p1, c1, rfl, ⟨hf.cell t0.1 hne1, hf.cell t0.2 hne2⟩, hf.cell t1 hne, by rw [World.frozen?_of_block (hf.block b hg'.lt hne)]; exact hg'.free 1, g1, (GFr.of_below hV).trans r1⟩
  have hpl : (0 : Int) ≤ p := by omega
  clear h hs hu1 hu2 cp cx
  go_enter Try.func92, Try.ntmps92
  go_upto_region 0 with fail
  obtain ⟨q0, q1⟩ := HS.out _ (Below.refl _ _)
  refine wp_region_held_drew (S := (fun V => V.cell? ⟨k1, 0, none⟩ = some (.int .i64 p) ∧ V.cell? ⟨k2, 0, none⟩ = some (.int .i64 x))) (by kernel_rfl) (by exact q0) (fun hHeld => ?_)
  obtain ⟨V0, hV0⟩ : ∃ V, V = w.drew := ⟨_, rfl⟩
  have HB0 : Hid (Below w.heap.size w V0) := by show Below _ _ _; rw [hV0]; exact below_drew _
  rw [← hV0] at hHeld ⊢
  clear hV0 q0 q1
  obtain ⟨q0, q1⟩ := HS.out _ HB0.out
  refine wpAnyH_take (i := 0) (v := ?v35) rfl (by kernel_rfl) (by kernel_rfl) (by kernel_rfl) (fun _ _ _ h => h) (Or.inl ⟨by rfl, ?hy35⟩) (by assumption) ?rest35
  case hy35 => (intro w hSw; (try dsimp only at hSw); go_simp; try with_reducible rfl)
  try simp only [Act.put, List.setIfInBounds_toArray]
  refine wpAnyH_take (i := 1) (v := ?v36) rfl (by kernel_rfl) (by kernel_rfl) (by kernel_rfl) (fun _ _ _ h => h) (Or.inl ⟨by rfl, ?hy36⟩) (by assumption) ?rest36
  case hy36 => (intro w hSw; (try dsimp only at hSw); go_simp; try with_reducible rfl)
  try simp only [Act.put]
  refine wpAnyH_take (i := 2) (v := ?v37) rfl (by kernel_rfl) (by kernel_rfl) (by kernel_rfl) (fun _ _ _ h => h) (Or.inl ⟨by rfl, ?hy37⟩) (by assumption) ?rest37
  case hy37 => (intro w hSw; (try dsimp only at hSw); go_simp; try with_reducible rfl)
  try simp only [Act.put]
  refine wpAnyH_take (i := 3) (v := ?v38) rfl (by kernel_rfl) (by kernel_rfl) (by kernel_rfl) (fun _ _ _ h => h) (Or.inl ⟨by rfl, ?hy38⟩) (by assumption) ?rest38
  case hy38 => (intro w hSw; (try dsimp only at hSw); go_simp; try with_reducible rfl)
  try simp only [Act.put]
  refine wpAnyH_take (i := 5) (v := ?v39) rfl (by kernel_rfl) (by kernel_rfl) (by kernel_rfl) (fun _ _ _ h => h) (Or.inl ⟨by rfl, ?hy39⟩) (by assumption) ?rest39
  case hy39 => (intro w hSw; (try dsimp only at hSw); go_simp; try with_reducible rfl)
  try simp only [Act.put]
  refine wpAnyH_take (i := 6) (v := ?v40) rfl (by kernel_rfl) (by kernel_rfl) (by kernel_rfl) (fun _ _ _ h => h) (Or.inl ⟨by rfl, ?hy40⟩) (by assumption) ?rest40
  case hy40 => (intro w hSw; (try dsimp only at hSw); go_simp; try with_reducible rfl)
  try simp only [Act.put]
  refine wpAnyH_ready (rs := [4, 7]) (by kernel_rfl) (by simp) ?_
  refine AllReadyH.cons rfl (fun K hK => ?_) ?_
  · clear hHeld
    go_simp
    refine hK.out _ _ (by first | with_reducible exact q0 | (dsimp only; with_reducible exact q0) | exact ⟨cell_other q0.1 m1, cell_other q0.2 m2⟩) (fun hHeld => ?_)
    clear hK K
    try simp only [Act.put, List.setIfInBounds_toArray, List.set_cons_zero, List.set_cons_succ]
    refine wpAnyH_ready (rs := [7]) (by kernel_rfl) (by simp) ?_
    refine AllReadyH.cons rfl (fun K hK => ?_) ?_
    · clear hHeld
      go_simp
      obtain ⟨V1, hV⟩ : ∃ V, V = V0.alloc (.cells #[.int .i64 x] 3) := ⟨_, rfl⟩
      obtain ⟨kb, hkb⟩ : ∃ k, V0.heap.size = k := ⟨_, rfl⟩
      have hb2 : Below V0.heap.size V0 V1 := by rw [hV]; go_grown
      have HL1 : Hid (V1.heap[kb]? = some (.cells #[.int .i64 x] 3 (0, 0)) ∧ w.heap.size ≤ kb) := ⟨by rw [hV, ← hkb]; exact heap_alloc_new V0 _, by rw [← hkb]; exact HB0.out.size⟩
      rw [← hV, hkb]
      have HB1 := hide (below_step HB0.out hb2)
      clear hV hb2 hkb q0 q1
      obtain ⟨q0, q1⟩ := HS.out _ HB1.out
      refine hK.out _ _ (by first | with_reducible exact q0 | (dsimp only; with_reducible exact q0) | exact ⟨cell_other q0.1 m1, cell_other q0.2 m2⟩) (fun hHeld => ?_)
      clear hK K
      try simp only [Act.put, List.setIfInBounds_toArray, List.set_cons_zero, List.set_cons_succ]
      refine wpAnyH_ready (rs := [8]) (by kernel_rfl) (by simp) ?_
      refine AllReadyH.cons rfl (fun K hK => ?_) ?_
      · clear hHeld
        go_simp
        refine (CALL.out V1 kb HB1.out HL1.out.1 HL1.out.2).mono ?_
        rintro e V2 ⟨p1, c1, rfl, s3, x3, y3, g3, r3⟩
        have HG := hide g3
        have HR := hide r3
        clear q0 q1 g3 r3
        have q0 := s3
        refine hK.out _ _ (by first | with_reducible exact q0 | (dsimp only; with_reducible exact q0) | exact ⟨cell_other q0.1 m1, cell_other q0.2 m2⟩) (fun hHeld => ?_)
        clear hK K
        try simp only [Act.put, List.setIfInBounds_toArray, List.set_cons_zero, List.set_cons_succ]
        refine wpAnyH_take (i := 9) (v := ?v41) rfl (by kernel_rfl) (by kernel_rfl) (by kernel_rfl) (fun _ _ _ h => h) (Or.inl ⟨by rfl, ?hy41⟩) (by assumption) ?rest41
        case hy41 => (intro w hSw; (try dsimp only at hSw); go_simp; try with_reducible rfl)
        try simp only [Act.put, List.setIfInBounds_toArray]
        refine wpAnyH_take (i := 10) (v := ?v42) rfl (by kernel_rfl) (by kernel_rfl) (by kernel_rfl) (fun _ _ _ h => h) (Or.inl ⟨by rfl, ?hy42⟩) (by assumption) ?rest42
        case hy42 => (intro w hSw; (try dsimp only at hSw); go_simp; try with_reducible rfl)
        try simp only [Act.put]
        refine wpAnyH_ready (rs := [11]) (by kernel_rfl) (by simp) ?_
        refine AllReadyH.cons rfl (fun K hK => ?_) ?_
        · clear hHeld
          go_simp
          clear x3 y3
          refine hK.out _ _ (by first | with_reducible exact q0 | (dsimp only; with_reducible exact q0) | exact ⟨cell_other q0.1 m1, cell_other q0.2 m2⟩) (fun hHeld => ?_)
          clear hK K
          try simp only [Act.put, List.setIfInBounds_toArray, List.set_cons_zero, List.set_cons_succ]
          refine wpAnyH_done (by kernel_rfl) ?_ _
          clear hHeld
          go_wp2_with fail
          go_end0
          exact ⟨rfl, _, HG.out, HR.out⟩
        exact AllReadyH.nil
      exact AllReadyH.nil
    exact AllReadyH.nil
  refine AllReadyH.cons rfl (fun K hK => ?_) ?_
  · clear hHeld
    go_simp
    obtain ⟨V1, hV⟩ : ∃ V, V = V0.alloc (.cells #[.int .i64 x] 3) := ⟨_, rfl⟩
    obtain ⟨kb, hkb⟩ : ∃ k, V0.heap.size = k := ⟨_, rfl⟩
    have hb2 : Below V0.heap.size V0 V1 := by rw [hV]; go_grown
    have HL1 : Hid (V1.heap[kb]? = some (.cells #[.int .i64 x] 3 (0, 0)) ∧ w.heap.size ≤ kb) := ⟨by rw [hV, ← hkb]; exact heap_alloc_new V0 _, by rw [← hkb]; exact HB0.out.size⟩
    rw [← hV, hkb]
    have HB1 := hide (below_step HB0.out hb2)
    clear hV hb2 hkb q0 q1
    obtain ⟨q0, q1⟩ := HS.out _ HB1.out
    refine hK.out _ _ (by first | with_reducible exact q0 | (dsimp only; with_reducible exact q0) | exact ⟨cell_other q0.1 m1, cell_other q0.2 m2⟩) (fun hHeld => ?_)
    clear hK K
    try simp only [Act.put, List.setIfInBounds_toArray, List.set_cons_zero, List.set_cons_succ]
    refine wpAnyH_ready (rs := [4]) (by kernel_rfl) (by simp) ?_
    refine AllReadyH.cons rfl (fun K hK => ?_) ?_
    · clear hHeld
      go_simp
      refine hK.out _ _ (by first | with_reducible exact q0 | (dsimp only; with_reducible exact q0) | exact ⟨cell_other q0.1 m1, cell_other q0.2 m2⟩) (fun hHeld => ?_)
      clear hK K
      try simp only [Act.put, List.setIfInBounds_toArray, List.set_cons_zero, List.set_cons_succ]
      refine wpAnyH_ready (rs := [8]) (by kernel_rfl) (by simp) ?_
      refine AllReadyH.cons rfl (fun K hK => ?_) ?_
      · clear hHeld
        go_simp
        refine (CALL.out V1 kb HB1.out HL1.out.1 HL1.out.2).mono ?_
        rintro e V2 ⟨p1, c1, rfl, s3, x3, y3, g3, r3⟩
        have HG := hide g3
        have HR := hide r3
        clear q0 q1 g3 r3
        have q0 := s3
        refine hK.out _ _ (by first | with_reducible exact q0 | (dsimp only; with_reducible exact q0) | exact ⟨cell_other q0.1 m1, cell_other q0.2 m2⟩) (fun hHeld => ?_)
        clear hK K
        try simp only [Act.put, List.setIfInBounds_toArray, List.set_cons_zero, List.set_cons_succ]
        refine wpAnyH_take (i := 9) (v := ?v43) rfl (by kernel_rfl) (by kernel_rfl) (by kernel_rfl) (fun _ _ _ h => h) (Or.inl ⟨by rfl, ?hy43⟩) (by assumption) ?rest43
        case hy43 => (intro w hSw; (try dsimp only at hSw); go_simp; try with_reducible rfl)
        try simp only [Act.put, List.setIfInBounds_toArray]
        refine wpAnyH_take (i := 10) (v := ?v44) rfl (by kernel_rfl) (by kernel_rfl) (by kernel_rfl) (fun _ _ _ h => h) (Or.inl ⟨by rfl, ?hy44⟩) (by assumption) ?rest44
        case hy44 => (intro w hSw; (try dsimp only at hSw); go_simp; try with_reducible rfl)
        try simp only [Act.put]
        refine wpAnyH_ready (rs := [11]) (by kernel_rfl) (by simp) ?_
        refine AllReadyH.cons rfl (fun K hK => ?_) ?_
        · clear hHeld
          go_simp
          clear x3 y3
          refine hK.out _ _ (by first | with_reducible exact q0 | (dsimp only; with_reducible exact q0) | exact ⟨cell_other q0.1 m1, cell_other q0.2 m2⟩) (fun hHeld => ?_)
          clear hK K
          try simp only [Act.put, List.setIfInBounds_toArray, List.set_cons_zero, List.set_cons_succ]
          refine wpAnyH_done (by kernel_rfl) ?_ _
          clear hHeld
          go_wp2_with fail
          go_end0
          exact ⟨rfl, _, HG.out, HR.out⟩
        exact AllReadyH.nil
      exact AllReadyH.nil
    exact AllReadyH.nil
  exact AllReadyH.nil
set_option maxRecDepth 100000 in
set_option maxHeartbeats 8000000 in
theorem undo89 (b : Nat) (s : GV) (G : Gr) (p : Nat) (x : Ed) (k1 k2 : Nat) (w : World) (h : GAt w b s G) (hu1 : ¬ GB b s k1) (hu2 : ¬ GB b s k2) (cp : w.cell? ⟨k1, 0, none⟩ = some (.int .i64 p)) (cx : w.cell? ⟨k2, 0, none⟩ = some (.int .i64 x.id)) (cx1 : w.cell? ⟨k2, 1, none⟩ = some (.int .i64 x.a)) (cx2 : w.cell? ⟨k2, 2, none⟩ = some (.int .i64 x.b)) (hp : p ≤ G.es.length) (hn2 : G.es.length ≤ 5000) : Calls Try.prog 89 #[ptr b, ptr k1, ptr k2] w (Turns w b s (.tuple #[]) (G.undo (.te p x))) := by
  obtain ⟨pn, cn, pe, ce, pm, cm, pd, cd, _, hs, _⟩ := h.form
  have HH := hide h
  have HSS := hide hs
  have m1 : k1 ≠ b := fun e => hu1 (Or.inl e)
  have m2 : k2 ≠ b := fun e => hu2 (Or.inl e)
  have HS : Hid (∀ V, Below w.heap.size w V → (V.cell? ⟨k1, 0, none⟩ = some (.int .i64 p) ∧ V.cell? ⟨k2, 0, none⟩ = some (.int .i64 x.id) ∧ V.cell? ⟨k2, 1, none⟩ = some (.int .i64 x.a) ∧ V.cell? ⟨k2, 2, none⟩ = some (.int .i64 x.b)) ∧ V.cell? ⟨b, 2, none⟩ = some (.slice pe G.es.length ce)) := fun V hV => ⟨⟨later hV cp, later hV cx, later hV cx1, later hV cx2⟩, by have := (HH.out.later hV).cells.2.2.1; rw [HSS.out] at this; exact this⟩
  have CALL : Hid (∀ V vb, Below w.heap.size w V → V.heap[vb]? = some (.cells #[.int .i64 x.id, .int .i64 x.a, .int .i64 x.b] 76 (0, 0)) → w.heap.size ≤ vb → Calls Try.prog 90 #[.slice pe G.es.length ce, .int .i64 p, .slice (some ⟨vb, 0, none⟩) 1 1] V fun e w' => ∃ p1 c1, e = .returned (.slice p1 (G.es.length + 1) c1) ∧ (w'.cell? ⟨k1, 0, none⟩ = some (.int .i64 p) ∧ w'.cell? ⟨k2, 0, none⟩ = some (.int .i64 x.id) ∧ w'.cell? ⟨k2, 1, none⟩ = some (.int .i64 x.a) ∧ w'.cell? ⟨k2, 2, none⟩ = some (.int .i64 x.b)) ∧ w'.cell? ⟨b, 2, none⟩ = some (.slice pe G.es.length ce) ∧ w'.frozen? ⟨b, 2, none⟩ = false ∧ GAt (w'.setCell ⟨b, 2, none⟩ (.slice p1 (G.es.length + 1) c1)) b { s with ve := .slice p1 (G.es.length + 1) c1 } (G.undo (.te p x)) ∧ GFr w (w'.setCell ⟨b, 2, none⟩ (.slice p1 (G.es.length + 1) c1)) b s { s with ve := .slice p1 (G.es.length + 1) c1 }) := fun V vb hV hk hvb => by
    have hg' := HH.out.later hV
    have oe := hg'.edg
    have hv : s.ve = .slice pe G.es.length ce := by rw [HSS.out]
    rw [hv] at oe
    refine (insert90 (.slice pe G.es.length ce) G.es p x 0 vb V oe hp (by omega) (Nat.zero_le _) hk (fun e => HH.out.fresh hvb (by rw [hs]; exact (Or.inr (Or.inr (Or.inl e)))))).mono ?_
    rintro e w' ⟨p1, c1, rfl, o1, gr, at1⟩
    have hf : Frame V w' (fun i => s.ve.ownBlock = some i) := Frame.grown gr (fun i e => by rw [hv]; exact e)
    obtain ⟨g1, r1⟩ := hg'.setEs (l := insE G.es p x) hf o1 (fun i hi => by
      rcases at1 with e | e
      · left; rw [hv, ← e]; exact hi
      · right; rw [e] at hi; injection hi with hi; omega)
    obtain ⟨t0, t1⟩ := HS.out V hV
    have hne : ¬ s.ve.ownBlock = some b := hg'.ne.2.1
    have hne1 : ¬ s.ve.ownBlock = some k1 := fun e => hu1 (Or.inr (Or.inr (Or.inl e)))
    have hne2 : ¬ s.ve.ownBlock = some k2 := fun e => hu2 (Or.inr (Or.inr (Or.inl e)))
    exact ⟨p1, c1, rfl, ⟨hf.cell t0.1 hne1, hf.cell t0.2.1 hne2, hf.cell t0.2.2.1 hne2, hf.cell t0.2.2.2 hne2⟩, hf.cell t1 hne, by rw [World.frozen?_of_block (hf.block b hg'.lt hne)]; exact hg'.free 2, g1, (GFr.of_below hV).trans r1⟩
  have hpl : (0 : Int) ≤ p := by omega
  clear h hs hu1 hu2 cp cx cx1 cx2
  go_enter Try.func89, Try.ntmps89
  go_upto_region 0 with fail
  obtain ⟨q0, q1⟩ := HS.out _ (Below.refl _ _)
  refine wp_region_held_drew (S := (fun V => V.cell? ⟨k1, 0, none⟩ = some (.int .i64 p) ∧ V.cell? ⟨k2, 0, none⟩ = some (.int .i64 x.id) ∧ V.cell? ⟨k2, 1, none⟩ = some (.int .i64 x.a) ∧ V.cell? ⟨k2, 2, none⟩ = some (.int .i64 x.b))) (by kernel_rfl) (by exact q0) (fun hHeld => ?_)
  obtain ⟨V0, hV0⟩ : ∃ V, V = w.drew := ⟨_, rfl⟩
  have HB0 : Hid (Below w.heap.size w V0) := by show Below _ _ _; rw [hV0]; exact below_drew _
  rw [← hV0] at hHeld ⊢
  clear hV0 q0 q1
  obtain ⟨q0, q1⟩ := HS.out _ HB0.out
  refine wpAnyH_take (i := 0) (v := ?v45) rfl (by kernel_rfl) (by kernel_rfl) (by kernel_rfl) (fun _ _ _ h => h) (Or.inl ⟨by rfl, ?hy45⟩) (by assumption) ?rest45
  case hy45 => (intro w hSw; (try dsimp only at hSw); go_simp; try with_reducible rfl)
  try simp only [Act.put, List.setIfInBounds_toArray]
  refine wpAnyH_take (i := 1) (v := ?v46) rfl (by kernel_rfl) (by kernel_rfl) (by kernel_rfl) (fun _ _ _ h => h) (Or.inl ⟨by rfl, ?hy46⟩) (by assumption) ?rest46
  case hy46 => (intro w hSw; (try dsimp only at hSw); go_simp; try with_reducible rfl)
  try simp only [Act.put]
  refine wpAnyH_take (i := 2) (v := ?v47) rfl (by kernel_rfl) (by kernel_rfl) (by kernel_rfl) (fun _ _ _ h => h) (Or.inl ⟨by rfl, ?hy47⟩) (by assumption) ?rest47
  case hy47 => (intro w hSw; (try dsimp only at hSw); go_simp; try with_reducible rfl)
  try simp only [Act.put]
  refine wpAnyH_take (i := 3) (v := ?v48) rfl (by kernel_rfl) (by kernel_rfl) (by kernel_rfl) (fun _ _ _ h => h) (Or.inl ⟨by rfl, ?hy48⟩) (by assumption) ?rest48
  case hy48 => (intro w hSw; (try dsimp only at hSw); go_simp; try with_reducible rfl)
  try simp only [Act.put]
  refine wpAnyH_take (i := 5) (v := ?v49) rfl (by kernel_rfl) (by kernel_rfl) (by kernel_rfl) (fun _ _ _ h => h) (Or.inl ⟨by rfl, ?hy49⟩) (by assumption) ?rest49
  case hy49 => (intro w hSw; (try dsimp only at hSw); go_simp; try with_reducible rfl)
  try simp only [Act.put]
  refine wpAnyH_take (i := 6) (v := ?v50) rfl (by kernel_rfl) (by kernel_rfl) (by kernel_rfl) (fun _ _ _ h => h) (Or.inl ⟨by rfl, ?hy50⟩) (by assumption) ?rest50
  case hy50 => (intro w hSw; (try dsimp only at hSw); go_simp; try with_reducible rfl)
  try simp only [Act.put]
  refine wpAnyH_ready (rs := [4, 7]) (by kernel_rfl) (by simp) ?_
  refine AllReadyH.cons rfl (fun K hK => ?_) ?_
  · clear hHeld
    go_simp
    refine hK.out _ _ (by first | with_reducible exact q0 | (dsimp only; with_reducible exact q0) | exact ⟨cell_other q0.1 m1, cell_other q0.2.1 m2, cell_other q0.2.2.1 m2, cell_other q0.2.2.2 m2⟩) (fun hHeld => ?_)
    clear hK K
    try simp only [Act.put, List.setIfInBounds_toArray, List.set_cons_zero, List.set_cons_succ]
    refine wpAnyH_ready (rs := [7]) (by kernel_rfl) (by simp) ?_
    refine AllReadyH.cons rfl (fun K hK => ?_) ?_
    · clear hHeld
      go_simp
      obtain ⟨V1, hV⟩ : ∃ V, V = V0.alloc (.cells #[.int .i64 x.id, .int .i64 x.a, .int .i64 x.b] 76) := ⟨_, rfl⟩
      obtain ⟨kb, hkb⟩ : ∃ k, V0.heap.size = k := ⟨_, rfl⟩
      have hb2 : Below V0.heap.size V0 V1 := by rw [hV]; go_grown
      have HL1 : Hid (V1.heap[kb]? = some (.cells #[.int .i64 x.id, .int .i64 x.a, .int .i64 x.b] 76 (0, 0)) ∧ w.heap.size ≤ kb) := ⟨by rw [hV, ← hkb]; exact heap_alloc_new V0 _, by rw [← hkb]; exact HB0.out.size⟩
      rw [← hV, hkb]
      have HB1 := hide (below_step HB0.out hb2)
      clear hV hb2 hkb q0 q1
      obtain ⟨q0, q1⟩ := HS.out _ HB1.out
      refine hK.out _ _ (by first | with_reducible exact q0 | (dsimp only; with_reducible exact q0) | exact ⟨cell_other q0.1 m1, cell_other q0.2.1 m2, cell_other q0.2.2.1 m2, cell_other q0.2.2.2 m2⟩) (fun hHeld => ?_)
      clear hK K
      try simp only [Act.put, List.setIfInBounds_toArray, List.set_cons_zero, List.set_cons_succ]
      refine wpAnyH_ready (rs := [8]) (by kernel_rfl) (by simp) ?_
      refine AllReadyH.cons rfl (fun K hK => ?_) ?_
      · clear hHeld
        go_simp
        refine (CALL.out V1 kb HB1.out HL1.out.1 HL1.out.2).mono ?_
        rintro e V2 ⟨p1, c1, rfl, s3, x3, y3, g3, r3⟩
        have HG := hide g3
        have HR := hide r3
        clear q0 q1 g3 r3
        have q0 := s3
        refine hK.out _ _ (by first | with_reducible exact q0 | (dsimp only; with_reducible exact q0) | exact ⟨cell_other q0.1 m1, cell_other q0.2.1 m2, cell_other q0.2.2.1 m2, cell_other q0.2.2.2 m2⟩) (fun hHeld => ?_)
        clear hK K
        try simp only [Act.put, List.setIfInBounds_toArray, List.set_cons_zero, List.set_cons_succ]
        refine wpAnyH_take (i := 9) (v := ?v51) rfl (by kernel_rfl) (by kernel_rfl) (by kernel_rfl) (fun _ _ _ h => h) (Or.inl ⟨by rfl, ?hy51⟩) (by assumption) ?rest51
        case hy51 => (intro w hSw; (try dsimp only at hSw); go_simp; try with_reducible rfl)
        try simp only [Act.put, List.setIfInBounds_toArray]
        refine wpAnyH_take (i := 10) (v := ?v52) rfl (by kernel_rfl) (by kernel_rfl) (by kernel_rfl) (fun _ _ _ h => h) (Or.inl ⟨by rfl, ?hy52⟩) (by assumption) ?rest52
        case hy52 => (intro w hSw; (try dsimp only at hSw); go_simp; try with_reducible rfl)
        try simp only [Act.put]
        refine wpAnyH_ready (rs := [11]) (by kernel_rfl) (by simp) ?_
        refine AllReadyH.cons rfl (fun K hK => ?_) ?_
        · clear hHeld
          go_simp
          clear x3 y3
          refine hK.out _ _ (by first | with_reducible exact q0 | (dsimp only; with_reducible exact q0) | exact ⟨cell_other q0.1 m1, cell_other q0.2.1 m2, cell_other q0.2.2.1 m2, cell_other q0.2.2.2 m2⟩) (fun hHeld => ?_)
          clear hK K
          try simp only [Act.put, List.setIfInBounds_toArray, List.set_cons_zero, List.set_cons_succ]
          refine wpAnyH_done (by kernel_rfl) ?_ _
          clear hHeld
          go_wp2_with fail
          go_end0
          exact ⟨rfl, _, HG.out, HR.out⟩
        exact AllReadyH.nil
      exact AllReadyH.nil
    exact AllReadyH.nil
  refine AllReadyH.cons rfl (fun K hK => ?_) ?_
  · clear hHeld
    go_simp
    obtain ⟨V1, hV⟩ : ∃ V, V = V0.alloc (.cells #[.int .i64 x.id, .int .i64 x.a, .int .i64 x.b] 76) := ⟨_, rfl⟩
    obtain ⟨kb, hkb⟩ : ∃ k, V0.heap.size = k := ⟨_, rfl⟩
    have hb2 : Below V0.heap.size V0 V1 := by rw [hV]; go_grown
    have HL1 : Hid (V1.heap[kb]? = some (.cells #[.int .i64 x.id, .int .i64 x.a, .int .i64 x.b] 76 (0, 0)) ∧ w.heap.size ≤ kb) := ⟨by rw [hV, ← hkb]; exact heap_alloc_new V0 _, by rw [← hkb]; exact HB0.out.size⟩
    rw [← hV, hkb]
    have HB1 := hide (below_step HB0.out hb2)
    clear hV hb2 hkb q0 q1
    obtain ⟨q0, q1⟩ := HS.out _ HB1.out
    refine hK.out _ _ (by first | with_reducible exact q0 | (dsimp only; with_reducible exact q0) | exact ⟨cell_other q0.1 m1, cell_other q0.2.1 m2, cell_other q0.2.2.1 m2, cell_other q0.2.2.2 m2⟩) (fun hHeld => ?_)
    clear hK K
    try simp only [Act.put, List.setIfInBounds_toArray, List.set_cons_zero, List.set_cons_succ]
    refine wpAnyH_ready (rs := [4]) (by kernel_rfl) (by simp) ?_
    refine AllReadyH.cons rfl (fun K hK => ?_) ?_
    · clear hHeld
      go_simp
      refine hK.out _ _ (by first | with_reducible exact q0 | (dsimp only; with_reducible exact q0) | exact ⟨cell_other q0.1 m1, cell_other q0.2.1 m2, cell_other q0.2.2.1 m2, cell_other q0.2.2.2 m2⟩) (fun hHeld => ?_)
      clear hK K
      try simp only [Act.put, List.setIfInBounds_toArray, List.set_cons_zero, List.set_cons_succ]
      refine wpAnyH_ready (rs := [8]) (by kernel_rfl) (by simp) ?_
      refine AllReadyH.cons rfl (fun K hK => ?_) ?_
      · clear hHeld
        go_simp
        refine (CALL.out V1 kb HB1.out HL1.out.1 HL1.out.2).mono ?_
        rintro e V2 ⟨p1, c1, rfl, s3, x3, y3, g3, r3⟩
        have HG := hide g3
        have HR := hide r3
        clear q0 q1 g3 r3
        have q0 := s3
        refine hK.out _ _ (by first | with_reducible exact q0 | (dsimp only; with_reducible exact q0) | exact ⟨cell_other q0.1 m1, cell_other q0.2.1 m2, cell_other q0.2.2.1 m2, cell_other q0.2.2.2 m2⟩) (fun hHeld => ?_)
        clear hK K
        try simp only [Act.put, List.setIfInBounds_toArray, List.set_cons_zero, List.set_cons_succ]
        refine wpAnyH_take (i := 9) (v := ?v53) rfl (by kernel_rfl) (by kernel_rfl) (by kernel_rfl) (fun _ _ _ h => h) (Or.inl ⟨by rfl, ?hy53⟩) (by assumption) ?rest53
        case hy53 => (intro w hSw; (try dsimp only at hSw); go_simp; try with_reducible rfl)
        try simp only [Act.put, List.setIfInBounds_toArray]
        refine wpAnyH_take (i := 10) (v := ?v54) rfl (by kernel_rfl) (by kernel_rfl) (by kernel_rfl) (fun _ _ _ h => h) (Or.inl ⟨by rfl, ?hy54⟩) (by assumption) ?rest54
        case hy54 => (intro w hSw; (try dsimp only at hSw); go_simp; try with_reducible rfl)
        try simp only [Act.put]
        refine wpAnyH_ready (rs := [11]) (by kernel_rfl) (by simp) ?_
        refine AllReadyH.cons rfl (fun K hK => ?_) ?_
        · clear hHeld
          go_simp
          clear x3 y3
          refine hK.out _ _ (by first | with_reducible exact q0 | (dsimp only; with_reducible exact q0) | exact ⟨cell_other q0.1 m1, cell_other q0.2.1 m2, cell_other q0.2.2.1 m2, cell_other q0.2.2.2 m2⟩) (fun hHeld => ?_)
          clear hK K
          try simp only [Act.put, List.setIfInBounds_toArray, List.set_cons_zero, List.set_cons_succ]
          refine wpAnyH_done (by kernel_rfl) ?_ _
          clear hHeld
          go_wp2_with fail
          go_end0
          exact ⟨rfl, _, HG.out, HR.out⟩
        exact AllReadyH.nil
      exact AllReadyH.nil
    exact AllReadyH.nil
  exact AllReadyH.nil
end Go.Proofs.Ytgfiofogcnnkhaa
