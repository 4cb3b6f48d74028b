/- The document's Net. -/
import Derived.Test.YtgfiofogcnnkhaaR8
import Derived.Test.YtgfiofogcnnkhaaHA
namespace Go.Proofs.Ytgfiofogcnnkhaa
open Go.RowKit Go.Sort
open Go

def rNet (G : Gr) : Nat → List Pt
  | 0 => []
  | k + 1 => rNet G k ++ [nE G k]
theorem rNet_length (G : Gr) : ∀ k, (rNet G k).length = k
  | 0 => rfl
  | k + 1 => by simp only [rNet, List.length_append, rNet_length G k]; rfl
theorem rNet_at (G : Gr) : ∀ k j, j < k → at' (rNet G k) j = nE G j
  | 0, j, h => by omega
  | k + 1, j, h => by
    unfold at'
    simp only [rNet]
    by_cases hj : j < k
    · rw [List.getD_eq_getElem?_getD, List.getElem?_append_left (by rw [rNet_length]; exact hj), ← List.getD_eq_getElem?_getD]
      exact rNet_at G k j hj
    · have hjk : j = k := by omega
      rw [List.getD_eq_getElem?_getD, List.getElem?_append_right (by rw [rNet_length]; omega), rNet_length, hjk, Nat.sub_self]
      rfl
theorem rNet_all (G : Gr) : rNet G G.es.length = netL G := by
  apply at_ext
  · rw [rNet_length]
    exact (netN_length G _).symm
  · intro j hj
    rw [rNet_length] at hj
    rw [rNet_at G _ j hj]
    exact (netN_at G _ (Nat.le_refl _) j hj).symm
theorem ids_more {l : List Ed} {k : Nat} (h : k < l.length) : (eids l).take (k + 1) = (eids l).take k ++ [(eat l k).id] := by
  have h2 : k < (eids l).length := by rw [eids_length]; exact h
  rw [List.take_add_one, List.getElem?_eq_getElem h2]
  congr 1
  have := eids_at h
  unfold iat at this
  rw [List.getD_eq_getElem?_getD, List.getElem?_eq_getElem h2] at this
  simpa using this
theorem info68 : (Try.prog.info? 68).map (fun i => (i.zero, i.size, i.bytes)) = some (some (.agg #[.int .i64 0, .int .i64 0]), 2, 16) := by kernel_rfl
theorem ixI_in {l : List Int} {x : Int} (h : x ∈ l) : ixI l x = pl l x := if_pos h
theorem frame_of {w X U D : World} {p : Nat → Prop} (h1 : Below w.heap.size w X) (h2 : Below X.heap.size X U) (h3 : Frame U D p) (hp : ∀ i, p i → w.heap.size ≤ i) : Below w.heap.size w D := by
  have h := below_step h1 h2
  exact ⟨h3.os.trans h.os, h3.tape.trans h.tape, h3.output.trans h.output, Nat.le_trans h.size h3.size, fun i hi => (h3.block i (by have := h.size; omega) (fun h4 => by have := hp i h4; omega)).trans (h.block i hi)⟩
theorem oper_append {P : Program} {w : World} {o : Oper} {a : Act} {K : Act → World → Prop} {Q : Exit → Act → World → Prop} (s x : Operand) (t : TypeId)
    (ho : o.op = .call { callee := .builtin .append, args := #[s, x], argTypes := #[t, t] }) (ty : TypeId) (hty : o.type = ty) (vs vx v' : Value) (w' : World) (hs : a.eval s = vs) (hx : a.eval x = vx)
    (hr : (Builtin.append_ #[t, t] ty #[vs, vx]).run P w = .ok v' w') (h : K (a.put o.dst v') w') : Oper.wp P o a w K Q := by
  subst hty
  unfold Oper.wp execOp
  simp only [ho, resolve, invoke, builtin, Sem.run_bind, Sem.run_pure, Result.andThen_ok, List.map_toArray, List.map_cons, List.map_nil, hs, hx, hr]
  exact h
/-- What Net answers. -/
def NetPost (G : Gr) (w : World) (e : Ending) (w' : World) : Prop := ∃ pe ce pn cn pi ci, e = .returned (.tuple #[nv G.ns.length pe G.es.length ce, .slice pn G.ns.length cn, .slice pi G.es.length ci]) ∧ Has w' pe (netL G) ∧ IHas w' pn G.ns ∧ IHas w' pi (eids G.es) ∧ Below w.heap.size w w'
/-- What Net has under way. -/
structure NL (w : World) (B k2 k5 : Nat) (n : Int) (ve vi : Value) (l : List Pt) (ids : List Int) : Prop where
  b2 : w.ownsRow B 24 2 (.slice (some ⟨k2, 0, none⟩) 1 1) 1 [.int .i64 0, .slice none 0 0]
  b5 : w.ownsRow B 24 2 (.slice (some ⟨k5, 0, none⟩) 1 1) 1 [.int .i64 n, ve]
  row : Owns w B ve l
  ids : IOwns w B vi ids
  ne : k2 ≠ k5
theorem NL.start (w : World) (n : Int) : NL ((w.alloc (.cells #[.int .i64 0, .slice none 0 0] 24)).alloc (.cells #[.int .i64 n, .slice none 0 0] 24)) w.heap.size w.heap.size (w.heap.size + 1) n (.slice none 0 0) (.slice none 0 0) [] [] := by
  obtain ⟨Z, hZ⟩ : ∃ Z, Z = w.alloc (.cells #[.int .i64 0, .slice none 0 0] 24) := ⟨_, rfl⟩
  have hs1 : Z.heap.size = w.heap.size + 1 := by rw [hZ]; simp
  have hk1 : Z.heap[w.heap.size]? = some (.cells #[.int .i64 0, .slice none 0 0] 24 (0, 0)) := by rw [hZ]; exact heap_alloc_new _ _
  rw [← hZ]
  have hk2 : (Z.alloc (.cells #[.int .i64 n, .slice none 0 0] 24)).heap[Z.heap.size]? = some (.cells #[.int .i64 n, .slice none 0 0] 24 (0, 0)) := heap_alloc_new _ _
  have hb : Below Z.heap.size Z (Z.alloc (.cells #[.int .i64 n, .slice none 0 0] 24)) := by go_grown
  have hk3 := (hb.block w.heap.size (by omega)).trans hk1
  rw [hs1] at hk2
  exact ⟨⟨rfl, Or.inr ⟨_, 1, _, rfl, Nat.le_refl _, hk3, by omega, by unfold maxLen; omega, rfl, rfl⟩⟩, ⟨rfl, Or.inr ⟨_, 1, _, rfl, by omega, hk2, by omega, by unfold maxLen; omega, rfl, rfl⟩⟩, World.ownsRow_nil _ _ _ _, World.ownsRow_nil _ _ _ _, by omega⟩
theorem NL.later {w w' : World} {B k2 k5 : Nat} {n : Int} {ve vi : Value} {l : List Pt} {ids : List Int} (h : NL w B k2 k5 n ve vi l ids) (hb : Below w.heap.size w w') : NL w' B k2 k5 n ve vi l ids := by
  have hf : Frame w w' (fun _ => False) := Frame.of_below hb _
  exact ⟨hf.row h.b2 (fun _ _ => id), hf.row h.b5 (fun _ _ => id), h.row.later hb, h.ids.later hb, h.ne⟩
theorem NL.push {w : World} {B k2 k5 : Nat} {n : Int} {p : Option Addr} {c : Nat} {vi : Value} {l : List Pt} {ids : List Int} (h : NL w B k2 k5 n (.slice p l.length c) vi l ids) (kb : Nat) (q : Pt) (fz : Nat × Nat) (e' : TypeId) (hk : w.heap[kb]? = some (.cells #[.int .i64 q.x, .int .i64 q.y] e' fz)) (hl : l.length ≤ 5000) (hB : B ≤ w.heap.size) :
    ∃ p2 c2 D, (Builtin.append_ #[22, 22] 22 #[.slice p l.length c, .slice (some ⟨kb, 0, none⟩) 1 1]).run Try.prog w = .ok (.slice p2 (l.length + 1) c2) D ∧ D.cell? ⟨k5, 1, none⟩ = some (.slice p l.length c) ∧ D.frozen? ⟨k5, 1, none⟩ = false ∧ NL (D.setCell ⟨k5, 1, none⟩ (.slice p2 (l.length + 1) c2)) B k2 k5 n (.slice p2 (l.length + 1) c2) vi (l ++ [q]) ids ∧ Frame w D (fun i => (Value.slice p l.length c).ownBlock = some i) ∧ (∀ i, (Value.slice p l.length c).ownBlock = some i → ∃ cur, w.heap[i]? = some (.cells cur 68 (0, 0))) := by
  obtain ⟨p2, l2, c2, D, e1, o1, gr, at1⟩ := append_row 22 68 (.agg #[.int .i64 0, .int .i64 0]) 2 16 Try.underlying22 info68 rfl (by decide) h.row kb [.int .i64 q.x, .int .i64 q.y] fz e' hk rfl (by simp [Value.oneCell']) (by omega) (by decide) hB
  have hfr : Frame w D (fun i => (Value.slice p l.length c).ownBlock = some i) := Frame.grown gr (fun i e => e)
  obtain ⟨p3, c3, e3, _⟩ := row_form o1
  simp only [Value.slice.injEq] at e3
  obtain ⟨rfl, rfl, rfl⟩ := e3
  have x2 := hfr.row h.b2 (fun i e => apart h.b2 h.row (by decide) e)
  have x5 := hfr.row h.b5 (fun i e => apart h.b5 h.row (by decide) e)
  have xi := hfr.row h.ids (fun i e => apart h.ids h.row (by decide) e)
  have hne5 : ∀ {B' e size n' : Nat} {v : Value} {xs : List Value}, D.ownsRow B' e size v n' xs → e ≠ 24 → v.ownBlock ≠ some k5 := fun o hne k => apart o x5 hne k rfl
  have on : Owns D B (.slice p2 (l.length + 1) c2) (l ++ [q]) := by
    unfold Owns
    rw [List.length_append, cells_append]
    exact o1
  refine ⟨p2, c2, D, e1, World.ownsRow.cellAt x5 1 (by omega), World.ownsRow.frozenAt x5 1, ⟨row_set x2 (fun e => ?_) _, (World.ownsRow.stored x5 1 _).1, row_set on (hne5 on (by decide)) _, row_set xi (hne5 xi (by decide)) _, h.ne⟩, hfr, fun i hi => own_at h.row hi⟩
  simp only [Value.ownBlock, Option.some.injEq] at e
  exact h.ne e
theorem NL.id {w w' : World} {B k2 k5 : Nat} {n : Int} {ve vi vi' : Value} {l : List Pt} {ids ids' : List Int} (h : NL w B k2 k5 n ve vi l ids) (hf : Frame w w' (fun i => vi.ownBlock = some i)) (o : IOwns w' B vi' ids') : NL w' B k2 k5 n ve vi' l ids' :=
  ⟨hf.row h.b2 (fun i e => apart h.b2 h.ids (by decide) e), hf.row h.b5 (fun i e => apart h.b5 h.ids (by decide) e), hf.row h.row (fun i e => apart h.row h.ids (by decide) e), o, h.ne⟩
set_option maxRecDepth 100000 in
set_option maxHeartbeats 32000000 in
theorem rNet47 (b : Nat) (V : RV) (G : Gr) (M : List (Int × Gr)) (L : Int) (w : World) (h : RAt w b V G M L) (hln : G.ns.length ≤ 1024) (hle : G.es.length ≤ 3072) (hu : Up G.ns) (hin : ∀ e ∈ G.es, e.a ∈ G.ns ∧ e.b ∈ G.ns) :
    Calls Try.prog 47 #[ptr b] w (NetPost G w) := by
  obtain ⟨pn, cn, pe, ce, pm, cm, _, hV, _, _, _, _, _, _, zn, ze⟩ := h.form
  have HQ : Hid (∀ U, Below w.heap.size w U → U.cell? ⟨b, 0, none⟩ = some (.slice pn G.ns.length cn) ∧ U.cell? ⟨b, 1, none⟩ = some (.slice pe G.es.length ce) ∧ IHas U pn G.ns ∧ EHas U pe G.es) := fun U hU => by
    have hr := h.later hU
    have k0 := hr.cells.1
    have k1 := hr.cells.2.1
    have o1 := hr.nod
    have o2 := hr.edg
    rw [hV] at k0 k1 o1 o2
    exact ⟨k0, k1, own_ihas o1, own_e102 o2⟩
  have CN0 : Hid (∀ U y, Below w.heap.size w U → y ∈ G.ns → Calls Try.prog 76 #[ptr b, .int .i64 y] U fun e w' => e = .returned (.int .i64 (pl G.ns y)) ∧ w' = U) := fun U y hU hy => by
    rw [← ixI_in hy]
    exact node76 b V G M L y U (h.later hU) (by omega) hu
  have HLT := hide h.lt
  have HI := hide hin
  have HZ := hide (And.intro zn ze)
  have q0 := (HQ.out w (Below.refl _ _)).1
  have hb1 : b < w.heap.size := HLT.out
  have hb2 : b ≠ w.heap.size := by omega
  clear h hV hin hu zn ze
  go_enter Try.func47, Try.ntmps47
  go_upto_region 2 with fail
  obtain ⟨W, hW⟩ : ∃ W, W = (w.alloc (.cells #[.int .i64 0, .slice none 0 0] 24)).alloc (.cells #[.int .i64 G.ns.length, .slice none 0 0] 24) := ⟨_, rfl⟩
  have HNW : Hid (NL W w.heap.size w.heap.size (w.heap.size + 1) G.ns.length (.slice none 0 0) (.slice none 0 0) (rNet G 0) ((eids G.es).take 0)) := by rw [hW]; exact NL.start w _
  have HBW : Hid (Below w.heap.size w W) := by rw [hW]; show Below _ _ _; go_grown
  rw [← hW]
  clear hW q0 hb2
  obtain ⟨k2, hk2⟩ : ∃ k2, w.heap.size = k2 := ⟨_, rfl⟩
  obtain ⟨k5, hk5⟩ : ∃ k5, k2 + 1 = k5 := ⟨_, rfl⟩
  rw [hk2, hk5]
  rw [hk2, hk5] at HNW
  have HK2 := hide hk2
  clear hk2 hk5
  go_wp2_with fail
  go_loopw [6, 7] (fun t6 t7 wr => ∃ (k : Nat) (ve : Value) (pi : Option Addr) (ci : Nat), k ≤ G.es.length ∧ t6 = .slice pi k ci ∧ t7 = .int .i64 k ∧ Hid (Below w.heap.size w wr) ∧ Hid (NL wr k2 k2 k5 G.ns.length ve (.slice pi k ci) (rNet G k) ((eids G.es).take k))) (fun _ t7 _ => G.es.length - (intOf t7).toNat)
  case atStart => exact ⟨0, _, none, 0, Nat.zero_le _, rfl, rfl, HBW.out, HNW.out⟩
  case round =>
    obtain ⟨k, ve, pi, ci, hk, rfl, rfl, HBr, HNr⟩ := hrel
    clear HNW HBW
    obtain ⟨r0, r1, r2, r3⟩ := HQ.out _ HBr.out
    have HRI := hide r2
    by_cases hlt : k < G.es.length
    · rcases r3 with h0 | ⟨g, rfl, hc⟩
      · rw [h0] at hlt; simp at hlt
      obtain ⟨pl0, cl0, hve, _⟩ := HNr.out.row.form
      rw [rNet_length] at hve
      subst hve
      obtain ⟨m0, m1, m2⟩ := hc k hlt
      have HIN := hide (HI.out (eat G.es k) (eat_mem hlt))
      have HNE : Hid (nE G k = ⟨pl G.ns (eat G.es k).a, pl G.ns (eat G.es k).b⟩) := rfl
      have HID : Hid ((eids G.es).take (k + 1) = (eids G.es).take k ++ [(eat G.es k).id]) := ids_more hlt
      obtain ⟨x, hx⟩ : ∃ x, eat G.es k = x := ⟨_, rfl⟩
      rw [hx] at m0 m1 m2 HIN HNE HID
      have HXY : Hid ((pl G.ns x.a : Int) = (nE G k).x ∧ (pl G.ns x.b : Int) = (nE G k).y) := by show _ ∧ _; rw [HNE.out]; exact ⟨rfl, rfl⟩
      have HXX := hide hx
      have e1 : (k : Int) < G.es.length := by omega
      have e0 : (0 : Int) ≤ k := by omega
      have hgl : g ≠ wr.heap.size := by have := block_lt_of_cell m0; exact fun e => by rw [e] at this; exact absurd this (Nat.lt_irrefl _)
      clear hc hx r2 HNE
      go_upto_region 7 with fail
      obtain ⟨X, hX⟩ : ∃ X, X = wr.alloc (.cells #[.int .i64 x.id, .int .i64 x.a, .int .i64 x.b] 102) := ⟨_, rfl⟩
      have hbX : Below wr.heap.size wr X := by rw [hX]; go_grown
      have hsX : X.heap.size = wr.heap.size + 1 := by rw [hX]; simp
      have t0 : X.cell? ⟨wr.heap.size, 0, none⟩ = some (.int .i64 x.id) := by rw [hX]; go_cell
      have t1 : X.cell? ⟨wr.heap.size, 1, none⟩ = some (.int .i64 x.a) := by rw [hX]; go_cell
      have t2 : X.cell? ⟨wr.heap.size, 2, none⟩ = some (.int .i64 x.b) := by rw [hX]; go_cell
      have tt : X.heap[wr.heap.size]? = some (.cells #[.int .i64 x.id, .int .i64 x.a, .int .i64 x.b] 102 (0, 0)) := by rw [hX]; exact heap_alloc_new _ _
      have HBX := hide (below_step HBr.out hbX)
      have HNX := hide (HNr.out.later hbX)
      rw [← hX]
      obtain ⟨k8, hk8⟩ : ∃ k8, wr.heap.size = k8 := ⟨_, rfl⟩
      rw [hk8] at t0 t1 t2 tt hsX
      rw [hk8]
      have hk58 : k5 < k8 := by
        have := own_lt HNr.out.b5 (i := k5) rfl
        omega
      have hne8 : k8 ≠ k5 := by omega
      have CN : Hid (∀ U y, Below X.heap.size X U → y ∈ G.ns → Calls Try.prog 76 #[ptr b, .int .i64 y] U fun e w' => e = .returned (.int .i64 (pl G.ns y)) ∧ w' = U) := fun U y hU hy => CN0.out U y (below_step HBX.out hU) hy
      have HSr : Hid (∀ U, Below X.heap.size X U → U.cell? ⟨k8, 1, none⟩ = some (.int .i64 x.a) ∧ U.cell? ⟨k8, 2, none⟩ = some (.int .i64 x.b)) := fun U hU => ⟨later hU t1, later hU t2⟩
      have HSE : Hid (∀ U, Below X.heap.size X U → U.cell? ⟨k5, 1, none⟩ = some (.slice pl0 k cl0)) := fun U hU => World.ownsRow.cellAt (HNX.out.later hU).b5 1 (by omega)
      have APP : Hid (∀ U kb, Below X.heap.size X U → U.heap[kb]? = some (.cells #[.int .i64 (nE G k).x, .int .i64 (nE G k).y] 68 (0, 0)) → ∃ p5 c5 D, (Builtin.append_ #[22, 22] 22 #[.slice pl0 k cl0, .slice (some ⟨kb, 0, none⟩) 1 1]).run Try.prog U = .ok (.slice p5 (k + 1) c5) D ∧ (D.cell? ⟨k8, 1, none⟩ = some (.int .i64 x.a) ∧ D.cell? ⟨k8, 2, none⟩ = some (.int .i64 x.b)) ∧ D.cell? ⟨k5, 1, none⟩ = some (.slice pl0 k cl0) ∧ D.frozen? ⟨k5, 1, none⟩ = false ∧ NL (D.setCell ⟨k5, 1, none⟩ (.slice p5 (k + 1) c5)) k2 k2 k5 G.ns.length (.slice p5 (k + 1) c5) (.slice pi k ci) (rNet G (k + 1)) ((eids G.es).take k) ∧ (Below w.heap.size w (D.setCell ⟨k5, 1, none⟩ (.slice p5 (k + 1) c5)) ∧ (D.setCell ⟨k5, 1, none⟩ (.slice p5 (k + 1) c5)).cell? ⟨k8, 0, none⟩ = some (.int .i64 x.id))) := fun U kb hU hkb => by
        have hN := HNX.out.later hU
        have hN2 : NL U k2 k2 k5 G.ns.length (.slice pl0 (rNet G k).length cl0) (.slice pi k ci) (rNet G k) ((eids G.es).take k) := by rw [rNet_length]; exact hN
        obtain ⟨p5, c5, D, a1, a2, a3, a4, a5, a6⟩ := hN2.push kb (nE G k) _ _ hkb (by rw [rNet_length]; omega) (by have := HBX.out.size; have := hU.size; have := HK2.out; omega)
        rw [rNet_length] at a1 a2 a4 a5 a6
        have h8 : ¬ (Value.slice pl0 k cl0).ownBlock = some k8 := fun e => by
          obtain ⟨cur, hcur⟩ := a6 _ e
          have h9 : U.heap[k8]? = X.heap[k8]? := hU.block k8 (by omega)
          rw [h9, tt] at hcur
          cases hcur
        have hD : Below w.heap.size w D := frame_of HBX.out hU a5 (fun i hi => by
          have := (World.ownsRow.lt hN.row i hi).1
          have := HK2.out
          omega)
        refine ⟨p5, c5, D, a1, ⟨a5.cell (later hU t1) h8, a5.cell (later hU t2) h8⟩, a2, a3, a4, hD.setCell (p := ⟨k5, 1, none⟩) ?_ _, cell_other (a5.cell (later hU t0) h8) hne8⟩
        show w.heap.size ≤ k5
        have := (World.ownsRow.lt hN.b5 k5 rfl).1
        have := HK2.out
        omega
      clear hX hbX t1 t2 tt hsX r0 r1 m0 m1 m2 CN0 hk8 hk58 HNX hgl
      go_cut [8] (fun s8 wx => s8 = .pointer (some ⟨k8, 0, none⟩) ∧ ∃ p5 c5, NL wx k2 k2 k5 G.ns.length (.slice p5 (k + 1) c5) (.slice pi k ci) (rNet G (k + 1)) ((eids G.es).take k) ∧ Below w.heap.size w wx ∧ wx.cell? ⟨k8, 0, none⟩ = some (.int .i64 x.id))
      case first =>
        refine wp_region_held_drew (S := (fun U => U.cell? ⟨k8, 1, none⟩ = some (.int .i64 x.a) ∧ U.cell? ⟨k8, 2, none⟩ = some (.int .i64 x.b))) (by kernel_rfl) (by exact HSr.out _ (below_drew _)) (fun hHeld => ?_)
        obtain ⟨X0, hX0⟩ : ∃ V, V = X.drew := ⟨_, rfl⟩
        have HX0 : Hid (Below X.heap.size X X0) := by show Below _ _ _; rw [hX0]; exact below_drew _
        rw [← hX0] at hHeld ⊢
        clear hX0 t0
        obtain ⟨c1, c2⟩ := HSr.out _ HX0.out
        have s1 := HSE.out _ HX0.out
        refine wpAnyH_take (i := 0) (v := ?v10) rfl (by kernel_rfl) (by kernel_rfl) (by kernel_rfl) (fun _ _ _ h => h) (Or.inl ⟨by rfl, ?hy10⟩) (by assumption) ?rest10
        case hy10 => (intro w hSw; (try dsimp only at hSw); go_simp; try with_reducible rfl)
        try simp only [Act.put, List.getElem_toArray, List.getElem_cons_zero, List.setIfInBounds_toArray, List.set_cons_zero, List.set_cons_succ]
        refine wpAnyH_take (i := 2) (v := ?v11) rfl (by kernel_rfl) (by kernel_rfl) (by kernel_rfl) (fun _ _ _ h => h) (Or.inl ⟨by rfl, ?hy11⟩) (by assumption) ?rest11
        case hy11 => (intro w hSw; (try dsimp only at hSw); go_simp; try with_reducible rfl)
        try simp only [Act.put, List.getElem_toArray, List.getElem_cons_zero, List.getElem_cons_succ, List.setIfInBounds_toArray, List.set_cons_zero, List.set_cons_succ]
        refine wpAnyH_take (i := 3) (v := ?v12) rfl (by kernel_rfl) (by kernel_rfl) (by kernel_rfl) (fun _ _ _ h => h) (Or.inl ⟨by rfl, ?hy12⟩) (by assumption) ?rest12
        case hy12 => (intro w hSw; (try dsimp only at hSw); go_simp; try with_reducible rfl)
        try simp only [Act.put, List.getElem_toArray, List.getElem_cons_zero, List.getElem_cons_succ, List.setIfInBounds_toArray, List.set_cons_zero, List.set_cons_succ]
        refine wpAnyH_take (i := 4) (v := ?v13) rfl (by kernel_rfl) (by kernel_rfl) (by kernel_rfl) (fun _ _ _ h => h) (Or.inl ⟨by rfl, ?hy13⟩) (by assumption) ?rest13
        case hy13 => (intro w hSw; (try dsimp only at hSw); go_simp; try with_reducible rfl)
        try simp only [Act.put, List.getElem_toArray, List.getElem_cons_zero, List.getElem_cons_succ, List.setIfInBounds_toArray, List.set_cons_zero, List.set_cons_succ]
        refine wpAnyH_take (i := 6) (v := ?v14) rfl (by kernel_rfl) (by kernel_rfl) (by kernel_rfl) (fun _ _ _ h => h) (Or.inl ⟨by rfl, ?hy14⟩) (by assumption) ?rest14
        case hy14 => (intro w hSw; (try dsimp only at hSw); go_simp; try with_reducible rfl)
        try simp only [Act.put, List.getElem_toArray, List.getElem_cons_zero, List.getElem_cons_succ, List.setIfInBounds_toArray, List.set_cons_zero, List.set_cons_succ]
        refine wpAnyH_take (i := 7) (v := ?v15) rfl (by kernel_rfl) (by kernel_rfl) (by kernel_rfl) (fun _ _ _ h => h) (Or.inl ⟨by rfl, ?hy15⟩) (by assumption) ?rest15
        case hy15 => (intro w hSw; (try dsimp only at hSw); go_simp; try with_reducible rfl)
        try simp only [Act.put, List.getElem_toArray, List.getElem_cons_zero, List.getElem_cons_succ, List.setIfInBounds_toArray, List.set_cons_zero, List.set_cons_succ]
        refine wpAnyH_take (i := 8) (v := ?v16) rfl (by kernel_rfl) (by kernel_rfl) (by kernel_rfl) (fun _ _ _ h => h) (Or.inl ⟨by rfl, ?hy16⟩) (by assumption) ?rest16
        case hy16 => (intro w hSw; (try dsimp only at hSw); go_simp; try with_reducible rfl)
        try simp only [Act.put, List.getElem_toArray, List.getElem_cons_zero, List.getElem_cons_succ, List.setIfInBounds_toArray, List.set_cons_zero, List.set_cons_succ]
        refine wpAnyH_ready (rs := [1, 5]) (by kernel_rfl) (by simp) ?_
        refine AllReadyH.cons rfl (fun K hK => ?_) ?_
        · clear hHeld
          go_simp
          refine hK.out _ _ (by first | with_reducible exact ⟨c1, c2⟩ | (dsimp only; with_reducible exact ⟨c1, c2⟩) | exact ⟨cell_other c1 hne8, cell_other c2 hne8⟩) (fun hHeld => ?_)
          clear hK K
          try simp only [Act.put, List.getElem_toArray, List.getElem_cons_zero, List.getElem_cons_succ, List.setIfInBounds_toArray, List.set_cons_zero, List.set_cons_succ]
          refine wpAnyH_ready (rs := [5]) (by kernel_rfl) (by simp) ?_
          refine AllReadyH.cons rfl (fun K hK => ?_) ?_
          · clear hHeld
            go_simp
            refine (CN.out X0 x.a HX0.out HIN.out.1).mono ?_
            rintro e Xq ⟨rfl, hw⟩
            have hw2 := hw.symm
            subst hw2
            refine hK.out _ _ (by first | with_reducible exact ⟨c1, c2⟩ | (dsimp only; with_reducible exact ⟨c1, c2⟩) | exact ⟨cell_other c1 hne8, cell_other c2 hne8⟩) (fun hHeld => ?_)
            clear hK K
            try simp only [Act.put, List.getElem_toArray, List.getElem_cons_zero, List.getElem_cons_succ, List.setIfInBounds_toArray, List.set_cons_zero, List.set_cons_succ]
            refine wpAnyH_ready (rs := [9]) (by kernel_rfl) (by simp) ?_
            refine AllReadyH.cons rfl (fun K hK => ?_) ?_
            · clear hHeld
              go_simp
              refine (CN.out X0 x.b HX0.out HIN.out.2).mono ?_
              rintro e Xq ⟨rfl, hw⟩
              have hw2 := hw.symm
              subst hw2
              refine hK.out _ _ (by first | with_reducible exact ⟨c1, c2⟩ | (dsimp only; with_reducible exact ⟨c1, c2⟩) | exact ⟨cell_other c1 hne8, cell_other c2 hne8⟩) (fun hHeld => ?_)
              clear hK K
              try simp only [Act.put, List.getElem_toArray, List.getElem_cons_zero, List.getElem_cons_succ, List.setIfInBounds_toArray, List.set_cons_zero, List.set_cons_succ]
              refine wpAnyH_take (i := 10) (v := ?v17) rfl (by kernel_rfl) (by kernel_rfl) (by kernel_rfl) (fun _ _ _ h => h) (Or.inl ⟨by rfl, ?hy17⟩) (by assumption) ?rest17
              case hy17 => (intro w hSw; (try dsimp only at hSw); go_simp; try with_reducible rfl)
              try simp only [Act.put, List.getElem_toArray, List.getElem_cons_zero, List.getElem_cons_succ, List.setIfInBounds_toArray, List.set_cons_zero, List.set_cons_succ]
              refine wpAnyH_ready (rs := [11]) (by kernel_rfl) (by simp) ?_
              refine AllReadyH.cons rfl (fun K hK => ?_) ?_
              · clear hHeld
                go_simp
                rw [HXY.out.1, HXY.out.2]
                obtain ⟨X1, hX⟩ : ∃ X, X = X0.alloc (.cells #[.int .i64 (nE G k).x, .int .i64 (nE G k).y] 68) := ⟨_, rfl⟩
                obtain ⟨kb, hkb⟩ : ∃ k, X0.heap.size = k := ⟨_, rfl⟩
                have hb2 : Below X0.heap.size X0 X1 := by rw [hX]; go_grown
                have HL1 : Hid (X1.heap[kb]? = some (.cells #[.int .i64 (nE G k).x, .int .i64 (nE G k).y] 68 (0, 0))) := by show _ = _; rw [hX, ← hkb]; exact heap_alloc_new X0 _
                rw [← hX, hkb]
                have HX1 := hide (below_step HX0.out hb2)
                clear hX hb2 hkb c1 c2 s1
                obtain ⟨c1, c2⟩ := HSr.out _ HX1.out
                have s1 := HSE.out _ HX1.out
                refine hK.out _ _ (by first | with_reducible exact ⟨c1, c2⟩ | (dsimp only; with_reducible exact ⟨c1, c2⟩) | exact ⟨cell_other c1 hne8, cell_other c2 hne8⟩) (fun hHeld => ?_)
                clear hK K
                try simp only [Act.put, List.getElem_toArray, List.getElem_cons_zero, List.getElem_cons_succ, List.setIfInBounds_toArray, List.set_cons_zero, List.set_cons_succ]
                refine wpAnyH_ready (rs := [12]) (by kernel_rfl) (by simp) ?_
                refine AllReadyH.cons rfl (fun K hK => ?_) ?_
                · clear hHeld
                  obtain ⟨p5, c5, X2, e4, s3, x3, y3, g3, r3⟩ := APP.out X1 kb HX1.out HL1.out
                  have HG := hide g3
                  have HR := hide r3
                  clear c1 c2 s1
                  obtain ⟨c1, c2⟩ := s3
                  refine step_run_append (by rfl) (.tmp 35) (.tmp 45) 22 (by rfl) 22 (by rfl) (.slice pl0 k cl0) (.slice (some ⟨kb, 0, none⟩) 1 1) (.slice p5 (k + 1) c5) X2 (by rfl) (by rfl) ?_ ?_
                  with_reducible exact e4
                  clear g3 r3 e4
                  refine hK.out _ _ (by first | with_reducible exact ⟨c1, c2⟩ | (dsimp only; with_reducible exact ⟨c1, c2⟩) | exact ⟨cell_other c1 hne8, cell_other c2 hne8⟩) (fun hHeld => ?_)
                  clear hK K
                  try simp only [Act.put, List.getElem_toArray, List.getElem_cons_zero, List.getElem_cons_succ, List.setIfInBounds_toArray, List.set_cons_zero, List.set_cons_succ]
                  refine wpAnyH_take (i := 13) (v := ?v18) rfl (by kernel_rfl) (by kernel_rfl) (by kernel_rfl) (fun _ _ _ h => h) (Or.inl ⟨by rfl, ?hy18⟩) (by assumption) ?rest18
                  case hy18 => (intro w hSw; (try dsimp only at hSw); go_simp; try with_reducible rfl)
                  try simp only [Act.put, List.getElem_toArray, List.getElem_cons_zero, List.getElem_cons_succ, List.setIfInBounds_toArray, List.set_cons_zero, List.set_cons_succ]
                  refine wpAnyH_ready (rs := [14]) (by kernel_rfl) (by simp) ?_
                  refine AllReadyH.cons rfl (fun K hK => ?_) ?_
                  · clear hHeld
                    go_simp
                    clear x3 y3
                    refine hK.out _ _ (by first | with_reducible exact ⟨c1, c2⟩ | (dsimp only; with_reducible exact ⟨c1, c2⟩) | exact ⟨cell_other c1 hne8, cell_other c2 hne8⟩) (fun hHeld => ?_)
                    clear hK K
                    try simp only [Act.put, List.getElem_toArray, List.getElem_cons_zero, List.getElem_cons_succ, List.setIfInBounds_toArray, List.set_cons_zero, List.set_cons_succ]
                    refine wpAnyH_done (by kernel_rfl) ?_ _
                    clear hHeld
                    obtain ⟨Y, hY⟩ : ∃ Z, Z = X2.setCell ⟨k5, 1, none⟩ (.slice p5 (k + 1) c5) := ⟨_, rfl⟩
                    rw [← hY] at HG HR
                    rw [← hY]
                    clear hY c1 c2
                    go_wp2_with fail
                    go_meet
                    exact ⟨rfl, _, _, HG.out, HR.out.1, HR.out.2⟩
                  exact AllReadyH.nil
                exact AllReadyH.nil
              exact AllReadyH.nil
            exact AllReadyH.nil
          exact AllReadyH.nil
        refine AllReadyH.cons rfl (fun K hK => ?_) ?_
        · clear hHeld
          go_simp
          refine (CN.out X0 x.a HX0.out HIN.out.1).mono ?_
          rintro e Xq ⟨rfl, hw⟩
          have hw2 := hw.symm
          subst hw2
          refine hK.out _ _ (by first | with_reducible exact ⟨c1, c2⟩ | (dsimp only; with_reducible exact ⟨c1, c2⟩) | exact ⟨cell_other c1 hne8, cell_other c2 hne8⟩) (fun hHeld => ?_)
          clear hK K
          try simp only [Act.put, List.getElem_toArray, List.getElem_cons_zero, List.getElem_cons_succ, List.setIfInBounds_toArray, List.set_cons_zero, List.set_cons_succ]
          refine wpAnyH_ready (rs := [1, 9]) (by kernel_rfl) (by simp) ?_
          refine AllReadyH.cons rfl (fun K hK => ?_) ?_
          · clear hHeld
            go_simp
            refine hK.out _ _ (by first | with_reducible exact ⟨c1, c2⟩ | (dsimp only; with_reducible exact ⟨c1, c2⟩) | exact ⟨cell_other c1 hne8, cell_other c2 hne8⟩) (fun hHeld => ?_)
            clear hK K
            try simp only [Act.put, List.getElem_toArray, List.getElem_cons_zero, List.getElem_cons_succ, List.setIfInBounds_toArray, List.set_cons_zero, List.set_cons_succ]
            refine wpAnyH_ready (rs := [9]) (by kernel_rfl) (by simp) ?_
            refine AllReadyH.cons rfl (fun K hK => ?_) ?_
            · clear hHeld
              go_simp
              refine (CN.out X0 x.b HX0.out HIN.out.2).mono ?_
              rintro e Xq ⟨rfl, hw⟩
              have hw2 := hw.symm
              subst hw2
              refine hK.out _ _ (by first | with_reducible exact ⟨c1, c2⟩ | (dsimp only; with_reducible exact ⟨c1, c2⟩) | exact ⟨cell_other c1 hne8, cell_other c2 hne8⟩) (fun hHeld => ?_)
              clear hK K
              try simp only [Act.put, List.getElem_toArray, List.getElem_cons_zero, List.getElem_cons_succ, List.setIfInBounds_toArray, List.set_cons_zero, List.set_cons_succ]
              refine wpAnyH_take (i := 10) (v := ?v19) rfl (by kernel_rfl) (by kernel_rfl) (by kernel_rfl) (fun _ _ _ h => h) (Or.inl ⟨by rfl, ?hy19⟩) (by assumption) ?rest19
              case hy19 => (intro w hSw; (try dsimp only at hSw); go_simp; try with_reducible rfl)
              try simp only [Act.put, List.getElem_toArray, List.getElem_cons_zero, List.getElem_cons_succ, List.setIfInBounds_toArray, List.set_cons_zero, List.set_cons_succ]
              refine wpAnyH_ready (rs := [11]) (by kernel_rfl) (by simp) ?_
              refine AllReadyH.cons rfl (fun K hK => ?_) ?_
              · clear hHeld
                go_simp
                rw [HXY.out.1, HXY.out.2]
                obtain ⟨X1, hX⟩ : ∃ X, X = X0.alloc (.cells #[.int .i64 (nE G k).x, .int .i64 (nE G k).y] 68) := ⟨_, rfl⟩
                obtain ⟨kb, hkb⟩ : ∃ k, X0.heap.size = k := ⟨_, rfl⟩
                have hb2 : Below X0.heap.size X0 X1 := by rw [hX]; go_grown
                have HL1 : Hid (X1.heap[kb]? = some (.cells #[.int .i64 (nE G k).x, .int .i64 (nE G k).y] 68 (0, 0))) := by show _ = _; rw [hX, ← hkb]; exact heap_alloc_new X0 _
                rw [← hX, hkb]
                have HX1 := hide (below_step HX0.out hb2)
                clear hX hb2 hkb c1 c2 s1
                obtain ⟨c1, c2⟩ := HSr.out _ HX1.out
                have s1 := HSE.out _ HX1.out
                refine hK.out _ _ (by first | with_reducible exact ⟨c1, c2⟩ | (dsimp only; with_reducible exact ⟨c1, c2⟩) | exact ⟨cell_other c1 hne8, cell_other c2 hne8⟩) (fun hHeld => ?_)
                clear hK K
                try simp only [Act.put, List.getElem_toArray, List.getElem_cons_zero, List.getElem_cons_succ, List.setIfInBounds_toArray, List.set_cons_zero, List.set_cons_succ]
                refine wpAnyH_ready (rs := [12]) (by kernel_rfl) (by simp) ?_
                refine AllReadyH.cons rfl (fun K hK => ?_) ?_
                · clear hHeld
                  obtain ⟨p5, c5, X2, e4, s3, x3, y3, g3, r3⟩ := APP.out X1 kb HX1.out HL1.out
                  have HG := hide g3
                  have HR := hide r3
                  clear c1 c2 s1
                  obtain ⟨c1, c2⟩ := s3
                  refine step_run_append (by rfl) (.tmp 35) (.tmp 45) 22 (by rfl) 22 (by rfl) (.slice pl0 k cl0) (.slice (some ⟨kb, 0, none⟩) 1 1) (.slice p5 (k + 1) c5) X2 (by rfl) (by rfl) ?_ ?_
                  with_reducible exact e4
                  clear g3 r3 e4
                  refine hK.out _ _ (by first | with_reducible exact ⟨c1, c2⟩ | (dsimp only; with_reducible exact ⟨c1, c2⟩) | exact ⟨cell_other c1 hne8, cell_other c2 hne8⟩) (fun hHeld => ?_)
                  clear hK K
                  try simp only [Act.put, List.getElem_toArray, List.getElem_cons_zero, List.getElem_cons_succ, List.setIfInBounds_toArray, List.set_cons_zero, List.set_cons_succ]
                  refine wpAnyH_take (i := 13) (v := ?v20) rfl (by kernel_rfl) (by kernel_rfl) (by kernel_rfl) (fun _ _ _ h => h) (Or.inl ⟨by rfl, ?hy20⟩) (by assumption) ?rest20
                  case hy20 => (intro w hSw; (try dsimp only at hSw); go_simp; try with_reducible rfl)
                  try simp only [Act.put, List.getElem_toArray, List.getElem_cons_zero, List.getElem_cons_succ, List.setIfInBounds_toArray, List.set_cons_zero, List.set_cons_succ]
                  refine wpAnyH_ready (rs := [14]) (by kernel_rfl) (by simp) ?_
                  refine AllReadyH.cons rfl (fun K hK => ?_) ?_
                  · clear hHeld
                    go_simp
                    clear x3 y3
                    refine hK.out _ _ (by first | with_reducible exact ⟨c1, c2⟩ | (dsimp only; with_reducible exact ⟨c1, c2⟩) | exact ⟨cell_other c1 hne8, cell_other c2 hne8⟩) (fun hHeld => ?_)
                    clear hK K
                    try simp only [Act.put, List.getElem_toArray, List.getElem_cons_zero, List.getElem_cons_succ, List.setIfInBounds_toArray, List.set_cons_zero, List.set_cons_succ]
                    refine wpAnyH_done (by kernel_rfl) ?_ _
                    clear hHeld
                    obtain ⟨Y, hY⟩ : ∃ Z, Z = X2.setCell ⟨k5, 1, none⟩ (.slice p5 (k + 1) c5) := ⟨_, rfl⟩
                    rw [← hY] at HG HR
                    rw [← hY]
                    clear hY c1 c2
                    go_wp2_with fail
                    go_meet
                    exact ⟨rfl, _, _, HG.out, HR.out.1, HR.out.2⟩
                  exact AllReadyH.nil
                exact AllReadyH.nil
              exact AllReadyH.nil
            exact AllReadyH.nil
          refine AllReadyH.cons rfl (fun K hK => ?_) ?_
          · clear hHeld
            go_simp
            refine (CN.out X0 x.b HX0.out HIN.out.2).mono ?_
            rintro e Xq ⟨rfl, hw⟩
            have hw2 := hw.symm
            subst hw2
            refine hK.out _ _ (by first | with_reducible exact ⟨c1, c2⟩ | (dsimp only; with_reducible exact ⟨c1, c2⟩) | exact ⟨cell_other c1 hne8, cell_other c2 hne8⟩) (fun hHeld => ?_)
            clear hK K
            try simp only [Act.put, List.getElem_toArray, List.getElem_cons_zero, List.getElem_cons_succ, List.setIfInBounds_toArray, List.set_cons_zero, List.set_cons_succ]
            refine wpAnyH_take (i := 10) (v := ?v21) rfl (by kernel_rfl) (by kernel_rfl) (by kernel_rfl) (fun _ _ _ h => h) (Or.inl ⟨by rfl, ?hy21⟩) (by assumption) ?rest21
            case hy21 => (intro w hSw; (try dsimp only at hSw); go_simp; try with_reducible rfl)
            try simp only [Act.put, List.getElem_toArray, List.getElem_cons_zero, List.getElem_cons_succ, List.setIfInBounds_toArray, List.set_cons_zero, List.set_cons_succ]
            refine wpAnyH_ready (rs := [1, 11]) (by kernel_rfl) (by simp) ?_
            refine AllReadyH.cons rfl (fun K hK => ?_) ?_
            · clear hHeld
              go_simp
              refine hK.out _ _ (by first | with_reducible exact ⟨c1, c2⟩ | (dsimp only; with_reducible exact ⟨c1, c2⟩) | exact ⟨cell_other c1 hne8, cell_other c2 hne8⟩) (fun hHeld => ?_)
              clear hK K
              try simp only [Act.put, List.getElem_toArray, List.getElem_cons_zero, List.getElem_cons_succ, List.setIfInBounds_toArray, List.set_cons_zero, List.set_cons_succ]
              refine wpAnyH_ready (rs := [11]) (by kernel_rfl) (by simp) ?_
              refine AllReadyH.cons rfl (fun K hK => ?_) ?_
              · clear hHeld
                go_simp
                rw [HXY.out.1, HXY.out.2]
                obtain ⟨X1, hX⟩ : ∃ X, X = X0.alloc (.cells #[.int .i64 (nE G k).x, .int .i64 (nE G k).y] 68) := ⟨_, rfl⟩
                obtain ⟨kb, hkb⟩ : ∃ k, X0.heap.size = k := ⟨_, rfl⟩
                have hb2 : Below X0.heap.size X0 X1 := by rw [hX]; go_grown
                have HL1 : Hid (X1.heap[kb]? = some (.cells #[.int .i64 (nE G k).x, .int .i64 (nE G k).y] 68 (0, 0))) := by show _ = _; rw [hX, ← hkb]; exact heap_alloc_new X0 _
                rw [← hX, hkb]
                have HX1 := hide (below_step HX0.out hb2)
                clear hX hb2 hkb c1 c2 s1
                obtain ⟨c1, c2⟩ := HSr.out _ HX1.out
                have s1 := HSE.out _ HX1.out
                refine hK.out _ _ (by first | with_reducible exact ⟨c1, c2⟩ | (dsimp only; with_reducible exact ⟨c1, c2⟩) | exact ⟨cell_other c1 hne8, cell_other c2 hne8⟩) (fun hHeld => ?_)
                clear hK K
                try simp only [Act.put, List.getElem_toArray, List.getElem_cons_zero, List.getElem_cons_succ, List.setIfInBounds_toArray, List.set_cons_zero, List.set_cons_succ]
                refine wpAnyH_ready (rs := [12]) (by kernel_rfl) (by simp) ?_
                refine AllReadyH.cons rfl (fun K hK => ?_) ?_
                · clear hHeld
                  obtain ⟨p5, c5, X2, e4, s3, x3, y3, g3, r3⟩ := APP.out X1 kb HX1.out HL1.out
                  have HG := hide g3
                  have HR := hide r3
                  clear c1 c2 s1
                  obtain ⟨c1, c2⟩ := s3
                  refine step_run_append (by rfl) (.tmp 35) (.tmp 45) 22 (by rfl) 22 (by rfl) (.slice pl0 k cl0) (.slice (some ⟨kb, 0, none⟩) 1 1) (.slice p5 (k + 1) c5) X2 (by rfl) (by rfl) ?_ ?_
                  with_reducible exact e4
                  clear g3 r3 e4
                  refine hK.out _ _ (by first | with_reducible exact ⟨c1, c2⟩ | (dsimp only; with_reducible exact ⟨c1, c2⟩) | exact ⟨cell_other c1 hne8, cell_other c2 hne8⟩) (fun hHeld => ?_)
                  clear hK K
                  try simp only [Act.put, List.getElem_toArray, List.getElem_cons_zero, List.getElem_cons_succ, List.setIfInBounds_toArray, List.set_cons_zero, List.set_cons_succ]
                  refine wpAnyH_take (i := 13) (v := ?v22) rfl (by kernel_rfl) (by kernel_rfl) (by kernel_rfl) (fun _ _ _ h => h) (Or.inl ⟨by rfl, ?hy22⟩) (by assumption) ?rest22
                  case hy22 => (intro w hSw; (try dsimp only at hSw); go_simp; try with_reducible rfl)
                  try simp only [Act.put, List.getElem_toArray, List.getElem_cons_zero, List.getElem_cons_succ, List.setIfInBounds_toArray, List.set_cons_zero, List.set_cons_succ]
                  refine wpAnyH_ready (rs := [14]) (by kernel_rfl) (by simp) ?_
                  refine AllReadyH.cons rfl (fun K hK => ?_) ?_
                  · clear hHeld
                    go_simp
                    clear x3 y3
                    refine hK.out _ _ (by first | with_reducible exact ⟨c1, c2⟩ | (dsimp only; with_reducible exact ⟨c1, c2⟩) | exact ⟨cell_other c1 hne8, cell_other c2 hne8⟩) (fun hHeld => ?_)
                    clear hK K
                    try simp only [Act.put, List.getElem_toArray, List.getElem_cons_zero, List.getElem_cons_succ, List.setIfInBounds_toArray, List.set_cons_zero, List.set_cons_succ]
                    refine wpAnyH_done (by kernel_rfl) ?_ _
                    clear hHeld
                    obtain ⟨Y, hY⟩ : ∃ Z, Z = X2.setCell ⟨k5, 1, none⟩ (.slice p5 (k + 1) c5) := ⟨_, rfl⟩
                    rw [← hY] at HG HR
                    rw [← hY]
                    clear hY c1 c2
                    go_wp2_with fail
                    go_meet
                    exact ⟨rfl, _, _, HG.out, HR.out.1, HR.out.2⟩
                  exact AllReadyH.nil
                exact AllReadyH.nil
              exact AllReadyH.nil
            refine AllReadyH.cons rfl (fun K hK => ?_) ?_
            · clear hHeld
              go_simp
              rw [HXY.out.1, HXY.out.2]
              obtain ⟨X1, hX⟩ : ∃ X, X = X0.alloc (.cells #[.int .i64 (nE G k).x, .int .i64 (nE G k).y] 68) := ⟨_, rfl⟩
              obtain ⟨kb, hkb⟩ : ∃ k, X0.heap.size = k := ⟨_, rfl⟩
              have hb2 : Below X0.heap.size X0 X1 := by rw [hX]; go_grown
              have HL1 : Hid (X1.heap[kb]? = some (.cells #[.int .i64 (nE G k).x, .int .i64 (nE G k).y] 68 (0, 0))) := by show _ = _; rw [hX, ← hkb]; exact heap_alloc_new X0 _
              rw [← hX, hkb]
              have HX1 := hide (below_step HX0.out hb2)
              clear hX hb2 hkb c1 c2 s1
              obtain ⟨c1, c2⟩ := HSr.out _ HX1.out
              have s1 := HSE.out _ HX1.out
              refine hK.out _ _ (by first | with_reducible exact ⟨c1, c2⟩ | (dsimp only; with_reducible exact ⟨c1, c2⟩) | exact ⟨cell_other c1 hne8, cell_other c2 hne8⟩) (fun hHeld => ?_)
              clear hK K
              try simp only [Act.put, List.getElem_toArray, List.getElem_cons_zero, List.getElem_cons_succ, List.setIfInBounds_toArray, List.set_cons_zero, List.set_cons_succ]
              refine wpAnyH_ready (rs := [1]) (by kernel_rfl) (by simp) ?_
              refine AllReadyH.cons rfl (fun K hK => ?_) ?_
              · clear hHeld
                go_simp
                refine hK.out _ _ (by first | with_reducible exact ⟨c1, c2⟩ | (dsimp only; with_reducible exact ⟨c1, c2⟩) | exact ⟨cell_other c1 hne8, cell_other c2 hne8⟩) (fun hHeld => ?_)
                clear hK K
                try simp only [Act.put, List.getElem_toArray, List.getElem_cons_zero, List.getElem_cons_succ, List.setIfInBounds_toArray, List.set_cons_zero, List.set_cons_succ]
                refine wpAnyH_ready (rs := [12]) (by kernel_rfl) (by simp) ?_
                refine AllReadyH.cons rfl (fun K hK => ?_) ?_
                · clear hHeld
                  obtain ⟨p5, c5, X2, e4, s3, x3, y3, g3, r3⟩ := APP.out X1 kb HX1.out HL1.out
                  have HG := hide g3
                  have HR := hide r3
                  clear c1 c2 s1
                  obtain ⟨c1, c2⟩ := s3
                  refine step_run_append (by rfl) (.tmp 35) (.tmp 45) 22 (by rfl) 22 (by rfl) (.slice pl0 k cl0) (.slice (some ⟨kb, 0, none⟩) 1 1) (.slice p5 (k + 1) c5) X2 (by rfl) (by rfl) ?_ ?_
                  with_reducible exact e4
                  clear g3 r3 e4
                  refine hK.out _ _ (by first | with_reducible exact ⟨c1, c2⟩ | (dsimp only; with_reducible exact ⟨c1, c2⟩) | exact ⟨cell_other c1 hne8, cell_other c2 hne8⟩) (fun hHeld => ?_)
                  clear hK K
                  try simp only [Act.put, List.getElem_toArray, List.getElem_cons_zero, List.getElem_cons_succ, List.setIfInBounds_toArray, List.set_cons_zero, List.set_cons_succ]
                  refine wpAnyH_take (i := 13) (v := ?v23) rfl (by kernel_rfl) (by kernel_rfl) (by kernel_rfl) (fun _ _ _ h => h) (Or.inl ⟨by rfl, ?hy23⟩) (by assumption) ?rest23
                  case hy23 => (intro w hSw; (try dsimp only at hSw); go_simp; try with_reducible rfl)
                  try simp only [Act.put, List.getElem_toArray, List.getElem_cons_zero, List.getElem_cons_succ, List.setIfInBounds_toArray, List.set_cons_zero, List.set_cons_succ]
                  refine wpAnyH_ready (rs := [14]) (by kernel_rfl) (by simp) ?_
                  refine AllReadyH.cons rfl (fun K hK => ?_) ?_
                  · clear hHeld
                    go_simp
                    clear x3 y3
                    refine hK.out _ _ (by first | with_reducible exact ⟨c1, c2⟩ | (dsimp only; with_reducible exact ⟨c1, c2⟩) | exact ⟨cell_other c1 hne8, cell_other c2 hne8⟩) (fun hHeld => ?_)
                    clear hK K
                    try simp only [Act.put, List.getElem_toArray, List.getElem_cons_zero, List.getElem_cons_succ, List.setIfInBounds_toArray, List.set_cons_zero, List.set_cons_succ]
                    refine wpAnyH_done (by kernel_rfl) ?_ _
                    clear hHeld
                    obtain ⟨Y, hY⟩ : ∃ Z, Z = X2.setCell ⟨k5, 1, none⟩ (.slice p5 (k + 1) c5) := ⟨_, rfl⟩
                    rw [← hY] at HG HR
                    rw [← hY]
                    clear hY c1 c2
                    go_wp2_with fail
                    go_meet
                    exact ⟨rfl, _, _, HG.out, HR.out.1, HR.out.2⟩
                  exact AllReadyH.nil
                exact AllReadyH.nil
              exact AllReadyH.nil
            exact AllReadyH.nil
          exact AllReadyH.nil
        exact AllReadyH.nil
      case rest =>
        obtain ⟨rfl, p5, c5, hN, hB, u0⟩ := hcut
        have HN5 := hide hN
        have HB5 := hide hB
        clear hN hB APP HSE HSr CN
        have hlk : ((eids G.es).take k).length = k := by rw [List.length_take, eids_length]; omega
        obtain ⟨p7, c7, D, e7, o7, g7⟩ := push_int (x := x.id) HN5.out.ids (by have := HB5.out.size; have := HK2.out; omega) (by rw [hlk]; omega)
        rw [hlk] at e7 o7
        have hf7 : Frame wc D (fun i => (Value.slice pi k ci).ownBlock = some i) := Frame.grown g7 (fun i e => e)
        have HN7 := hide (HN5.out.id hf7 o7)
        have HB7 : Hid (Below w.heap.size w D) := frame_of HB5.out (Below.refl _ _) hf7 (fun i hi => by
          have := (World.ownsRow.lt HN5.out.ids i hi).1
          have := HK2.out
          omega)
        rw [← HID.out] at HN7
        clear hlk o7 g7 hf7 HN5 HB5 HID
        go_wp2_with (at_builtin; refine wpList_run_append rfl (.tmp 48) (.tmp 51) 38 rfl 38 rfl _ _ _ D rfl rfl e7 ?_)
        go_roundw
        case rel => exact ⟨k + 1, _, _, _, by omega, rfl, by go_num, HB7.out, HN7.out⟩
        case measure => simp [intOf]; omega
    · have hke : G.es.length = k := by omega
      obtain ⟨pl0, cl0, hve, _⟩ := HNr.out.row.form
      rw [rNet_length] at hve
      subst hve
      have e1 : ¬ (k : Int) < G.es.length := by omega
      go_upto_region 9 with fail
      obtain ⟨X0, hX0⟩ : ∃ V, V = wr.drew := ⟨_, rfl⟩
      have HX0 : Hid (Below wr.heap.size wr X0) := by show Below _ _ _; rw [hX0]; exact below_drew _
      have HN0 := hide (HNr.out.later HX0.out)
      have HB0 := hide (below_step HBr.out HX0.out)
      obtain ⟨v9, D, e9, o9, g9⟩ := append_ints (IOwns.nil X0 X0.heap.size) pn cn G.ns HZ.out.1 (HRI.out.later HX0.out) (Nat.le_refl _) (by simp; omega)
      rw [List.nil_append] at o9
      obtain ⟨p9, c9, rfl, hi9, _⟩ := o9.form
      have HBD : Hid (Below X0.heap.size X0 D) := ⟨g9.os, g9.tape, g9.output, g9.size, fun i hi => g9.block i hi (by simp [Value.ownBlock])⟩
      have HNL := hide (HN0.out.later HBD.out)
      have HBL := hide (below_step HB0.out HBD.out)
      have HSL : Hid (∀ U, Below X0.heap.size X0 U → U.cell? ⟨k5, 0, none⟩ = some (.int .i64 G.ns.length) ∧ U.cell? ⟨k5, 1, none⟩ = some (.slice pl0 k cl0) ∧ U.cell? ⟨b, 0, none⟩ = some (.slice pn G.ns.length cn)) := fun U hU => ⟨World.ownsRow.cellAt (HN0.out.later hU).b5 0 (by omega), World.ownsRow.cellAt (HN0.out.later hU).b5 1 (by omega), (HQ.out _ (below_step HB0.out hU)).1⟩
      have hn5 : k5 ≠ k2 := Ne.symm HNL.out.ne
      have hnb : b ≠ k2 := by have := HK2.out; omega
      have HND : Hid (NOwn D k2 0 none 0 0) := ⟨World.ownsRow.cellAt HNL.out.b2 0 (by omega), World.ownsRow.cellAt HNL.out.b2 1 (by omega), World.ownsRow.frozenAt HNL.out.b2 0, World.ownsRow.frozenAt HNL.out.b2 1⟩
      have hlk : ((eids G.es).take k) = eids G.es := by rw [List.take_of_length_le]; rw [eids_length]; omega
      have HFIN : Hid (∀ Y, Frame D Y (fun i => i = k2) → NetPost G w (Ending.returned (.tuple #[nv G.ns.length pl0 k cl0, .slice p9 G.ns.length c9, .slice pi k ci])) Y) := fun Y hY => by
        have h1 : Owns Y k2 (.slice pl0 k cl0) (rNet G k) := hY.row HNL.out.row (fun i e h2 => by subst h2; exact apart HNL.out.row HNL.out.b2 (by decide) e rfl)
        have h3 : IOwns Y k2 (.slice pi k ci) ((eids G.es).take k) := hY.row HNL.out.ids (fun i e h2 => by subst h2; exact apart HNL.out.ids HNL.out.b2 (by decide) e rfl)
        have h5 : IOwns Y X0.heap.size (.slice p9 G.ns.length c9) G.ns := hY.row o9 (fun i e h2 => by
          have := (World.ownsRow.lt o9 i e).1
          have := own_lt HN0.out.b2 (i := k2) rfl
          omega)
        obtain ⟨q1, q2, q3, q4, _⟩ := h1.form
        rw [rNet_length] at q3
        simp only [Value.slice.injEq, true_and] at q3
        obtain ⟨rfl, rfl⟩ := q3
        rw [hlk] at h3
        rw [← hke, rNet_all] at q4
        exact ⟨pl0, cl0, p9, c9, pi, ci, by rw [hke], q4, own_ihas h5, own_ihas h3, frame_of HBL.out (Below.refl _ _) hY (fun i hi => by have := HK2.out; omega)⟩
      refine wp_region_held_drew (S := (fun U => U.cell? ⟨k5, 0, none⟩ = some (.int .i64 G.ns.length) ∧ U.cell? ⟨k5, 1, none⟩ = some (.slice pl0 k cl0) ∧ U.cell? ⟨b, 0, none⟩ = some (.slice pn G.ns.length cn))) (by kernel_rfl) (by rw [← hX0]; exact HSL.out _ (Below.refl _ _)) (fun hHeld => ?_)
      rw [← hX0] at hHeld ⊢
      clear hX0 HNr HBr HRI r0 r1 r3 g9 o9 hi9 hlk
      obtain ⟨s0, s1, s2⟩ := HSL.out _ (Below.refl _ _)
      refine wpAnyH_take (i := 0) (v := ?v1) rfl (by kernel_rfl) (by kernel_rfl) (by kernel_rfl) (fun _ _ _ h => h) (Or.inl ⟨by rfl, ?hy1⟩) (by assumption) ?rest1
      case hy1 => (intro w hSw; (try dsimp only at hSw); go_simp; try with_reducible rfl)
      try simp only [Act.put, List.getElem_toArray, List.getElem_cons_zero, List.setIfInBounds_toArray, List.set_cons_zero, List.set_cons_succ]
      refine wpAnyH_take (i := 1) (v := ?v2) rfl (by kernel_rfl) (by kernel_rfl) (by kernel_rfl) (fun _ _ _ h => h) (Or.inl ⟨by rfl, ?hy2⟩) (by assumption) ?rest2
      case hy2 => (intro w hSw; (try dsimp only at hSw); go_simp; try with_reducible rfl)
      try simp only [Act.put, List.getElem_toArray, List.getElem_cons_zero, List.getElem_cons_succ, List.setIfInBounds_toArray, List.set_cons_zero, List.set_cons_succ]
      refine wpAnyH_take (i := 2) (v := ?v3) rfl (by kernel_rfl) (by kernel_rfl) (by kernel_rfl) (fun _ _ _ h => h) (Or.inl ⟨by rfl, ?hy3⟩) (by assumption) ?rest3
      case hy3 => (intro w hSw; (try dsimp only at hSw); go_simp; try with_reducible rfl)
      try simp only [Act.put, List.getElem_toArray, List.getElem_cons_zero, List.getElem_cons_succ, List.setIfInBounds_toArray, List.set_cons_zero, List.set_cons_succ]
      refine wpAnyH_take (i := 3) (v := ?v4) rfl (by kernel_rfl) (by kernel_rfl) (by kernel_rfl) (fun _ _ _ h => h) (Or.inl ⟨by rfl, ?hy4⟩) (by assumption) ?rest4
      case hy4 => (intro w hSw; (try dsimp only at hSw); go_simp; try with_reducible rfl)
      try simp only [Act.put, List.getElem_toArray, List.getElem_cons_zero, List.getElem_cons_succ, List.setIfInBounds_toArray, List.set_cons_zero, List.set_cons_succ]
      refine wpAnyH_take (i := 4) (v := ?v5) rfl (by kernel_rfl) (by kernel_rfl) (by kernel_rfl) (fun _ _ _ h => h) (Or.inl ⟨by rfl, ?hy5⟩) (by assumption) ?rest5
      case hy5 => (intro w hSw; (try dsimp only at hSw); go_simp; try with_reducible rfl)
      try simp only [Act.put, List.getElem_toArray, List.getElem_cons_zero, List.getElem_cons_succ, List.setIfInBounds_toArray, List.set_cons_zero, List.set_cons_succ]
      refine wpAnyH_take (i := 5) (v := ?v6) rfl (by kernel_rfl) (by kernel_rfl) (by kernel_rfl) (fun _ _ _ h => h) (Or.inl ⟨by rfl, ?hy6⟩) (by assumption) ?rest6
      case hy6 => (intro w hSw; (try dsimp only at hSw); go_simp; try with_reducible rfl)
      try simp only [Act.put, List.getElem_toArray, List.getElem_cons_zero, List.getElem_cons_succ, List.setIfInBounds_toArray, List.set_cons_zero, List.set_cons_succ]
      refine wpAnyH_take (i := 7) (v := ?v7) rfl (by kernel_rfl) (by kernel_rfl) (by kernel_rfl) (fun _ _ _ h => h) (Or.inl ⟨by rfl, ?hy7⟩) (by assumption) ?rest7
      case hy7 => (intro w hSw; (try dsimp only at hSw); go_simp; try with_reducible rfl)
      try simp only [Act.put, List.getElem_toArray, List.getElem_cons_zero, List.getElem_cons_succ, List.setIfInBounds_toArray, List.set_cons_zero, List.set_cons_succ]
      refine wpAnyH_ready (rs := [6]) (by kernel_rfl) (by simp) ?_
      refine ready_cons ({ dst := some 59, op := Op.call { callee := Callee.builtin Builtin.append, args := #[Operand.const (Value.slice none 0 0), Operand.tmp 58], argTypes := #[38, 38] }, type := 38, pos := "ref.go:228", after := #[{ on := 5, ground := Ground.data }], guard := none }) rfl rfl (fun K hK => ?_) ?_
      · clear hHeld
        refine oper_append (.const (.slice none 0 0)) (.tmp 58) 38 (by rfl) 38 (by rfl) (.slice none 0 0) (.slice pn G.ns.length cn) (.slice p9 G.ns.length c9) D (by rfl) (by rfl) ?_ ?_
        with_reducible exact e9
        clear s0 s1 s2
        obtain ⟨s0, s1, s2⟩ := HSL.out _ HBD.out
        refine hK.out _ _ (by first | with_reducible exact ⟨s0, s1, s2⟩ | (dsimp only; with_reducible exact ⟨s0, s1, s2⟩)) (fun hHeld => ?_)
        clear hK K
        try simp only [Act.put, List.setIfInBounds_toArray, List.set_cons_zero, List.set_cons_succ]
        refine wpAnyH_ready (rs := [8]) (by kernel_rfl) (by simp) ?_
        refine AllReadyH.cons rfl (fun K hK => ?_) ?_
        · clear hHeld
          obtain ⟨y0, y1, y2, y3⟩ := HND.out
          go_simp
          clear y0 y1 y2 y3
          obtain ⟨Y, hY⟩ : ∃ Z, Z = (D.setCell ⟨k2, 0, none⟩ (.int .i64 G.ns.length)).setCell ⟨k2, 1, none⟩ (.slice pl0 k cl0) := ⟨_, rfl⟩
          have HF : Hid (Frame D Y (fun i => i = k2)) := by show Frame _ _ _; rw [hY]; exact (Frame.set (p := fun i => i = k2) _ _ _ rfl).trans (Frame.set (p := fun i => i = k2) _ _ _ rfl)
          have kV : Hid (NOwn Y k2 G.ns.length pl0 k cl0) := by show NOwn _ _ _ _ _ _; rw [hY]; exact NOwn.set HND.out _ _ _ _
          have z0 : Y.cell? ⟨k5, 0, none⟩ = some (.int .i64 G.ns.length) := HF.out.cell s0 hn5
          have z1 : Y.cell? ⟨k5, 1, none⟩ = some (.slice pl0 k cl0) := HF.out.cell s1 hn5
          have z2 : Y.cell? ⟨b, 0, none⟩ = some (.slice pn G.ns.length cn) := HF.out.cell s2 hnb
          rw [← hY]
          clear hY s0 s1 s2
          have s0 := z0
          have s1 := z1
          have s2 := z2
          clear z0 z1 z2
          refine hK.out _ _ (by first | with_reducible exact ⟨s0, s1, s2⟩ | (dsimp only; with_reducible exact ⟨s0, s1, s2⟩)) (fun hHeld => ?_)
          clear hK K
          try simp only [Act.put, List.getElem_toArray, List.getElem_cons_zero, List.getElem_cons_succ, List.setIfInBounds_toArray, List.set_cons_zero, List.set_cons_succ]
          refine wpAnyH_take (i := 9) (v := ?v8) rfl (by kernel_rfl) (by kernel_rfl) (by kernel_rfl) (fun _ _ _ h => h) (Or.inl ⟨by rfl, ?hy8⟩) (by assumption) ?rest8
          case hy8 => (intro w hSw; (try dsimp only at hSw); go_simp; try with_reducible rfl)
          try simp only [Act.put, List.getElem_toArray, List.getElem_cons_zero, List.getElem_cons_succ, List.setIfInBounds_toArray, List.set_cons_zero, List.set_cons_succ]
          refine wpAnyH_take (i := 10) (v := ?v9) rfl (by kernel_rfl) (by kernel_rfl) (by kernel_rfl) (fun _ _ _ h => h) (Or.inl ⟨by rfl, ?hy9⟩) (by assumption) ?rest9
          case hy9 => (intro w hSw; (try dsimp only at hSw); go_simp; try with_reducible rfl)
          try simp only [Act.put, List.getElem_toArray, List.getElem_cons_zero, List.getElem_cons_succ, List.setIfInBounds_toArray, List.set_cons_zero, List.set_cons_succ]
          refine wpAnyH_done (by kernel_rfl) ?_ _
          clear hHeld
          clear s0 s1 s2
          go_wp2_with fail
          exact bodyPost_ret (ret_net3 Try.results47 rfl rfl rfl kV.out) rfl (HFIN.out Y HF.out)
        exact AllReadyH.nil
      exact AllReadyH.nil
end Go.Proofs.Ytgfiofogcnnkhaa
