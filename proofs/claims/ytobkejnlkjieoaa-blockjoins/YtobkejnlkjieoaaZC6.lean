/- outs: of all nodes the half-edges, in one room. -/
import Derived.Test.YtobkejnlkjieoaaZC12
import Derived.Test.YtobkejnlkjieoaaZC13
import Derived.BigRegion
namespace Go.Proofs.Ytobkejnlkjieoaa
open Go.RowKit Go.Sort
open Go
theorem oper_make {P : Program} (w : World) {o : Oper} {a : Act} {K : Act → World → Prop} {Q : Exit → Act → World → Prop} (l c : Operand) (t : TypeId) (hop : o.op = Op.makeSlice t l c)
    (base : Nat) (e : TypeId) (i : TypeInfo) (z : Value) (size : Nat) (h1 : P.underlying t = some (.slice e)) (h2 : P.info? e = some i) (h3 : i.zero = some z) (h4 : i.size = size)
    (kl kc : IntKind) (L C : Int) (n : Nat) (hl : a.eval l = .int kl L) (hc : a.eval c = .int kc C) (hL : L = (n : Int)) (hC : C = (n : Int)) (b2 : i.bytes * n ≤ 281474976710656) (b3 : n ≤ maxLen) (b4 : base ≤ w.heap.size)
    (hK : ∀ w', w'.ownsRow base e size (.slice (some ⟨w.heap.size, 0, none⟩) n n) n (madeCells z.cells (n * size)).toList → w.grownBy w' none → K (a.put o.dst (.slice (some ⟨w.heap.size, 0, none⟩) n n)) w') : Oper.wp P o a w K Q := by
  obtain ⟨w', hrun, r1, r2⟩ := run_make_full (P := P) w base t e i z size h1 h2 h3 h4 kl kc n b2 b3 b4
  subst hL
  subst hC
  unfold Oper.wp
  simp [execOp, hop, hl, hc, hrun, Result.andThen]
  exact hK w' r1 r2
/-- How many half-edges leave each node, so many looked at. -/
def cntL (n : Nat) (es : List Pt) (h : Nat) : List Int := fnL n fun v => ((odH es h v : Nat) : Int)
theorem cntL_zero (n : Nat) (es : List Pt) : cntL n es 0 = List.replicate n 0 := by
  unfold cntL fnL
  apply List.ext_getElem
  · simp
  intro i h1 h2
  simp [odH, outL_zero]
theorem cntL_more {n : Nat} {es : List Pt} {h x : Nat} (hx : fromL es h = x) (hxn : x < n) : (cntL n es h).set x ((odH es h x : Int) + 1) = cntL n es (h + 1) := by
  unfold cntL
  rw [fnL_set _ hxn, dg_more hx]
  congr 1
  funext v
  unfold upd
  split
  · rename_i e; subst e; omega
  · rfl
/-- A half-edge is appended where there is room. -/
theorem OR.app {n : Nat} {es : List Pt} (hm : netB n es = true) {w : World} {B g gr h k : Nat} {X : List Int} (o : OR w B g gr n es h X) {x : Nat} (hx : fromL es h = x) (hxn : x < n) (hl : h < 2 * es.length) (hk : w.cell? ⟨k, 0, none⟩ = some (.int .i64 (h : Nat))) :
    (Builtin.append_ #[32, 32] 32 #[rvB es gr h x, .slice (some ⟨k, 0, none⟩) 1 1]).run Try.prog w = .ok (.slice (some ⟨gr, ovB es x, none⟩) (odH es h x + 1) (odH es (2 * es.length) x)) (w.setCell ⟨gr, ovB es x + odH es h x, none⟩ (.int .i64 (h : Nat))) := by
  obtain ⟨j0, hj0, jz0, jz1, jz2⟩ := info_parts info3
  have hd := dg_more hx
  have hle : odH es h x + 1 ≤ odH es (2 * es.length) x := by
    have := dg_le es (show h + 1 ≤ 2 * es.length from hl) x
    rw [hd, upd_same] at this
    exact this
  have htot : offB es x + odH es (2 * es.length) x ≤ 2 * es.length := by
    have := off_le hm (show x + 1 ≤ n from hxn)
    rw [off_next] at this
    exact this
  have hov : ovB es x = offB es x := ov_in hm hxn (by omega)
  obtain ⟨c0, c1⟩ := o.room.cell (show ovB es x + odH es h x < 2 * es.length by omega)
  have q := run_append_room_cells (P := Try.prog) w 32 32 3 j0 Try.underlying32 hj0 gr (ovB es x) (odH es h x) (odH es (2 * es.length) x) ⟨k, 0, none⟩ 1 1 [.int .i64 (h : Nat)] (by rw [jz1]; rfl) (fun j u hj => by
    cases j with
    | zero => simp at hj; subst hj; exact hk
    | succ k => simp at hj) (by simp [Value.oneCell']) hle (fun j hj => by
      have : j = 0 := by simpa using hj
      subst this
      rw [jz1, Nat.mul_one, Nat.add_zero, c0]
      rfl) (fun j hj => by
      have : j = 0 := by simpa using hj
      subst this
      rw [jz1, Nat.mul_one, Nat.add_zero]
      exact c1)
  rw [jz1, Nat.mul_one] at q
  exact q
set_option maxRecDepth 100000 in
set_option maxHeartbeats 16000000 in
theorem outs69 (m : Nat) (p : Option Addr) (es : List Pt) (cp : Nat) (w : World) (h : Has w p es) (hm : netB m es = true) : Calls Try.prog 69 #[nv m p es.length cp] w fun e w' => ∃ g gr X, e = .returned (.slice (some ⟨g, 0, none⟩) m m) ∧ OR w' w.heap.size g gr m es (2 * es.length) X ∧ Below w.heap.size w w' := by
  obtain ⟨W, hW, hb, a0⟩ := one_net w m p es.length cp
  obtain ⟨n0, n1, hes, hE⟩ := netB_is hm
  have HM := hide hm
  have HEE := hide hE
  have HH := hide (h.later hb)
  have HB := hide hb
  have HA := hide a0
  have hws : w.heap.size < W.heap.size := block_lt_of_cell a0.1
  have hWs : W.heap.size = w.heap.size + 1 := by rw [hW]; simp
  have HSZ : Hid (w.heap.size ≤ W.heap.size) := Nat.le_of_lt hws
  obtain ⟨q0, q1, _, _⟩ := a0
  clear h hb hE hm
  obtain ⟨i0, hi0, hz0, hz1, hz2⟩ := info_parts info41
  obtain ⟨j0, hj0, jz0, jz1, jz2⟩ := info_parts info3
  go_enter Try.func69, Try.ntmps69
  go_wp2_with (refine wpList_make_full _ rfl (.tmp 15) (.tmp 15) 32 rfl w.heap.size 3 j0 (.int .i64 0) 1 Try.underlying32 hj0 jz0 jz1 .i64 .i64 _ _ m rfl rfl rfl rfl ?c1 ?c2 ?c3 ?_)
  case c1 => rw [jz2]; omega
  case c2 => unfold maxLen; omega
  case c3 => simp
  intro w2 hown hgrow
  have hgrow' : W.grownBy w2 none := by rw [hW]; exact hgrow
  obtain ⟨gc, hgc⟩ : ∃ g, w.heap.size + 1 = g := ⟨_, rfl⟩
  have hb2 := below_made hgrow'
  have HC2 : Hid (IRow w2 w.heap.size gc m (cntL m es 0)) := by
    show IRow _ _ _ _ _
    rw [cntL_zero, ← hgc]
    exact irow_made (by simpa using hown)
  have HB2 := hide hb2
  have HGE : Hid (W.heap.size ≤ gc) := by show _ ≤ _; omega
  try rw [hgc]
  clear hown hgrow hgrow' hW hWs q0 q1 hgc
  obtain ⟨kb, hkb⟩ : ∃ kb, w.heap.size = kb := ⟨_, rfl⟩
  have HS : Hid (∀ V, Below W.heap.size W V → V.cell? ⟨kb, 0, none⟩ = some (.int .i64 m) ∧ V.cell? ⟨kb, 1, none⟩ = some (.slice p es.length cp)) := fun V hV => by
    obtain ⟨r0, r1, _, _⟩ := HA.out.later hV
    rw [hkb] at r0 r1
    exact ⟨r0, r1⟩
  have HKB := hide hkb
  obtain ⟨q0, q1⟩ := HS.out _ hb2
  rw [hkb]
  clear hb2 hkb
  go_wp2_with fail
  go_loopw [20] (fun t wr => ∃ i : Nat, i ≤ es.length ∧ t = .int .i64 i ∧ Hid (Below W.heap.size W wr) ∧ Hid (IRow wr w.heap.size gc m (cntL m es (2 * i)))) (fun t _ => es.length - (intOf t).toNat)
  case atStart => exact ⟨0, by omega, rfl, HB2.out, HC2.out⟩
  case round =>
    clear q0 q1 HB2 HC2
    obtain ⟨i, hi, rfl, HBr, HC⟩ := hrel
    by_cases hlt : i < es.length
    · obtain ⟨f0, f1, f2, f3⟩ := HEE.out i hlt
      have hq : ∃ b off, p = some ⟨b, off, none⟩ ∧ Lies W b off es := by
        rcases HH.out with h0 | h0
        · subst h0; simp at hlt
        · exact h0
      obtain ⟨b, off, rfl, hLW⟩ := hq
      obtain ⟨c0, c1⟩ := hLW.later HBr.out i hlt
      have i1 : (i : Int) < es.length := by omega
      have i2 : (0 : Int) ≤ i := by omega
      have nb : b < wr.heap.size := block_lt_of_cell c0
      obtain ⟨x, hx⟩ : ∃ x : Nat, (at' es i).x = x := ⟨(at' es i).x.toNat, by omega⟩
      obtain ⟨y, hy⟩ : ∃ y : Nat, (at' es i).y = y := ⟨(at' es i).y.toNat, by omega⟩
      have hxm : x < m := by omega
      have hym : y < m := by omega
      have hfx : fromL es (2 * i) = x := by unfold fromL; rw [if_pos (by omega), show 2 * i / 2 = i by omega, hx]
      have hfy : fromL es (2 * i + 1) = y := by unfold fromL; rw [if_neg (by omega), show (2 * i + 1) / 2 = i by omega, hy]
      rw [hx] at c0
      rw [hy] at c1
      have hx1 : odH es (2 * i) x ≤ 6144 := by have : odH es (2 * i) x ≤ 2 * i := outL_length es (2 * i) x; omega
      have hy1 : odH es (2 * i + 1) y ≤ 6145 := by have : odH es (2 * i + 1) y ≤ 2 * i + 1 := outL_length es (2 * i + 1) y; omega
      obtain ⟨V, hV⟩ : ∃ V, V = wr.alloc (.cells #[.int .i64 x, .int .i64 y] 56) := ⟨_, rfl⟩
      obtain ⟨kv, hkv⟩ : ∃ kv, wr.heap.size = kv := ⟨_, rfl⟩
      have hbV : Below wr.heap.size wr V := by rw [hV]; go_grown
      have l0 : V.cell? ⟨kv, 0, none⟩ = some (.int .i64 x) := by rw [hV, ← hkv]; go_cell
      have l1 : V.cell? ⟨kv, 1, none⟩ = some (.int .i64 y) := by rw [hV, ← hkv]; go_cell
      have HCV := hide (HC.out.later hbV)
      have HBV := hide (below_step HBr.out hbV)
      have hck : gc ≠ kv := by have := HC.out.lt.2; omega
      obtain ⟨d0, d1⟩ := HCV.out.cell hxm
      rw [show iat (cntL m es (2 * i)) x = ((odH es (2 * i) x : Nat) : Int) from fnL_at _ hxm] at d0
      have HC1 : Hid (IRow (V.setCell ⟨gc, x, none⟩ (.int .i64 ((odH es (2 * i) x : Int) + 1))) w.heap.size gc m (cntL m es (2 * i + 1))) := by
        have := HCV.out.set x ((odH es (2 * i) x : Int) + 1)
        rw [cntL_more hfx hxm] at this
        exact this
      obtain ⟨U, hU⟩ : ∃ U, U = V.setCell ⟨gc, x, none⟩ (.int .i64 ((odH es (2 * i) x : Int) + 1)) := ⟨_, rfl⟩
      rw [← hU] at HC1
      have HC2 : Hid (IRow (U.setCell ⟨gc, y, none⟩ (.int .i64 ((odH es (2 * i + 1) y : Int) + 1))) w.heap.size gc m (cntL m es (2 * (i + 1)))) := by
        have := HC1.out.set y ((odH es (2 * i + 1) y : Int) + 1)
        rw [cntL_more hfy hym] at this
        exact this
      have hwg : W.heap.size ≤ gc := HGE.out
      have HB2 : Hid (Below W.heap.size W (U.setCell ⟨gc, y, none⟩ (.int .i64 ((odH es (2 * i + 1) y : Int) + 1)))) := by
        show Below _ _ _
        rw [hU]
        exact (HBV.out.setCell (p := ⟨gc, x, none⟩) hwg _).setCell (p := ⟨gc, y, none⟩) hwg _
      obtain ⟨e0, e1⟩ := HC1.out.cell hym
      rw [show iat (cntL m es (2 * i + 1)) y = ((odH es (2 * i + 1) y : Nat) : Int) from fnL_at _ hym] at e0
      have u1 : U.cell? ⟨kv, 1, none⟩ = some (.int .i64 y) := by rw [hU]; exact other1' l1 (Ne.symm hck)
      obtain ⟨cx, hcx⟩ : ∃ c, odH es (2 * i) x = c := ⟨_, rfl⟩
      obtain ⟨cy, hcy⟩ : ∃ c, odH es (2 * i + 1) y = c := ⟨_, rfl⟩
      rw [hcx] at d0 hx1 hU
      rw [hcy] at e0 hy1 HC2 HB2
      have j1 : (x : Int) < m := by omega
      have j2 : (0 : Int) ≤ x := by omega
      have j3 : (y : Int) < m := by omega
      have j4 : (0 : Int) ≤ y := by omega
      clear hfx hfy hx hy f0 f1 f2 f3 hcx hcy HC HBr HCV HBV HC1 hwg
      go_upto_region 5 with fail
      try rw [hkv]
      rw [← hV]
      clear hV hbV hkv c0 c1 nb
      go_upto_region 6 with fail
      rw [← hU]
      clear hU l0 l1 d0 d1
      go_wp2
      go_roundw
      case rel => exact ⟨i + 1, by omega, by go_num, HB2.out, HC2.out⟩
      case measure => simp [intOf]; omega
    · have hin : i = es.length := by omega
      have hlt' : ¬ (i : Int) < es.length := by omega
      rw [hin] at HC
      clear hin hlt
      obtain ⟨q1, q2⟩ := HS.out _ HBr.out
      go_upto_region 8 with fail
      clear hlt' hi
      have hwrap : IntKind.i64.wrap (2 * (es.length : Int)) = 2 * (es.length : Int) := by rw [IntKind.wrap_i64]; omega
      go_cut [6, 7] (fun s6 s7 wx => ∃ g gr, s6 = .slice (some ⟨g, 0, none⟩) m m ∧ s7 = .slice (some ⟨gr, 0, none⟩) (2 * es.length) (2 * es.length) ∧ Below W.heap.size W wx ∧ IRow wx w.heap.size gc m (cntL m es (2 * es.length)) ∧ wx.ownsRow w.heap.size 32 1 (.slice (some ⟨g, 0, none⟩) m m) m (List.replicate m (.slice none 0 0)) ∧ IRow wx w.heap.size gr (2 * es.length) (List.replicate (2 * es.length) 0) ∧ g ≠ gc ∧ gr ≠ gc ∧ W.heap.size ≤ g ∧ W.heap.size ≤ gr)
      case first =>
        refine wp_region_held_drew (S := (fun V => V.cell? ⟨kb, 0, none⟩ = some (.int .i64 m) ∧ V.cell? ⟨kb, 1, none⟩ = some (.slice p es.length cp))) (by kernel_rfl) (by exact ⟨q1, q2⟩) (fun hHeld => ?_)
        obtain ⟨V0, hV0⟩ : ∃ V, V = wr.drew := ⟨_, rfl⟩
        have HB0 : Hid (Below W.heap.size W V0) := by show Below _ _ _; rw [hV0]; exact below_step HBr.out (below_drew _)
        have HC0 : Hid (IRow V0 w.heap.size gc m (cntL m es (2 * es.length))) := by show IRow _ _ _ _ _; rw [hV0]; exact HC.out.later (below_drew _)
        rw [← hV0] at hHeld ⊢
        clear hV0 q1 q2 HC HBr
        obtain ⟨q1, q2⟩ := HS.out _ HB0.out
        refine wpAnyH_take (i := 0) (v := ?v1) rfl (by kernel_rfl) (by kernel_rfl) (by kernel_rfl) (fun _ _ _ h => h) (Or.inl ⟨by rfl, ?hy1⟩) (by assumption) ?rest1
        case hy1 => (intro w hSw; (try dsimp only at hSw); go_simp; try with_reducible rfl)
        try simp only [Act.put, List.getElem_toArray, List.getElem_cons_zero, List.setIfInBounds_toArray, List.set_cons_zero, List.set_cons_succ]
        refine wpAnyH_take (i := 1) (v := ?v2) rfl (by kernel_rfl) (by kernel_rfl) (by kernel_rfl) (fun _ _ _ h => h) (Or.inl ⟨by rfl, ?hy2⟩) (by assumption) ?rest2
        case hy2 => (intro w hSw; (try dsimp only at hSw); go_simp; try with_reducible rfl)
        try simp only [Act.put, List.getElem_toArray, List.getElem_cons_zero, List.getElem_cons_succ, List.setIfInBounds_toArray, List.set_cons_zero, List.set_cons_succ]
        refine wpAnyH_take (i := 3) (v := ?v3) rfl (by kernel_rfl) (by kernel_rfl) (by kernel_rfl) (fun _ _ _ h => h) (Or.inl ⟨by rfl, ?hy3⟩) (by assumption) ?rest3
        case hy3 => (intro w hSw; (try dsimp only at hSw); go_simp; try with_reducible rfl)
        try simp only [Act.put, List.getElem_toArray, List.getElem_cons_zero, List.getElem_cons_succ, List.setIfInBounds_toArray, List.set_cons_zero, List.set_cons_succ]
        refine wpAnyH_take (i := 4) (v := ?v4) rfl (by kernel_rfl) (by kernel_rfl) (by kernel_rfl) (fun _ _ _ h => h) (Or.inl ⟨by rfl, ?hy4⟩) (by assumption) ?rest4
        case hy4 => (intro w hSw; (try dsimp only at hSw); go_simp; try with_reducible rfl)
        try simp only [Act.put, List.getElem_toArray, List.getElem_cons_zero, List.getElem_cons_succ, List.setIfInBounds_toArray, List.set_cons_zero, List.set_cons_succ]
        refine wpAnyH_take (i := 5) (v := ?v5) rfl (by kernel_rfl) (by kernel_rfl) (by kernel_rfl) (fun _ _ _ h => h) (Or.inl ⟨by rfl, ?hy5⟩) (by assumption) ?rest5
        case hy5 => (intro w hSw; (try dsimp only at hSw); go_simp; try with_reducible rfl)
        try simp only [Act.put, List.getElem_toArray, List.getElem_cons_zero, List.getElem_cons_succ, List.setIfInBounds_toArray, List.set_cons_zero, List.set_cons_succ]
        refine wpAnyH_take (i := 6) (v := ?v6) rfl (by kernel_rfl) (by kernel_rfl) (by kernel_rfl) (fun _ _ _ h => h) (Or.inl ⟨by rfl, ?hy6⟩) (by assumption) ?rest6
        case hy6 => (intro w hSw; (try dsimp only at hSw); go_simp; try with_reducible rfl)
        try simp only [Act.put, List.getElem_toArray, List.getElem_cons_zero, List.getElem_cons_succ, List.setIfInBounds_toArray, List.set_cons_zero, List.set_cons_succ]
        refine wpAnyH_ready (rs := [2, 7]) (by kernel_rfl) (by simp) ?_
        refine ready_cons ({ dst := some 41, op := Op.makeSlice 29 (.tmp 40) (.tmp 40), type := 29, pos := "block.go:124", after := #[{ on := 1, ground := Ground.data }, { on := 1, ground := Ground.data }], guard := none }) rfl rfl (fun K hK => ?_) ?_
        · clear hHeld
          refine oper_make V0 (.tmp 40) (.tmp 40) 29 (by rfl) w.heap.size 32 i0 (.slice none 0 0) 1 Try.underlying29 hi0 hz0 hz1 .i64 .i64 (m : Int) (m : Int) m (by rfl) (by rfl) rfl rfl (by rw [hz2]; omega) (by unfold maxLen; omega) (by have := HB0.out.size; have := HSZ.out; omega) ?_
          intro V1 hown hgrow
          obtain ⟨g, hg⟩ : ∃ g, V0.heap.size = g := ⟨_, rfl⟩
          have hb2 := below_made hgrow
          have HG1 : Hid (V1.ownsRow w.heap.size 32 1 (.slice (some ⟨g, 0, none⟩) m m) m (List.replicate m (.slice none 0 0))) := by show World.ownsRow _ _ _ _ _ _ _; rw [hg, Nat.mul_one, show (Value.slice none 0 0).cells = #[.slice none 0 0] from rfl, toList_madeCells_one] at hown; exact hown
          have HB1 := hide (below_step HB0.out hb2)
          have HWG : Hid (W.heap.size ≤ g) := by show _ ≤ _; have := HB0.out.size; omega
          have HNG : Hid (g ≠ gc) := by show _ ≠ _; have := HC0.out.lt; omega
          have HC1 := hide (HC0.out.later hb2)
          rw [hg]
          clear hown hgrow hb2 hg q1 q2
          obtain ⟨q1, q2⟩ := HS.out _ HB1.out
          refine hK.out _ _ (by first | with_reducible exact ⟨q1, q2⟩ | (dsimp only; with_reducible exact ⟨q1, q2⟩)) (fun hHeld => ?_)
          clear hK K
          try simp only [Act.put, List.setIfInBounds_toArray, List.set_cons_zero, List.set_cons_succ]
          refine wpAnyH_take (i := 8) (v := ?v7) rfl (by kernel_rfl) (by kernel_rfl) (by kernel_rfl) (fun _ _ _ h => h) (Or.inl ⟨by rfl, ?hy7⟩) (by assumption) ?rest7
          case hy7 => (intro w hSw; (try dsimp only at hSw); go_simp; try with_reducible rfl)
          try simp only [Act.put, List.getElem_toArray, List.getElem_cons_zero, List.getElem_cons_succ, List.setIfInBounds_toArray, List.set_cons_zero, List.set_cons_succ]
          refine wpAnyH_ready (rs := [7]) (by kernel_rfl) (by simp) ?_
          refine ready_cons ({ dst := some 46, op := Op.makeSlice 32 (.tmp 45) (.tmp 45), type := 32, pos := "block.go:124", after := #[{ on := 6, ground := Ground.data }, { on := 6, ground := Ground.data }], guard := none }) rfl rfl (fun K hK => ?_) ?_
          · clear hHeld
            refine oper_make V1 (.tmp 45) (.tmp 45) 32 (by rfl) w.heap.size 3 j0 (.int .i64 0) 1 Try.underlying32 hj0 jz0 jz1 .i64 .i64 (2 * (es.length : Int)) (2 * (es.length : Int)) (2 * es.length) (by rfl) (by rfl) (by omega) (by omega) (by rw [jz2]; omega) (by unfold maxLen; omega) (by have := HB1.out.size; have := HSZ.out; omega) ?_
            intro V2 hown hgrow
            obtain ⟨gr, hgr⟩ : ∃ g, V1.heap.size = g := ⟨_, rfl⟩
            have hb2 := below_made hgrow
            have HR2 : Hid (IRow V2 w.heap.size gr (2 * es.length) (List.replicate (2 * es.length) 0)) := by show IRow _ _ _ _ _; rw [hgr, Nat.mul_one, show (Value.int .i64 0).cells = #[.int .i64 0] from rfl] at hown; exact irow_made hown
            have HB2 := hide (below_step HB1.out hb2)
            have HWR : Hid (W.heap.size ≤ gr) := by show _ ≤ _; have := HB1.out.size; omega
            have HNR : Hid (gr ≠ gc) := by show _ ≠ _; have := HC1.out.lt; omega
            have HC2 := hide (HC1.out.later hb2)
            have HG2 : Hid (V2.ownsRow w.heap.size 32 1 (.slice (some ⟨g, 0, none⟩) m m) m (List.replicate m (.slice none 0 0))) := World.ownsRow.kept HG1.out (grown_below hb2) (Or.inr (by simp [Value.ownBlock]))
            rw [hgr]
            clear hown hgrow hb2 hgr q1 q2
            obtain ⟨q1, q2⟩ := HS.out _ HB2.out
            refine hK.out _ _ (by first | with_reducible exact ⟨q1, q2⟩ | (dsimp only; with_reducible exact ⟨q1, q2⟩)) (fun hHeld => ?_)
            clear hK K
            try simp only [Act.put, List.setIfInBounds_toArray, List.set_cons_zero, List.set_cons_succ]
            refine wpAnyH_take (i := 9) (v := ?v8) rfl (by kernel_rfl) (by kernel_rfl) (by kernel_rfl) (fun _ _ _ h => h) (Or.inl ⟨by rfl, ?hy8⟩) (by assumption) ?rest8
            case hy8 => (intro w hSw; (try dsimp only at hSw); go_simp; try with_reducible rfl)
            try simp only [Act.put, List.getElem_toArray, List.getElem_cons_zero, List.getElem_cons_succ, List.setIfInBounds_toArray, List.set_cons_zero, List.set_cons_succ]
            refine wpAnyH_done (by kernel_rfl) ?_ _
            clear hHeld
            go_wp2_with fail
            go_meet
            exact ⟨g, gr, rfl, rfl, HB2.out, HC2.out, HG2.out, HR2.out, HNG.out, HNR.out, HWG.out, HWR.out⟩
          exact AllReadyH.nil
        refine ready_cons ({ dst := some 46, op := Op.makeSlice 32 (.tmp 45) (.tmp 45), type := 32, pos := "block.go:124", after := #[{ on := 6, ground := Ground.data }, { on := 6, ground := Ground.data }], guard := none }) rfl rfl (fun K hK => ?_) ?_
        · clear hHeld
          refine oper_make V0 (.tmp 45) (.tmp 45) 32 (by rfl) w.heap.size 3 j0 (.int .i64 0) 1 Try.underlying32 hj0 jz0 jz1 .i64 .i64 (2 * (es.length : Int)) (2 * (es.length : Int)) (2 * es.length) (by rfl) (by rfl) (by omega) (by omega) (by rw [jz2]; omega) (by unfold maxLen; omega) (by have := HB0.out.size; have := HSZ.out; omega) ?_
          intro V1 hown hgrow
          obtain ⟨gr, hgr⟩ : ∃ g, V0.heap.size = g := ⟨_, rfl⟩
          have hb2 := below_made hgrow
          have HR1 : Hid (IRow V1 w.heap.size gr (2 * es.length) (List.replicate (2 * es.length) 0)) := by show IRow _ _ _ _ _; rw [hgr, Nat.mul_one, show (Value.int .i64 0).cells = #[.int .i64 0] from rfl] at hown; exact irow_made hown
          have HB1 := hide (below_step HB0.out hb2)
          have HWR : Hid (W.heap.size ≤ gr) := by show _ ≤ _; have := HB0.out.size; omega
          have HNR : Hid (gr ≠ gc) := by show _ ≠ _; have := HC0.out.lt; omega
          have HC1 := hide (HC0.out.later hb2)
          rw [hgr]
          clear hown hgrow hb2 hgr q1 q2
          obtain ⟨q1, q2⟩ := HS.out _ HB1.out
          refine hK.out _ _ (by first | with_reducible exact ⟨q1, q2⟩ | (dsimp only; with_reducible exact ⟨q1, q2⟩)) (fun hHeld => ?_)
          clear hK K
          try simp only [Act.put, List.setIfInBounds_toArray, List.set_cons_zero, List.set_cons_succ]
          refine wpAnyH_ready (rs := [2]) (by kernel_rfl) (by simp) ?_
          refine ready_cons ({ dst := some 41, op := Op.makeSlice 29 (.tmp 40) (.tmp 40), type := 29, pos := "block.go:124", after := #[{ on := 1, ground := Ground.data }, { on := 1, ground := Ground.data }], guard := none }) rfl rfl (fun K hK => ?_) ?_
          · clear hHeld
            refine oper_make V1 (.tmp 40) (.tmp 40) 29 (by rfl) w.heap.size 32 i0 (.slice none 0 0) 1 Try.underlying29 hi0 hz0 hz1 .i64 .i64 (m : Int) (m : Int) m (by rfl) (by rfl) rfl rfl (by rw [hz2]; omega) (by unfold maxLen; omega) (by have := HB1.out.size; have := HSZ.out; omega) ?_
            intro V2 hown hgrow
            obtain ⟨g, hg⟩ : ∃ g, V1.heap.size = g := ⟨_, rfl⟩
            have hb2 := below_made hgrow
            have HG2 : Hid (V2.ownsRow w.heap.size 32 1 (.slice (some ⟨g, 0, none⟩) m m) m (List.replicate m (.slice none 0 0))) := by show World.ownsRow _ _ _ _ _ _ _; rw [hg, Nat.mul_one, show (Value.slice none 0 0).cells = #[.slice none 0 0] from rfl, toList_madeCells_one] at hown; exact hown
            have HB2 := hide (below_step HB1.out hb2)
            have HWG : Hid (W.heap.size ≤ g) := by show _ ≤ _; have := HB1.out.size; omega
            have HNG : Hid (g ≠ gc) := by show _ ≠ _; have := HC1.out.lt; omega
            have HC2 := hide (HC1.out.later hb2)
            have HR2 := hide (HR1.out.later hb2)
            rw [hg]
            clear hown hgrow hb2 hg q1 q2
            obtain ⟨q1, q2⟩ := HS.out _ HB2.out
            refine hK.out _ _ (by first | with_reducible exact ⟨q1, q2⟩ | (dsimp only; with_reducible exact ⟨q1, q2⟩)) (fun hHeld => ?_)
            clear hK K
            try simp only [Act.put, List.setIfInBounds_toArray, List.set_cons_zero, List.set_cons_succ]
            refine wpAnyH_take (i := 8) (v := ?v9) rfl (by kernel_rfl) (by kernel_rfl) (by kernel_rfl) (fun _ _ _ h => h) (Or.inl ⟨by rfl, ?hy9⟩) (by assumption) ?rest9
            case hy9 => (intro w hSw; (try dsimp only at hSw); go_simp; try with_reducible rfl)
            try simp only [Act.put, List.getElem_toArray, List.getElem_cons_zero, List.getElem_cons_succ, List.setIfInBounds_toArray, List.set_cons_zero, List.set_cons_succ]
            refine wpAnyH_take (i := 9) (v := ?v10) rfl (by kernel_rfl) (by kernel_rfl) (by kernel_rfl) (fun _ _ _ h => h) (Or.inl ⟨by rfl, ?hy10⟩) (by assumption) ?rest10
            case hy10 => (intro w hSw; (try dsimp only at hSw); go_simp; try with_reducible rfl)
            try simp only [Act.put, List.getElem_toArray, List.getElem_cons_zero, List.getElem_cons_succ, List.setIfInBounds_toArray, List.set_cons_zero, List.set_cons_succ]
            refine wpAnyH_done (by kernel_rfl) ?_ _
            clear hHeld
            go_wp2_with fail
            go_meet
            exact ⟨g, gr, rfl, rfl, HB2.out, HC2.out, HG2.out, HR2.out, HNG.out, HNR.out, HWG.out, HWR.out⟩
          exact AllReadyH.nil
        exact AllReadyH.nil
      case rest =>
        obtain ⟨g, gr, rfl, rfl, hbc, hC, hG, hR, hgc, hrc, hwg, hwr⟩ := hcut
        have HWG : Hid (W.heap.size ≤ g ∧ W.heap.size ≤ gr) := ⟨hwg, hwr⟩
        have HNC : Hid (g ≠ gc ∧ gr ≠ gc ∧ g ≠ gr) := ⟨hgc, hrc, own_ne' hG hR.2 (by decide)⟩
        have HBc := hide hbc
        have HCc := hide hC
        have HGc : Hid (wc.ownsRow w.heap.size 32 1 (.slice (some ⟨g, 0, none⟩) m m) m ((List.range m).map fun u => if u < 0 then rvB es gr 0 u else .slice none 0 0)) := by
          show World.ownsRow _ _ _ _ _ _ _
          rw [show ((List.range m).map fun u => if u < 0 then rvB es gr 0 u else Value.slice none 0 0) = List.replicate m (.slice none 0 0) from by apply List.ext_getElem <;> simp]
          exact hG
        have HRc := hide hR
        clear hbc hC hG hR hgc hrc hwg hwr q1 q2 HC HBr
        go_wp2_with fail
        go_loopw [7, 49] (fun t7 t49 wr => ∃ v : Nat, v ≤ m ∧ t49 = .int .i64 v ∧ t7 = .slice (some ⟨gr, ovB es v, none⟩) (2 * es.length - offB es v) (2 * es.length - offB es v) ∧ Hid (Below W.heap.size W wr) ∧ Hid (IRow wr w.heap.size gc m (cntL m es (2 * es.length))) ∧ Hid (wr.ownsRow w.heap.size 32 1 (.slice (some ⟨g, 0, none⟩) m m) m ((List.range m).map fun u => if u < v then rvB es gr 0 u else .slice none 0 0)) ∧ Hid (IRow wr w.heap.size gr (2 * es.length) (List.replicate (2 * es.length) 0))) (fun _ t _ => m - (intOf t).toNat)
        case atStart => exact ⟨0, by omega, rfl, rfl, HBc.out, HCc.out, HGc.out, HRc.out⟩
        case round =>
          clear HBc HCc HGc HRc
          obtain ⟨v, hv, rfl, rfl, HBr, HC, HG, HR⟩ := hrel
          by_cases hlt : v < m
          · obtain ⟨d0, _⟩ := HC.out.cell hlt
            rw [show iat (cntL m es (2 * es.length)) v = ((odH es (2 * es.length) v : Nat) : Int) from fnL_at _ hlt] at d0
            have hoff := off_le HM.out (show v + 1 ≤ m from hlt)
            rw [off_next] at hoff
            have HOV : Hid (ovB es (v + 1) = if 2 * es.length - offB es v = odH es (2 * es.length) v then ovB es v else ovB es v + odH es (2 * es.length) v) := rfl
            have HON := hide (off_next es v)
            have HRV : Hid (rvB es gr 0 v = .slice (some ⟨gr, ovB es v, none⟩) 0 (odH es (2 * es.length) v)) := rfl
            obtain ⟨d, hd⟩ : ∃ d, odH es (2 * es.length) v = d := ⟨_, rfl⟩
            obtain ⟨o, ho⟩ : ∃ o, ovB es v = o := ⟨_, rfl⟩
            obtain ⟨f, hf⟩ : ∃ f, offB es v = f := ⟨_, rfl⟩
            obtain ⟨r, hr⟩ : ∃ r, 2 * es.length - f = r := ⟨_, rfl⟩
            rw [hd, ho, hf, hr] at HOV
            rw [hd, hf] at HON
            rw [hd, ho] at HRV
            rw [hd] at d0 hoff
            rw [hf] at hoff ⊢
            rw [ho, hr]
            have HRR := hide hr
            have hdr : d ≤ r := by omega
            have hrb : r ≤ 100000 := by omega
            have i1 : (v : Int) < m := by omega
            have i2 : (0 : Int) ≤ v := by omega
            have i3 : (d : Int) ≤ r := by omega
            have i4 : (0 : Int) ≤ d := by omega
            have g0 : wr.cell? ⟨g, v, none⟩ = some (.slice none 0 0) := by
              rw [World.ownsRow.cellAt HG.out v (by omega)]
              simp [hlt]
            have g1 : wr.frozen? ⟨g, v, none⟩ = false := World.ownsRow.frozenAt HG.out v
            clear hd ho hf hr hoff
            go_upto_region 12 with fail
            go_region
            obtain ⟨U, hU⟩ : ∃ U, U = (wr.setCell ⟨g, v, none⟩ (.slice (some ⟨gr, o, none⟩) 0 d)).drew := ⟨_, rfl⟩
            obtain ⟨n1', n2', n3'⟩ := HNC.out
            have HBU : Hid (Below W.heap.size W U) := by
              show Below _ _ _
              rw [hU]
              exact below_step (HBr.out.setCell (p := ⟨g, v, none⟩) HWG.out.1 _) (below_drew _)
            have HCU : Hid (IRow U w.heap.size gc m (cntL m es (2 * es.length))) := by
              show IRow _ _ _ _ _
              rw [hU]
              exact (irow_other HC.out n1' _).later (below_drew _)
            have HRU : Hid (IRow U w.heap.size gr (2 * es.length) (List.replicate (2 * es.length) 0)) := by
              show IRow _ _ _ _ _
              rw [hU]
              exact (irow_other HR.out n3' _).later (below_drew _)
            have HGU : Hid (U.ownsRow w.heap.size 32 1 (.slice (some ⟨g, 0, none⟩) m m) m ((List.range m).map fun u => if u < v + 1 then rvB es gr 0 u else .slice none 0 0)) := by
              show World.ownsRow _ _ _ _ _ _ _
              have q := (World.ownsRow.stored HG.out v (.slice (some ⟨gr, o, none⟩) 0 d)).1
              rw [map_put] at q
              rw [show (fun u => if u < v + 1 then rvB es gr 0 u else Value.slice none 0 0) = upd (fun u => if u < v then rvB es gr 0 u else .slice none 0 0) v (.slice (some ⟨gr, o, none⟩) 0 d) from ?_]
              · rw [hU]
                exact World.ownsRow.kept q (grown_below (below_drew _)) (Or.inr (by simp [Value.ownBlock]))
              funext u
              unfold upd
              by_cases e : u = v
              · rw [if_pos e, if_pos (by omega), e, HRV.out]
              · rw [if_neg e]
                by_cases e2 : u < v
                · rw [if_pos (show u < v + 1 by omega)]; exact (if_pos e2).symm
                · rw [if_neg (show ¬ u < v + 1 by omega)]; exact (if_neg e2).symm
            have HT7 : Hid ((Value.slice (if r = d then some ⟨gr, o, none⟩ else some ⟨gr, o + d, none⟩) (r - d) (r - d)) = .slice (some ⟨gr, ovB es (v + 1), none⟩) (2 * es.length - offB es (v + 1)) (2 * es.length - offB es (v + 1))) := by
              show _ = _
              rw [HON.out, HOV.out, show 2 * es.length - (f + d) = r - d by have := HRR.out; omega]
              by_cases e : r = d
              · rw [if_pos e, if_pos e]
              · rw [if_neg e, if_neg e]
            rw [← hU, HT7.out]
            clear hU d0 g0 g1 HBr HC HG HR HT7 HON HOV HRV HRR
            go_wp2
            go_roundw
            case rel => exact ⟨v + 1, by omega, by go_num, rfl, HBU.out, HCU.out, HGU.out, HRU.out⟩
            case measure => simp [intOf]; omega
          · have hvm : v = m := by omega
            have HO : Hid (∃ X, OR wr w.heap.size g gr m es 0 X) := by
              refine ⟨_, ?_, HR.out, fun u hu j hj => ?_⟩
              · rw [show (List.range m).map (rvB es gr 0) = (List.range m).map fun u => if u < v then rvB es gr 0 u else .slice none 0 0 from ?_]
                · exact HG.out
                refine List.map_congr_left fun u hu => ?_
                rw [if_pos (by have := List.mem_range.1 hu; omega)]
              · have : odH es 0 u = 0 := rfl
                omega
            have hlt' : ¬ (v : Int) < m := by omega
            obtain ⟨q0, q1⟩ := HS.out _ HBr.out
            clear hlt hvm HC HG HR
            go_wp2_with fail
            go_loopw [67] (fun t wr => ∃ i : Nat, i ≤ es.length ∧ t = .int .i64 i ∧ Hid (Below W.heap.size W wr) ∧ Hid (∃ X, OR wr w.heap.size g gr m es (2 * i) X)) (fun t _ => es.length - (intOf t).toNat)
            case atStart => exact ⟨0, by omega, rfl, HBr.out, HO.out⟩
            case round =>
              clear HBr HO q0 q1
              obtain ⟨i, hi, rfl, HBr, HO⟩ := hrel
              by_cases hlt : i < es.length
              · obtain ⟨X, hX⟩ := HO.out
                obtain ⟨f0, f1, f2, f3⟩ := HEE.out i hlt
                have hq : ∃ b off, p = some ⟨b, off, none⟩ ∧ Lies W b off es := by
                  rcases HH.out with h0 | h0
                  · subst h0; simp at hlt
                  · exact h0
                obtain ⟨b, off, rfl, hLW⟩ := hq
                obtain ⟨c0, c1⟩ := hLW.later HBr.out i hlt
                have i1 : (i : Int) < es.length := by omega
                have i2 : (0 : Int) ≤ i := by omega
                have nb : b < wr.heap.size := block_lt_of_cell c0
                go_upto_region 17 with fail
                obtain ⟨V, hV⟩ : ∃ V, V = wr.alloc (.cells #[.int .i64 (at' es i).x, .int .i64 (at' es i).y] 56) := ⟨_, rfl⟩
                have hbV : Below wr.heap.size wr V := by rw [hV]; go_grown
                have HBV := hide (below_step HBr.out hbV)
                have HXV := hide (hX.later hbV)
                obtain ⟨kv, hkv⟩ : ∃ kv, wr.heap.size = kv := ⟨_, rfl⟩
                have l0 : V.cell? ⟨kv, 0, none⟩ = some (.int .i64 (at' es i).x) := by rw [hV, ← hkv]; go_cell
                have l1 : V.cell? ⟨kv, 1, none⟩ = some (.int .i64 (at' es i).y) := by rw [hV, ← hkv]; go_cell
                rw [← hV]
                rw [hkv]
                clear hkv nb hV hbV c0 c1 hX HO HBr
                go_wp2_with fail
                go_loopw [73] (fun t wr => ∃ s : Nat, s ≤ 2 ∧ t = .int .i64 s ∧ Hid (Below W.heap.size W wr) ∧ Hid (∃ X, OR wr w.heap.size g gr m es (2 * i + s) X)) (fun t _ => 2 - (intOf t).toNat)
                case atStart => exact ⟨0, by omega, rfl, HBV.out, X, HXV.out⟩
                case round =>
                  clear HBV HXV l0 l1
                  obtain ⟨s, hs, rfl, HBi, HRi⟩ := hrel
                  obtain ⟨X2, hRv⟩ := HRi.out
                  rcases (by omega : s = 0 ∨ s = 1 ∨ s = 2) with rfl | rfl | rfl
                  · rw [Nat.add_zero] at hRv
                    have hfx : fromL es (2 * i) = (at' es i).x := by unfold fromL; rw [if_pos (by omega), show 2 * i / 2 = i by omega]
                    obtain ⟨x, hx⟩ : ∃ x : Nat, (at' es i).x = x := ⟨(at' es i).x.toNat, by omega⟩
                    have hxm : x < m := by omega
                    rw [hx] at hfx
                    obtain ⟨U, hU⟩ : ∃ U, U = wr.alloc (.cells #[.int .i64 (2 * (i : Int))] 3) := ⟨_, rfl⟩
                    have hbU : Below wr.heap.size wr U := by rw [hU]; go_grown
                    have hlit : U.cell? ⟨wr.heap.size, 0, none⟩ = some (.int .i64 ((2 * i : Nat) : Int)) := by rw [show (((2 * i : Nat)) : Int) = 2 * (i : Int) by omega, hU]; exact one_int _ _
                    have hRU := hRv.later hbU
                    have e1 := hRU.app HM.out hfx hxm (by omega) hlit
                    have HRD := hide (hRU.put HM.out hfx hxm (by omega))
                    obtain ⟨y0, yf⟩ := hRv.cell hxm
                    have yU := hRU.cell hxm
                    have HV0 : Hid (rvB es gr (2 * i) x = .slice (some ⟨gr, ovB es x, none⟩) (odH es (2 * i) x) (odH es (2 * es.length) x)) := rfl
                    obtain ⟨D, hD⟩ : ∃ D, D = U.setCell ⟨gr, ovB es x + odH es (2 * i) x, none⟩ (.int .i64 ((2 * i : Nat) : Int)) := ⟨_, rfl⟩
                    rw [← hD] at e1 HRD
                    have z0 : D.cell? ⟨g, x, none⟩ = some (rvB es gr (2 * i) x) := by rw [hD]; exact other1' yU.1 HNC.out.2.2
                    have zf : D.frozen? ⟨g, x, none⟩ = false := by rw [hD]; exact World.ownsRow.frozenAt (ownsRow_setCell_other (a := ⟨gr, _, none⟩) hRU.rows (by simp [Value.ownBlock]; exact HNC.out.2.2) _) x
                    have HBD : Hid (Below W.heap.size W (D.setCell ⟨g, x, none⟩ (.slice (some ⟨gr, ovB es x, none⟩) (odH es (2 * i) x + 1) (odH es (2 * es.length) x)))) := by
                      show Below _ _ _
                      rw [hD]
                      exact ((below_step HBi.out hbU).setCell (p := ⟨gr, _, none⟩) HWG.out.2 _).setCell (p := ⟨g, x, none⟩) HWG.out.1 _
                    have IX : ∀ V, (Instr.index 56 (pv (at' es i).x (at' es i).y) (.int .i64 0)).run Try.prog V = .ok (.int .i64 (at' es i).x) V := fun V => by kernel_rfl
                    rw [hU] at e1
                    have k1 : (x : Int) < m := by omega
                    have k2 : (0 : Int) ≤ x := by omega
                    have kg : g < D.heap.size := block_lt_of_cell z0
                    rw [hx] at IX ⊢
                    obtain ⟨ay, hay⟩ : ∃ ay, (at' es i).y = ay := ⟨_, rfl⟩
                    rw [hay] at IX ⊢
                    obtain ⟨ov, hov⟩ : ∃ z, ovB es x = z := ⟨_, rfl⟩
                    obtain ⟨oh, hoh⟩ : ∃ z, odH es (2 * i) x = z := ⟨_, rfl⟩
                    obtain ⟨ot, hot⟩ : ∃ z, odH es (2 * es.length) x = z := ⟨_, rfl⟩
                    rw [hov, hoh, hot] at e1 HRD HBD HV0
                    rw [HV0.out] at e1 y0 z0
                    clear hx hfx hU hbU hlit hRU yU hD hRv HRi hay hov hoh hot HV0
                    go_wp2_with (at_builtin; refine wpList_run_append rfl (.tmp 82) (.tmp 87) 32 rfl 32 rfl _ _ _ D rfl rfl e1 ?_)
                    clear e1 y0 yf IX
                    go_wp2
                    go_roundw
                    case rel => exact ⟨1, by omega, by go_num, HBD.out, _, HRD.out⟩
                    case measure => simp [intOf]
                  · skip
                    have hfx : fromL es (2 * i + 1) = (at' es i).y := by unfold fromL; rw [if_neg (by omega), show (2 * i + 1) / 2 = i by omega]
                    obtain ⟨x, hx⟩ : ∃ x : Nat, (at' es i).y = x := ⟨(at' es i).y.toNat, by omega⟩
                    have hxm : x < m := by omega
                    rw [hx] at hfx
                    obtain ⟨U, hU⟩ : ∃ U, U = wr.alloc (.cells #[.int .i64 (2 * (i : Int) + 1)] 3) := ⟨_, rfl⟩
                    have hbU : Below wr.heap.size wr U := by rw [hU]; go_grown
                    have hlit : U.cell? ⟨wr.heap.size, 0, none⟩ = some (.int .i64 ((2 * i + 1 : Nat) : Int)) := by rw [show (((2 * i + 1 : Nat)) : Int) = 2 * (i : Int) + 1 by omega, hU]; exact one_int _ _
                    have hRU := hRv.later hbU
                    have e1 := hRU.app HM.out hfx hxm (by omega) hlit
                    have HRD := hide (hRU.put HM.out hfx hxm (by omega))
                    obtain ⟨y0, yf⟩ := hRv.cell hxm
                    have yU := hRU.cell hxm
                    have HV0 : Hid (rvB es gr (2 * i + 1) x = .slice (some ⟨gr, ovB es x, none⟩) (odH es (2 * i + 1) x) (odH es (2 * es.length) x)) := rfl
                    obtain ⟨D, hD⟩ : ∃ D, D = U.setCell ⟨gr, ovB es x + odH es (2 * i + 1) x, none⟩ (.int .i64 ((2 * i + 1 : Nat) : Int)) := ⟨_, rfl⟩
                    rw [← hD] at e1 HRD
                    have z0 : D.cell? ⟨g, x, none⟩ = some (rvB es gr (2 * i + 1) x) := by rw [hD]; exact other1' yU.1 HNC.out.2.2
                    have zf : D.frozen? ⟨g, x, none⟩ = false := by rw [hD]; exact World.ownsRow.frozenAt (ownsRow_setCell_other (a := ⟨gr, _, none⟩) hRU.rows (by simp [Value.ownBlock]; exact HNC.out.2.2) _) x
                    have HBD : Hid (Below W.heap.size W (D.setCell ⟨g, x, none⟩ (.slice (some ⟨gr, ovB es x, none⟩) (odH es (2 * i + 1) x + 1) (odH es (2 * es.length) x)))) := by
                      show Below _ _ _
                      rw [hD]
                      exact ((below_step HBi.out hbU).setCell (p := ⟨gr, _, none⟩) HWG.out.2 _).setCell (p := ⟨g, x, none⟩) HWG.out.1 _
                    have IX : ∀ V, (Instr.index 56 (pv (at' es i).x (at' es i).y) (.int .i64 1)).run Try.prog V = .ok (.int .i64 (at' es i).y) V := fun V => by kernel_rfl
                    rw [hU] at e1
                    have k1 : (x : Int) < m := by omega
                    have k2 : (0 : Int) ≤ x := by omega
                    have kg : g < D.heap.size := block_lt_of_cell z0
                    rw [hx] at IX ⊢
                    obtain ⟨ay, hay⟩ : ∃ ay, (at' es i).x = ay := ⟨_, rfl⟩
                    rw [hay] at IX ⊢
                    obtain ⟨ov, hov⟩ : ∃ z, ovB es x = z := ⟨_, rfl⟩
                    obtain ⟨oh, hoh⟩ : ∃ z, odH es (2 * i + 1) x = z := ⟨_, rfl⟩
                    obtain ⟨ot, hot⟩ : ∃ z, odH es (2 * es.length) x = z := ⟨_, rfl⟩
                    rw [hov, hoh, hot] at e1 HRD HBD HV0
                    rw [HV0.out] at e1 y0 z0
                    clear hx hfx hU hbU hlit hRU yU hD hRv HRi hay hov hoh hot HV0
                    go_wp2_with (at_builtin; refine wpList_run_append rfl (.tmp 82) (.tmp 87) 32 rfl 32 rfl _ _ _ D rfl rfl e1 ?_)
                    clear e1 y0 yf IX
                    go_wp2
                    go_roundw
                    case rel => exact ⟨2, by omega, by go_num, HBD.out, _, HRD.out⟩
                    case measure => simp [intOf]
                  · have HRn := hide hRv
                    clear hRv HRi
                    go_wp2
                    go_roundw
                    case rel => exact ⟨i + 1, by omega, by go_num, HBi.out, X2, by rw [show 2 * (i + 1) = 2 * i + 2 by omega]; exact HRn.out⟩
                    case measure => simp [intOf]; omega
              · have hin : i = es.length := by omega
                have hlt' : ¬ (i : Int) < es.length := by omega
                rw [hin] at HO
                clear hin
                obtain ⟨X, hX⟩ := HO.out
                have HXX := hide hX
                clear hX
                go_wp2
                go_ret
                exact ⟨g, rfl, ⟨gr, X, HXX.out⟩, below_step HB.out HBr.out⟩
end Go.Proofs.Ytobkejnlkjieoaa
