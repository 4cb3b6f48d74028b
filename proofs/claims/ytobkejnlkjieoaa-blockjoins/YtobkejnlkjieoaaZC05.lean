/- spread goes on breadth first: what it does to a tour. -/
import Derived.Test.YtobkejnlkjieoaaZC02
import Derived.Test.YtobkejnlkjieoaaZC04
import Derived.Deep.RegionHeld3
namespace Go.Proofs.Ytobkejnlkjieoaa
open Go.RowKit Go.Sort
open Go

theorem FrameW.cell {w w' : World} {q : Nat → Prop} {a : Addr} {v : Value} (h : FrameW w w' q) (hc : w.cell? a = some v) (hq : ¬ q a.block) : w'.cell? a = some v := by
  rw [World.cell?_of_block (h.block a.block (block_lt_of_cell hc) hq)]
  exact hc
theorem FrameW.frozen {w w' : World} {q : Nat → Prop} {a : Addr} {v : Value} {b : Bool} (h : FrameW w w' q) (hc : w.cell? a = some v) (hf : w.frozen? a = b) (hq : ¬ q a.block) : w'.frozen? a = b := by
  rw [World.frozen?_of_block (h.block a.block (block_lt_of_cell hc) hq)]
  exact hf
theorem FrameW.nown {w w' : World} {q : Nat → Prop} {k : Nat} {n : Int} {p : Option Addr} {l c : Nat} (h : FrameW w w' q) (o : NOwn w k n p l c) (hq : ¬ q k) : NOwn w' k n p l c :=
  ⟨h.cell o.1 hq, h.cell o.2.1 hq, h.frozen o.1 o.2.2.1 hq, h.frozen o.2.1 o.2.2.2 hq⟩
theorem FrameW.has {w w' : World} {q : Nat → Prop} {p : Option Addr} {es : List Pt} (h : FrameW w w' q) (o : Has w p es) (hq : ∀ a, p = some a → es = [] ∨ ¬ q a.block) : Has w' p es := by
  rcases o with o | ⟨b, off, rfl, hL⟩
  · exact Or.inl o
  · rcases hq ⟨b, off, none⟩ rfl with h0 | h0
    · exact Or.inl h0
    · refine Or.inr ⟨b, off, rfl, fun j hj => ?_⟩
      obtain ⟨c0, c1⟩ := hL j hj
      exact ⟨h.cell c0 h0, h.cell c1 h0⟩
/-- A tour under way, and that nothing else has changed. -/
def SMW (W wr : World) (B k n gb gf : Nat) (vo vl : Value) (st : St) : Prop :=
  ∃ vo', TB wr B k n vo' gb gf vl st.O st.By st.Fa ∧ FrameW W wr (TBk k gb gf vo) ∧ (vo'.ownBlock = vo.ownBlock ∨ ∃ i, vo'.ownBlock = some i ∧ W.heap.size ≤ i)
theorem SMW.later {W wr wr' : World} {B k n gb gf : Nat} {vo vl : Value} {st : St} (h : SMW W wr B k n gb gf vo vl st) (hb : Below wr.heap.size wr wr') : SMW W wr' B k n gb gf vo vl st := by
  obtain ⟨vo', t, f, a⟩ := h
  exact ⟨vo', t.later hb, f.trans (FrameW.of_below hb _), a⟩
theorem SMW.found {W wr wr' : World} {B k n gb gf : Nat} {vo vo' vo2 vl : Value} {st' : St} (f : FrameW W wr (TBk k gb gf vo)) (a : vo'.ownBlock = vo.ownBlock ∨ ∃ i, vo'.ownBlock = some i ∧ W.heap.size ≤ i) (t2 : TB wr' B k n vo2 gb gf vl st'.O st'.By st'.Fa) (f2 : FrameW wr wr' (TBk k gb gf vo')) (a2 : vo2.ownBlock = vo'.ownBlock ∨ ∃ i, vo2.ownBlock = some i ∧ wr.heap.size ≤ i) : SMW W wr' B k n gb gf vo vl st' := by
  have hs := f.size
  refine ⟨vo2, t2, ⟨f2.os.trans f.os, f2.tape.trans f.tape, f2.output.trans f.output, Nat.le_trans f.size f2.size, fun i hi hq => ?_⟩, ?_⟩
  · refine (f2.block i (by omega) fun hk => ?_).trans (f.block i hi hq)
    rcases hk with h | h | h | h
    · exact hq (Or.inl h)
    · exact hq (Or.inr (Or.inl h))
    · exact hq (Or.inr (Or.inr (Or.inl h)))
    · rcases a with a | ⟨x, hx, hx2⟩
      · exact hq (Or.inr (Or.inr (Or.inr (by rw [← a]; exact h))))
      · rw [hx] at h; injection h with h; omega
  · rcases a2 with a2 | ⟨x, hx, hx2⟩
    · rcases a with a | ⟨x, hx, hx2⟩
      · exact Or.inl (a2.trans a)
      · exact Or.inr ⟨x, by rw [a2]; exact hx, hx2⟩
    · exact Or.inr ⟨x, hx, by omega⟩
set_option maxRecDepth 100000 in
set_option maxHeartbeats 8000000 in
theorem spread38 (m : Nat) (p : Option Addr) (es : List Pt) (cp : Nat) (Bo g : Nat) (rv : Nat → Value) (B k gb gf : Nat) (vo vl : Value) (st : St) (s : Nat) (w : World)
    (hm : netB m es = true) (h : Has w p es) (hR : Rows w Bo g m rv (outL es (2 * es.length))) (t : TB w B k m vo gb gf vl st.O st.By st.Fa) (ok : Ok m st) (hs : s < m) (hsn : iat st.Fa s < 0) (hB : B ≤ w.heap.size)
    (ap : ∀ a, p = some a → es = [] ∨ ¬ TBk k gb gf vo a.block) (ag : ¬ TBk k gb gf vo g) (ar : ∀ v i, v < m → (rv v).ownBlock = some i → ¬ TBk k gb gf vo i) :
    Calls Try.prog 53 #[nv m p es.length cp, .slice (some ⟨g, 0, none⟩) m m, .pointer (some ⟨k, 0, none⟩), .int .i64 s] w fun e w' => e = .returned (.tuple #[]) ∧ SMW w w' B k m gb gf vo vl (bfs es m st.O.length (begin_ st s)) := by
  obtain ⟨W, hW, hb, a0⟩ := one_net w m p es.length cp
  obtain ⟨n0, n1, hes, _⟩ := netB_is hm
  have HM := hide hm
  have HH := hide (h.later hb)
  have HA := hide a0
  have HR := hide (hR.later hb)
  have HB := hide hb
  have hws : w.heap.size < W.heap.size := block_lt_of_cell a0.1
  have tW := t.later hb
  have hkb : ¬ TBk k gb gf vo w.heap.size := by
    have h1 : k < w.heap.size := block_lt_of_cell t.cells.1
    have h2 := t.by_.lt
    have h3 := t.far.lt
    rintro (h | h | h | h)
    · omega
    · omega
    · omega
    · have := (World.ownsRow.lt t.ord _ h).2; omega
  have HAW := hide (And.intro hkb (And.intro ap (And.intro ag ar)))
  have hcn := ok.cnt
  have F1 := hide (find53 B k m vo gb gf vl st.O st.By st.Fa s (-1) 0 W tW hs (by omega) (by omega))
  have HOK := hide (ok.begin_ hs hsn)
  obtain ⟨po, co, hvo, _⟩ := tW.ord.form
  obtain ⟨x0, x1, x2, x3, x4, _⟩ := t.cells
  have z1 : k < w.heap.size := block_lt_of_cell x0
  have z2 : k ≠ w.heap.size := by omega
  rw [hvo] at x0
  have HVO := hide hvo
  clear h hb a0 hm hR t tW hkb ap ag ar hvo ok
  have hOl : st.O.length ≤ m := by omega
  obtain ⟨R, hRR⟩ : ∃ R, bfs es m st.O.length (begin_ st s) = R := ⟨_, rfl⟩
  rw [hRR]
  have HRR := hide hRR
  clear hRR
  go_enter Try.func53, Try.ntmps53
  go_wp2_with fail
  rw [← hW]
  clear hW
  refine F1.out.mono ?_
  rintro e w1 ⟨rfl, vo1, t1, f1, a1⟩
  have HS1 : Hid (SMW W w1 B k m gb gf vo vl (begin_ st s)) := ⟨vo1, t1, f1, a1⟩
  clear F1 t1 f1 a1 x0 x1 x2 x3 x4 z1 z2
  go_wp2_with fail
  obtain ⟨kb, hkb⟩ : ∃ kb, w.heap.size = kb := ⟨_, rfl⟩
  rw [hkb] at HA HAW ⊢
  have HKB := hide hkb
  clear hkb
  go_loopw [8] (fun t wr => ∃ (j kk : Nat) (st' : St), j ≤ m ∧ t = .int .i64 j ∧ Hid (Ok m st') ∧ Hid (bfs es kk j st' = R ∧ m ≤ kk + j) ∧ Hid (SMW W wr B k m gb gf vo vl st')) (fun t _ => m - (intOf t).toNat)
  case atStart => exact ⟨st.O.length, m, begin_ st s, hOl, rfl, HOK.out, ⟨HRR.out, by omega⟩, HS1.out⟩
  case round =>
    obtain ⟨j, kk, st', hj, rfl, HO, HF, HS⟩ := hrel
    obtain ⟨vo', tr, fr, ar⟩ := HS.out
    obtain ⟨po, co, hvo, _⟩ := tr.ord.form
    obtain ⟨x0, _, _, _, _, _⟩ := tr.cells
    rw [hvo] at x0
    have hcn := HO.out.cnt
    by_cases hlt : j < st'.O.length
    · have hjm : j < m := by omega
      have i1 : (j : Int) < st'.O.length := by omega
      have i2 : (0 : Int) ≤ j := by omega
      obtain ⟨u0, u1⟩ := HO.out.mem j hlt
      obtain ⟨kk', rfl⟩ : ∃ k', kk = k' + 1 := ⟨kk - 1, by have := HF.out.2; omega⟩
      have HF2 : Hid (bfs es kk' (j + 1) (bRow es (iat st'.O j).toNat st' (outL es (2 * es.length) (iat st'.O j).toNat).length) = R ∧ m ≤ kk' + (j + 1)) := by
        obtain ⟨h1, h2⟩ := HF.out
        simp only [bfs] at h1
        rw [if_pos hlt] at h1
        exact ⟨h1, by omega⟩
      obtain ⟨bo, cc, hbo, _, _, _⟩ := iowns_blockW tr.ord (by omega)
      rw [hvo] at hbo
      simp only [Value.slice.injEq, true_and] at hbo
      obtain ⟨rfl, rfl⟩ := hbo
      have o0 := tr.ord
      rw [hvo] at o0
      have o1 := o0.at_ hlt
      have hfu := HO.out.fnd j hlt
      obtain ⟨u, hu⟩ : ∃ u : Nat, iat st'.O j = u := ⟨(iat st'.O j).toNat, by omega⟩
      rw [hu] at o1 HF2 u0 u1 hfu
      rw [Int.toNat_natCast] at HF2 hfu
      have hum : u < m := by omega
      have hRw := fr.rows HR.out HAW.out.2.2.1 HAW.out.2.2.2
      obtain ⟨y0, _⟩ := hRw.cell hum
      obtain ⟨pr, cr, hrv, _⟩ := (hRw.2.2 u hum).form
      rw [hrv] at y0
      have HRV := hide hrv
      obtain ⟨L, hL⟩ : ∃ L, outL es (2 * es.length) u = L := ⟨_, rfl⟩
      rw [hL] at HF2 y0 HRV
      have hLl := outL_length es (2 * es.length) u
      rw [hL] at hLl
      have HL := hide hL
      have j1 : (u : Int) < m := by omega
      have j2 : (0 : Int) ≤ u := by omega
      have HOF := hide (fun i (hi : i ≤ L.length) => HO.out.row HM.out hum hfu i (by rw [hL]; exact hi))
      clear hvo hu o0 hRw hrv hL HF tr fr ar hcn hfu u0
      go_wp2_with fail
      clear x0 y0 o1
      obtain ⟨w2, hw2⟩ : ∃ w2, w2 = wr := ⟨_, rfl⟩
      rw [← hw2] at HS ⊢
      clear hw2
      go_loopw [42] (fun t wr => ∃ i : Nat, i ≤ L.length ∧ t = .int .i64 i ∧ Hid (SMW W wr B k m gb gf vo vl (bRow es u st' i))) (fun t _ => L.length - (intOf t).toNat)
      case atStart => exact ⟨0, by omega, rfl, HS.out⟩
      case round =>
        clear HS
        obtain ⟨i, hi, rfl, HS⟩ := hrel
        by_cases hil : i < L.length
        · obtain ⟨ok1, hfu⟩ := HOF.out i hi
          have HSTEP : Hid (bRow es u st' (i + 1) = bStep es u (bRow es u st' i) (iat (outL es (2 * es.length) u) i).toNat) := rfl
          rw [HL.out] at HSTEP
          obtain ⟨h, hh1, hh2, hh3⟩ := outL_at (es := es) (h := 2 * es.length) (v := u) (j := i) (by rw [HL.out]; exact hil)
          rw [HL.out] at hh1
          rw [hh1, Int.toNat_natCast] at HSTEP
          obtain ⟨v0, v1⟩ := toL_in HM.out h hh2
          obtain ⟨v, hv⟩ : ∃ v : Nat, toL es h = v := ⟨(toL es h).toNat, by omega⟩
          unfold bStep at HSTEP
          rw [hv, Int.toNat_natCast] at HSTEP
          rw [hv] at v0 v1
          have hvm : v < m := by omega
          obtain ⟨S, hS⟩ : ∃ S, bRow es u st' i = S := ⟨_, rfl⟩
          rw [hS] at HS HSTEP ok1 hfu
          obtain ⟨vo', tr, fr, ar⟩ := HS.out
          have hRw := fr.rows HR.out HAW.out.2.2.1 HAW.out.2.2.2
          have hro := hRw.2.2 u hum
          rw [HRV.out, HL.out] at hro
          obtain ⟨br, cr2, hbr, _, _, _⟩ := iowns_blockW hro (by omega)
          simp only [Value.slice.injEq, true_and] at hbr
          obtain ⟨rfl, rfl⟩ := hbr
          have r0 := hro.at_ hil
          rw [hh1] at r0
          have hN := fr.nown HA.out HAW.out.1
          obtain ⟨q0, q1, _, _⟩ := hN
          have CT := hide (comes54W m p es cp h wr (fr.has HH.out HAW.out.2.1) hh2 (by omega))
          rw [hv] at CT
          have k1 : (i : Int) < L.length := by omega
          have k2 : (0 : Int) ≤ i := by omega
          have k3 : (v : Int) < m := by omega
          have k4 : (0 : Int) ≤ v := by omega
          have HTR := hide tr
          have HFR := hide fr
          have HAR := hide ar
          have hcn := ok1.cnt
          have hfv := ok1.val u hum
          have HOK1 := hide ok1
          clear hRw hro hh1 hh3 hv hS tr fr ar ok1 v0
          go_wp2_with fail
          refine CT.out.mono ?_
          rintro e w3 ⟨rfl, hb3⟩
          have t3 := HTR.out.later hb3
          have f3 := HFR.out.trans (FrameW.of_below hb3 _)
          obtain ⟨x0, x1, x2, x3, x4, _⟩ := t3.cells
          obtain ⟨a0, a1⟩ := t3.far.cell hvm
          obtain ⟨b0, b1⟩ := t3.far.cell hum
          have hB3 : B ≤ w3.heap.size := by have h1 := HB.out.size; have h2 := HFR.out.size; have h3 := hb3.size; omega
          have FD := hide (find53 B k m vo' gb gf vl S.O S.By S.Fa v h (iat S.Fa u + 1) w3 t3 hvm hB3 (by omega))
          have HF3 := hide f3
          have HT3 := hide t3
          clear CT hb3 t3 f3 r0 q0 q1 HTR HFR hB3
          by_cases hneg : iat S.Fa v < 0
          · rw [if_pos hneg] at HSTEP
            obtain ⟨fv, hfv1⟩ : ∃ fv, iat S.Fa v = fv := ⟨_, rfl⟩
            obtain ⟨fu, hfu1⟩ : ∃ fu, iat S.Fa u = fu := ⟨_, rfl⟩
            rw [hfv1] at a0 hneg
            rw [hfu1] at b0 hfv hfu HSTEP FD
            clear hfv1 hfu1
            go_wp2_with fail
            refine FD.out.mono ?_
            rintro e w4 ⟨rfl, vo4, t4, f4, a4⟩
            have HS4 : Hid (SMW W w4 B k m gb gf vo vl ⟨S.O ++ [(v : Int)], S.By.set v h, S.Fa.set v (fu + 1)⟩) := SMW.found HF3.out HAR.out t4 f4 a4
            clear t4 f4 a4 FD x0 x1 x2 x3 x4 a0 a1 b0 b1 HF3 HT3
            go_wp2
            go_roundw
            case rel => exact ⟨i + 1, by omega, by go_num, by rw [HSTEP.out]; exact HS4.out⟩
            case measure => simp [intOf]; omega
          · rw [if_neg hneg] at HSTEP
            have HS4 : Hid (SMW W w3 B k m gb gf vo vl S) := ⟨vo', HT3.out, HF3.out, HAR.out⟩
            obtain ⟨fv, hfv1⟩ : ∃ fv, iat S.Fa v = fv := ⟨_, rfl⟩
            rw [hfv1] at a0 hneg
            clear hfv1 FD HF3 HT3
            go_wp2
            go_roundw
            case rel => exact ⟨i + 1, by omega, by go_num, by rw [HSTEP.out]; exact HS4.out⟩
            case measure => simp [intOf]; omega
        · have hin : i = L.length := by omega
          have k1 : ¬ (i : Int) < L.length := by omega
          rw [hin] at HS
          have HO2 := hide (HOF.out L.length (Nat.le_refl _)).1
          clear hin
          go_wp2
          go_roundw
          case rel => exact ⟨j + 1, kk', _, by omega, by go_num, HO2.out, HF2.out, HS.out⟩
          case measure => simp [intOf]; omega
    · have i1 : ¬ (j : Int) < st'.O.length := by omega
      have hR' : R = st' := by rw [← HF.out.1]; exact bfs_stop hlt kk
      rw [← hR'] at HS
      have HSW := hide HS.out
      clear hR' HF tr fr ar hvo
      go_wp2
      go_end0
      refine ⟨rfl, ?_⟩
      obtain ⟨vo2, t2, f2, a2⟩ := HSW.out
      exact ⟨vo2, t2, (FrameW.of_below HB.out _).trans f2, a2.imp id fun ⟨i, h1, h2⟩ => ⟨i, h1, by have := HKB.out; omega⟩⟩
end Go.Proofs.Ytobkejnlkjieoaa

/- Tours as values; a tour of which nothing is found; Breadth. -/
namespace Go.Proofs.Ytobkejnlkjieoaa
open Go.RowKit Go.Sort
open Go

abbrev tv (a b c d : Value) : Value := .agg #[a, b, c, d]
/-- A tour that is answered: its lists are memory of its own, each in a block of its own. -/
def TR (w : World) (B n : Nat) (v : Value) (st : St) (vl : Value) : Prop :=
  ∃ vo gb gf, v = tv vo (.slice (some ⟨gb, 0, none⟩) n n) (.slice (some ⟨gf, 0, none⟩) n n) vl ∧ IOwns w B vo st.O ∧ IRow w B gb n st.By ∧ IRow w B gf n st.Fa ∧ gb ≠ gf ∧ vo.ownBlock ≠ some gb ∧ vo.ownBlock ≠ some gf
theorem TR.later {w w' : World} {B n : Nat} {v : Value} {st : St} {vl : Value} (h : TR w B n v st vl) (hb : Below w.heap.size w w') : TR w' B n v st vl := by
  obtain ⟨vo, gb, gf, h1, h2, h3, h4, h5⟩ := h
  exact ⟨vo, gb, gf, h1, h2.later hb, h3.later hb, h4.later hb, h5⟩
theorem TR.base {w : World} {B B' n : Nat} {v : Value} {st : St} {vl : Value} (h : TR w B n v st vl) (hb : B' ≤ B) : TR w B' n v st vl := by
  obtain ⟨vo, gb, gf, h1, h2, h3, h4, h5⟩ := h
  exact ⟨vo, gb, gf, h1, h2.base hb, h3.base hb, h4.base hb, h5⟩
theorem box35 (w : World) (a b c d : Value) : (w.alloc (.cells #[a, b, c, d] 60)).ownsRow 0 60 4 (.slice (some ⟨w.heap.size, 0, none⟩) 1 1) 1 [a, b, c, d] :=
  World.ownsRow_lit w #[a, b, c, d] 1 (Nat.zero_le _) (by unfold maxLen; omega) rfl
theorem ret_tour {V : World} {k : Nat} {a b c d : Value} (h : V.ownsRow 0 60 4 (.slice (some ⟨k, 0, none⟩) 1 1) 1 [a, b, c, d]) : (loadVar 60 ⟨k, 0, none⟩).run Try.prog V = .ok (tv a b c d) V := by
  have m0 : V.cell? ⟨k, 0, none⟩ = some a := World.ownsRow.cellAt h 0 (by omega)
  have m1 : V.cell? ⟨k, 1, none⟩ = some b := World.ownsRow.cellAt h 1 (by omega)
  have m2 : V.cell? ⟨k, 2, none⟩ = some c := World.ownsRow.cellAt h 2 (by omega)
  have m3 : V.cell? ⟨k, 3, none⟩ = some d := World.ownsRow.cellAt h 3 (by omega)
  have l0 : (load ⟨k, 0, none⟩).run Try.prog V = .ok a V := by simp [go_sem, m0]
  have l1 : (load ⟨k, 1, none⟩).run Try.prog V = .ok b V := by simp [go_sem, m1]
  have l2 : (load ⟨k, 2, none⟩).run Try.prog V = .ok c V := by simp [go_sem, m2]
  have l3 : (load ⟨k, 3, none⟩).run Try.prog V = .ok d V := by simp [go_sem, m3]
  simp only [loadVar, Sem.run_bind, Try.isAgg60, Result.andThen_ok, if_true, Try.sizeOf60]
  simp only [loadCells, go_sem]
  simp only [Sem.run_bind, Nat.zero_add, l0, l1, l2, l3, Result.andThen_ok, Sem.run_pure]
  rfl
theorem ret_tour1 {fn : Func} {t : Tmp} (hr : fn.results = #[.cell t 60]) {tmps : Array Value} {V : World} {k : Nat} {a b c d : Value} (h2 : tmps.getD t undef = .pointer (some ⟨k, 0, none⟩)) (h : V.ownsRow 0 60 4 (.slice (some ⟨k, 0, none⟩) 1 1) 1 [a, b, c, d]) :
    (results fn tmps).run Try.prog V = .ok (tv a b c d) V := by
  rw [results_c hr, h2, asA, Result.andThen_ok, ret_tour h]
theorem ret_tour2 {fn : Func} {t u : Tmp} (hr : fn.results = #[.cell t 60, .tmp u]) {tmps : Array Value} {V : World} {k : Nat} {a b c d e : Value} (h2 : tmps.getD t undef = .pointer (some ⟨k, 0, none⟩)) (h3 : tmps.getD u undef = e) (h : V.ownsRow 0 60 4 (.slice (some ⟨k, 0, none⟩) 1 1) 1 [a, b, c, d]) :
    (results fn tmps).run Try.prog V = .ok (.tuple #[tv a b c d, e]) V := by
  rw [results_cT hr, h2, asA, Result.andThen_ok, ret_tour h, Result.andThen_ok, h3]
/-- A tour through n nodes of which none is found. -/
def st0 (n : Nat) : St := ⟨[], List.replicate n (-1), List.replicate n (-1)⟩
theorem st0_ok (n : Nat) : Ok n (st0 n) where
  lb := by simp [st0]
  lf := by simp [st0]
  mem j hj := by simp [st0] at hj
  cnt := by have := unl_le (List.replicate n (-1)); simp [st0] at this ⊢; exact this
  val v hv := by show -1 ≤ iat (List.replicate n (-1)) v ∧ _; rw [show (st0 n).Fa = List.replicate n (-1) from rfl, iat_fill hv]; simp [st0]
  fnd j hj := by simp [st0] at hj
theorem set_box35 {V : World} {k : Nat} {a b c d a' b' c' d' : Value} (h : V.ownsRow 0 60 4 (.slice (some ⟨k, 0, none⟩) 1 1) 1 [a, b, c, d]) :
    ((((V.setCell ⟨k, 0, none⟩ a').setCell ⟨k, 1, none⟩ b').setCell ⟨k, 2, none⟩ c').setCell ⟨k, 3, none⟩ d').ownsRow 0 60 4 (.slice (some ⟨k, 0, none⟩) 1 1) 1 [a', b', c', d'] :=
  (World.ownsRow.stored (World.ownsRow.stored (World.ownsRow.stored (World.ownsRow.stored h 0 a').1 1 b').1 2 c').1 3 d').1
abbrev set4 (V : World) (k : Nat) (a b c d : Value) : World := (((V.setCell ⟨k, 0, none⟩ a).setCell ⟨k, 1, none⟩ b).setCell ⟨k, 2, none⟩ c).setCell ⟨k, 3, none⟩ d
theorem row_set4 {V : World} {k base e size n : Nat} {v : Value} {xs : List Value} (h : V.ownsRow base e size v n xs) (hk : v.ownBlock ≠ some k) (a b c d : Value) : (set4 V k a b c d).ownsRow base e size v n xs :=
  ownsRow_setCell_other (a := ⟨k, 3, none⟩) (ownsRow_setCell_other (a := ⟨k, 2, none⟩) (ownsRow_setCell_other (a := ⟨k, 1, none⟩) (ownsRow_setCell_other (a := ⟨k, 0, none⟩) h hk _) hk _) hk _) hk _
theorem irow_set4 {V : World} {k B g n : Nat} {l : List Int} (h : IRow V B g n l) (hk : k ≠ g) (a b c d : Value) : IRow (set4 V k a b c d) B g n l :=
  ⟨h.1, row_set4 h.2 (by simp [Value.ownBlock]; omega) a b c d⟩
theorem below_set4 {B : Nat} {w V : World} {k : Nat} (h : Below B w V) (hk : B ≤ k) (a b c d : Value) : Below B w (set4 V k a b c d) :=
  (((h.setCell hk a).setCell hk b).setCell hk c).setCell hk d
set_option maxRecDepth 100000 in
set_option maxHeartbeats 8000000 in
theorem unfound37 (n : Nat) (w : World) (hn : n ≤ 100000) : Calls Try.prog 52 #[.int .i64 n] w fun e w' => ∃ v, e = .returned v ∧ TR w' w.heap.size n v (st0 n) (.slice none 0 0) ∧ Below w.heap.size w w' := by
  obtain ⟨W, hW⟩ : ∃ W, W = (w.alloc (.cells #[.slice none 0 0, .slice none 0 0, .slice none 0 0, .slice none 0 0] 60)).alloc (.cells #[.int .i64 (-1)] 3) := ⟨_, rfl⟩
  have hb : Below w.heap.size w W := by rw [hW]; go_grown
  have hx : W.ownsRow 0 60 4 (.slice (some ⟨w.heap.size, 0, none⟩) 1 1) 1 [.slice none 0 0, .slice none 0 0, .slice none 0 0, .slice none 0 0] := by rw [hW]; exact World.ownsRow.alloc (box35 w _ _ _ _) _
  have hl : W.cell? ⟨w.heap.size + 1, 0, none⟩ = some (.int .i64 (-1)) := by rw [hW]; go_cell
  have hs : w.heap.size + 1 < W.heap.size := block_lt_of_cell hl
  have R1 := hide (repeat52W (w.heap.size + 1) n (-1) W hn hl)
  have HB := hide hb
  have HX := hide hx
  have HL := hide hl
  clear hb hx hl
  go_enter Try.func52, Try.ntmps52
  go_wp2_with fail
  rw [← hW]
  clear hW
  refine R1.out.mono ?_
  rintro e w1 ⟨gb, rfl, hr1, hb1⟩
  have R2 := hide (repeat52W (w.heap.size + 1) n (-1) w1 hn (later hb1 HL.out))
  have HR1 := hide hr1
  have HB1 := hide hb1
  clear hr1 hb1 R1
  go_wp2_with fail
  refine R2.out.mono ?_
  rintro e w2 ⟨gf, rfl, hr2, hb2⟩
  have hlt1 := HR1.out.lt
  have hlt2 := hr2.lt
  have HR1' := hide (HR1.out.later hb2)
  have HR2 := hide hr2
  have hb12 := below_step HB1.out hb2
  have HX2 : Hid (w2.ownsRow 0 60 4 (.slice (some ⟨w.heap.size, 0, none⟩) 1 1) 1 [.slice none 0 0, .slice none 0 0, .slice none 0 0, .slice none 0 0]) := World.ownsRow.kept HX.out (grown_below hb12) (Or.inr (by simp [Value.ownBlock]))
  have HB2 := hide (below_step HB.out hb12)
  have x0 : w2.cell? ⟨w.heap.size, 0, none⟩ = some (.slice none 0 0) := World.ownsRow.cellAt HX2.out 0 (by omega)
  have x1 : w2.cell? ⟨w.heap.size, 1, none⟩ = some (.slice none 0 0) := World.ownsRow.cellAt HX2.out 1 (by omega)
  have x2 : w2.cell? ⟨w.heap.size, 2, none⟩ = some (.slice none 0 0) := World.ownsRow.cellAt HX2.out 2 (by omega)
  have x3 : w2.cell? ⟨w.heap.size, 3, none⟩ = some (.slice none 0 0) := World.ownsRow.cellAt HX2.out 3 (by omega)
  have z0 : w2.frozen? ⟨w.heap.size, 0, none⟩ = false := World.ownsRow.frozenAt HX2.out 0
  have z1 : w2.frozen? ⟨w.heap.size, 1, none⟩ = false := World.ownsRow.frozenAt HX2.out 1
  have z2 : w2.frozen? ⟨w.heap.size, 2, none⟩ = false := World.ownsRow.frozenAt HX2.out 2
  have z3 : w2.frozen? ⟨w.heap.size, 3, none⟩ = false := World.ownsRow.frozenAt HX2.out 3
  have hs1 : W.heap.size ≤ w1.heap.size := HB1.out.size
  have HLT := hide (And.intro hlt1 hlt2)
  clear hr2 hb2 hb12 R2 HR1 hlt1 hlt2
  go_wp2
  have hL := HLT.out
  refine bodyPost_ret (ret_tour1 Try.results52 rfl (set_box35 HX2.out)) rfl ⟨_, rfl, ⟨.slice none 0 0, gb, gf, rfl, IOwns.nil _ _, ?_, ?_, ?_, by simp [Value.ownBlock], by simp [Value.ownBlock]⟩, ?_⟩
  · exact (irow_set4 HR1'.out (by omega) _ _ _ _).base (by have := HB.out.size; omega)
  · exact (irow_set4 HR2.out (by omega) _ _ _ _).base (by have := HB.out.size; omega)
  · omega
  · exact below_set4 HB2.out (Nat.le_refl _) _ _ _ _
end Go.Proofs.Ytobkejnlkjieoaa

/- Breadth, in every world. -/
namespace Go.Proofs.Ytobkejnlkjieoaa
open Go.RowKit Go.Sort
open Go

abbrev nilS : Value := .slice none 0 0
/-- The net's box and the answer's. -/
theorem two_boxes35 (w : World) (n : Int) (p : Option Addr) (l c : Nat) : ∃ W, W = (w.alloc (nbx n p l c)).alloc (.cells #[nilS, nilS, nilS, nilS] 60) ∧ Below w.heap.size w W ∧ NOwn W w.heap.size n p l c ∧ W.ownsRow 0 60 4 (.slice (some ⟨w.heap.size + 1, 0, none⟩) 1 1) 1 [nilS, nilS, nilS, nilS] ∧ W.heap.size = w.heap.size + 2 := by
  refine ⟨_, rfl, by go_grown, ⟨by unfold nbx; go_cell, by unfold nbx; go_cell, by unfold nbx; go_cell, by unfold nbx; go_cell⟩, ?_, by simp⟩
  have := box35 (w.alloc (nbx n p l c)) nilS nilS nilS nilS
  rw [show (w.alloc (nbx n p l c)).heap.size = w.heap.size + 1 by simp] at this
  exact this
theorem box_later {w w' : World} {k : Nat} {a b c d : Value} (h : w.ownsRow 0 60 4 (.slice (some ⟨k, 0, none⟩) 1 1) 1 [a, b, c, d]) (hb : Below w.heap.size w w') : w'.ownsRow 0 60 4 (.slice (some ⟨k, 0, none⟩) 1 1) 1 [a, b, c, d] := World.ownsRow.kept h (grown_below hb) (Or.inr (by simp [Value.ownBlock]))
theorem box_cells {w : World} {k : Nat} {a b c d : Value} (h : w.ownsRow 0 60 4 (.slice (some ⟨k, 0, none⟩) 1 1) 1 [a, b, c, d]) : w.cell? ⟨k, 0, none⟩ = some a ∧ w.cell? ⟨k, 1, none⟩ = some b ∧ w.cell? ⟨k, 2, none⟩ = some c ∧ w.cell? ⟨k, 3, none⟩ = some d ∧ w.frozen? ⟨k, 0, none⟩ = false ∧ w.frozen? ⟨k, 1, none⟩ = false ∧ w.frozen? ⟨k, 2, none⟩ = false ∧ w.frozen? ⟨k, 3, none⟩ = false :=
  ⟨World.ownsRow.cellAt h 0 (by omega), World.ownsRow.cellAt h 1 (by omega), World.ownsRow.cellAt h 2 (by omega), World.ownsRow.cellAt h 3 (by omega), World.ownsRow.frozenAt h 0, World.ownsRow.frozenAt h 1, World.ownsRow.frozenAt h 2, World.ownsRow.frozenAt h 3⟩
set_option maxRecDepth 100000 in
set_option maxHeartbeats 8000000 in
theorem breadth13no (n : Int) (p : Option Addr) (es : List Pt) (cp : Nat) (s r : Int) (w : World) (h : Has w p es) (hr : refI n es s = r) (h0 : ¬ r = 0) : Calls Try.prog 32 #[nv n p es.length cp, .int .i64 s] w fun e w' => e = .returned (.tuple #[tv nilS nilS nilS nilS, .int .i64 r]) ∧ Below w.heap.size w w' := by
  obtain ⟨W, hW, hb, a0, x0, hs⟩ := two_boxes35 w n p es.length cp
  have RF := hide (refusal36 n p es cp s W (h.later hb))
  rw [hr] at RF
  have HB := hide hb
  have HX := hide x0
  clear h hb a0 x0 hr
  go_enter Try.func32, Try.ntmps32
  go_wp2_with fail
  rw [← hW]
  clear hW
  refine RF.out.mono ?_
  rintro e w1 ⟨rfl, hb1⟩
  have HX1 := hide (box_later HX.out hb1)
  have HB1 := hide (below_step HB.out hb1)
  obtain ⟨c0, c1, c2, c3, f0, f1, f2, f3⟩ := box_cells HX1.out
  clear hb1 RF
  go_wp2
  exact bodyPost_ret (ret_tour2 Try.results32 rfl rfl (set_box35 HX1.out)) rfl ⟨rfl, below_set4 HB1.out (by omega) _ _ _ _⟩
set_option maxRecDepth 100000 in
set_option maxHeartbeats 8000000 in
theorem breadth13 (m : Nat) (p : Option Addr) (es : List Pt) (cp s : Nat) (w : World) (h : Has w p es) (hm : netB m es = true) (hs : s < m) : Calls Try.prog 32 #[nv m p es.length cp, .int .i64 s] w fun e w' => ∃ v, e = .returned (.tuple #[v, .int .i64 0]) ∧ TR w' w.heap.size m v (bfs es m 0 (begin_ (st0 m) s)) nilS ∧ Below w.heap.size w w' := by
  obtain ⟨W, hW, hb, a0, x0, hsz⟩ := two_boxes35 w m p es.length cp
  have hr : refI m es s = 0 := by unfold refI; rw [hm, if_pos rfl, if_neg (by omega)]
  have RF := hide (refusal36 m p es cp s W (h.later hb))
  rw [hr] at RF
  obtain ⟨n0, n1, hes, _⟩ := netB_is hm
  have HPB : Hid (∀ a, p = some a → es = [] ∨ a.block < w.heap.size) := by
    intro a ha
    rcases h with h | ⟨b, off, hp, hL⟩
    · exact Or.inl h
    · rw [hp] at ha
      cases ha
      rcases Nat.eq_zero_or_pos es.length with h0 | h0
      · exact Or.inl (List.eq_nil_of_length_eq_zero h0)
      · exact Or.inr (block_lt_of_cell (hL 0 h0).1)
  have HM := hide hm
  have HH := hide (h.later hb)
  have HB := hide hb
  have HX := hide x0
  have HA := hide a0
  clear h hb a0 x0 hr hm
  go_enter Try.func32, Try.ntmps32
  go_wp2_with fail
  rw [← hW]
  clear hW
  refine RF.out.mono ?_
  rintro e w1 ⟨rfl, hb1⟩
  have U := hide (unfound37 m w1 (by omega))
  have HA1 := hide (HA.out.later hb1)
  obtain ⟨q0, q1, _, _⟩ := HA1.out
  have HB1 := hide hb1
  clear hb1 RF
  go_wp2_with fail
  refine U.out.mono ?_
  rintro e w2 ⟨v, rfl, ⟨vo, gb, gf, rfl, ho, hby, hfa, ne1, ne2, ne3⟩, hb2⟩
  obtain ⟨X, hX⟩ : ∃ X, X = w2.alloc (.cells #[vo, .slice (some ⟨gb, 0, none⟩) m m, .slice (some ⟨gf, 0, none⟩) m m, nilS] 60) := ⟨_, rfl⟩
  have hbX : Below w2.heap.size w2 X := by rw [hX]; go_grown
  have hXs : X.heap.size = w2.heap.size + 1 := by rw [hX]; simp
  have HTX : Hid (TB X w1.heap.size w2.heap.size m vo gb gf nilS [] (List.replicate m (-1)) (List.replicate m (-1))) := ⟨by rw [hX]; exact box35 _ _ _ _ _, ho.later hbX, hby.later hbX, hfa.later hbX, ne1, ne2, ne3⟩
  have hbWX := below_step HB1.out (below_step hb2 hbX)
  have HAX := hide (HA.out.later hbWX)
  have HHX := hide (HH.out.later hbWX)
  have HXX := hide (box_later HX.out hbWX)
  have HBX := hide (below_step HB.out hbWX)
  have s1 := HB1.out.size
  have s2 := hb2.size
  have lb := hby.lt
  have lf := hfa.lt
  have lo : ∀ i, vo.ownBlock = some i → w1.heap.size ≤ i ∧ i < w2.heap.size := fun i hi => World.ownsRow.lt ho i hi
  have HLO := hide (And.intro lb (And.intro lf lo))
  clear q0 q1 U ho hby hfa ne1 ne2 ne3 hb2 hbX hbWX lb lf lo
  obtain ⟨q0, q1, _, _⟩ := HAX.out
  obtain ⟨po, lo, co, rfl⟩ : ∃ po lo co, vo = .slice po lo co := by obtain ⟨a, b, hv, _⟩ := HTX.out.ord.form; exact ⟨_, _, _, hv⟩
  have HAW1 : Hid (∀ i, i < w1.heap.size → ¬ TBk w2.heap.size gb gf (.slice po lo co) i) := by
    intro i hi hk
    obtain ⟨h1, h2, h3⟩ := HLO.out
    rcases hk with h | h | h | h
    · omega
    · omega
    · omega
    · have := h3 i h; omega
  have HAW2 : Hid (∀ i, X.heap.size ≤ i → ¬ TBk w2.heap.size gb gf (.slice po lo co) i) := by
    intro i hi hk
    obtain ⟨h1, h2, h3⟩ := HLO.out
    rcases hk with h | h | h | h
    · omega
    · omega
    · omega
    · have := h3 i h; omega
  have hsn : iat (st0 m).Fa s < 0 := by show iat (List.replicate m (-1)) s < 0; rw [iat_fill hs]; omega
  have HSN := hide hsn
  clear hsn
  go_upto_region 5 with fail
  rw [← hX]
  clear hX
  go_region_held3 (fun V => V.cell? ⟨w.heap.size, 0, none⟩ = some (.int .i64 m) ∧ V.cell? ⟨w.heap.size, 1, none⟩ = some (.slice p es.length cp))
    (first | exact ⟨q0, q1⟩ | exact ⟨HA4.out.1, HA4.out.2.1⟩ | exact ⟨HA5.out.1, HA5.out.2.1⟩)
    (first
      | (go_at_call 54; refine (outs39W m p es cp X.drew (HHX.out.later (below_drew X)) HM.out).mono ?_; rintro e w4 ⟨g, rv, rfl, hR4, hb4'⟩; have hb4 := below_step (below_drew X) hb4'; have HA4 := hide (HAX.out.later hb4); have HH4 := hide (HHX.out.later hb4); have HT4 := hide (HTX.out.later hb4); have HX4 := hide (box_later HXX.out hb4); have HB4 := hide (below_step HBX.out hb4); have HR4 := hide hR4; have hs4 := hb4.size; clear hb4 hb4' hR4)
      | (go_at_call 53; refine (spread38 m p es cp X.heap.size g rv w1.heap.size w2.heap.size gb gf (.slice po lo co) nilS (st0 m) s w4 HM.out HH4.out HR4.out HT4.out (st0_ok m) hs HSN.out (by omega) (fun a ha => (HPB.out a ha).imp id (fun hh => HAW1.out _ (by omega))) (HAW2.out _ HR4.out.size.1) (fun u i hu hi => HAW2.out _ (World.ownsRow.lt (HR4.out.2.2 u hu) i hi).1)).mono ?_; rintro e w5 ⟨rfl, vo5, t5, f5, a5⟩; have HT5 := hide t5; have HF5 := hide f5; have HA5 := hide (f5.nown HA4.out (HAW1.out _ (by omega))); have HX5 : Hid (w5.ownsRow 0 60 4 (.slice (some ⟨w.heap.size + 1, 0, none⟩) 1 1) 1 [nilS, nilS, nilS, nilS]) := f5.row HX4.out (fun i hi => HAW1.out _ (by simp [Value.ownBlock] at hi; omega)); clear t5 f5 a5))
  rename_i hHeld
  clear hHeld q0 q1
  obtain ⟨p5, l5, c5, rfl⟩ : ∃ a b c, vo5 = .slice a b c := by obtain ⟨a, b, hv, _⟩ := HT5.out.ord.form; exact ⟨_, _, _, hv⟩
  obtain ⟨b0, b1, b2, b3, _, _⟩ := HT5.out.cells
  obtain ⟨c0, c1, c2, c3, f0, f1, f2, f3⟩ := box_cells HX5.out
  have HB5 : Hid (Below w.heap.size w w5) := Below.trans HB4.out (HF5.out.below HB4.out.size (fun i hi => by
    by_cases h : w.heap.size ≤ i
    · exact h
    · exact absurd hi (HAW1.out i (by omega))))
  have hne : (w.heap.size + 1) ≠ w2.heap.size := by omega
  go_wp2
  obtain ⟨cur, hk⟩ := row_kind HX5.out
  have t5 := HT5.out
  have k1 := row_apart hk t5.by_.2 (by decide)
  have k2 := row_apart hk t5.far.2 (by decide)
  have k3 := row_apart hk t5.ord (by decide)
  refine bodyPost_ret (ret_tour2 Try.results32 rfl rfl (set_box35 HX5.out)) rfl ⟨_, rfl, ⟨_, gb, gf, rfl, ?_, ?_, ?_, t5.ne1, t5.ne2, t5.ne3⟩, below_set4 HB5.out (by omega) _ _ _ _⟩
  · exact (IOwns.base (row_set4 t5.ord k3 _ _ _ _) (by omega))
  · exact (irow_set4 t5.by_ (fun e => k1 (by simp [Value.ownBlock, e])) _ _ _ _).base (by omega)
  · exact (irow_set4 t5.far (fun e => k2 (by simp [Value.ownBlock, e])) _ _ _ _).base (by omega)
end Go.Proofs.Ytobkejnlkjieoaa
