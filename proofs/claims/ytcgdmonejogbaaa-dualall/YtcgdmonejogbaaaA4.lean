/- spread goes on breadth first: what it does to a tour. -/
import Derived.Test.YtcgdmonejogbaaaX4
import Derived.Test.YtcgdmonejogbaaaA3
namespace Go.Proofs.Ytcgdmonejogbaaa
open Go.RowKit Go.Sort
open Go
structure St where
  O : List Int
  By : List Int
  Fa : List Int
/-- One half-edge gone out by. -/
def bStep (es : List Pt) (u : Nat) (st : St) (h : Nat) : St :=
  if iat st.Fa (toL es h).toNat < 0 then ⟨st.O ++ [toL es h], st.By.set (toL es h).toNat h, st.Fa.set (toL es h).toNat (iat st.Fa u + 1)⟩ else st
/-- The first j half-edges of a node. -/
def bRow (es : List Pt) (u : Nat) (st : St) : Nat → St
  | 0 => st
  | j + 1 => bStep es u (bRow es u st j) (iat (outL es (2 * es.length) u) j).toNat
def bfs (es : List Pt) : Nat → Nat → St → St
  | 0, _, st => st
  | k + 1, j, st => if j < st.O.length then bfs es k (j + 1) (bRow es (iat st.O j).toNat st (outL es (2 * es.length) (iat st.O j).toNat).length) else st
def begin_ (st : St) (s : Nat) : St := ⟨st.O ++ [(s : Int)], st.By.set s (-1), st.Fa.set s 0⟩
/-- What holds of a tour that is under way. -/
structure Ok (n : Nat) (st : St) : Prop where
  lb : st.By.length = n
  lf : st.Fa.length = n
  mem : ∀ j, j < st.O.length → 0 ≤ iat st.O j ∧ iat st.O j < n
  cnt : st.O.length + unl st.Fa ≤ n
  val : ∀ v, v < n → -1 ≤ iat st.Fa v ∧ iat st.Fa v < st.O.length
  fnd : ∀ j, j < st.O.length → 0 ≤ iat st.Fa (iat st.O j).toNat
theorem iat_app {l : List Int} {x : Int} {j : Nat} : iat (l ++ [x]) j = if j < l.length then iat l j else if j = l.length then x else 0 := by
  unfold iat
  rw [List.getD_eq_getElem?_getD, List.getElem?_append]
  split
  · rw [List.getD_eq_getElem?_getD]
  · split
    · rename_i h1 h2; subst h2; simp
    · rename_i h1 h2
      have : j - l.length = (j - l.length - 1) + 1 := by omega
      rw [this]
      rfl
theorem Ok.find {n : Nat} {st : St} {v : Nat} {h f : Int} (o : Ok n st) (hv : v < n) (hn : iat st.Fa v < 0) (hf : 0 ≤ f) (hf2 : f ≤ st.O.length) : Ok n ⟨st.O ++ [(v : Int)], st.By.set v h, st.Fa.set v f⟩ where
  lb := by rw [List.length_set]; exact o.lb
  lf := by rw [List.length_set]; exact o.lf
  mem j hj := by
    simp only [List.length_append, List.length_cons, List.length_nil] at hj
    rw [iat_app]
    split
    · exact o.mem j (by omega)
    · rw [if_pos (by omega)]; omega
  cnt := by
    have := unl_set st.Fa v f (by rw [o.lf]; exact hv) (by omega) hf
    have := o.cnt
    simp only [List.length_append, List.length_cons, List.length_nil]
    omega
  val u hu := by
    simp only [List.length_append, List.length_cons, List.length_nil]
    by_cases e : u = v
    · rw [e, iat_put (by rw [o.lf]; exact hv)]; omega
    · rw [iat_put_ne e]; have := o.val u hu; omega
  fnd j hj := by
    simp only [List.length_append, List.length_cons, List.length_nil] at hj
    show 0 ≤ iat (st.Fa.set v f) (iat (st.O ++ [(v : Int)]) j).toNat
    rw [iat_app]
    split
    · rename_i hj2
      have := o.fnd j hj2
      rw [iat_put_ne (fun e => by rw [e] at this; omega)]
      exact this
    · rw [if_pos (by omega), Int.toNat_natCast, iat_put (by rw [o.lf]; exact hv)]
      exact hf
theorem Ok.begin_ {n : Nat} {st : St} {s : Nat} (o : Ok n st) (hs : s < n) (hn : iat st.Fa s < 0) : Ok n (begin_ st s) := o.find hs hn (by omega) (by omega)
theorem Ok.step {n : Nat} {es : List Pt} {st : St} {u h : Nat} (o : Ok n st) (hm : netB n es = true) (hu : u < n) (h0 : 0 ≤ iat st.Fa u) (hh : h < 2 * es.length) : Ok n (bStep es u st h) ∧ 0 ≤ iat (bStep es u st h).Fa u := by
  unfold bStep
  obtain ⟨t1, t2⟩ := toL_in hm h hh
  obtain ⟨x, hx⟩ : ∃ x : Nat, toL es h = x := ⟨(toL es h).toNat, by omega⟩
  rw [hx]
  rw [hx] at t2
  simp only [Int.toNat_natCast]
  split
  · rename_i hn
    have hv := o.val u hu
    refine ⟨o.find (by omega) hn (by omega) (by omega), ?_⟩
    have : u ≠ x := fun e => by rw [e] at h0; omega
    show 0 ≤ iat (st.Fa.set x _) u
    rw [iat_put_ne this]
    exact h0
  · exact ⟨o, h0⟩
theorem Ok.row {n : Nat} {es : List Pt} {st : St} {u : Nat} (o : Ok n st) (hm : netB n es = true) (hu : u < n) (h0 : 0 ≤ iat st.Fa u) : ∀ j, j ≤ (outL es (2 * es.length) u).length → Ok n (bRow es u st j) ∧ 0 ≤ iat (bRow es u st j).Fa u
  | 0, _ => ⟨o, h0⟩
  | j + 1, hj => by
    obtain ⟨o1, h1⟩ := Ok.row o hm hu h0 j (by omega)
    obtain ⟨k, hk, hk2, _⟩ := outL_at (es := es) (h := 2 * es.length) (v := u) (j := j) (by omega)
    simp only [bRow]
    rw [hk, Int.toNat_natCast]
    exact o1.step hm hu h1 hk2
theorem bStep_len (es : List Pt) (u : Nat) (st : St) (h : Nat) : st.O.length ≤ (bStep es u st h).O.length := by
  unfold bStep; split <;> simp
theorem bRow_len (es : List Pt) (u : Nat) (st : St) : ∀ j, st.O.length ≤ (bRow es u st j).O.length
  | 0 => Nat.le_refl _
  | j + 1 => Nat.le_trans (bRow_len es u st j) (bStep_len es u _ _)
theorem bfs_stop {es : List Pt} {st : St} {j : Nat} (h : ¬ j < st.O.length) : ∀ k, bfs es k j st = st
  | 0 => rfl
  | k + 1 => by simp only [bfs]; rw [if_neg h]
end Go.Proofs.Ytcgdmonejogbaaa
namespace Go.Proofs.Ytcgdmonejogbaaa
open Go.RowKit Go.Sort
open Go
theorem Frame.cell {w w' : World} {q : Nat → Prop} {a : Addr} {v : Value} (h : Frame w w' q) (hc : w.cell? a = some v) (hq : ¬ q a.block) : w'.cell? a = some v := by
  rw [World.cell?_of_block (h.block a.block (block_lt_of_cell hc) hq)]
  exact hc
theorem Frame.frozen {w w' : World} {q : Nat → Prop} {a : Addr} {v : Value} {b : Bool} (h : Frame w w' q) (hc : w.cell? a = some v) (hf : w.frozen? a = b) (hq : ¬ q a.block) : w'.frozen? a = b := by
  rw [World.frozen?_of_block (h.block a.block (block_lt_of_cell hc) hq)]
  exact hf
theorem Frame.nown {w w' : World} {q : Nat → Prop} {k : Nat} {n : Int} {p : Option Addr} {l c : Nat} (h : Frame w w' q) (o : NOwn w k n p l c) (hq : ¬ q k) : NOwn w' k n p l c :=
  ⟨h.cell o.1 hq, h.cell o.2.1 hq, h.frozen o.1 o.2.2.1 hq, h.frozen o.2.1 o.2.2.2 hq⟩
theorem Frame.has {w w' : World} {q : Nat → Prop} {p : Option Addr} {es : List Pt} (h : Frame w w' q) (o : Has w p es) (hq : ∀ a, p = some a → es = [] ∨ ¬ q a.block) : Has w' p es := by
  rcases o with o | ⟨b, off, rfl, hL⟩
  · exact Or.inl o
  · rcases hq ⟨b, off, none⟩ rfl with h0 | h0
    · exact Or.inl h0
    · refine Or.inr ⟨b, off, rfl, fun j hj => ?_⟩
      obtain ⟨c0, c1⟩ := hL j hj
      exact ⟨h.cell c0 h0, h.cell c1 h0⟩
/-- A tour under way, and that nothing else has changed. -/
def SM (W wr : World) (B k n gb gf : Nat) (vo vl : Value) (st : St) : Prop :=
  ∃ vo', TB wr B k n vo' gb gf vl st.O st.By st.Fa ∧ Frame W wr (TBk k gb gf vo) ∧ (vo'.ownBlock = vo.ownBlock ∨ ∃ i, vo'.ownBlock = some i ∧ W.heap.size ≤ i)
theorem SM.found {W wr wr' : World} {B k n gb gf : Nat} {vo vo' vo2 vl : Value} {st' : St} (f : Frame W wr (TBk k gb gf vo)) (a : vo'.ownBlock = vo.ownBlock ∨ ∃ i, vo'.ownBlock = some i ∧ W.heap.size ≤ i) (t2 : TB wr' B k n vo2 gb gf vl st'.O st'.By st'.Fa) (f2 : Frame wr wr' (TBk k gb gf vo')) (a2 : vo2.ownBlock = vo'.ownBlock ∨ ∃ i, vo2.ownBlock = some i ∧ wr.heap.size ≤ i) : SM W wr' B k n gb gf vo vl st' := by
  have hs := f.size
  refine ⟨vo2, t2, ⟨f2.os.trans f.os, f2.tape.trans f.tape, f2.output.trans f.output, Nat.le_trans f.size f2.size, fun i hi hq => ?_⟩, ?_⟩
  · refine (f2.block i (by omega) fun hk => ?_).trans (f.block i hi hq)
    rcases hk with h | h | h | h
    · exact hq (Or.inl h)
    · exact hq (Or.inr (Or.inl h))
    · exact hq (Or.inr (Or.inr (Or.inl h)))
    · rcases a with a | ⟨x, hx, hx2⟩
      · exact hq (Or.inr (Or.inr (Or.inr (by rw [← a]; exact h))))
      · rw [hx] at h; injection h with h; omega
  · rcases a2 with a2 | ⟨x, hx, hx2⟩
    · rcases a with a | ⟨x, hx, hx2⟩
      · exact Or.inl (a2.trans a)
      · exact Or.inr ⟨x, by rw [a2]; exact hx, hx2⟩
    · exact Or.inr ⟨x, hx, by omega⟩
set_option maxRecDepth 100000 in
set_option maxHeartbeats 8000000 in
theorem spread38 (m : Nat) (p : Option Addr) (es : List Pt) (cp : Nat) (Bo g : Nat) (rv : Nat → Value) (B k gb gf : Nat) (vo vl : Value) (st : St) (s : Nat) (w : World)
    (hm : netB m es = true) (h : Has w p es) (hR : Rows w Bo g m rv (outL es (2 * es.length))) (t : TB w B k m vo gb gf vl st.O st.By st.Fa) (ok : Ok m st) (hs : s < m) (hsn : iat st.Fa s < 0) (hB : B ≤ w.heap.size)
    (ap : ∀ a, p = some a → es = [] ∨ ¬ TBk k gb gf vo a.block) (ag : ¬ TBk k gb gf vo g) (ar : ∀ v i, v < m → (rv v).ownBlock = some i → ¬ TBk k gb gf vo i) :
    Calls Try.prog 93 #[nv m p es.length cp, .slice (some ⟨g, 0, none⟩) m m, .pointer (some ⟨k, 0, none⟩), .int .i64 s] w fun e w' => e = .returned (.tuple #[]) ∧ SM w w' B k m gb gf vo vl (bfs es m st.O.length (begin_ st s)) := by
  obtain ⟨W, hW, hb, a0⟩ := one_net w m p es.length cp
  obtain ⟨n0, n1, hes, _⟩ := netB_is hm
  have HM := hide hm
  have HH := hide (h.later hb)
  have HA := hide a0
  have HR := hide (hR.later hb)
  have HB := hide hb
  have hws : w.heap.size < W.heap.size := block_lt_of_cell a0.1
  have tW := t.later hb
  have hkb : ¬ TBk k gb gf vo w.heap.size := by
    have h1 : k < w.heap.size := block_lt_of_cell t.cells.1
    have h2 := t.by_.lt
    have h3 := t.far.lt
    rintro (h | h | h | h)
    · omega
    · omega
    · omega
    · have := (World.ownsRow.lt t.ord _ h).2; omega
  have HAW := hide (And.intro hkb (And.intro ap (And.intro ag ar)))
  have hcn := ok.cnt
  have F1 := hide (find53 B k m vo gb gf vl st.O st.By st.Fa s (-1) 0 W tW hs (by omega) (by omega))
  have HOK := hide (ok.begin_ hs hsn)
  obtain ⟨po, co, hvo, _⟩ := tW.ord.form
  obtain ⟨x0, x1, x2, x3, x4, _⟩ := t.cells
  have z1 : k < w.heap.size := block_lt_of_cell x0
  have z2 : k ≠ w.heap.size := by omega
  rw [hvo] at x0
  have HVO := hide hvo
  clear h hb a0 hm hR t tW hkb ap ag ar hvo ok
  have hOl : st.O.length ≤ m := by omega
  obtain ⟨R, hRR⟩ : ∃ R, bfs es m st.O.length (begin_ st s) = R := ⟨_, rfl⟩
  rw [hRR]
  have HRR := hide hRR
  clear hRR
  go_enter Try.func93, Try.ntmps93
  go_wp2_with fail
  rw [← hW]
  clear hW
  refine F1.out.mono ?_
  rintro e w1 ⟨rfl, vo1, t1, f1, a1⟩
  have HS1 : Hid (SM W w1 B k m gb gf vo vl (begin_ st s)) := ⟨vo1, t1, f1, a1⟩
  clear F1 t1 f1 a1 x0 x1 x2 x3 x4 z1 z2
  go_wp2_with fail
  obtain ⟨kb, hkb⟩ : ∃ kb, w.heap.size = kb := ⟨_, rfl⟩
  rw [hkb] at HA HAW ⊢
  have HKB := hide hkb
  clear hkb
  go_loopw [8] (fun t wr => ∃ (j kk : Nat) (st' : St), j ≤ m ∧ t = .int .i64 j ∧ Hid (Ok m st') ∧ Hid (bfs es kk j st' = R ∧ m ≤ kk + j) ∧ Hid (SM W wr B k m gb gf vo vl st')) (fun t _ => m - (intOf t).toNat)
  case atStart => exact ⟨st.O.length, m, begin_ st s, hOl, rfl, HOK.out, ⟨HRR.out, by omega⟩, HS1.out⟩
  case round =>
    obtain ⟨j, kk, st', hj, rfl, HO, HF, HS⟩ := hrel
    obtain ⟨vo', tr, fr, ar⟩ := HS.out
    obtain ⟨po, co, hvo, _⟩ := tr.ord.form
    obtain ⟨x0, _, _, _, _, _⟩ := tr.cells
    rw [hvo] at x0
    have hcn := HO.out.cnt
    by_cases hlt : j < st'.O.length
    · have hjm : j < m := by omega
      have i1 : (j : Int) < st'.O.length := by omega
      have i2 : (0 : Int) ≤ j := by omega
      obtain ⟨u0, u1⟩ := HO.out.mem j hlt
      obtain ⟨kk', rfl⟩ : ∃ k', kk = k' + 1 := ⟨kk - 1, by have := HF.out.2; omega⟩
      have HF2 : Hid (bfs es kk' (j + 1) (bRow es (iat st'.O j).toNat st' (outL es (2 * es.length) (iat st'.O j).toNat).length) = R ∧ m ≤ kk' + (j + 1)) := by
        obtain ⟨h1, h2⟩ := HF.out
        simp only [bfs] at h1
        rw [if_pos hlt] at h1
        exact ⟨h1, by omega⟩
      obtain ⟨bo, cc, hbo, _, _, _⟩ := iowns_block tr.ord (by omega)
      rw [hvo] at hbo
      simp only [Value.slice.injEq, true_and] at hbo
      obtain ⟨rfl, rfl⟩ := hbo
      have o0 := tr.ord
      rw [hvo] at o0
      have o1 := o0.at_ hlt
      have hfu := HO.out.fnd j hlt
      obtain ⟨u, hu⟩ : ∃ u : Nat, iat st'.O j = u := ⟨(iat st'.O j).toNat, by omega⟩
      rw [hu] at o1 HF2 u0 u1 hfu
      rw [Int.toNat_natCast] at HF2 hfu
      have hum : u < m := by omega
      have hRw := fr.rows HR.out HAW.out.2.2.1 HAW.out.2.2.2
      obtain ⟨y0, _⟩ := hRw.cell hum
      obtain ⟨pr, cr, hrv, _⟩ := (hRw.2.2 u hum).form
      rw [hrv] at y0
      have HRV := hide hrv
      obtain ⟨L, hL⟩ : ∃ L, outL es (2 * es.length) u = L := ⟨_, rfl⟩
      rw [hL] at HF2 y0 HRV
      have hLl := outL_length es (2 * es.length) u
      rw [hL] at hLl
      have HL := hide hL
      have j1 : (u : Int) < m := by omega
      have j2 : (0 : Int) ≤ u := by omega
      have HOF := hide (fun i (hi : i ≤ L.length) => HO.out.row HM.out hum hfu i (by rw [hL]; exact hi))
      clear hvo hu o0 hRw hrv hL HF tr fr ar hcn hfu u0
      go_wp2_with fail
      clear x0 y0 o1
      obtain ⟨w2, hw2⟩ : ∃ w2, w2 = wr := ⟨_, rfl⟩
      rw [← hw2] at HS ⊢
      clear hw2
      go_loopw [42] (fun t wr => ∃ i : Nat, i ≤ L.length ∧ t = .int .i64 i ∧ Hid (SM W wr B k m gb gf vo vl (bRow es u st' i))) (fun t _ => L.length - (intOf t).toNat)
      case atStart => exact ⟨0, by omega, rfl, HS.out⟩
      case round =>
        clear HS
        obtain ⟨i, hi, rfl, HS⟩ := hrel
        by_cases hil : i < L.length
        · obtain ⟨ok1, hfu⟩ := HOF.out i hi
          have HSTEP : Hid (bRow es u st' (i + 1) = bStep es u (bRow es u st' i) (iat (outL es (2 * es.length) u) i).toNat) := rfl
          rw [HL.out] at HSTEP
          obtain ⟨h, hh1, hh2, hh3⟩ := outL_at (es := es) (h := 2 * es.length) (v := u) (j := i) (by rw [HL.out]; exact hil)
          rw [HL.out] at hh1
          rw [hh1, Int.toNat_natCast] at HSTEP
          obtain ⟨v0, v1⟩ := toL_in HM.out h hh2
          obtain ⟨v, hv⟩ : ∃ v : Nat, toL es h = v := ⟨(toL es h).toNat, by omega⟩
          unfold bStep at HSTEP
          rw [hv, Int.toNat_natCast] at HSTEP
          rw [hv] at v0 v1
          have hvm : v < m := by omega
          obtain ⟨S, hS⟩ : ∃ S, bRow es u st' i = S := ⟨_, rfl⟩
          rw [hS] at HS HSTEP ok1 hfu
          obtain ⟨vo', tr, fr, ar⟩ := HS.out
          have hRw := fr.rows HR.out HAW.out.2.2.1 HAW.out.2.2.2
          have hro := hRw.2.2 u hum
          rw [HRV.out, HL.out] at hro
          obtain ⟨br, cr2, hbr, _, _, _⟩ := iowns_block hro (by omega)
          simp only [Value.slice.injEq, true_and] at hbr
          obtain ⟨rfl, rfl⟩ := hbr
          have r0 := hro.at_ hil
          rw [hh1] at r0
          have hN := fr.nown HA.out HAW.out.1
          obtain ⟨q0, q1, _, _⟩ := hN
          have CT := hide (comes54 m p es cp h wr (fr.has HH.out HAW.out.2.1) hh2 (by omega))
          rw [hv] at CT
          have k1 : (i : Int) < L.length := by omega
          have k2 : (0 : Int) ≤ i := by omega
          have k3 : (v : Int) < m := by omega
          have k4 : (0 : Int) ≤ v := by omega
          have HTR := hide tr
          have HFR := hide fr
          have HAR := hide ar
          have hcn := ok1.cnt
          have hfv := ok1.val u hum
          have HOK1 := hide ok1
          clear hRw hro hh1 hh3 hv hS tr fr ar ok1 v0
          go_wp2_with fail
          refine CT.out.mono ?_
          rintro e w3 ⟨rfl, hb3⟩
          have t3 := HTR.out.later hb3
          have f3 := HFR.out.trans (Frame.of_below hb3 _)
          obtain ⟨x0, x1, x2, x3, x4, _⟩ := t3.cells
          obtain ⟨a0, a1⟩ := t3.far.cell hvm
          obtain ⟨b0, b1⟩ := t3.far.cell hum
          have hB3 : B ≤ w3.heap.size := by have h1 := HB.out.size; have h2 := HFR.out.size; have h3 := hb3.size; omega
          have FD := hide (find53 B k m vo' gb gf vl S.O S.By S.Fa v h (iat S.Fa u + 1) w3 t3 hvm hB3 (by omega))
          have HF3 := hide f3
          have HT3 := hide t3
          clear CT hb3 t3 f3 r0 q0 q1 HTR HFR hB3
          by_cases hneg : iat S.Fa v < 0
          · rw [if_pos hneg] at HSTEP
            obtain ⟨fv, hfv1⟩ : ∃ fv, iat S.Fa v = fv := ⟨_, rfl⟩
            obtain ⟨fu, hfu1⟩ : ∃ fu, iat S.Fa u = fu := ⟨_, rfl⟩
            rw [hfv1] at a0 hneg
            rw [hfu1] at b0 hfv hfu HSTEP FD
            clear hfv1 hfu1
            go_wp2_with fail
            refine FD.out.mono ?_
            rintro e w4 ⟨rfl, vo4, t4, f4, a4⟩
            have HS4 : Hid (SM W w4 B k m gb gf vo vl ⟨S.O ++ [(v : Int)], S.By.set v h, S.Fa.set v (fu + 1)⟩) := SM.found HF3.out HAR.out t4 f4 a4
            clear t4 f4 a4 FD x0 x1 x2 x3 x4 a0 a1 b0 b1 HF3 HT3
            go_wp2
            go_roundw
            case rel => exact ⟨i + 1, by omega, by go_num, by rw [HSTEP.out]; exact HS4.out⟩
            case measure => simp [intOf]; omega
          · rw [if_neg hneg] at HSTEP
            have HS4 : Hid (SM W w3 B k m gb gf vo vl S) := ⟨vo', HT3.out, HF3.out, HAR.out⟩
            obtain ⟨fv, hfv1⟩ : ∃ fv, iat S.Fa v = fv := ⟨_, rfl⟩
            rw [hfv1] at a0 hneg
            clear hfv1 FD HF3 HT3
            go_wp2
            go_roundw
            case rel => exact ⟨i + 1, by omega, by go_num, by rw [HSTEP.out]; exact HS4.out⟩
            case measure => simp [intOf]; omega
        · have hin : i = L.length := by omega
          have k1 : ¬ (i : Int) < L.length := by omega
          rw [hin] at HS
          have HO2 := hide (HOF.out L.length (Nat.le_refl _)).1
          clear hin
          go_wp2
          go_roundw
          case rel => exact ⟨j + 1, kk', _, by omega, by go_num, HO2.out, HF2.out, HS.out⟩
          case measure => simp [intOf]; omega
    · have i1 : ¬ (j : Int) < st'.O.length := by omega
      have hR' : R = st' := by rw [← HF.out.1]; exact bfs_stop hlt kk
      rw [← hR'] at HS
      have HSW := hide HS.out
      clear hR' HF tr fr ar hvo
      go_wp2
      go_end0
      refine ⟨rfl, ?_⟩
      obtain ⟨vo2, t2, f2, a2⟩ := HSW.out
      exact ⟨vo2, t2, (Frame.of_below HB.out _).trans f2, a2.imp id fun ⟨i, h1, h2⟩ => ⟨i, h1, by have := HKB.out; omega⟩⟩
end Go.Proofs.Ytcgdmonejogbaaa
