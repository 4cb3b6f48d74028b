/- dive goes on depth first: what it does to a tour. -/
import Derived.Test.YtobkejnlkjieoaaZC02
import Derived.Test.YtobkejnlkjieoaaZC05
import Derived.Test.YtobkejnlkjieoaaZC06
import Derived.Deep.LoopGhost
import Derived.Deep.QuietTactic
import Derived.Test.YtobkejnlkjieoaaZC04
namespace Go.Proofs.Ytobkejnlkjieoaa
open Go.RowKit Go.Sort
open Go

theorem FrameW.set_new {W wr : World} {q : Nat → Prop} (f : FrameW W wr q) (a : Addr) (v : Value) (h : W.heap.size ≤ a.block) : FrameW W (wr.setCell a v) q :=
  ⟨f.os, f.tape, f.output, by simpa using f.size, fun i hi hq => (Below.heap_setCell _ _ _ _ (fun e => by first | (rw [e] at hi; omega) | (rw [← e] at hi; omega))).trans (f.block i hi hq)⟩
theorem FrameW.grown_new {W wr w' : World} {q : Nat → Prop} {r : Option Nat} (f : FrameW W wr q) (g : wr.grownBy w' r) (h : ∀ i, r = some i → W.heap.size ≤ i) : FrameW W w' q :=
  ⟨g.os.trans f.os, g.tape.trans f.tape, g.output.trans f.output, Nat.le_trans f.size g.size, fun i hi hq => (g.block i (Nat.lt_of_lt_of_le hi f.size) (fun e => by have := h i e.symm; omega)).trans (f.block i hi hq)⟩
theorem TB.set_other {w : World} {B k n : Nat} {vo : Value} {gb gf : Nat} {vl : Value} {O By Fa : List Int} (t : TB w B k n vo gb gf vl O By Fa) (a : Addr) (v : Value) (h1 : a.block ≠ k) (h2 : a.block ≠ gb) (h3 : a.block ≠ gf) (h4 : vo.ownBlock ≠ some a.block) : TB (w.setCell a v) B k n vo gb gf vl O By Fa :=
  ⟨ownsRow_setCell_other t.box (by simp [Value.ownBlock]; exact fun e => h1 e.symm) v, ownsRow_setCell_other t.ord h4 v, ⟨t.by_.1, ownsRow_setCell_other t.by_.2 (by simp [Value.ownBlock]; exact fun e => h2 e.symm) v⟩, ⟨t.far.1, ownsRow_setCell_other t.far.2 (by simp [Value.ownBlock]; exact fun e => h3 e.symm) v⟩, t.ne1, t.ne2, t.ne3⟩
theorem TB.grown {w w' : World} {B k n : Nat} {vo : Value} {gb gf : Nat} {vl : Value} {O By Fa : List Int} {r : Option Nat} (t : TB w B k n vo gb gf vl O By Fa) (g : w.grownBy w' r) (h1 : r ≠ some k) (h2 : r ≠ some gb) (h3 : r ≠ some gf) (h4 : ∀ i, r = some i → vo.ownBlock ≠ some i) : TB w' B k n vo gb gf vl O By Fa :=
  ⟨World.ownsRow.kept t.box g (Or.inr (fun e => h1 e.symm)), World.ownsRow.kept t.ord g (by
    cases hv : vo.ownBlock with
    | none => exact Or.inl rfl
    | some i => exact Or.inr (fun e => h4 i e.symm hv)), ⟨t.by_.1, World.ownsRow.kept t.by_.2 g (Or.inr (fun e => h2 e.symm))⟩, ⟨t.far.1, World.ownsRow.kept t.far.2 g (Or.inr (fun e => h3 e.symm))⟩, t.ne1, t.ne2, t.ne3⟩
/-- The tour, how far each node has gone, and the stack. -/
def DM (W wr : World) (B k n gb gf gg : Nat) (vo vl : Value) (pT : Option Addr) (cT : Nat) (d : Ds) : Prop :=
  ∃ vo', TB wr B k n vo' gb gf vl d.st.O d.st.By d.st.Fa ∧ FrameW W wr (TBk k gb gf vo) ∧ (vo'.ownBlock = vo.ownBlock ∨ ∃ i, vo'.ownBlock = some i ∧ W.heap.size ≤ i) ∧ IRow wr W.heap.size gg n d.G ∧ IOwns wr W.heap.size (.slice pT d.S.length cT) (nums d.S.reverse) ∧ vo'.ownBlock ≠ some gg ∧ (Value.slice pT d.S.length cT).ownBlock ≠ some gg ∧ ∀ i, (Value.slice pT d.S.length cT).ownBlock = some i → vo'.ownBlock ≠ some i
section
variable {W wr wr' : World} {B k n gb gf gg : Nat} {vo vl : Value} {pT : Option Addr} {cT : Nat} {d : Ds}
theorem DM.later (h : DM W wr B k n gb gf gg vo vl pT cT d) (hb : Below wr.heap.size wr wr') : DM W wr' B k n gb gf gg vo vl pT cT d := by
  obtain ⟨vo', t, f, a, hg, hs, n⟩ := h
  exact ⟨vo', t.later hb, f.trans (FrameW.of_below hb _), a, hg.later hb, hs.later hb, n⟩
/-- What lies below the walk's own memory. -/
structure Low (W : World) (k gb gf gg : Nat) (vo : Value) : Prop where
  k : k < W.heap.size
  gb : gb < W.heap.size
  gf : gf < W.heap.size
  vo : ∀ i, vo.ownBlock = some i → i < W.heap.size
  gg : W.heap.size ≤ gg
theorem DM.pop {u : Nat} {r : List Nat} {st : St} {G : List Int} (h : DM W wr B k n gb gf gg vo vl pT cT ⟨st, G, u :: r⟩) : DM W wr B k n gb gf gg vo vl pT cT ⟨st, G, r⟩ := by
  obtain ⟨vo', t, f, a, hg, hs, n1, n2, n3⟩ := h
  obtain ⟨b, c', hbv, _, _, _⟩ := iowns_blockW hs (by rw [nums_length]; simp)
  simp only [Value.slice.injEq] at hbv
  obtain ⟨rfl, _, rfl⟩ := hbv
  refine ⟨vo', t, f, a, hg, ?_, n1, n2, n3⟩
  have e : (u :: r).reverse = r.reverse ++ [u] := by simp
  simp only [e] at hs
  have hs2 : IOwns wr W.heap.size (.slice (some ⟨b, 0, none⟩) (r.reverse ++ [u]).length cT) (nums (r.reverse ++ [u])) := by
    rw [show (r.reverse ++ [u]).length = (u :: r).length by simp]
    exact hs
  have := pop_int hs2
  rw [List.length_reverse] at this
  exact this
theorem DM.put {st : St} {G : List Int} {S : List Nat} (h : DM W wr B k n gb gf gg vo vl pT cT ⟨st, G, S⟩) (l : Low W k gb gf gg vo) (u : Nat) (x : Int) : DM W (wr.setCell ⟨gg, u, none⟩ (.int .i64 x)) B k n gb gf gg vo vl pT cT ⟨st, G.set u x, S⟩ := by
  obtain ⟨vo', t, f, a, hg, hs, n1, n2, n3⟩ := h
  have h1 := l.k; have h2 := l.gb; have h3 := l.gf; have h4 := l.gg
  exact ⟨vo', t.set_other ⟨gg, u, none⟩ _ (by simp; omega) (by simp; omega) (by simp; omega) n1, f.set_new ⟨gg, u, none⟩ _ h4, a, hg.set u x, ownsRow_setCell_other hs n2 _, n1, n2, n3⟩
theorem DM.found {st' : St} {G : List Int} {S : List Nat} {vo' vo2 : Value} (l : Low W k gb gf gg vo) (f : FrameW W wr (TBk k gb gf vo)) (a : vo'.ownBlock = vo.ownBlock ∨ ∃ i, vo'.ownBlock = some i ∧ W.heap.size ≤ i) (hg : IRow wr W.heap.size gg n G) (hs : IOwns wr W.heap.size (.slice pT S.length cT) (nums S.reverse)) (n1 : vo'.ownBlock ≠ some gg) (n2 : (Value.slice pT S.length cT).ownBlock ≠ some gg) (n3 : ∀ i, (Value.slice pT S.length cT).ownBlock = some i → vo'.ownBlock ≠ some i)
    (t2 : TB wr' B k n vo2 gb gf vl st'.O st'.By st'.Fa) (f2 : FrameW wr wr' (TBk k gb gf vo')) (a2 : vo2.ownBlock = vo'.ownBlock ∨ ∃ i, vo2.ownBlock = some i ∧ wr.heap.size ≤ i) : DM W wr' B k n gb gf gg vo vl pT cT ⟨st', G, S⟩ := by
  have h1 := l.k; have h2 := l.gb; have h3 := l.gf; have h4 := l.gg
  obtain ⟨vo3, t3, f3, a3⟩ := SMW.found (st' := st') f a t2 f2 a2
  have hsl := fun i hi => World.ownsRow.lt hs i hi
  refine ⟨vo2, t2, f3, ?_, ?_, ?_, ?_, n2, ?_⟩
  · rcases a2 with a2 | ⟨x, hx, hx2⟩
    · rcases a with a | ⟨x, hx, hx2⟩
      · exact Or.inl (a2.trans a)
      · exact Or.inr ⟨x, by rw [a2]; exact hx, hx2⟩
    · exact Or.inr ⟨x, hx, by have := f.size; omega⟩
  · refine f2.irow hg ?_
    rintro (h | h | h | h)
    · omega
    · omega
    · omega
    · exact n1 h
  · refine f2.iowns hs ?_
    intro i hi
    have := (hsl i hi).1
    rintro (h | h | h | h)
    · omega
    · omega
    · omega
    · exact n3 i hi h
  · rcases a2 with a2 | ⟨x, hx, hx2⟩
    · rw [a2]; exact n1
    · rw [hx]; have := hg.lt.2; intro e; injection e with e; omega
  · intro i hi
    rcases a2 with a2 | ⟨x, hx, hx2⟩
    · rw [a2]; exact n3 i hi
    · rw [hx]; have := (hsl i hi).2; intro e; injection e with e; omega
theorem DM.push {st : St} {G : List Int} {S : List Nat} {x c1 l1 : Nat} {p1 : Option Addr} (h : DM W wr B k n gb gf gg vo vl pT cT ⟨st, G, S⟩) (l : Low W k gb gf gg vo)
    (o1 : IOwns wr' W.heap.size (.slice p1 l1 c1) (nums S.reverse ++ [(x : Int)])) (gr : wr.grownBy wr' (Value.slice pT S.length cT).ownBlock) (at1 : (Value.slice p1 l1 c1).ownBlock = (Value.slice pT S.length cT).ownBlock ∨ (Value.slice p1 l1 c1).ownBlock = some wr.heap.size) (hl1 : l1 = S.length + 1) : DM W wr' B k n gb gf gg vo vl p1 c1 ⟨st, G, x :: S⟩ := by
  have h1 := l.k; have h2 := l.gb; have h3 := l.gf; have h4 := l.gg
  obtain ⟨vo', t, f, a, hg, hs, n1, n2, n3⟩ := h
  have hsl := fun i hi => World.ownsRow.lt hs i hi
  subst hl1
  refine ⟨vo', t.grown gr ?_ ?_ ?_ n3, f.grown_new gr (fun i hi => (hsl i hi).1), a, ⟨hg.1, World.ownsRow.kept hg.2 gr (Or.inr (fun e => n2 e.symm))⟩, ?_, n1, ?_, ?_⟩
  · intro e; have := (hsl _ e).1; omega
  · intro e; have := (hsl _ e).1; omega
  · intro e; have := (hsl _ e).1; omega
  · simp only [List.length_cons, List.reverse_cons]
    rw [nums_more]
    exact o1
  · simp only [List.length_cons]
    rcases at1 with e | e
    · rw [e]; exact n2
    · rw [e]; have := hg.lt.2; intro e'; injection e' with e'; omega
  · intro i hi
    simp only [List.length_cons] at hi
    rcases at1 with e | e
    · rw [e] at hi; exact n3 i hi
    · rw [e] at hi
      injection hi with hi
      intro hv
      have := (World.ownsRow.lt t.ord i hv).2
      omega
end
end Go.Proofs.Ytobkejnlkjieoaa

/- dive, in every world. -/
namespace Go.Proofs.Ytobkejnlkjieoaa
open Go.RowKit Go.Sort
open Go

def d0 (m s : Nat) (st : St) : Ds := ⟨begin_ st s, List.replicate m 0, [s]⟩
theorem d0_ok {es : List Pt} {m s : Nat} {st : St} (o : Ok m st) (hs : s < m) (hn : iat st.Fa s < 0) : Dk es m (d0 m s st) where
  ok := o.begin_ hs hn
  lg := by simp [d0]
  gv u hu := by show 0 ≤ iat (List.replicate m 0) u ∧ iat (List.replicate m 0) u ≤ _; rw [iat_fill hu]; omega
  sm u hu := by
    have : u = s := by simpa [d0] using hu
    subst this
    exact ⟨hs, by show 0 ≤ iat (st.Fa.set u 0) u; rw [iat_putW (by rw [o.lf]; exact hs)]; omega⟩
  sl := by simp [d0, begin_]
set_option maxRecDepth 100000 in
set_option maxHeartbeats 8000000 in
theorem dive40 (m : Nat) (p : Option Addr) (es : List Pt) (cp : Nat) (Bo g : Nat) (rv : Nat → Value) (B k gb gf : Nat) (vo vl : Value) (st : St) (s : Nat) (w : World)
    (hm : netB m es = true) (h : Has w p es) (hR : Rows w Bo g m rv (outL es (2 * es.length))) (t : TB w B k m vo gb gf vl st.O st.By st.Fa) (ok : Ok m st) (hs : s < m) (hsn : iat st.Fa s < 0) (hB : B ≤ w.heap.size)
    (ap : ∀ a, p = some a → es = [] ∨ ¬ TBk k gb gf vo a.block) (ag : ¬ TBk k gb gf vo g) (ar : ∀ v i, v < m → (rv v).ownBlock = some i → ¬ TBk k gb gf vo i) :
    Calls Try.prog 83 #[nv m p es.length cp, .slice (some ⟨g, 0, none⟩) m m, .pointer (some ⟨k, 0, none⟩), .int .i64 s] w fun e w' => e = .returned (.tuple #[]) ∧ SMW w w' B k m gb gf vo vl (dfs es (dM es m (d0 m s st)) (d0 m s st)).st := by
  obtain ⟨W, hW, hb, a0⟩ := one_net w m p es.length cp
  obtain ⟨n0, n1, hes, _⟩ := netB_is hm
  have HM := hide hm
  have HH := hide (h.later hb)
  have HA := hide a0
  have HR := hide (hR.later hb)
  have HB := hide hb
  have hws : w.heap.size < W.heap.size := block_lt_of_cell a0.1
  have hWs : W.heap.size = w.heap.size + 1 := by rw [hW]; simp
  have tW := t.later hb
  have hkb : ¬ TBk k gb gf vo w.heap.size := by
    have h1 : k < w.heap.size := block_lt_of_cell t.cells.1
    have h2 := t.by_.lt
    have h3 := t.far.lt
    rintro (h | h | h | h)
    · omega
    · omega
    · omega
    · have := (World.ownsRow.lt t.ord _ h).2; omega
  have HAW := hide (And.intro hkb (And.intro ap (And.intro ag ar)))
  have HLW : Hid (Low W k gb gf W.heap.size vo) := ⟨by have : k < w.heap.size := block_lt_of_cell t.cells.1; omega, tW.by_.lt.2, tW.far.lt.2, fun i hi => (World.ownsRow.lt tW.ord i hi).2, Nat.le_refl _⟩
  have HDK := hide (d0_ok (es := es) ok hs hsn)
  have hcn := ok.cnt
  have HTW := hide tW
  obtain ⟨R, hRR⟩ : ∃ R, dfs es (dM es m (d0 m s st)) (d0 m s st) = R := ⟨_, rfl⟩
  rw [hRR]
  have HRR := hide hRR
  obtain ⟨i0, hi0, hz0, hz1, hz2⟩ := info_parts info3
  obtain ⟨q0, q1, _, _⟩ := a0
  clear h hb hm hR t tW hkb ap ag ar ok hRR q0 q1
  go_enter Try.func83, Try.ntmps83
  go_wp2_with (refine wpList_make_full _ rfl (.tmp 14) (.tmp 14) 32 rfl (w.alloc (nbx m p es.length cp)).heap.size 3 i0 (.int .i64 0) 1 Try.underlying32 hi0 hz0 hz1 .i64 .i64 _ _ m rfl rfl rfl rfl ?c1 ?c2 ?c3 ?_)
  case c1 => rw [hz2]; omega
  case c2 => unfold maxLen; omega
  case c3 => exact Nat.le_refl _
  intro w1 hown hgrow
  have hgrow' : W.grownBy w1 none := by rw [hW]; exact hgrow
  have hg1 := irow_made hown
  have hb1 := below_made hgrow'
  have F1 := hide (find53 B k m vo gb gf vl st.O st.By st.Fa s (-1) 0 w1 (HTW.out.later hb1) hs (by have := hb1.size; omega) (by omega))
  have HG1 := hide hg1
  have HB1 := hide hb1
  clear hown hgrow hgrow' hg1 hb1 hW
  go_wp2_with fail
  refine F1.out.mono ?_
  rintro e w2 ⟨rfl, vo1, t1, f1, a1⟩
  rw [show w.heap.size + 1 = W.heap.size from hWs.symm] at HG1 ⊢
  have hg2 : IRow w2 W.heap.size W.heap.size m (List.replicate m 0) := f1.irow HG1.out (by
    have l := HLW.out
    have h1 := l.k; have h2 := l.gb; have h3 := l.gf
    rintro (h | h | h | h)
    · omega
    · omega
    · omega
    · have := l.vo _ h; omega)
  obtain ⟨X, hX⟩ : ∃ X, X = w2.alloc (.cells #[.int .i64 s] 3) := ⟨_, rfl⟩
  have hbX : Below w2.heap.size w2 X := by rw [hX]; go_grown
  have s1 := HB1.out.size
  have s2 := f1.size
  have s3 : W.heap.size < w1.heap.size := HG1.out.lt.2
  have HDM : Hid (DM W X B k m gb gf W.heap.size vo vl (some ⟨w2.heap.size, 0, none⟩) 1 (d0 m s st)) := by
    refine ⟨vo1, t1.later hbX, ((FrameW.of_below HB1.out _).trans f1).trans (FrameW.of_below hbX _), ?_, hg2.later hbX, ?_, ?_, ?_, ?_⟩
    · exact a1.imp id fun ⟨i, h1, h2⟩ => ⟨i, h1, by omega⟩
    · show X.ownsRow W.heap.size 3 1 (.slice (some ⟨w2.heap.size, 0, none⟩) 1 1) 1 [.int .i64 s]
      rw [hX]
      exact World.ownsRow_lit w2 #[.int .i64 s] 1 (by omega) (by unfold maxLen; omega) rfl
    · rcases a1 with a1 | ⟨i, h1, h2⟩
      · rw [a1]; intro e; have := HLW.out.vo _ e; omega
      · rw [h1]; intro e; injection e with e; omega
    · show some w2.heap.size ≠ some W.heap.size
      intro e; injection e with e; omega
    · intro i hi hv
      have h1 : w2.heap.size = i := by injection hi
      have := (World.ownsRow.lt t1.ord i hv).2
      omega
  clear F1 t1 f1 a1 hg2 HG1 hbX s1 s2 s3 HTW hWs hws
  go_wp2_with fail
  rw [← hX]
  clear hX
  obtain ⟨kb, hkb⟩ : ∃ kb, w.heap.size = kb := ⟨_, rfl⟩
  rw [hkb] at HA HAW ⊢
  have HKB := hide hkb
  obtain ⟨gg, hgg⟩ : ∃ gg, W.heap.size = gg := ⟨_, rfl⟩
  obtain ⟨ks, hks⟩ : ∃ ks, w2.heap.size = ks := ⟨_, rfl⟩
  have HDM2 : Hid (DM W X B k m gb gf gg vo vl (some ⟨ks, 0, none⟩) 1 (d0 m s st)) := by rw [← hgg, ← hks]; exact HDM.out
  have HLW2 : Hid (Low W k gb gf gg vo) := by rw [← hgg]; exact HLW.out
  have HGG := hide hgg
  rw [hgg, hks]
  clear hkb hgg hks HDM HLW
  go_loopg [9] (dM es m (d0 m s st)) (fun gk t9 wr => ∃ (d : Ds) (pT : Option Addr) (cT : Nat), t9 = .slice pT d.S.length cT ∧ Hid (Dk es m d) ∧ Hid (dfs es gk d = R ∧ dM es m d ≤ gk) ∧ Hid (DM W wr B k m gb gf gg vo vl pT cT d))
  case atStart => exact ⟨d0 m s st, _, _, rfl, HDK.out, ⟨HRR.out, Nat.le_refl _⟩, HDM2.out⟩
  case round =>
    obtain ⟨d, pT, cT, rfl, HK, HF, HD⟩ := hrel
    obtain ⟨dst, G, S⟩ := d
    cases S with
    | nil =>
      have hR : R = ⟨dst, G, []⟩ := by
        rw [← HF.out.1]
        cases gk with
        | zero => rfl
        | succ k => rfl
      obtain ⟨vo', t, f, a, _⟩ := HD.out
      have HS : Hid (SMW w wr B k m gb gf vo vl R.st) := by
        rw [hR]
        exact ⟨vo', t, (FrameW.of_below HB.out _).trans f, a.imp id fun ⟨i, h1, h2⟩ => ⟨i, h1, by have := HB.out.size; omega⟩⟩
      clear hR t f a HD HF HK
      go_wp2
      go_end0
      exact ⟨rfl, HS.out⟩
    | cons u r =>
      obtain ⟨gk', rfl⟩ : ∃ k', gk = k' + 1 := ⟨gk - 1, by have := HF.out.2; unfold dM at this; simp at this; omega⟩
      obtain ⟨hK1, hM1⟩ := HK.out.one HM.out rfl
      have HF1 : Hid (dfs es gk' (dOne es ⟨dst, G, u :: r⟩ u r) = R ∧ dM es m (dOne es ⟨dst, G, u :: r⟩ u r) ≤ gk') := ⟨HF.out.1, by have := HF.out.2; omega⟩
      have HK1 := hide hK1
      obtain ⟨hu, hfu⟩ := HK.out.sm u (by simp)
      obtain ⟨g0, g1⟩ := HK.out.gv u hu
      obtain ⟨vo', t, f, a, hg, hsT, n1', n2', n3'⟩ := HD.out
      obtain ⟨b, c', hbv, _, _, _⟩ := iowns_blockW hsT (by rw [nums_length]; simp)
      simp only [Value.slice.injEq] at hbv
      obtain ⟨rfl, _, rfl⟩ := hbv
      have t0 : wr.cell? ⟨b, r.length, none⟩ = some (.int .i64 u) := by
        have h1 := hsT
        unfold IOwns at h1
        rw [nums_length, List.length_reverse] at h1
        rw [World.ownsRow.cellAt h1 r.length (by simp)]
        simp [icells, nums]
      have hcT : r.length + 1 ≤ cT := by
        obtain ⟨_, c2, hc, _, h5, _⟩ := hsT.form
        simp only [Value.slice.injEq] at hc
        rw [nums_length] at h5
        simp at h5
        rw [hc.2.2]
        exact h5
      have hRw := f.rows HR.out HAW.out.2.2.1 HAW.out.2.2.2
      obtain ⟨y0, _⟩ := hRw.cell hu
      obtain ⟨pr, cr, hrv, _⟩ := (hRw.2.2 u hu).form
      rw [hrv] at y0
      have hLl := outL_length es (2 * es.length) u
      have HRO : Hid (IOwns wr Bo (.slice pr (outL es (2 * es.length) u).length cr) (outL es (2 * es.length) u)) := by
        have := hRw.2.2 u hu
        rw [hrv] at this
        exact this
      obtain ⟨L, hL⟩ : ∃ L, outL es (2 * es.length) u = L := ⟨_, rfl⟩
      have HL := hide hL
      rw [hL] at y0 hLl HRO g1
      obtain ⟨z0, zf⟩ := hg.cell hu
      obtain ⟨gn, hgn⟩ : ∃ gn : Nat, iat G u = gn := ⟨(iat G u).toNat, by have : 0 ≤ iat G u := g0; omega⟩
      have g1' : iat G u ≤ L.length := g1
      rw [hgn] at z0 g1'
      have HGN := hide hgn
      have hSb : r.length ≤ 2000 := by have h1 := HK.out.sl; have h2 := HK.out.ok.cnt; simp only [List.length_cons] at h1; simp only at h2; omega
      obtain ⟨tl, htl⟩ : ∃ tl, r.length = tl := ⟨_, rfl⟩
      rw [htl] at t0 hcT hSb
      have HTL := hide htl
      have j1 : (u : Int) < m := by omega
      have j2 : (0 : Int) ≤ u := by omega
      have hlen : (u :: r).length = tl + 1 := by simp [htl]
      rw [hlen]
      clear hlen htl hgn hL hRw hrv g0 g1 hK1 hM1 hsT hg n1' n2' n3' t f a
      by_cases he : gn = L.length
      · have HD1 : Hid (DM W wr B k m gb gf gg vo vl (some ⟨b, 0, none⟩) cT ⟨dst, G, r⟩) := HD.out.pop
        have HDO : Hid (dOne es ⟨dst, G, u :: r⟩ u r = ⟨dst, G, r⟩) := by
          show _ = _
          unfold dOne
          rw [if_pos]
          show iat G u = _
          rw [HGN.out, HL.out, he]
        rw [HDO.out] at HF1 HK1
        have e1 : ((gn : Int) == L.length) = true := by simp [he]
        have HE := hide he
        clear he HF HK HD
        go_wp2_with fail
        go_quiet (fail)
        clear t0 y0 z0 zf
        go_wp2
        go_roundg gk'
        case measure => omega
        case rel => exact ⟨⟨dst, G, r⟩, some ⟨b, 0, none⟩, cT, by rw [HTL.out], HK1.out, HF1.out, HD1.out.later (below_drewN (Below.refl _ _))⟩
      · have hlt : gn < L.length := by omega
        have k1 : (gn : Int) < L.length := by omega
        have k2 : (0 : Int) ≤ gn := by omega
        have e1 : ((gn : Int) == L.length) = false := by simp; omega
        obtain ⟨br, cr2, hbr, _, _, _⟩ := iowns_blockW HRO.out (by omega)
        simp only [Value.slice.injEq, true_and] at hbr
        obtain ⟨rfl, rfl⟩ := hbr
        have r0 := HRO.out.at_ hlt
        obtain ⟨h, hh1, hh2, hh3⟩ := outL_at (es := es) (h := 2 * es.length) (v := u) (j := gn) (by rw [HL.out]; exact hlt)
        rw [HL.out] at hh1
        rw [hh1] at r0
        obtain ⟨v0, v1⟩ := toL_in HM.out h hh2
        obtain ⟨v, hv⟩ : ∃ v : Nat, toL es h = v := ⟨(toL es h).toNat, by omega⟩
        rw [hv] at v0 v1
        have hvm : v < m := by omega
        have HDO : Hid (dOne es ⟨dst, G, u :: r⟩ u r = if iat dst.Fa v < 0 then ⟨⟨dst.O ++ [(v : Int)], dst.By.set v h, dst.Fa.set v (iat dst.Fa u + 1)⟩, G.set u (gn + 1), v :: u :: r⟩ else ⟨dst, G.set u (gn + 1), u :: r⟩) := by
          show _ = _
          unfold dOne
          simp only
          rw [HGN.out, HL.out, if_neg (by omega), Int.toNat_natCast, hh1, Int.toNat_natCast, hv, Int.toNat_natCast]
        have HHT := hide hv
        have hgu : iat G u + 1 = (gn : Int) + 1 := by rw [HGN.out]
        have HHH := hide hh2
        clear hh1 hh3 hv he HF hgu
        go_wp2_with fail
        go_quiet (fail)
        obtain ⟨Z, hZ⟩ : ∃ Z, Z = wr.drewN nq := ⟨_, rfl⟩
        have hbZ : Below wr.heap.size wr Z := by rw [hZ]; exact below_drewN (Below.refl _ _)
        have HDZ := hide (HD.out.later hbZ)
        have y0' := later hbZ y0
        have z0' := later hbZ z0
        have r0' := later hbZ r0
        rw [← hZ]
        clear hZ hbZ y0 z0 r0 t0 zf
        go_upto_region 8 with fail
        go_quiet (fail)
        obtain ⟨Y, hY⟩ : ∃ Y, Y = Z.drewN nq := ⟨_, rfl⟩
        have hbY : Below Z.heap.size Z Y := by rw [hY]; exact below_drewN (Below.refl _ _)
        have HDY := hide (HDZ.out.later hbY)
        rw [← hY]
        clear hY hbY y0' z0' r0' HDZ HD
        obtain ⟨vY, tY, fY, aY, hgY, rsY⟩ := HDY.out
        obtain ⟨z1, zf1⟩ := hgY.cell hu
        rw [HGN.out] at z1
        obtain ⟨q0, q1, _, _⟩ := fY.nown HA.out HAW.out.1
        have hkg : kb ≠ gg := by have h1 := HGG.out; have h2 := HKB.out; have h3 := block_lt_of_cell HA.out.1; simp at h3; omega
        obtain ⟨V3, hV3⟩ : ∃ V, V = Y.setCell ⟨gg, u, none⟩ (.int .i64 ((gn : Int) + 1)) := ⟨_, rfl⟩
        have HD3 : Hid (DM W V3 B k m gb gf gg vo vl (some ⟨b, 0, none⟩) cT ⟨dst, G.set u ((gn : Int) + 1), u :: r⟩) := by
          show DM _ _ _ _ _ _ _ _ _ _ _ _ _
          rw [hV3]
          exact HDY.out.put HLW2.out u _
        clear rsY tY fY aY hgY HDY
        obtain ⟨v3, t3, f3, a3, rs3⟩ := HD3.out
        have CT := hide (comes54W m p es cp h V3 (f3.has HH.out HAW.out.2.1) HHH.out (by omega))
        rw [HHT.out] at CT
        clear rs3 t3 f3 a3
        go_wp2_with fail
        rw [← hV3]
        clear hV3
        refine CT.out.mono ?_
        rintro e w4 ⟨rfl, hb4⟩
        have HD4 := hide (HD3.out.later hb4)
        clear hb4 CT HD3 z1 zf1 q0 q1 hkg
        obtain ⟨vo4, t4, f4, a4, hg4, hs4, m1, m2, m3⟩ := HD4.out
        obtain ⟨x0, x1, x2, x3, x4, _⟩ := t4.cells
        obtain ⟨c0, c1⟩ := t4.far.cell hvm
        obtain ⟨b0, b1⟩ := t4.far.cell hu
        have hB4 : B ≤ w4.heap.size := by have h1 := HB.out.size; have h2 := f4.size; omega
        have hOl : dst.O.length ≤ 2000 := by have h2 := HK.out.ok.cnt; simp only at h2; omega
        have FD := hide (find53 B k m vo4 gb gf vl dst.O dst.By dst.Fa v h (iat dst.Fa u + 1) w4 t4 hvm hB4 (by omega))
        have HT4 := hide (And.intro f4 (And.intro a4 (And.intro hg4 (And.intro hs4 (And.intro m1 (And.intro m2 m3))))))
        have l1 : (v : Int) < m := by omega
        have l2 : (0 : Int) ≤ v := by omega
        have hfv := HK.out.ok.val u hu
        simp only at hfv
        clear t4 f4 a4 hg4 hs4 m1 m2 m3 hB4 v0
        by_cases hneg : iat dst.Fa v < 0
        · rw [if_pos hneg] at HDO
          rw [HDO.out] at HF1 HK1
          obtain ⟨fv, hfv1⟩ : ∃ fv, iat dst.Fa v = fv := ⟨_, rfl⟩
          obtain ⟨fu, hfu1⟩ : ∃ fu, iat dst.Fa u = fu := ⟨_, rfl⟩
          rw [hfv1] at c0 hneg
          rw [hfu1] at b0 hfv FD HF1 HK1 HDO
          clear hfv1 hfu1 HD4
          go_wp2_with fail
          refine FD.out.mono ?_
          rintro e w5 ⟨rfl, vo5, t5, f5, a5⟩
          have HD5 : Hid (DM W w5 B k m gb gf gg vo vl (some ⟨b, 0, none⟩) cT ⟨⟨dst.O ++ [(v : Int)], dst.By.set v h, dst.Fa.set v (fu + 1)⟩, G.set u ((gn : Int) + 1), u :: r⟩) := DM.found HLW2.out HT4.out.1 HT4.out.2.1 HT4.out.2.2.1 HT4.out.2.2.2.1 HT4.out.2.2.2.2.1 HT4.out.2.2.2.2.2.1 HT4.out.2.2.2.2.2.2 t5 f5 a5
          clear t5 f5 a5 FD x0 x1 x2 x3 x4 c0 c1 b0 b1 HT4
          obtain ⟨U, hU⟩ : ∃ U, U = w5.alloc (.cells #[.int .i64 v] 3) := ⟨_, rfl⟩
          have hbU : Below w5.heap.size w5 U := by rw [hU]; go_grown
          have hlit : U.cell? ⟨w5.heap.size, 0, none⟩ = some (.int .i64 v) := by rw [hU]; exact one_int _ _
          have hDU := HD5.out.later hbU
          obtain ⟨v6, t6, f6, a6, hg6, hs6, rs6⟩ := hDU
          have hDU := HD5.out.later hbU
          obtain ⟨w1', D, ea, o1, gr, at1⟩ := append_int hs6 hlit f6.size (by rw [nums_length]; have := HTL.out; simp; omega)
          obtain ⟨p1, c2, hv1, _⟩ := o1.form
          have hl1 : (nums (u :: r).reverse ++ [(v : Int)]).length = (u :: r).length + 1 := by simp [nums]
          rw [hl1] at hv1
          subst hv1
          have HD6 := hide (DM.push (x := v) hDU HLW2.out o1 gr at1 rfl)
          rw [hU] at ea
          have hlen2 : (u :: r).length = tl + 1 := by simp [HTL.out]
          simp only [hlen2] at ea
          clear rs6 hU hbU hlit hDU t6 f6 a6 hg6 hs6 o1 gr at1 hl1 HD5 hlen2
          go_wp2_with (at_builtin; refine wpList_run_append rfl (.tmp 84) (.tmp 86) 32 rfl 32 rfl _ _ _ D rfl rfl ea ?_)
          clear ea
          go_wp2
          go_roundg gk'
          case measure => omega
          case rel => exact ⟨_, p1, c2, by simp [HTL.out], HK1.out, HF1.out, HD6.out⟩
        · rw [if_neg hneg] at HDO
          rw [HDO.out] at HF1 HK1
          obtain ⟨fv, hfv1⟩ : ∃ fv, iat dst.Fa v = fv := ⟨_, rfl⟩
          rw [hfv1] at c0 hneg
          clear hfv1 FD HT4
          go_wp2
          go_roundg gk'
          case measure => omega
          case rel => exact ⟨_, some ⟨b, 0, none⟩, cT, by simp [HTL.out], HK1.out, HF1.out, HD4.out⟩
end Go.Proofs.Ytobkejnlkjieoaa

/- Breadth first: what is found leads back, and along an edge the distance changes by one at most. -/
namespace Go.Proofs.Ytobkejnlkjieoaa
open Go.RowKit Go.Sort
open Go

abbrev oj (st : St) (j : Nat) : Nat := (iat st.O j).toNat
/-- Each node that is found is a beginning, or was found by a half-edge from one that is one nearer. -/
structure Tree (es : List Pt) (n : Nat) (st : St) : Prop where
  back : ∀ v, v < n → 0 ≤ iat st.Fa v → (iat st.Fa v = 0 ∧ iat st.By v = -1) ∨ ∃ h u : Nat, h < 2 * es.length ∧ u < n ∧ iat st.By v = h ∧ toL es h = v ∧ fromL es h = u ∧ iat st.Fa u + 1 = iat st.Fa v ∧ 0 ≤ iat st.Fa u
  none : ∀ v, v < n → iat st.Fa v < 0 → iat st.By v = -1
  surj : ∀ v, v < n → 0 ≤ iat st.Fa v → ∃ j, j < st.O.length ∧ iat st.O j = v
variable {es : List Pt} {n : Nat} {st : St}
theorem Tree.put {v : Nat} {h f : Int} (t : Tree es n st) (o : Ok n st) (hv : v < n) (hn : iat st.Fa v < 0)
    (hb : (f = 0 ∧ h = -1) ∨ ∃ k u : Nat, k < 2 * es.length ∧ u < n ∧ h = k ∧ toL es k = v ∧ fromL es k = u ∧ iat st.Fa u + 1 = f ∧ 0 ≤ iat st.Fa u) (hf : 0 ≤ f) : Tree es n ⟨st.O ++ [(v : Int)], st.By.set v h, st.Fa.set v f⟩ where
  back x hx h0 := by
    by_cases e : x = v
    · subst e
      simp only [iat_putW (show x < st.Fa.length by rw [o.lf]; exact hx), iat_putW (show x < st.By.length by rw [o.lb]; exact hx)]
      rcases hb with hb | ⟨k, u, h1, h2, h3, h4, h5, h6, h7⟩
      · exact Or.inl hb
      · refine Or.inr ⟨k, u, h1, h2, h3, h4, h5, ?_⟩
        have : u ≠ x := fun e => by rw [e] at h7; omega
        simp only [iat_put_neW this]
        exact ⟨h6, h7⟩
    · simp only [iat_put_neW e] at h0 ⊢
      rcases t.back x hx h0 with hb | ⟨k, u, h1, h2, h3, h4, h5, h6, h7⟩
      · exact Or.inl hb
      · refine Or.inr ⟨k, u, h1, h2, h3, h4, h5, ?_⟩
        have : u ≠ v := fun e => by rw [e] at h7; omega
        simp only [iat_put_neW this]
        exact ⟨h6, h7⟩
  none x hx h0 := by
    by_cases e : x = v
    · subst e
      simp only [iat_putW (show x < st.Fa.length by rw [o.lf]; exact hx)] at h0
      omega
    · simp only [iat_put_neW e] at h0 ⊢
      exact t.none x hx h0
  surj x hx h0 := by
    by_cases e : x = v
    · exact ⟨st.O.length, by simp, by show iat (st.O ++ [(v : Int)]) st.O.length = _; rw [iat_app, if_neg (by omega), if_pos rfl, e]⟩
    · simp only [iat_put_neW e] at h0
      obtain ⟨j, hj, he⟩ := t.surj x hx h0
      exact ⟨j, by simp; omega, by show iat (st.O ++ [(v : Int)]) j = _; rw [iat_app, if_pos hj]; exact he⟩
theorem Tree.begin_ {s : Nat} (t : Tree es n st) (o : Ok n st) (hs : s < n) (hn : iat st.Fa s < 0) : Tree es n (begin_ st s) := t.put o hs hn (Or.inl ⟨rfl, rfl⟩) (by omega)
/-- The queue: distances rise along it, by one at most from where it is gone out of; who has gone out is closed. -/
structure Win (es : List Pt) (n j0 j : Nat) (st : St) : Prop where
  sorted : ∀ i k, j0 ≤ i → i ≤ k → k < st.O.length → iat st.Fa (oj st i) ≤ iat st.Fa (oj st k)
  near : ∀ i, j0 ≤ i → i < st.O.length → j < st.O.length → iat st.Fa (oj st i) ≤ iat st.Fa (oj st j) + 1
  shut : ∀ i, j0 ≤ i → i < j → i < st.O.length → ∀ h, h < 2 * es.length → fromL es h = iat st.O i → 0 ≤ iat st.Fa (toL es h).toNat ∧ iat st.Fa (toL es h).toNat ≤ iat st.Fa (oj st i) + 1
/-- In a row: the half-edges of the node that goes out, as far as it has. -/
structure WinR (es : List Pt) (n j0 j t : Nat) (st : St) : Prop extends Win es n j0 j st where
  lt : j < st.O.length
  half : ∀ i, i < t → ∀ h : Nat, iat (outL es (2 * es.length) (oj st j)) i = h → 0 ≤ iat st.Fa (toL es h).toNat ∧ iat st.Fa (toL es h).toNat ≤ iat st.Fa (oj st j) + 1
theorem oj_app {x : Int} {j : Nat} (hj : j < st.O.length) {B F : List Int} : oj ⟨st.O ++ [x], B, F⟩ j = oj st j := by
  show (iat (st.O ++ [x]) j).toNat = _
  rw [iat_app, if_pos hj]
theorem WinR.step {j0 j t : Nat} (w : WinR es n j0 j t st) (o : Ok n st) (hm : netB n es = true) (sj : ∀ v, v < n → 0 ≤ iat st.Fa v → ∃ q, j0 ≤ q ∧ q < st.O.length ∧ iat st.O q = v) (ht : t < (outL es (2 * es.length) (oj st j)).length) :
    WinR es n j0 j (t + 1) (bStep es (oj st j) st (iat (outL es (2 * es.length) (oj st j)) t).toNat) := by
  obtain ⟨h, hh, hh2, hh3⟩ := outL_at ht
  rw [hh, Int.toNat_natCast]
  obtain ⟨t1, t2⟩ := toL_in hm h hh2
  obtain ⟨x, hx⟩ : ∃ x : Nat, toL es h = x := ⟨(toL es h).toNat, by omega⟩
  have hxn : x < n := by omega
  have hfu := o.fnd j w.lt
  unfold bStep
  rw [hx, Int.toNat_natCast]
  by_cases hneg : iat st.Fa x < 0
  · rw [if_pos hneg]
    have hlen : (st.O ++ [(x : Int)]).length = st.O.length + 1 := by simp
    have hnew : ∀ i, i < st.O.length → oj st i ≠ x := fun i hi e => by have := o.fnd i hi; rw [show (iat st.O i).toNat = x from e] at this; omega
    have hF : ∀ i, i < st.O.length → iat (st.Fa.set x (iat st.Fa (oj st j) + 1)) (oj st i) = iat st.Fa (oj st i) := fun i hi => iat_put_neW (hnew i hi)
    have hFx : iat (st.Fa.set x (iat st.Fa (oj st j) + 1)) x = iat st.Fa (oj st j) + 1 := iat_putW (by rw [o.lf]; exact hxn)
    have hox : oj ⟨st.O ++ [(x : Int)], st.By.set x h, st.Fa.set x (iat st.Fa (oj st j) + 1)⟩ st.O.length = x := by
      show (iat (st.O ++ [(x : Int)]) st.O.length).toNat = x
      rw [iat_app, if_neg (by omega), if_pos rfl, Int.toNat_natCast]
    have keep : ∀ y : Nat, 0 ≤ iat st.Fa y → iat (st.Fa.set x (iat st.Fa (oj st j) + 1)) y = iat st.Fa y := fun y hy => iat_put_neW (fun e => by rw [e] at hy; omega)
    refine ⟨⟨?_, ?_, ?_⟩, ?_, ?_⟩
    · intro i k hi hik hk
      simp only [hlen] at hk
      by_cases ek : k < st.O.length
      · rw [oj_app (by omega), oj_app ek]
        simp only [hF i (by omega), hF k ek]
        exact w.sorted i k hi hik ek
      · have ek2 : k = st.O.length := by omega
        by_cases ei : i < st.O.length
        · rw [ek2, hox, oj_app ei]
          simp only [hF i ei, hFx]
          exact w.near i hi ei w.lt
        · have : i = k := by omega
          rw [this]
          exact Int.le_refl _
    · intro i hi hil _
      simp only [hlen] at hil
      rw [oj_app w.lt]
      simp only [hF j w.lt]
      by_cases ei : i < st.O.length
      · rw [oj_app ei]
        simp only [hF i ei]
        exact w.near i hi ei w.lt
      · have : i = st.O.length := by omega
        rw [this, hox]
        simp only [hFx]
        exact Int.le_refl _
    · intro i hi hij _ k hk hkf
      have hil : i < st.O.length := by have := w.lt; omega
      have hO : iat (st.O ++ [(x : Int)]) i = iat st.O i := by rw [iat_app, if_pos hil]
      have hkf2 : fromL es k = iat st.O i := by rw [← hO]; exact hkf
      obtain ⟨s1, s2⟩ := w.shut i hi hij hil k hk hkf2
      rw [oj_app hil]
      simp only [hF i hil, keep _ s1]
      exact ⟨s1, s2⟩
    · show j < (st.O ++ [(x : Int)]).length
      rw [hlen]; have := w.lt; omega
    · intro i hi k hk
      rw [oj_app w.lt] at hk ⊢
      simp only [hF j w.lt]
      by_cases e : i = t
      · rw [e, hh] at hk
        have : h = k := by omega
        subst this
        rw [hx, Int.toNat_natCast]
        simp only [hFx]
        have : 0 ≤ iat st.Fa (oj st j) := hfu
        omega
      · obtain ⟨s1, s2⟩ := w.half i (by omega) k hk
        simp only [keep _ s1]
        exact ⟨s1, s2⟩
  · rw [if_neg hneg]
    refine ⟨w.toWin, w.lt, fun i hi k hk => ?_⟩
    by_cases e : i = t
    · rw [e, hh] at hk
      have : h = k := by omega
      subst this
      rw [hx, Int.toNat_natCast]
      obtain ⟨q, q1, q2, q3⟩ := sj x hxn (by omega)
      have := w.near q q1 q2 w.lt
      rw [show oj st q = x by show (iat st.O q).toNat = x; rw [q3, Int.toNat_natCast]] at this
      omega
    · exact w.half i (by omega) k hk
theorem Tree.step {u h : Nat} (t : Tree es n st) (o : Ok n st) (hm : netB n es = true) (hu : u < n) (h0 : 0 ≤ iat st.Fa u) (hh : h < 2 * es.length) (hf : fromL es h = u) : Tree es n (bStep es u st h) := by
  unfold bStep
  obtain ⟨t1, t2⟩ := toL_in hm h hh
  obtain ⟨x, hx⟩ : ∃ x : Nat, toL es h = x := ⟨(toL es h).toNat, by omega⟩
  rw [hx]
  simp only [Int.toNat_natCast]
  split
  · rename_i hn
    exact t.put o (by omega) hn (Or.inr ⟨h, u, hh, hu, rfl, hx, hf, rfl, h0⟩) (by omega)
  · exact t
theorem bRow_oj {u : Nat} {j : Nat} (hj : j < st.O.length) : ∀ i, iat (bRow es u st i).O j = iat st.O j
  | 0 => rfl
  | i + 1 => by
    have ih : iat (bRow es u st i).O j = iat st.O j := bRow_oj hj i
    have hl := bRow_len es u st i
    simp only [bRow]
    unfold bStep
    split
    · show iat ((bRow es u st i).O ++ [_]) j = _
      rw [iat_app, if_pos (by omega), ih]
    · exact ih
/-- What holds of the whole of one walk: from one node, with nothing found before. -/
structure Bf (es : List Pt) (n j : Nat) (st : St) : Prop where
  ok : Ok n st
  tree : Tree es n st
  win : Win es n 0 j st
theorem Bf.row {j : Nat} (b : Bf es n j st) (hm : netB n es = true) (hj : j < st.O.length) : ∀ t, t ≤ (outL es (2 * es.length) (oj st j)).length → Ok n (bRow es (oj st j) st t) ∧ Tree es n (bRow es (oj st j) st t) ∧ 0 ≤ iat (bRow es (oj st j) st t).Fa (oj st j) ∧ WinR es n 0 j t (bRow es (oj st j) st t)
  | 0, _ => ⟨b.ok, b.tree, b.ok.fnd j hj, ⟨b.win, hj, fun i hi => by omega⟩⟩
  | t + 1, ht => by
    obtain ⟨o, tr, h0, w⟩ := Bf.row b hm hj t (by omega)
    have hm' := b.ok.mem j hj
    have hun : oj st j < n := by show (iat st.O j).toNat < n; omega
    have hoj : oj (bRow es (oj st j) st t) j = oj st j := by show (iat (bRow es (oj st j) st t).O j).toNat = _; rw [bRow_oj hj]
    obtain ⟨h, hh, hh2, hh3⟩ := outL_at (es := es) (h := 2 * es.length) (v := oj st j) (j := t) (by omega)
    have w2 := w.step o hm (fun v hv h => by obtain ⟨q, q1, q2⟩ := tr.surj v hv h; exact ⟨q, Nat.zero_le _, q1, q2⟩) (by rw [hoj]; omega)
    rw [hoj] at w2
    refine ⟨?_, ?_, ?_, w2⟩
    · simp only [bRow]; rw [hh, Int.toNat_natCast]; exact (o.step hm hun h0 hh2).1
    · simp only [bRow]; rw [hh, Int.toNat_natCast]; exact tr.step o hm hun h0 hh2 hh3
    · simp only [bRow]; rw [hh, Int.toNat_natCast]; exact (o.step hm hun h0 hh2).2
theorem Bf.next {j : Nat} (b : Bf es n j st) (hm : netB n es = true) (hj : j < st.O.length) : Bf es n (j + 1) (bRow es (oj st j) st (outL es (2 * es.length) (oj st j)).length) := by
  obtain ⟨o, tr, h0, w⟩ := b.row hm hj _ (Nat.le_refl _)
  have hoj : oj (bRow es (oj st j) st (outL es (2 * es.length) (oj st j)).length) j = oj st j := by show (iat (bRow es (oj st j) st _).O j).toNat = _; rw [bRow_oj hj]
  have hle := bRow_len es (oj st j) st (outL es (2 * es.length) (oj st j)).length
  refine ⟨o, tr, ⟨w.sorted, ?_, ?_⟩⟩
  · intro i _ hi hj1
    by_cases hij : i ≤ j + 1
    · have := w.sorted i (j + 1) (Nat.zero_le _) hij hj1; omega
    · have h1 := w.near i (Nat.zero_le _) hi w.lt
      have h2 := w.sorted j (j + 1) (Nat.zero_le _) (by omega) hj1
      omega
  · intro i _ hij hil h hh hf
    by_cases e : i = j
    · subst e
      have hm' := b.ok.mem i hj
      rw [bRow_oj hj] at hf
      obtain ⟨q, hq, hqe⟩ := outL_mem (es := es) (h := 2 * es.length) (v := oj st i) (k := h) hh (by rw [hf]; show iat st.O i = ((iat st.O i).toNat : Int); omega)
      have := w.half q hq h (by rw [hoj]; exact hqe)
      exact this
    · exact w.shut i (Nat.zero_le _) (by omega) hil h hh hf
theorem Bf.all (hm : netB n es = true) : ∀ (k j : Nat) (st : St), Bf es n j st → n ≤ k + j → ∃ j', Bf es n j' (bfs es k j st) ∧ (bfs es k j st).O.length ≤ j'
  | 0, j, st, b, hk => ⟨j, b, by have := b.ok.cnt; show st.O.length ≤ j; omega⟩
  | k + 1, j, st, b, hk => by
    simp only [bfs]
    split
    · rename_i hj; exact Bf.all hm k (j + 1) _ (b.next hm hj) (by omega)
    · exact ⟨j, b, by omega⟩
theorem tree0 (es : List Pt) (n : Nat) (By Fa : List Int) (hF : ∀ v, v < n → iat Fa v = -1) (hB : ∀ v, v < n → iat By v = -1) : Tree es n ⟨[], By, Fa⟩ where
  back v hv h := by have : iat Fa v = -1 := hF v hv; exfalso; have h' : 0 ≤ iat Fa v := h; omega
  none v hv _ := hB v hv
  surj v hv h := by have : iat Fa v = -1 := hF v hv; exfalso; have h' : 0 ≤ iat Fa v := h; omega
/-- From one node: all that is found leads back, and along a half-edge the distance grows by one at most. -/
theorem walk_far {s : Nat} (hm : netB n es = true) (hs : s < n) (o : Ok n st) (hO : st.O = []) (hF : ∀ v, v < n → iat st.Fa v = -1) (hB : ∀ v, v < n → iat st.By v = -1) :
    Tree es n (bfs es n 0 (begin_ st s)) ∧ Ok n (bfs es n 0 (begin_ st s)) ∧ ∀ h a b : Nat, h < 2 * es.length → fromL es h = a → toL es h = b → 0 ≤ iat (bfs es n 0 (begin_ st s)).Fa a → 0 ≤ iat (bfs es n 0 (begin_ st s)).Fa b ∧ iat (bfs es n 0 (begin_ st s)).Fa b ≤ iat (bfs es n 0 (begin_ st s)).Fa a + 1 := by
  obtain ⟨O, By, Fa⟩ := st
  simp only at hO hF hB
  subst hO
  have hneg : iat Fa s < 0 := by rw [hF s hs]; omega
  have o1 := o.begin_ hs hneg
  have t1 := (tree0 es n By Fa hF hB).begin_ o hs hneg
  have b0 : Bf es n 0 (begin_ ⟨[], By, Fa⟩ s) := by
    refine ⟨o1, t1, ⟨?_, ?_, ?_⟩⟩
    · intro i k _ hik hk
      have hk' : k < 1 := by simpa [begin_] using hk
      have : i = k := by omega
      rw [this]
      exact Int.le_refl _
    · intro i _ hi h0
      have hi' : i < 1 := by simpa [begin_] using hi
      have : i = 0 := by omega
      rw [this]
      omega
    · intro i _ hi0; omega
  obtain ⟨j', b, hj'⟩ := Bf.all hm n 0 _ b0 (by omega)
  refine ⟨b.tree, b.ok, fun h a c hh ha hc h0 => ?_⟩
  have han := fromL_in hm h hh
  obtain ⟨q, hq, hqe⟩ := b.tree.surj a (by omega) h0
  have := b.win.shut q (Nat.zero_le _) (by omega) hq h hh (by rw [ha, hqe])
  rw [hc, Int.toNat_natCast, show oj (bfs es n 0 (begin_ ⟨[], By, Fa⟩ s)) q = a by show (iat _ q).toNat = a; rw [hqe, Int.toNat_natCast]] at this
  exact this
end Go.Proofs.Ytobkejnlkjieoaa
