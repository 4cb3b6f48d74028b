/- Lists that are kept until all are there: Room, Keep (carried). -/
import Derived.Test.YtaebbfilgfkckaaFR
import Derived.Test.YtaebbfilgfkckaaNC
import Derived.Test.YtaebbfilgfkckaaKC4
import Derived.Lib.QuietBelow
import Derived.Deep.QuietTactic
namespace Go.Proofs.Ytaebbfilgfkckaa
open Go.RowKit Go.Sort
open Go


def roomI (a b : Int) : Int := if a + 2000 < b then a + 2000 else b
theorem room47 (a b : Int) (w : World) (h0 : 0 ≤ a) (h1 : a ≤ 100000) : Calls Try.prog 42 #[.int .i64 a, .int .i64 b] w fun e w' => e = .returned (.int .i64 (roomI a b)) ∧ Below w.heap.size w w' := by
  unfold roomI
  go_enter Try.func42, Try.ntmps42
  by_cases h : a + 2000 < b
  · rw [if_pos h]
    go_wp2
    all_goals go_ret
    all_goals exact ⟨rfl, Below.refl _ _⟩
  · rw [if_neg h]
    go_wp2
    all_goals go_ret
    all_goals exact ⟨rfl, Below.refl _ _⟩
/-- Blocks of other types than the box of kept lists and its list stay. -/
def Kp (w w' : World) : Prop := ∀ (k : Nat) (o : Array Value) (fz : Nat × Nat) (ty : TypeId), w.heap[k]? = some (.cells o ty fz) → ty ≠ 38 → ty ≠ 25 → w'.heap[k]? = some (.cells o ty fz)
theorem Kp.trans {a b c : World} (h : Kp a b) (k : Kp b c) : Kp a c := fun i o fz ty h1 h2 h3 => k i o fz ty (h i o fz ty h1 h2 h3) h2 h3
theorem Kp.below {a b : World} (h : Below a.heap.size a b) : Kp a b := fun i o fz ty h1 _ _ => by
  rw [h.block i (Array.getElem?_eq_some_iff.1 h1).1]; exact h1
theorem Kp.row {w w' : World} {base e size n : Nat} {v : Value} {xs : List Value} (h : Kp w w') (o : w.ownsRow base e size v n xs) (h1 : e ≠ 38) (h2 : e ≠ 25) : w'.ownsRow base e size v n xs := by
  obtain ⟨k0, k1 | ⟨g, c, cur, e1, e2, e3, e4⟩⟩ := o
  · exact ⟨k0, Or.inl k1⟩
  · exact ⟨k0, Or.inr ⟨g, c, cur, e1, e2, h _ _ _ _ e3 h1 h2, e4⟩⟩
/-- The lists that are kept: their box, the list of them, each a row of its own. -/
structure Bag (w : World) (B k : Nat) (lv : Value) (n : Nat) (rv : Nat → Value) (L : Nat → List Int) (sz : Nat) : Prop where
  box : w.ownsRow 0 38 2 (.slice (some ⟨k, 0, none⟩) 1 1) 1 [lv, .int .i64 sz]
  kB : B ≤ k
  lst : w.ownsRow B 25 1 lv n ((List.range n).map rv)
  uniq : ∀ u v j, u < n → v < n → (rv u).ownBlock = some j → (rv v).ownBlock = some j → u = v
  own : ∀ v, v < n → IOwns w B (rv v) (L v)
  len : ∀ v, v < n → (L v).length ≤ 30000
  big : sz ≤ 1048576
  cnt : n ≤ sz
variable {w w' : World} {B k n sz : Nat} {lv : Value} {rv : Nat → Value} {L : Nat → List Int}
theorem Bag.later (h : Bag w B k lv n rv L sz) (hb : Below w.heap.size w w') : Bag w' B k lv n rv L sz :=
  ⟨World.ownsRow.kept h.box (grown_below hb) (Or.inr (by simp [Value.ownBlock])), h.kB, World.ownsRow.kept h.lst (grown_below hb) (by cases lv.ownBlock <;> simp), h.uniq, fun v hv => (h.own v hv).later hb, h.len, h.big, h.cnt⟩
theorem Bag.cells (h : Bag w B k lv n rv L sz) : w.cell? ⟨k, 0, none⟩ = some lv ∧ w.cell? ⟨k, 1, none⟩ = some (.int .i64 sz) ∧ w.frozen? ⟨k, 0, none⟩ = false ∧ w.frozen? ⟨k, 1, none⟩ = false :=
  ⟨World.ownsRow.cellAt h.box 0 (by omega), World.ownsRow.cellAt h.box 1 (by omega), World.ownsRow.frozenAt h.box 0, World.ownsRow.frozenAt h.box 1⟩
theorem Bag.lk (h : Bag w B k lv n rv L sz) : lv.ownBlock ≠ some k := by
  obtain ⟨cur, hk⟩ := row_kind h.box
  exact row_apart hk h.lst (by decide)
theorem Bag.rk (h : Bag w B k lv n rv L sz) {v : Nat} (hv : v < n) : (rv v).ownBlock ≠ some k := by
  obtain ⟨cur, hk⟩ := row_kind h.box
  exact row_apart hk (h.own v hv) (by decide)
theorem frame_cellK {w w' : World} {p : Nat → Prop} {a : Addr} {v : Value} (f : Frame w w' p) (hp : ¬ p a.block) (h : w.cell? a = some v) : w'.cell? a = some v := by
  have hl := block_lt_of_cell h
  have hb := f.block a.block hl hp
  unfold World.cell? at h ⊢
  rw [hb]
  exact h
/-- The blocks of a bag that Keep writes to. -/
def BgP (k : Nat) (lv : Value) (i : Nat) : Prop := i = k ∨ lv.ownBlock = some i
theorem Bag.kp (h : Bag w B k lv n rv L sz) (f : Frame w w' (BgP k lv)) : Kp w w' := by
  intro i o fz ty h1 h2 h3
  rw [f.block i (Array.getElem?_eq_some_iff.1 h1).1 ?_]
  · exact h1
  rintro (e | e)
  · subst e
    obtain ⟨cur, hk⟩ := row_kind h.box
    rw [hk] at h1
    cases h1
    exact h2 rfl
  · obtain ⟨cur, hk⟩ := lst_kind h.lst e
    rw [hk] at h1
    cases h1
    exact h3 rfl
theorem Bag.lb (h : Bag w B k lv n rv L sz) : ∀ i, BgP k lv i → B ≤ i := by
  rintro i (e | e)
  · rw [e]; exact h.kB
  · exact (World.ownsRow.lt h.lst i e).1
/-- The size is written anew. -/
theorem Bag.sized (h : Bag w B k lv n rv L sz) {s2 : Nat} (h1 : n ≤ s2) (h2 : s2 ≤ 1048576) : Bag (w.setCell ⟨k, 1, none⟩ (.int .i64 s2)) B k lv n rv L s2 :=
  ⟨(World.ownsRow.stored h.box 1 _).1, h.kB, ownsRow_setCell_other (a := ⟨k, 1, none⟩) h.lst h.lk _, h.uniq, fun v hv => ownsRow_setCell_other (a := ⟨k, 1, none⟩) (h.own v hv) (h.rk hv) _, h.len, h2, h1⟩
set_option maxRecDepth 100000 in
/-- A list put behind those that are kept. -/
theorem Bag.push {Lx : List Int} {a : Option Addr} {b c g : Nat} (h : Bag w B k lv n rv L sz) (hB : B ≤ w.heap.size) (hx : IOwns w B (.slice a b c) Lx) (hxl : Lx.length ≤ 30000) (hc : n + 1 ≤ sz)
    (hg : w.cell? ⟨g, 0, none⟩ = some (.slice a b c)) (hn : ∀ u j, u < n → (Value.slice a b c).ownBlock = some j → (rv u).ownBlock ≠ some j) :
    ∃ p1 l1 c1 D, (Builtin.append_ #[30, 30] 30 #[lv, .slice (some ⟨g, 0, none⟩) 1 1]).run Try.prog w = .ok (.slice p1 l1 c1) D ∧ D.cell? ⟨k, 0, none⟩ = some lv ∧ D.frozen? ⟨k, 0, none⟩ = false ∧ k < D.heap.size ∧
      Bag (D.setCell ⟨k, 0, none⟩ (.slice p1 l1 c1)) B k (.slice p1 l1 c1) (n + 1) (upd rv n (.slice a b c)) (upd L n Lx) sz ∧ Frame w (D.setCell ⟨k, 0, none⟩ (.slice p1 l1 c1)) (BgP k lv) ∧ Frame w D (fun i => lv.ownBlock = some i) ∧
      ((Value.slice p1 l1 c1).ownBlock = lv.ownBlock ∨ (Value.slice p1 l1 c1).ownBlock = some w.heap.size) := by
  obtain ⟨v1, D, e1, o1, gr, at1⟩ := append_lst h.lst hg rfl hB (by have := h.cnt; have := h.big; omega)
  obtain ⟨p1, c1, hv1, _, _⟩ := World.ownsRow.form o1 (by omega)
  subst hv1
  have dbox := World.ownsRow.kept h.box gr (Or.inr (fun e => h.lk (by rw [← e]; rfl)))
  have down : ∀ v l, IOwns w B v l → IOwns D B v l := fun v l o => by
    refine World.ownsRow.kept o gr ?_
    cases hb : v.ownBlock with
    | none => exact Or.inl rfl
    | some j => exact Or.inr (fun e => lst_apart h.lst o e.symm hb)
  have hk1 : (Value.slice (some ⟨p1, 0, none⟩) (n + 1) c1).ownBlock ≠ some k := by obtain ⟨cur, hk⟩ := row_kind dbox; exact row_apart hk o1 (by decide)
  have hrk : ∀ v l, IOwns D B v l → v.ownBlock ≠ some k := fun v l o => by obtain ⟨cur, hk⟩ := row_kind dbox; exact row_apart hk o (by decide)
  refine ⟨some ⟨p1, 0, none⟩, n + 1, c1, D, e1, World.ownsRow.cellAt dbox 0 (by omega), World.ownsRow.frozenAt dbox 0, (World.ownsRow.lt dbox k rfl).2, ⟨(World.ownsRow.stored dbox 0 _).1, h.kB, ?_, ?_, ?_, ?_, h.big, hc⟩, ?_, Frame.grown gr (fun i e => e), at1⟩
  · have := ownsRow_setCell_other (a := ⟨k, 0, none⟩) o1 hk1 (.slice (some ⟨p1, 0, none⟩) (n + 1) c1)
    rw [show ((List.range (n + 1)).map (upd rv n (.slice a b c))) = (List.range n).map rv ++ [.slice a b c] from ?_]
    · exact this
    rw [List.range_succ, List.map_append, List.map_cons, List.map_nil, upd_same]
    congr 1
    apply List.map_congr_left
    intro i hi
    exact upd_other _ _ (by have := List.mem_range.1 hi; omega)
  · intro u v j hu hv e1 e2
    by_cases hua : u = n <;> by_cases hva : v = n
    · omega
    · rw [hua, upd_same] at e1
      rw [upd_other _ _ hva] at e2
      exact absurd e2 (hn v j (by omega) e1)
    · rw [hva, upd_same] at e2
      rw [upd_other _ _ hua] at e1
      exact absurd e1 (hn u j (by omega) e2)
    · rw [upd_other _ _ hua] at e1
      rw [upd_other _ _ hva] at e2
      exact h.uniq u v j (by omega) (by omega) e1 e2
  · intro v hv
    by_cases hva : v = n
    · rw [hva, upd_same, upd_same]
      exact ownsRow_setCell_other (a := ⟨k, 0, none⟩) (down _ _ hx) (hrk _ _ (down _ _ hx)) _
    · rw [upd_other _ _ hva, upd_other _ _ hva]
      have o := down _ _ (h.own v (by omega))
      exact ownsRow_setCell_other (a := ⟨k, 0, none⟩) o (hrk _ _ o) _
  · intro v hv
    by_cases hva : v = n
    · rw [hva, upd_same]; exact hxl
    · rw [upd_other _ _ hva]; exact h.len v (by omega)
  · exact (Frame.grown gr (fun i e => Or.inr e)).trans (Frame.set _ _ _ (Or.inl rfl))
/-- A bag, its list in no block of N, its lists in none of M; what keeping leaves as it was. -/
def KBag (N M : Nat → Prop) (w : World) (B k : Nat) : Prop := ∃ lv n rv L sz, Bag w B k lv n rv L sz ∧ (∀ b, lv.ownBlock = some b → ¬ N b) ∧ ∀ u b, u < n → (rv u).ownBlock = some b → ¬ M b
def KPost (N M : Nat → Prop) (w : World) (B k : Nat) (w' : World) : Prop := KBag N M w' B k ∧ Below B w w' ∧ Kp w w' ∧ ∀ b, N b → b ≠ k → w'.heap[b]? = w.heap[b]?
/-- What Keep has done with the first i lists. -/
structure KI (N M : Nat → Prop) (w wr : World) (B k g q T i : Nat) (vs : Nat → Value) (Ls : Nat → List Int) (lv : Value) (n : Nat) (rv : Nat → Value) (L : Nat → List Int) (sz : Nat) : Prop where
  below : Below B w wr
  kp : Kp w wr
  args : wr.ownsRow T 25 1 (.slice (some ⟨g, 0, none⟩) q q) q ((List.range q).map vs)
  bag : Bag wr B k lv n rv L sz
  ng : lv.ownBlock ≠ some g
  own : ∀ j, j < q → IOwns wr B (vs j) (Ls j)
  fresh : ∀ j u b, i ≤ j → j < q → u < n → (vs j).ownBlock = some b → (rv u).ownBlock ≠ some b
  nn : ∀ b, lv.ownBlock = some b → ¬ N b
  mm : ∀ u b, u < n → (rv u).ownBlock = some b → ¬ M b
  fr : ∀ b, N b → b ≠ k → wr.heap[b]? = w.heap[b]?
theorem KI.later {N M : Nat → Prop} {wr wq : World} {g q T i : Nat} {vs : Nat → Value} {Ls : Nat → List Int} (h : KI N M w wr B k g q T i vs Ls lv n rv L sz) (hb : Below wr.heap.size wr wq) (hB : B ≤ wr.heap.size) (hNl : ∀ b, N b → b < w.heap.size) : KI N M w wq B k g q T i vs Ls lv n rv L sz :=
  ⟨Below.trans h.below (hb.mono hB), h.kp.trans (Kp.below hb), World.ownsRow.kept h.args (grown_below hb) (Or.inr (by simp [Value.ownBlock])), h.bag.later hb, h.ng, fun j hj => (h.own j hj).later hb, h.fresh, h.nn, h.mm, fun b hb1 hb2 => (hb.block b (Nat.lt_of_lt_of_le (hNl b hb1) h.below.size)).trans (h.fr b hb1 hb2)⟩
set_option maxRecDepth 100000 in
set_option maxHeartbeats 8000000 in
theorem keep22 {N M : Nat → Prop} {lv0 : Value} {n0 sz0 : Nat} {rv0 : Nat → Value} {L0 : Nat → List Int} (B k g q T : Nat) (vs : Nat → Value) (Ls : Nat → List Int) (w : World) (hbag : Bag w B k lv0 n0 rv0 L0 sz0) (hB : B ≤ w.heap.size) (hBT : B ≤ T) (hq : q ≤ 1000)
    (hargs : w.ownsRow T 25 1 (.slice (some ⟨g, 0, none⟩) q q) q ((List.range q).map vs)) (hng : lv0.ownBlock ≠ some g)
    (hown : ∀ j, j < q → IOwns w B (vs j) (Ls j)) (hlen : ∀ j, j < q → (Ls j).length ≤ 20000)
    (hun : ∀ i j b, i < q → j < q → (vs i).ownBlock = some b → (vs j).ownBlock = some b → i = j)
    (hfr : ∀ j u b, j < q → u < n0 → (vs j).ownBlock = some b → (rv0 u).ownBlock ≠ some b)
    (hN : ∀ b, lv0.ownBlock = some b → ¬ N b) (hNl : ∀ b, N b → b < w.heap.size) (hM : ∀ u b, u < n0 → (rv0 u).ownBlock = some b → ¬ M b) (hMa : ∀ j b, j < q → (vs j).ownBlock = some b → ¬ M b) :
    Calls Try.prog 19 #[.pointer (some ⟨k, 0, none⟩), .slice (some ⟨g, 0, none⟩) q q] w fun e w' => e = .returned (.tuple #[]) ∧ KPost N M w B k w' := by
  have HK0 : Hid (∃ lv n rv L sz, KI N M w w B k g q T 0 vs Ls lv n rv L sz) := ⟨lv0, n0, rv0, L0, sz0, Below.refl _ _, Kp.below (Below.refl _ _), hargs, hbag, hng, hown, fun j u b _ h1 h2 h3 => hfr j u b h1 h2 h3, hN, hM, fun _ _ _ => rfl⟩
  have HNL := hide hNl
  have HMA := hide hMa
  have HLEN := hide hlen
  have HUN := hide hun
  have HBS := hide hB
  have HBT := hide hBT
  clear hbag hB hargs hng hown hlen hun hfr hBT hN hNl hM hMa
  go_enter Try.func19, Try.ntmps19
  go_wp2_with fail
  go_loopw [4] (fun t wr => ∃ i : Nat, i ≤ q ∧ t = .int .i64 i ∧ Hid (∃ lv n rv L sz, KI N M w wr B k g q T i vs Ls lv n rv L sz)) (fun t _ => q - (intOf t).toNat)
  case atStart => exact ⟨0, by omega, rfl, HK0.out⟩
  case round =>
    obtain ⟨i, hi, rfl, HR⟩ := hrel
    obtain ⟨lv, n, rv, L, sz, hK⟩ := HR.out
    obtain ⟨pl, ll, cl, rfl⟩ : ∃ pl ll cl, lv = .slice pl ll cl := by
      rcases hK.bag.lst.2 with ⟨h1, _⟩ | ⟨g1, c1, _, h1, _⟩
      · exact ⟨_, _, _, h1⟩
      · exact ⟨_, _, _, h1⟩
    by_cases hlt : i < q
    · have i1 : (i : Int) < q := by omega
      have i2 : (0 : Int) ≤ i := by omega
      have c0 : wr.cell? ⟨g, i, none⟩ = some (vs i) := by rw [World.ownsRow.cellAt hK.args i (by omega)]; simp [hlt]
      obtain ⟨pa, ca, hva, _, hca, _⟩ := IOwns.form (hK.own i hlt)
      have hll := HLEN.out i hlt
      have HVA := hide hva
      have HKI := hide hK
      rw [hva] at c0
      obtain ⟨ln, hln⟩ : ∃ ln, (Ls i).length = ln := ⟨_, rfl⟩
      have HLN := hide hln
      rw [hln] at c0 hll hca
      clear hK HR hva hln HK0
      have RM : ∀ dd os, Calls Try.prog 42 #[.int .i64 ln, .int .i64 ca] (grow (redrawn wr dd) os) fun e w'' => e = .returned (.int .i64 (roomI ln ca)) ∧ ∃ p : Regrown, w'' = grow (redrawn wr p.d) p.os := fun dd os => Calls.regrown_of (room47 ln ca _ (by omega) (by omega))
      have hr0 : 0 ≤ roomI ln ca ∧ roomI ln ca ≤ (ln : Int) + 2000 := by unfold roomI; split <;> omega
      obtain ⟨r, hr⟩ : ∃ r, roomI ln ca = r := ⟨_, rfl⟩
      rw [hr] at RM hr0
      have C0 := cell_regrown c0
      clear hr
      go_upto_region 3 with fail
      refine wp_region_quiet_below (by kernel_rfl) (by kernel_rfl) ?_
      repeat (go_big_quiet_step (with_reducible exact RM _ _))
      refine wpQuiet_nil ?_
      intro X hw'
      have hb3 : Below wr.heap.size wr X := by
        obtain ⟨⟨dq, osq⟩, hw''⟩ := hw'
        rw [hw'']
        exact below_regrown wr dq osq
      have HKX := hide (HKI.out.later hb3 (Nat.le_trans HBS.out HKI.out.below.size) HNL.out)
      clear hw' hb3 c0 C0 RM HKI
      obtain ⟨x0, x1, x2, x3⟩ := HKX.out.bag.cells
      have hbig := HKX.out.bag.big
      have hcnt := HKX.out.bag.cnt
      by_cases hrp : r > 0
      · by_cases hfit : (sz : Int) + r ≤ 1048576
        · obtain ⟨s2, hs2⟩ : ∃ s2 : Nat, (sz : Int) + r = s2 := ⟨((sz : Int) + r).toNat, by omega⟩
          obtain ⟨Y, hY⟩ : ∃ Y, Y = X.setCell ⟨k, 1, none⟩ (.int .i64 s2) := ⟨_, rfl⟩
          have HBY : Hid (Bag Y B k (.slice pl ll cl) n rv L s2) := by show Bag _ _ _ _ _ _ _ _; rw [hY]; exact HKX.out.bag.sized (by omega) (by omega)
          have HFY : Hid (Frame X Y (BgP k (.slice pl ll cl))) := by show Frame _ _ _; rw [hY]; exact Frame.set _ _ _ (Or.inl rfl)
          have HN1 : Hid (n + 1 ≤ s2) := by show n + 1 ≤ s2; omega
          go_upto_region 6 with fail
          rw [← hY]
          clear hY x0 x1 x2 x3 hs2 hfit hrp hr0 hbig hcnt
          have bd : Below Y.heap.size Y Y.drew := below_drew _
          obtain ⟨V0, hV0⟩ : ∃ V, V = Y.drew := ⟨_, rfl⟩
          have HF0 : Hid (Frame X V0 (BgP k (.slice pl ll cl))) := by show Frame _ _ _; rw [hV0]; exact HFY.out.trans (Frame.of_below bd _)
          have HG0 : Hid (Bag V0 B k (.slice pl ll cl) n rv L s2) := by show Bag _ _ _ _ _ _ _ _; rw [hV0]; exact HBY.out.later bd
          have hkg : g ≠ k := by
            intro e
            obtain ⟨cur, hk⟩ := row_kind HKX.out.bag.box
            exact row_apart hk HKX.out.args (by decide) (by rw [e]; rfl)
          have c0 : V0.cell? ⟨g, i, none⟩ = some (.slice pa ln ca) := by
            refine frame_cellK HF0.out ?_ ?_
            · rintro (e | e)
              · exact hkg e
              · exact HKX.out.ng e
            · rw [World.ownsRow.cellAt HKX.out.args i (by omega)]
              have := HVA.out
              rw [HLN.out] at this
              simp [hlt, this]
          have HOX : Hid (∀ V, Frame X V (BgP k (.slice pl ll cl)) → IOwns V B (.slice pa ln ca) (Ls i)) := fun V hV => by
            have hvi := HVA.out
            rw [HLN.out] at hvi
            rw [← hvi]
            refine hV.iowns (HKX.out.own i hlt) (fun b hb => ?_)
            rintro (e | e)
            · obtain ⟨cur, hk⟩ := row_kind HKX.out.bag.box
              exact row_apart hk (HKX.out.own i hlt) (by decide) (by rw [hb, e])
            · exact lst_apart HKX.out.bag.lst (HKX.out.own i hlt) e hb
          have HNX : Hid (∀ u j, u < n → (Value.slice pa ln ca).ownBlock = some j → (rv u).ownBlock ≠ some j) := fun u j hu hj => by
            have hvi := HVA.out
            rw [HLN.out] at hvi
            exact HKX.out.fresh i u j (Nat.le_refl _) hlt hu (by rw [hvi]; exact hj)
          refine wp_region_held_drew (S := (fun W' => W'.cell? ⟨g, i, none⟩ = some (.slice pa ln ca))) (by kernel_rfl) (by rw [← hV0]; exact c0) (fun hHeld => ?_)
          rw [← hV0] at hHeld ⊢
          clear hV0 bd HBY HFY
          refine wpAnyH_take (i := 0) (v := ?v1) rfl (by kernel_rfl) (by kernel_rfl) (by kernel_rfl) (fun _ _ _ h => h) (Or.inl ⟨by rfl, ?hy1⟩) (by assumption) ?rest1
          case hy1 => (intro w hSw; (try dsimp only at hSw); go_simp; try with_reducible rfl)
          try simp only [Act.put, List.setIfInBounds_toArray]
          refine wpAnyH_take (i := 1) (v := ?v2) rfl (by kernel_rfl) (by kernel_rfl) (by kernel_rfl) (fun _ _ _ h => h) (Or.inl ⟨by rfl, ?hy2⟩) (by assumption) ?rest2
          case hy2 => (intro w hSw; (try dsimp only at hSw); go_simp; try with_reducible rfl)
          try simp only [Act.put]
          refine wpAnyH_take (i := 2) (v := ?v3) rfl (by kernel_rfl) (by kernel_rfl) (by kernel_rfl) (fun _ _ _ h => h) (Or.inl ⟨by rfl, ?hy3⟩) (by assumption) ?rest3
          case hy3 => (intro w hSw; (try dsimp only at hSw); go_simp; try with_reducible rfl)
          try simp only [Act.put]
          refine wpAnyH_take (i := 3) (v := ?v4) rfl (by kernel_rfl) (by kernel_rfl) (by kernel_rfl) (fun _ _ _ h => h) (Or.inl ⟨by rfl, ?hy4⟩) (by assumption) ?rest4
          case hy4 => (intro w hSw; (try dsimp only at hSw); go_simp; try with_reducible rfl)
          try simp only [Act.put]
          refine wpAnyH_take (i := 5) (v := ?v5) rfl (by kernel_rfl) (by kernel_rfl) (by kernel_rfl) (fun _ _ _ h => h) (Or.inl ⟨by rfl, ?hy5⟩) (by assumption) ?rest5
          case hy5 => (intro w hSw; (try dsimp only at hSw); go_simp; try with_reducible rfl)
          try simp only [Act.put]
          refine wpAnyH_take (i := 6) (v := ?v6) rfl (by kernel_rfl) (by kernel_rfl) (by kernel_rfl) (fun _ _ _ h => h) (Or.inl ⟨by rfl, ?hy6⟩) (by assumption) ?rest6
          case hy6 => (intro w hSw; (try dsimp only at hSw); go_simp; try with_reducible rfl)
          try simp only [Act.put]
          refine wpAnyH_take (i := 7) (v := ?v7) rfl (by kernel_rfl) (by kernel_rfl) (by kernel_rfl) (fun _ _ _ h => h) (Or.inl ⟨by rfl, ?hy7⟩) (by assumption) ?rest7
          case hy7 => (intro w hSw; (try dsimp only at hSw); go_simp; try with_reducible rfl)
          try simp only [Act.put]
          refine wpAnyH_take (i := 8) (v := ?v8) rfl (by kernel_rfl) (by kernel_rfl) (by kernel_rfl) (fun _ _ _ h => h) (Or.inl ⟨by rfl, ?hy8⟩) (by assumption) ?rest8
          case hy8 => (intro w hSw; (try dsimp only at hSw); go_simp; try with_reducible rfl)
          try simp only [Act.put]
          refine wpAnyH_ready (rs := [4, 9]) (by kernel_rfl) (by simp) ?_
          refine ready_cons ({ dst := some 47, op := Op.load 30 (Operand.tmp 46), type := 30, pos := "law.go:48", after := #[{ on := 3, ground := Ground.data }], guard := none }) rfl rfl (fun K hK => ?_) ?_
          · clear hHeld
            have d0 := HG0.out.cells.1
            refine wp_val (v := ?vl1) (w2 := V0) ?hl1 ?_
            case hl1 => (go_simp; try with_reducible rfl)
            clear d0
            refine hK.out _ _ (by first | exact c0 | (dsimp only; exact c0) | exact cell_other c0 hkg) (fun hHeld => ?_)
            clear hK K
            try simp only [Act.put]
            refine wpAnyH_ready (rs := [9]) (by kernel_rfl) (by simp) ?_
            refine ready_cons ({ dst := some 52, op := Op.buildSlice 30 1 #[(0, Operand.tmp 51)], type := 30, pos := "law.go:48", after := #[{ on := 8, ground := Ground.data }], guard := none }) rfl rfl (fun K hK => ?_) ?_
            · clear hHeld
              go_simp
              obtain ⟨V1, hV⟩ : ∃ V, V = V0.alloc (.cells #[.slice pa ln ca] 25) := ⟨_, rfl⟩
              have hb2 : Below V0.heap.size V0 V1 := by rw [hV]; go_grown
              have HL1 : Hid (V1.cell? ⟨V0.heap.size, 0, none⟩ = some (.slice pa ln ca)) := by show _ = _; rw [hV]; go_cell
              rw [← hV]
              have HF1 := hide (HF0.out.trans (Frame.of_below hb2 _))
              have HG1 := hide (HG0.out.later hb2)
              have c1 := later hb2 c0
              clear c0
              have c0 := c1
              clear hV hb2 c1
              refine hK.out _ _ (by first | exact c0 | (dsimp only; exact c0) | exact cell_other c0 hkg) (fun hHeld => ?_)
              clear hK K
              try simp only [Act.put, List.setIfInBounds_toArray, List.set_cons_zero, List.set_cons_succ]
              refine wpAnyH_ready (rs := [10]) (by kernel_rfl) (by simp) ?_
              refine ready_cons ({ dst := some 53, op := Op.call { callee := Callee.builtin Builtin.append, args := #[Operand.tmp 47, Operand.tmp 52], argTypes := #[30, 30] }, type := 30, pos := "law.go:48", after := #[{ on := 4, ground := Ground.data }, { on := 9, ground := Ground.data }], guard := none }) rfl rfl (fun K hK => ?_) ?_
              · clear hHeld
                obtain ⟨p1, l1, c1, V2, e4, e5, e6, e7, b4, f4, f5, at4⟩ := HG1.out.push (by have := HF1.out.size; have := HBS.out; have := HKX.out.below.size; omega) (HOX.out V1 HF1.out) (by have := HLN.out; omega) HN1.out HL1.out HNX.out
                have HE2 : Hid (k < V2.heap.size ∧ V2.cell? ⟨k, 0, none⟩ = some (.slice pl ll cl) ∧ V2.frozen? ⟨k, 0, none⟩ = false) := ⟨e7, e5, e6⟩
                have HB4 := hide b4
                have HF4 := hide (HF1.out.trans f4)
                have HAT := hide at4
                have HSA : Hid (X.heap.size ≤ V1.heap.size) := HF1.out.size
                have c9 : V2.cell? ⟨g, i, none⟩ = some (.slice pa ln ca) := frame_cellK f5 (fun e => HKX.out.ng e) c0
                clear c0
                have c0 := c9
                refine oper_append (.tmp 47) (.tmp 52) 30 (by rfl) 30 (by rfl) (.slice pl ll cl) (.slice (some ⟨V0.heap.size, 0, none⟩) 1 1) (.slice p1 l1 c1) V2 (by rfl) (by rfl) ?_ ?_
                with_reducible exact e4
                clear e4 e5 e6 e7 b4 f4 f5 at4 c9
                refine hK.out _ _ (by first | exact c0 | (dsimp only; exact c0) | exact cell_other c0 hkg) (fun hHeld => ?_)
                clear hK K
                try simp only [Act.put, List.setIfInBounds_toArray, List.set_cons_zero, List.set_cons_succ]
                refine wpAnyH_take (i := 11) (v := ?v9) rfl (by kernel_rfl) (by kernel_rfl) (by kernel_rfl) (fun _ _ _ h => h) (Or.inl ⟨by rfl, ?hy9⟩) (by assumption) ?rest9
                case hy9 => (intro w hSw; (try dsimp only at hSw); go_simp; try with_reducible rfl)
                try simp only [Act.put, List.setIfInBounds_toArray]
                refine wpAnyH_take (i := 12) (v := ?v10) rfl (by kernel_rfl) (by kernel_rfl) (by kernel_rfl) (fun _ _ _ h => h) (Or.inl ⟨by rfl, ?hy10⟩) (by assumption) ?rest10
                case hy10 => (intro w hSw; (try dsimp only at hSw); go_simp; try with_reducible rfl)
                try simp only [Act.put]
                refine wpAnyH_ready (rs := [13]) (by kernel_rfl) (by simp) ?_
                refine ready_cons ({ dst := none, op := Op.store 30 (Operand.tmp 55) (Operand.tmp 53), type := 0, pos := "law.go:48", after := #[{ on := 12, ground := Ground.data }, { on := 10, ground := Ground.data }, { on := 10, ground := Ground.chain }, { on := 0, ground := Ground.phase }, { on := 1, ground := Ground.phase }, { on := 2, ground := Ground.phase }, { on := 3, ground := Ground.phase }, { on := 4, ground := Ground.phase }, { on := 5, ground := Ground.phase }, { on := 6, ground := Ground.phase }, { on := 7, ground := Ground.phase }, { on := 8, ground := Ground.phase }, { on := 9, ground := Ground.phase }, { on := 10, ground := Ground.phase }], guard := none }) rfl rfl (fun K hK => ?_) ?_
                · clear hHeld
                  obtain ⟨hgl, d0, e0⟩ := HE2.out
                  go_simp
                  clear d0 e0
                  refine hK.out _ _ (by first | exact c0 | (dsimp only; exact c0) | exact cell_other c0 hkg) (fun hHeld => ?_)
                  clear hK K
                  try simp only [Act.put, List.setIfInBounds_toArray, List.set_cons_zero, List.set_cons_succ]
                  refine wpAnyH_done (by kernel_rfl) ?_ _
                  clear hHeld
                  obtain ⟨Z, hZ⟩ : ∃ Z, Z = V2.setCell ⟨k, 0, none⟩ (.slice p1 l1 c1) := ⟨_, rfl⟩
                  rw [← hZ] at HB4 HF4
                  rw [← hZ]
                  have HZ : Hid (KI N M w Z B k g q T (i + 1) vs Ls (.slice p1 l1 c1) (n + 1) (upd rv n (.slice pa ln ca)) (upd L n (Ls i)) s2) := by
                    refine ⟨Below.trans HKX.out.below (HF4.out.below (by have := HBS.out; have := HKX.out.below.size; omega) HKX.out.bag.lb), HKX.out.kp.trans (HKX.out.bag.kp HF4.out), ?_, HB4.out, ?_, ?_, ?_, ?_, ?_, ?_⟩
                    · exact HF4.out.row HKX.out.args (fun j hj => by
                        simp only [Value.ownBlock, Option.some.injEq] at hj
                        rintro (e | e)
                        · exact hkg (hj.trans e)
                        · exact HKX.out.ng (by rw [e, hj]))
                    · have hgl := (World.ownsRow.lt HKX.out.args g rfl).2
                      rcases HAT.out with e | e
                      · rw [e]; exact HKX.out.ng
                      · rw [e]; intro e2; injection e2 with e2; have := HSA.out; omega
                    · intro j hj
                      refine HF4.out.iowns (HKX.out.own j hj) (fun b hb => ?_)
                      rintro (e | e)
                      · obtain ⟨cur, hk⟩ := row_kind HKX.out.bag.box
                        exact row_apart hk (HKX.out.own j hj) (by decide) (by rw [hb, e])
                      · exact lst_apart HKX.out.bag.lst (HKX.out.own j hj) e hb
                    · intro j u b h1 h2 h3 h4
                      by_cases hu : u = n
                      · rw [hu, upd_same]
                        intro h5
                        have hji := HUN.out i j b hlt h2 (by rw [HVA.out, HLN.out]; exact h5) h4
                        omega
                      · rw [upd_other _ _ hu]
                        exact HKX.out.fresh j u b (by omega) h2 (by omega) h4
                    · intro b hb hNb
                      rcases HAT.out with e | e
                      · exact HKX.out.nn b (by rw [← e]; exact hb) hNb
                      · rw [e] at hb
                        injection hb with hb
                        have h1 := HNL.out b hNb
                        have h2 := HKX.out.below.size
                        have h3 := HSA.out
                        omega
                    · intro u b hu hb hMb
                      by_cases hun : u = n
                      · rw [hun, upd_same] at hb
                        exact HMA.out i b hlt (by rw [HVA.out, HLN.out]; exact hb) hMb
                      · rw [upd_other _ _ hun] at hb
                        exact HKX.out.mm u b (by omega) hb hMb
                    · intro b hNb hbk
                      rw [← HKX.out.fr b hNb hbk]
                      refine HF4.out.block b (Nat.lt_of_lt_of_le (HNL.out b hNb) HKX.out.below.size) ?_
                      rintro (e | e)
                      · exact hbk e
                      · exact HKX.out.nn b e hNb
                  clear hZ HE2 HB4 HF4 HAT HSA HG0 HG1 HF0 HF1 HL1 c0 HKX HOX HNX
                  go_wp2
                  go_roundw
                  case rel => exact ⟨i + 1, by omega, by go_num, _, _, _, _, _, HZ.out⟩
                  case measure => simp [intOf]; omega
                exact AllReadyH.nil
              exact AllReadyH.nil
            exact AllReadyH.nil
          refine ready_cons ({ dst := some 52, op := Op.buildSlice 30 1 #[(0, Operand.tmp 51)], type := 30, pos := "law.go:48", after := #[{ on := 8, ground := Ground.data }], guard := none }) rfl rfl (fun K hK => ?_) ?_
          · clear hHeld
            go_simp
            obtain ⟨V1, hV⟩ : ∃ V, V = V0.alloc (.cells #[.slice pa ln ca] 25) := ⟨_, rfl⟩
            have hb2 : Below V0.heap.size V0 V1 := by rw [hV]; go_grown
            have HL1 : Hid (V1.cell? ⟨V0.heap.size, 0, none⟩ = some (.slice pa ln ca)) := by show _ = _; rw [hV]; go_cell
            rw [← hV]
            have HF1 := hide (HF0.out.trans (Frame.of_below hb2 _))
            have HG1 := hide (HG0.out.later hb2)
            have c1 := later hb2 c0
            clear c0
            have c0 := c1
            clear hV hb2 c1
            refine hK.out _ _ (by first | exact c0 | (dsimp only; exact c0) | exact cell_other c0 hkg) (fun hHeld => ?_)
            clear hK K
            try simp only [Act.put, List.setIfInBounds_toArray, List.set_cons_zero, List.set_cons_succ]
            refine wpAnyH_ready (rs := [4]) (by kernel_rfl) (by simp) ?_
            refine ready_cons ({ dst := some 47, op := Op.load 30 (Operand.tmp 46), type := 30, pos := "law.go:48", after := #[{ on := 3, ground := Ground.data }], guard := none }) rfl rfl (fun K hK => ?_) ?_
            · clear hHeld
              have d0 := HG1.out.cells.1
              refine wp_val (v := ?vl2) (w2 := V1) ?hl2 ?_
              case hl2 => (go_simp; try with_reducible rfl)
              clear d0
              refine hK.out _ _ (by first | exact c0 | (dsimp only; exact c0) | exact cell_other c0 hkg) (fun hHeld => ?_)
              clear hK K
              try simp only [Act.put, List.setIfInBounds_toArray, List.set_cons_zero, List.set_cons_succ]
              refine wpAnyH_ready (rs := [10]) (by kernel_rfl) (by simp) ?_
              refine ready_cons ({ dst := some 53, op := Op.call { callee := Callee.builtin Builtin.append, args := #[Operand.tmp 47, Operand.tmp 52], argTypes := #[30, 30] }, type := 30, pos := "law.go:48", after := #[{ on := 4, ground := Ground.data }, { on := 9, ground := Ground.data }], guard := none }) rfl rfl (fun K hK => ?_) ?_
              · clear hHeld
                obtain ⟨p1, l1, c1, V2, e4, e5, e6, e7, b4, f4, f5, at4⟩ := HG1.out.push (by have := HF1.out.size; have := HBS.out; have := HKX.out.below.size; omega) (HOX.out V1 HF1.out) (by have := HLN.out; omega) HN1.out HL1.out HNX.out
                have HE2 : Hid (k < V2.heap.size ∧ V2.cell? ⟨k, 0, none⟩ = some (.slice pl ll cl) ∧ V2.frozen? ⟨k, 0, none⟩ = false) := ⟨e7, e5, e6⟩
                have HB4 := hide b4
                have HF4 := hide (HF1.out.trans f4)
                have HAT := hide at4
                have HSA : Hid (X.heap.size ≤ V1.heap.size) := HF1.out.size
                have c9 : V2.cell? ⟨g, i, none⟩ = some (.slice pa ln ca) := frame_cellK f5 (fun e => HKX.out.ng e) c0
                clear c0
                have c0 := c9
                refine oper_append (.tmp 47) (.tmp 52) 30 (by rfl) 30 (by rfl) (.slice pl ll cl) (.slice (some ⟨V0.heap.size, 0, none⟩) 1 1) (.slice p1 l1 c1) V2 (by rfl) (by rfl) ?_ ?_
                with_reducible exact e4
                clear e4 e5 e6 e7 b4 f4 f5 at4 c9
                refine hK.out _ _ (by first | exact c0 | (dsimp only; exact c0) | exact cell_other c0 hkg) (fun hHeld => ?_)
                clear hK K
                try simp only [Act.put, List.setIfInBounds_toArray, List.set_cons_zero, List.set_cons_succ]
                refine wpAnyH_take (i := 11) (v := ?v11) rfl (by kernel_rfl) (by kernel_rfl) (by kernel_rfl) (fun _ _ _ h => h) (Or.inl ⟨by rfl, ?hy11⟩) (by assumption) ?rest11
                case hy11 => (intro w hSw; (try dsimp only at hSw); go_simp; try with_reducible rfl)
                try simp only [Act.put, List.setIfInBounds_toArray]
                refine wpAnyH_take (i := 12) (v := ?v12) rfl (by kernel_rfl) (by kernel_rfl) (by kernel_rfl) (fun _ _ _ h => h) (Or.inl ⟨by rfl, ?hy12⟩) (by assumption) ?rest12
                case hy12 => (intro w hSw; (try dsimp only at hSw); go_simp; try with_reducible rfl)
                try simp only [Act.put]
                refine wpAnyH_ready (rs := [13]) (by kernel_rfl) (by simp) ?_
                refine ready_cons ({ dst := none, op := Op.store 30 (Operand.tmp 55) (Operand.tmp 53), type := 0, pos := "law.go:48", after := #[{ on := 12, ground := Ground.data }, { on := 10, ground := Ground.data }, { on := 10, ground := Ground.chain }, { on := 0, ground := Ground.phase }, { on := 1, ground := Ground.phase }, { on := 2, ground := Ground.phase }, { on := 3, ground := Ground.phase }, { on := 4, ground := Ground.phase }, { on := 5, ground := Ground.phase }, { on := 6, ground := Ground.phase }, { on := 7, ground := Ground.phase }, { on := 8, ground := Ground.phase }, { on := 9, ground := Ground.phase }, { on := 10, ground := Ground.phase }], guard := none }) rfl rfl (fun K hK => ?_) ?_
                · clear hHeld
                  obtain ⟨hgl, d0, e0⟩ := HE2.out
                  go_simp
                  clear d0 e0
                  refine hK.out _ _ (by first | exact c0 | (dsimp only; exact c0) | exact cell_other c0 hkg) (fun hHeld => ?_)
                  clear hK K
                  try simp only [Act.put, List.setIfInBounds_toArray, List.set_cons_zero, List.set_cons_succ]
                  refine wpAnyH_done (by kernel_rfl) ?_ _
                  clear hHeld
                  obtain ⟨Z, hZ⟩ : ∃ Z, Z = V2.setCell ⟨k, 0, none⟩ (.slice p1 l1 c1) := ⟨_, rfl⟩
                  rw [← hZ] at HB4 HF4
                  rw [← hZ]
                  have HZ : Hid (KI N M w Z B k g q T (i + 1) vs Ls (.slice p1 l1 c1) (n + 1) (upd rv n (.slice pa ln ca)) (upd L n (Ls i)) s2) := by
                    refine ⟨Below.trans HKX.out.below (HF4.out.below (by have := HBS.out; have := HKX.out.below.size; omega) HKX.out.bag.lb), HKX.out.kp.trans (HKX.out.bag.kp HF4.out), ?_, HB4.out, ?_, ?_, ?_, ?_, ?_, ?_⟩
                    · exact HF4.out.row HKX.out.args (fun j hj => by
                        simp only [Value.ownBlock, Option.some.injEq] at hj
                        rintro (e | e)
                        · exact hkg (hj.trans e)
                        · exact HKX.out.ng (by rw [e, hj]))
                    · have hgl := (World.ownsRow.lt HKX.out.args g rfl).2
                      rcases HAT.out with e | e
                      · rw [e]; exact HKX.out.ng
                      · rw [e]; intro e2; injection e2 with e2; have := HSA.out; omega
                    · intro j hj
                      refine HF4.out.iowns (HKX.out.own j hj) (fun b hb => ?_)
                      rintro (e | e)
                      · obtain ⟨cur, hk⟩ := row_kind HKX.out.bag.box
                        exact row_apart hk (HKX.out.own j hj) (by decide) (by rw [hb, e])
                      · exact lst_apart HKX.out.bag.lst (HKX.out.own j hj) e hb
                    · intro j u b h1 h2 h3 h4
                      by_cases hu : u = n
                      · rw [hu, upd_same]
                        intro h5
                        have hji := HUN.out i j b hlt h2 (by rw [HVA.out, HLN.out]; exact h5) h4
                        omega
                      · rw [upd_other _ _ hu]
                        exact HKX.out.fresh j u b (by omega) h2 (by omega) h4
                    · intro b hb hNb
                      rcases HAT.out with e | e
                      · exact HKX.out.nn b (by rw [← e]; exact hb) hNb
                      · rw [e] at hb
                        injection hb with hb
                        have h1 := HNL.out b hNb
                        have h2 := HKX.out.below.size
                        have h3 := HSA.out
                        omega
                    · intro u b hu hb hMb
                      by_cases hun : u = n
                      · rw [hun, upd_same] at hb
                        exact HMA.out i b hlt (by rw [HVA.out, HLN.out]; exact hb) hMb
                      · rw [upd_other _ _ hun] at hb
                        exact HKX.out.mm u b (by omega) hb hMb
                    · intro b hNb hbk
                      rw [← HKX.out.fr b hNb hbk]
                      refine HF4.out.block b (Nat.lt_of_lt_of_le (HNL.out b hNb) HKX.out.below.size) ?_
                      rintro (e | e)
                      · exact hbk e
                      · exact HKX.out.nn b e hNb
                  clear hZ HE2 HB4 HF4 HAT HSA HG0 HG1 HF0 HF1 HL1 c0 HKX HOX HNX
                  go_wp2
                  go_roundw
                  case rel => exact ⟨i + 1, by omega, by go_num, _, _, _, _, _, HZ.out⟩
                  case measure => simp [intOf]; omega
                exact AllReadyH.nil
              exact AllReadyH.nil
            exact AllReadyH.nil
          exact AllReadyH.nil
        · go_wp2
          go_roundw
          case rel => exact ⟨i + 1, by omega, by go_num, .slice pl ll cl, n, rv, L, sz, HKX.out.below, HKX.out.kp, HKX.out.args, HKX.out.bag, HKX.out.ng, HKX.out.own, fun j u b h1 => HKX.out.fresh j u b (by omega), HKX.out.nn, HKX.out.mm, HKX.out.fr⟩
          case measure => simp [intOf]; omega
      · go_wp2
        go_roundw
        case rel => exact ⟨i + 1, by omega, by go_num, .slice pl ll cl, n, rv, L, sz, HKX.out.below, HKX.out.kp, HKX.out.args, HKX.out.bag, HKX.out.ng, HKX.out.own, fun j u b h1 => HKX.out.fresh j u b (by omega), HKX.out.nn, HKX.out.mm, HKX.out.fr⟩
        case measure => simp [intOf]; omega
    · have i1 : ¬ (i : Int) < q := by omega
      have HF : Hid (KPost N M w B k wr) := ⟨⟨_, _, _, _, _, hK.bag, hK.nn, hK.mm⟩, hK.below, hK.kp, hK.fr⟩
      clear hK HR
      go_wp2
      go_end0
      exact ⟨rfl, HF.out⟩
end Go.Proofs.Ytaebbfilgfkckaa
