/- Which edges are parallel to one ahead, in every world. -/
import Derived.Test.YtmmbbfmkhbengaaM1
namespace Go.Proofs.Ytmmbbfmkhbengaa
open Go.RowKit Go.Sort
open Go
open Go.MapKept Go.ChangeMaps

def ord (r : Pt) : Pt := if r.y < r.x then ⟨r.y, r.x⟩ else r
def cntN (es : List Pt) : Nat → Pt → Int
  | 0 => fun _ => 0
  | i + 1 => upd (cntN es i) (ord (at' es i)) (cntN es i (ord (at' es i)) + 1)
theorem cntN_in (es : List Pt) : ∀ i q, 0 ≤ cntN es i q ∧ cntN es i q ≤ i
  | 0, q => by simp [cntN]
  | i + 1, q => by
    simp only [cntN, upd]
    have h1 := cntN_in es i q
    have h2 := cntN_in es i (ord (at' es i))
    split <;> omega
theorem cntN_pos (es : List Pt) : ∀ i q, 0 < cntN es i q ↔ ∃ j, j < i ∧ ord (at' es j) = q
  | 0, q => by simp [cntN]
  | i + 1, q => by
    have ih := cntN_pos es i q
    have h2 := cntN_in es i (ord (at' es i))
    simp only [cntN, upd]
    constructor
    · intro h
      by_cases e : q = ord (at' es i)
      · exact ⟨i, by omega, e.symm⟩
      · rw [if_neg e] at h
        obtain ⟨j, hj, ej⟩ := ih.1 h
        exact ⟨j, by omega, ej⟩
    · rintro ⟨j, hj, ej⟩
      by_cases e : q = ord (at' es i)
      · rw [if_pos e]; omega
      · rw [if_neg e]
        rcases Nat.lt_succ_iff_lt_or_eq.1 hj with k | k
        · exact ih.2 ⟨j, k, ej⟩
        · subst k; exact absurd ej.symm e
def repB (es : List Pt) (i : Nat) : Bool := decide (0 < cntN es i (ord (at' es i)))
def bat (l : List Bool) (j : Nat) : Bool := l.getD j false
def BRow (w : World) (base g n : Nat) (l : List Bool) : Prop := l.length = n ∧ w.ownsRow base 4 1 (.slice (some ⟨g, 0, none⟩) n n) n (l.map .bool)
theorem BRow.cell {w : World} {base g n : Nat} {l : List Bool} (h : BRow w base g n l) {j : Nat} (hj : j < n) : w.cell? ⟨g, j, none⟩ = some (.bool (bat l j)) ∧ w.frozen? ⟨g, j, none⟩ = false := by
  refine ⟨?_, World.ownsRow.frozenAt h.2 _⟩
  rw [World.ownsRow.cellAt h.2 j (by omega), List.getElem?_map]
  unfold bat
  rw [List.getD_eq_getElem?_getD, List.getElem?_eq_getElem (by rw [h.1]; exact hj)]
  rfl
theorem BRow.set {w : World} {base g n : Nat} {l : List Bool} (h : BRow w base g n l) (j : Nat) (x : Bool) : BRow (w.setCell ⟨g, j, none⟩ (.bool x)) base g n (l.set j x) := by
  refine ⟨by rw [List.length_set]; exact h.1, ?_⟩
  rw [List.map_set]
  exact (World.ownsRow.stored h.2 j (.bool x)).1
theorem BRow.later {w w' : World} {base g n : Nat} {l : List Bool} (h : BRow w base g n l) (hb : Below w.heap.size w w') : BRow w' base g n l := ⟨h.1, World.ownsRow.kept h.2 (grown_below hb) (Or.inr (by simp [Value.ownBlock]))⟩
theorem BRow.lt {w : World} {base g n : Nat} {l : List Bool} (h : BRow w base g n l) : base ≤ g ∧ g < w.heap.size := World.ownsRow.lt h.2 g rfl
theorem BRow.base {w : World} {b b' g n : Nat} {l : List Bool} (h : BRow w b g n l) (hb : b' ≤ b) : BRow w b' g n l := ⟨h.1, owns_base h.2 hb⟩
theorem brow_made {w : World} {base g n : Nat} (h : w.ownsRow base 4 1 (.slice (some ⟨g, 0, none⟩) n n) n (madeCells #[.bool false] n).toList) : BRow w base g n (List.replicate n false) := by
  rw [toList_madeCells_one] at h
  exact ⟨List.length_replicate, by rw [List.map_replicate]; exact h⟩
theorem bat_set (l : List Bool) (j k : Nat) (x : Bool) (hk : k < l.length) : bat (l.set j x) k = if j = k then x else bat l k := by
  unfold bat
  rw [List.getD_eq_getElem?_getD, List.getD_eq_getElem?_getD, List.getElem?_set]
  by_cases h : j = k
  · subst h; simp [hk]
  · simp [h]
theorem bat_ext {a b : List Bool} (hl : a.length = b.length) (h : ∀ j, j < a.length → bat a j = bat b j) : a = b := by
  apply List.ext_getElem hl
  intro j h1 h2
  have := h j h1
  unfold bat at this
  rw [List.getD_eq_getElem?_getD, List.getD_eq_getElem?_getD, List.getElem?_eq_getElem h1, List.getElem?_eq_getElem h2] at this
  exact this
def reps (es : List Pt) : List Bool := (List.range es.length).map (repB es)
theorem reps_length (es : List Pt) : (reps es).length = es.length := by simp [reps]
theorem reps_at (es : List Pt) {j : Nat} (h : j < es.length) : bat (reps es) j = repB es j := by
  unfold bat reps
  rw [List.getD_eq_getElem?_getD, List.getElem?_map, List.getElem?_range h]
  rfl
theorem good_ord {r : Pt} (h : Good r) : Good (ord r) := by
  obtain ⟨h1, h2, h3, h4⟩ := h
  unfold ord
  split
  · exact ⟨h3, h4, h1, h2⟩
  · exact ⟨h1, h2, h3, h4⟩
def MapIs (w : World) (b : Nat) (f : Pt → Int) : Prop := ∃ es clock, w.heap[b]? = some (.map es clock) ∧ MapAs es clock f
theorem MapIs.later {w w' : World} {b : Nat} {f : Pt → Int} (h : MapIs w b f) (hb : Below w.heap.size w w') : MapIs w' b f := by
  obtain ⟨es, clock, h1, h2⟩ := h
  exact ⟨es, clock, by rw [hb.block b (Array.getElem?_eq_some_iff.1 h1).1]; exact h1, h2⟩
theorem run_mk81 (n : Int) (w : World) : (Instr.makeMap 81 (some (.int .i64 n))).run Try.prog w = .ok (.map (some w.heap.size)) (w.alloc (.map #[] 0)) := by kernel_rfl
theorem block_at {w w' : World} {b : Nat} {o : Obj} (hb : Below w.heap.size w w') (h : w.heap[b]? = some o) : w'.heap[b]? = some o := by
  rw [hb.block b (Array.getElem?_eq_some_iff.1 h).1]; exact h
theorem mapAs_empty : MapAs #[] 0 (fun _ => 0) := ⟨by simp, by simp, by simp, by simp, fun _ _ _ => rfl⟩

theorem setBlock_grown (W : World) (b : Nat) (o : Obj) : W.grownBy (setBlock W b o) (some b) := ⟨rfl, rfl, rfl, by simp [setBlock], fun k hk hne => by
  simp only [setBlock]
  rw [Array.getElem?_setIfInBounds_ne]
  intro e; exact hne (by rw [e])⟩
theorem setBlock_at {W : World} {b : Nat} (h : b < W.heap.size) (o : Obj) : (setBlock W b o).heap[b]? = some o := by
  simp [setBlock, h]
theorem BRow.kept {w w' : World} {base g n k : Nat} {l : List Bool} (h : BRow w base g n l) (hg : w.grownBy w' (some k)) (hne : k ≠ g) : BRow w' base g n l := ⟨h.1, World.ownsRow.kept h.2 hg (Or.inr (by simp [Value.ownBlock]; omega))⟩
/-- What the count's step does to the world. -/
theorem step55 {V : World} {w : World} {F : Pt → Int} {ms : Array MapEntry} {clock : Nat} {o : Pt} {c : Int} {n : Nat} {l : List Bool} (hB : Below w.heap.size w V) (hR : BRow V w.heap.size (w.heap.size + 1) n l) (hm : V.heap[w.heap.size]? = some (.map ms clock)) (hma : MapAs ms clock F) (hg : Good o) (hc : F o = c) :
    ∃ (v0 : Value) (st : Nat) (V1 V2 : World), (Instr.lookup 81 (.map (some w.heap.size)) (pv o.x o.y) false).run Try.prog V.drew = .ok (.int .i64 c) V.drew ∧
      (Instr.mapEntry 81 (.map (some w.heap.size)) (pv o.x o.y)).run Try.prog V.drew = .ok (.tuple #[v0, .int .i64 st]) V1 ∧
      (Instr.lookup 81 (.map (some w.heap.size)) (pv o.x o.y) false).run Try.prog V1 = .ok (.int .i64 c) V1 ∧
      (Instr.entryStore 81 (.map (some w.heap.size)) (.int .i64 st) (.int .i64 (c + 1))).run Try.prog V1 = .ok () V2 ∧
      Below w.heap.size w V2 ∧ BRow V2 w.heap.size (w.heap.size + 1) n l ∧ MapIs V2 w.heap.size (upd F o (c + 1)) := by
  obtain ⟨v0, st, es1, clock1, h1, h2, h3⟩ := entry81 hma hg
  obtain ⟨es2, h4, h5⟩ := h3 (c + 1)
  have hmd : V.drew.heap[w.heap.size]? = some (.map ms clock) := hm
  have hlt : w.heap.size < V.drew.heap.size := (Array.getElem?_eq_some_iff.1 hmd).1
  have e1 := setBlock_at hlt (.map es1 clock1)
  have hlt1 : w.heap.size < (setBlock V.drew w.heap.size (.map es1 clock1)).heap.size := (Array.getElem?_eq_some_iff.1 e1).1
  have e2 := setBlock_at hlt1 (.map es2 clock1)
  have l1 := look81 hma hmd hg
  have l2 := look81 h1 e1 hg
  rw [hc] at l1 l2
  refine ⟨v0, st, _, _, l1, h2 _ _ hmd, l2, h5 _ _ e1, ?_, ?_, es2, clock1, e2, h4⟩
  · have b1 : Below w.heap.size w V.drew := hB.drew
    have b2 := b1.grown (setBlock_grown V.drew w.heap.size (.map es1 clock1)) b1.size (fun k hk => by cases hk; exact Nat.le_refl _)
    exact b2.grown (setBlock_grown _ w.heap.size (.map es2 clock1)) b2.size (fun k hk => by cases hk; exact Nat.le_refl _)
  · have r1 : BRow V.drew w.heap.size (w.heap.size + 1) n l := hR.later (below_drew _)
    exact (r1.kept (setBlock_grown _ w.heap.size (.map es1 clock1)) (by omega)).kept (setBlock_grown _ w.heap.size (.map es2 clock1)) (by omega)
set_option maxRecDepth 100000 in
set_option maxHeartbeats 4000000 in
theorem repeats55 (p : Option Addr) (es : List Pt) (cp : Nat) (w : World) (hl : es.length ≤ 3072) (hg : ∀ j, j < es.length → Good (at' es j)) (h : Has w p es) : Calls Try.prog 55 #[.slice p es.length cp] w fun e w' => ∃ g, e = .returned (.slice (some ⟨g, 0, none⟩) es.length es.length) ∧ BRow w' w.heap.size g es.length (reps es) ∧ Below w.heap.size w w' := by
  have HH := hide h
  have HG := hide hg
  clear h hg
  obtain ⟨i0, hi0, hz0, hz1, hz2⟩ := info_parts info4
  have hmm := run_mk81
  go_enter Try.func55, Try.ntmps55
  go_wp2_with (refine wpList_make_full _ rfl (.tmp 12) (.tmp 12) 75 rfl w.heap.size 4 i0 (.bool false) 1 Try.underlying75 hi0 hz0 hz1 .i64 .i64 _ _ es.length rfl rfl rfl rfl ?c1 ?c2 ?c3 ?_)
  case c1 => rw [hz2]; omega
  case c2 => unfold maxLen; omega
  case c3 => simp
  intro w2 hown hgrow
  have HR2 : Hid (BRow w2 w.heap.size (w.heap.size + 1) es.length (List.replicate es.length false)) := brow_made (by simpa using hown)
  have hb2 := below_made hgrow
  have HM2 : Hid (MapIs w2 w.heap.size (cntN es 0)) := MapIs.later (w := w.alloc (.map #[] 0)) ⟨#[], 0, heap_alloc_new _ _, mapAs_empty⟩ hb2
  have HB2 : Hid (Below w.heap.size w w2) := Below.trans ((Below.refl _ _).alloc (Nat.le_refl _) _) (hb2.mono (by simp))
  clear hown hgrow hb2 hmm
  go_wp2_with fail
  go_loopw [16] (fun t wr => ∃ i : Nat, i ≤ es.length ∧ t = .int .i64 i ∧ Hid (Below w.heap.size w wr) ∧ Hid (MapIs wr w.heap.size (cntN es i)) ∧ Hid (∃ r, BRow wr w.heap.size (w.heap.size + 1) es.length r ∧ ∀ j, j < i → bat r j = repB es j)) (fun t _ => es.length - (intOf t).toNat)
  case atStart => exact ⟨0, by omega, rfl, HB2.out, HM2.out, _, HR2.out, fun j hj => by omega⟩
  case round =>
    obtain ⟨i, hi, rfl, HB, HM, HR⟩ := hrel
    by_cases hlt : i < es.length
    · obtain ⟨rr, hr, hall⟩ := HR.out
      have HR' := hide hr
      have HA := hide hall
      obtain ⟨f0, f1⟩ := hr.cell hlt
      have hgl := hr.lt.2
      clear hr hall HR
      obtain ⟨ms, clock, hmb, hma⟩ := HM.out
      have HMA := hide hma
      have HMB := hide hmb
      have hG := hide (HG.out i hlt)
      rcases HH.out.later HB.out with h | ⟨b, off, rfl, hL⟩
      · subst h; simp at hlt
      obtain ⟨c0, c1⟩ := hL i hlt
      have hC : Hid (cntN es (i + 1) = upd (cntN es i) (ord (at' es i)) (cntN es i (ord (at' es i)) + 1)) := rfl
      have hRB : Hid (repB es i = decide (0 < cntN es i (ord (at' es i)))) := rfl
      have hcin := cntN_in es i (ord (at' es i))
      obtain ⟨r, hr⟩ : ∃ r, at' es i = r := ⟨_, rfl⟩
      rw [hr] at c0 c1 hC hRB hcin hG
      obtain ⟨F, hF⟩ : ∃ F, cntN es i = F := ⟨_, rfl⟩
      rw [hF] at hC hRB hcin HMA HM
      obtain ⟨bv, hbv⟩ : ∃ bv, bat rr i = bv := ⟨_, rfl⟩
      rw [hbv] at f0
      clear hma hmb hL hr hF hbv
      have zb : b < wr.heap.size := block_lt_of_cell c0
      have zw : w.heap.size < wr.heap.size := by omega
      have hgo := hide (good_ord hG.out)
      obtain ⟨i1, i2⟩ : (0 : Int) ≤ i ∧ (i : Int) < es.length := by omega
      by_cases hxy : r.y < r.x
      · have ho : ord r = ⟨r.y, r.x⟩ := by unfold ord; rw [if_pos hxy]
        rw [ho] at hgo hC hRB hcin
        have hlk : (Instr.lookup 81 (.map (some w.heap.size)) (pv r.y r.x) false).run Try.prog ((wr.alloc (bx r)).alloc (bx ⟨r.y, r.x⟩)) = .ok (.int .i64 (F ⟨r.y, r.x⟩)) ((wr.alloc (bx r)).alloc (bx ⟨r.y, r.x⟩)) := look81 HMA.out (block_at (w := wr) (by go_grown) HMB.out) hgo.out
        obtain ⟨c, hc⟩ : ∃ c, F ⟨r.y, r.x⟩ = c := ⟨_, rfl⟩
        rw [hc] at hlk hC hRB hcin
        clear ho
        go_wp2_with fail
        obtain ⟨V, hV⟩ : ∃ V, V = ((wr.setCell ⟨w.heap.size + 1, i, none⟩ (.bool (decide (0 < c)))).alloc (bx r)).alloc (bx ⟨r.y, r.x⟩) := ⟨_, rfl⟩
        rw [show ((wr.setCell ⟨w.heap.size + 1, i, none⟩ (.bool (decide (0 < c)))).alloc (bx r)).alloc (bx ⟨r.y, r.x⟩) = V from hV.symm]
        have g0 : V.cell? ⟨wr.heap.size + 1, 0, none⟩ = some (.int .i64 r.y) := by rw [hV]; go_cell
        have g1 : V.cell? ⟨wr.heap.size + 1, 1, none⟩ = some (.int .i64 r.x) := by rw [hV]; go_cell
        have hBV : Below w.heap.size w V := by rw [hV]; exact ((HB.out.setCell (by simp) _).alloc (by simp; omega) _).alloc (by simp; omega) _
        have hRV : BRow V w.heap.size (w.heap.size + 1) es.length (rr.set i (decide (0 < c))) := by rw [hV]; exact ((HR'.out.set i _).later (by go_grown)).later (by go_grown)
        have hmV : V.heap[w.heap.size]? = some (.map ms clock) := by
          rw [hV]
          refine block_at (w := wr.setCell ⟨w.heap.size + 1, i, none⟩ (.bool (decide (0 < c)))) (by go_grown) ?_
          rw [(World.ownsRow.stored HR'.out.2 i (.bool (decide (0 < c)))).2.block w.heap.size zw (by simp)]
          exact HMB.out
        obtain ⟨v0, st, V1, V2, k1, k2, k3, k4, hB2, hR2, hM2⟩ := step55 hBV hRV hmV HMA.out hgo.out hc
        have HB2' := hide hB2
        have HR2' := hide hR2
        have HM2' := hide hM2
        clear hB2 hR2 hM2 hV hBV hRV hmV hlk f0 f1
        go_region
        clear k1 k2 k3 k4 g0 g1
        go_wp2
        go_roundw
        case rel =>
          refine ⟨i + 1, by omega, by go_num, HB2'.out, by rw [hC.out]; exact HM2'.out, _, HR2'.out, more (fun j hj => ?_) ?_⟩
          · rw [bat_set _ _ _ _ (by rw [HR'.out.1]; omega), if_neg (by omega)]; exact HA.out j hj
          · rw [bat_set _ _ _ _ (by rw [HR'.out.1]; omega), if_pos rfl, hRB.out]
        case measure => simp [intOf]; omega
      · have ho : ord r = r := by unfold ord; rw [if_neg hxy]
        rw [ho] at hgo hC hRB hcin
        have hlk : (Instr.lookup 81 (.map (some w.heap.size)) (pv r.x r.y) false).run Try.prog ((wr.alloc (bx r)).alloc (bx r)) = .ok (.int .i64 (F r)) ((wr.alloc (bx r)).alloc (bx r)) := look81 HMA.out (block_at (w := wr) (by go_grown) HMB.out) hgo.out
        obtain ⟨c, hc⟩ : ∃ c, F r = c := ⟨_, rfl⟩
        rw [hc] at hlk hC hRB hcin
        clear ho
        have hxy2 : (if r.x < r.y then r.y else r.x) = r.y := by split <;> omega
        go_wp2_with fail
        obtain ⟨V, hV⟩ : ∃ V, V = ((wr.setCell ⟨w.heap.size + 1, i, none⟩ (.bool (decide (0 < c)))).alloc (bx r)).alloc (bx r) := ⟨_, rfl⟩
        rw [show ((wr.setCell ⟨w.heap.size + 1, i, none⟩ (.bool (decide (0 < c)))).alloc (bx r)).alloc (bx r) = V from hV.symm]
        have g0 : V.cell? ⟨wr.heap.size + 1, 0, none⟩ = some (.int .i64 r.x) := by rw [hV]; go_cell
        have g1 : V.cell? ⟨wr.heap.size + 1, 1, none⟩ = some (.int .i64 r.y) := by rw [hV]; go_cell
        have hBV : Below w.heap.size w V := by rw [hV]; exact ((HB.out.setCell (by simp) _).alloc (by simp; omega) _).alloc (by simp; omega) _
        have hRV : BRow V w.heap.size (w.heap.size + 1) es.length (rr.set i (decide (0 < c))) := by rw [hV]; exact ((HR'.out.set i _).later (by go_grown)).later (by go_grown)
        have hmV : V.heap[w.heap.size]? = some (.map ms clock) := by
          rw [hV]
          refine block_at (w := wr.setCell ⟨w.heap.size + 1, i, none⟩ (.bool (decide (0 < c)))) (by go_grown) ?_
          rw [(World.ownsRow.stored HR'.out.2 i (.bool (decide (0 < c)))).2.block w.heap.size zw (by simp)]
          exact HMB.out
        obtain ⟨v0, st, V1, V2, k1, k2, k3, k4, hB2, hR2, hM2⟩ := step55 hBV hRV hmV HMA.out hgo.out hc
        have HB2' := hide hB2
        have HR2' := hide hR2
        have HM2' := hide hM2
        clear hB2 hR2 hM2 hV hBV hRV hmV hlk f0 f1
        go_region
        clear k1 k2 k3 k4 g0 g1
        go_wp2
        go_roundw
        case rel =>
          refine ⟨i + 1, by omega, by go_num, HB2'.out, by rw [hC.out]; exact HM2'.out, _, HR2'.out, more (fun j hj => ?_) ?_⟩
          · rw [bat_set _ _ _ _ (by rw [HR'.out.1]; omega), if_neg (by omega)]; exact HA.out j hj
          · rw [bat_set _ _ _ _ (by rw [HR'.out.1]; omega), if_pos rfl, hRB.out]
        case measure => simp [intOf]; omega
    · have hin : i = es.length := by omega
      subst hin
      obtain ⟨r, hr, hall⟩ := HR.out
      have e : Hid (r = reps es) := bat_ext (by rw [hr.1, reps_length]) fun j hj => by rw [hr.1] at hj; rw [hall j hj, reps_at _ hj]
      have HR' := hide hr
      clear hr hall HR
      go_wp2
      go_ret
      refine ⟨_, rfl, ?_, HB.out⟩
      rw [← e.out]; exact HR'.out
end Go.Proofs.Ytmmbbfmkhbengaa
