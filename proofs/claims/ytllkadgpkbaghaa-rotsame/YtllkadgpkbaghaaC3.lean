/- Tours as values; a tour of which nothing is found; Breadth. -/
import Derived.Test.YtllkadgpkbaghaaC2
import Derived.Test.YtllkadgpkbaghaaA4
namespace Go.Proofs.Ytllkadgpkbaghaa
open Go.RowKit Go.Sort
open Go


abbrev tv (a b c d : Value) : Value := .agg #[a, b, c, d]
/-- A tour that is answered: its lists are memory of its own, each in a block of its own. -/
def TR (w : World) (B n : Nat) (v : Value) (st : St) (vl : Value) : Prop :=
  ∃ vo gb gf, v = tv vo (.slice (some ⟨gb, 0, none⟩) n n) (.slice (some ⟨gf, 0, none⟩) n n) vl ∧ IOwns w B vo st.O ∧ IRow w B gb n st.By ∧ IRow w B gf n st.Fa ∧ gb ≠ gf ∧ vo.ownBlock ≠ some gb ∧ vo.ownBlock ≠ some gf
theorem TR.later {w w' : World} {B n : Nat} {v : Value} {st : St} {vl : Value} (h : TR w B n v st vl) (hb : Below w.heap.size w w') : TR w' B n v st vl := by
  obtain ⟨vo, gb, gf, h1, h2, h3, h4, h5⟩ := h
  exact ⟨vo, gb, gf, h1, h2.later hb, h3.later hb, h4.later hb, h5⟩
theorem TR.base {w : World} {B B' n : Nat} {v : Value} {st : St} {vl : Value} (h : TR w B n v st vl) (hb : B' ≤ B) : TR w B' n v st vl := by
  obtain ⟨vo, gb, gf, h1, h2, h3, h4, h5⟩ := h
  exact ⟨vo, gb, gf, h1, h2.base hb, h3.base hb, h4.base hb, h5⟩
theorem box35 (w : World) (a b c d : Value) : (w.alloc (.cells #[a, b, c, d] 93)).ownsRow 0 93 4 (.slice (some ⟨w.heap.size, 0, none⟩) 1 1) 1 [a, b, c, d] :=
  World.ownsRow_lit w #[a, b, c, d] 1 (Nat.zero_le _) (by unfold maxLen; omega) rfl
theorem ret_tour {V : World} {k : Nat} {a b c d : Value} (h : V.ownsRow 0 93 4 (.slice (some ⟨k, 0, none⟩) 1 1) 1 [a, b, c, d]) : (loadVar 93 ⟨k, 0, none⟩).run Try.prog V = .ok (tv a b c d) V := by
  have m0 : V.cell? ⟨k, 0, none⟩ = some a := World.ownsRow.cellAt h 0 (by omega)
  have m1 : V.cell? ⟨k, 1, none⟩ = some b := World.ownsRow.cellAt h 1 (by omega)
  have m2 : V.cell? ⟨k, 2, none⟩ = some c := World.ownsRow.cellAt h 2 (by omega)
  have m3 : V.cell? ⟨k, 3, none⟩ = some d := World.ownsRow.cellAt h 3 (by omega)
  have l0 : (load ⟨k, 0, none⟩).run Try.prog V = .ok a V := by simp [go_sem, m0]
  have l1 : (load ⟨k, 1, none⟩).run Try.prog V = .ok b V := by simp [go_sem, m1]
  have l2 : (load ⟨k, 2, none⟩).run Try.prog V = .ok c V := by simp [go_sem, m2]
  have l3 : (load ⟨k, 3, none⟩).run Try.prog V = .ok d V := by simp [go_sem, m3]
  simp only [loadVar, Sem.run_bind, Try.isAgg93, Result.andThen_ok, if_true, Try.sizeOf93]
  simp only [loadCells, go_sem]
  simp only [Sem.run_bind, Nat.zero_add, l0, l1, l2, l3, Result.andThen_ok, Sem.run_pure]
  rfl
theorem ret_tour1 {fn : Func} {t : Tmp} (hr : fn.results = #[.cell t 93]) {tmps : Array Value} {V : World} {k : Nat} {a b c d : Value} (h2 : tmps.getD t undef = .pointer (some ⟨k, 0, none⟩)) (h : V.ownsRow 0 93 4 (.slice (some ⟨k, 0, none⟩) 1 1) 1 [a, b, c, d]) :
    (results fn tmps).run Try.prog V = .ok (tv a b c d) V := by
  rw [results_c hr, h2, asA, Result.andThen_ok, ret_tour h]
theorem ret_tour2 {fn : Func} {t u : Tmp} (hr : fn.results = #[.cell t 93, .tmp u]) {tmps : Array Value} {V : World} {k : Nat} {a b c d e : Value} (h2 : tmps.getD t undef = .pointer (some ⟨k, 0, none⟩)) (h3 : tmps.getD u undef = e) (h : V.ownsRow 0 93 4 (.slice (some ⟨k, 0, none⟩) 1 1) 1 [a, b, c, d]) :
    (results fn tmps).run Try.prog V = .ok (.tuple #[tv a b c d, e]) V := by
  rw [results_cT hr, h2, asA, Result.andThen_ok, ret_tour h, Result.andThen_ok, h3]
/-- A tour through n nodes of which none is found. -/
def st0 (n : Nat) : St := ⟨[], List.replicate n (-1), List.replicate n (-1)⟩
theorem st0_ok (n : Nat) : Ok n (st0 n) where
  lb := by simp [st0]
  lf := by simp [st0]
  mem j hj := by simp [st0] at hj
  cnt := by have := unl_le (List.replicate n (-1)); simp [st0] at this ⊢; exact this
  val v hv := by show -1 ≤ iat (List.replicate n (-1)) v ∧ _; rw [show (st0 n).Fa = List.replicate n (-1) from rfl, iat_fill hv]; simp [st0]
  fnd j hj := by simp [st0] at hj
theorem set_box35 {V : World} {k : Nat} {a b c d a' b' c' d' : Value} (h : V.ownsRow 0 93 4 (.slice (some ⟨k, 0, none⟩) 1 1) 1 [a, b, c, d]) :
    ((((V.setCell ⟨k, 0, none⟩ a').setCell ⟨k, 1, none⟩ b').setCell ⟨k, 2, none⟩ c').setCell ⟨k, 3, none⟩ d').ownsRow 0 93 4 (.slice (some ⟨k, 0, none⟩) 1 1) 1 [a', b', c', d'] :=
  (World.ownsRow.stored (World.ownsRow.stored (World.ownsRow.stored (World.ownsRow.stored h 0 a').1 1 b').1 2 c').1 3 d').1
abbrev set4 (V : World) (k : Nat) (a b c d : Value) : World := (((V.setCell ⟨k, 0, none⟩ a).setCell ⟨k, 1, none⟩ b).setCell ⟨k, 2, none⟩ c).setCell ⟨k, 3, none⟩ d
theorem row_set4 {V : World} {k base e size n : Nat} {v : Value} {xs : List Value} (h : V.ownsRow base e size v n xs) (hk : v.ownBlock ≠ some k) (a b c d : Value) : (set4 V k a b c d).ownsRow base e size v n xs :=
  ownsRow_setCell_other (a := ⟨k, 3, none⟩) (ownsRow_setCell_other (a := ⟨k, 2, none⟩) (ownsRow_setCell_other (a := ⟨k, 1, none⟩) (ownsRow_setCell_other (a := ⟨k, 0, none⟩) h hk _) hk _) hk _) hk _
theorem irow_set4 {V : World} {k B g n : Nat} {l : List Int} (h : IRow V B g n l) (hk : k ≠ g) (a b c d : Value) : IRow (set4 V k a b c d) B g n l :=
  ⟨h.1, row_set4 h.2 (by simp [Value.ownBlock]; omega) a b c d⟩
theorem below_set4 {B : Nat} {w V : World} {k : Nat} (h : Below B w V) (hk : B ≤ k) (a b c d : Value) : Below B w (set4 V k a b c d) :=
  (((h.setCell hk a).setCell hk b).setCell hk c).setCell hk d
set_option maxRecDepth 100000 in
set_option maxHeartbeats 8000000 in
theorem unfound37 (n : Nat) (w : World) (hn : n ≤ 100000) : Calls Try.prog 86 #[.int .i64 n] w fun e w' => ∃ v, e = .returned v ∧ TR w' w.heap.size n v (st0 n) (.slice none 0 0) ∧ Below w.heap.size w w' := by
  obtain ⟨W, hW⟩ : ∃ W, W = (w.alloc (.cells #[.slice none 0 0, .slice none 0 0, .slice none 0 0, .slice none 0 0] 93)).alloc (.cells #[.int .i64 (-1)] 3) := ⟨_, rfl⟩
  have hb : Below w.heap.size w W := by rw [hW]; go_grown
  have hx : W.ownsRow 0 93 4 (.slice (some ⟨w.heap.size, 0, none⟩) 1 1) 1 [.slice none 0 0, .slice none 0 0, .slice none 0 0, .slice none 0 0] := by rw [hW]; exact World.ownsRow.alloc (box35 w _ _ _ _) _
  have hl : W.cell? ⟨w.heap.size + 1, 0, none⟩ = some (.int .i64 (-1)) := by rw [hW]; go_cell
  have hs : w.heap.size + 1 < W.heap.size := block_lt_of_cell hl
  have R1 := hide (repeat52 (w.heap.size + 1) n (-1) W hn hl)
  have HB := hide hb
  have HX := hide hx
  have HL := hide hl
  clear hb hx hl
  go_enter Try.func86, Try.ntmps86
  go_wp2_with fail
  rw [← hW]
  clear hW
  refine R1.out.mono ?_
  rintro e w1 ⟨gb, rfl, hr1, hb1⟩
  have R2 := hide (repeat52 (w.heap.size + 1) n (-1) w1 hn (later hb1 HL.out))
  have HR1 := hide hr1
  have HB1 := hide hb1
  clear hr1 hb1 R1
  go_wp2_with fail
  refine R2.out.mono ?_
  rintro e w2 ⟨gf, rfl, hr2, hb2⟩
  have hlt1 := HR1.out.lt
  have hlt2 := hr2.lt
  have HR1' := hide (HR1.out.later hb2)
  have HR2 := hide hr2
  have hb12 := below_step HB1.out hb2
  have HX2 : Hid (w2.ownsRow 0 93 4 (.slice (some ⟨w.heap.size, 0, none⟩) 1 1) 1 [.slice none 0 0, .slice none 0 0, .slice none 0 0, .slice none 0 0]) := World.ownsRow.kept HX.out (grown_below hb12) (Or.inr (by simp [Value.ownBlock]))
  have HB2 := hide (below_step HB.out hb12)
  have x0 : w2.cell? ⟨w.heap.size, 0, none⟩ = some (.slice none 0 0) := World.ownsRow.cellAt HX2.out 0 (by omega)
  have x1 : w2.cell? ⟨w.heap.size, 1, none⟩ = some (.slice none 0 0) := World.ownsRow.cellAt HX2.out 1 (by omega)
  have x2 : w2.cell? ⟨w.heap.size, 2, none⟩ = some (.slice none 0 0) := World.ownsRow.cellAt HX2.out 2 (by omega)
  have x3 : w2.cell? ⟨w.heap.size, 3, none⟩ = some (.slice none 0 0) := World.ownsRow.cellAt HX2.out 3 (by omega)
  have z0 : w2.frozen? ⟨w.heap.size, 0, none⟩ = false := World.ownsRow.frozenAt HX2.out 0
  have z1 : w2.frozen? ⟨w.heap.size, 1, none⟩ = false := World.ownsRow.frozenAt HX2.out 1
  have z2 : w2.frozen? ⟨w.heap.size, 2, none⟩ = false := World.ownsRow.frozenAt HX2.out 2
  have z3 : w2.frozen? ⟨w.heap.size, 3, none⟩ = false := World.ownsRow.frozenAt HX2.out 3
  have hs1 : W.heap.size ≤ w1.heap.size := HB1.out.size
  have HLT := hide (And.intro hlt1 hlt2)
  clear hr2 hb2 hb12 R2 HR1 hlt1 hlt2
  go_wp2
  have hL := HLT.out
  refine bodyPost_ret (ret_tour1 Try.results86 rfl (set_box35 HX2.out)) rfl ⟨_, rfl, ⟨.slice none 0 0, gb, gf, rfl, IOwns.nil _ _, ?_, ?_, ?_, by simp [Value.ownBlock], by simp [Value.ownBlock]⟩, ?_⟩
  · exact (irow_set4 HR1'.out (by omega) _ _ _ _).base (by have := HB.out.size; omega)
  · exact (irow_set4 HR2.out (by omega) _ _ _ _).base (by have := HB.out.size; omega)
  · omega
  · exact below_set4 HB2.out (Nat.le_refl _) _ _ _ _
end Go.Proofs.Ytllkadgpkbaghaa
