/- Sub, in every world. -/
import Derived.Test.YtmmbbfmkhbengaaN4
namespace Go.Proofs.Ytmmbbfmkhbengaa
open Go.RowKit Go.Sort
open Go

/-- A net's box of one's own. -/
def NOwn (V : World) (g : Nat) (n : Int) (p : Option Addr) (l c : Nat) : Prop := V.cell? ⟨g, 0, none⟩ = some (.int .i64 n) ∧ V.cell? ⟨g, 1, none⟩ = some (.slice p l c) ∧ V.frozen? ⟨g, 0, none⟩ = false ∧ V.frozen? ⟨g, 1, none⟩ = false
abbrev nbx (n : Int) (p : Option Addr) (l c : Nat) : Obj := .cells #[.int .i64 n, .slice p l c] 24
theorem laterF {w w' : World} {a : Addr} {v : Value} {f : Bool} (hb : Below w.heap.size w w') (h : w.cell? a = some v) (k : w.frozen? a = f) : w'.frozen? a = f := by
  have hl : a.block < w.heap.size := block_lt_of_cell h
  rw [hb.frozen hl]
  exact k
theorem NOwn.later {W W' : World} {g : Nat} {n : Int} {p : Option Addr} {l c : Nat} (h : NOwn W g n p l c) (hb : Below W.heap.size W W') : NOwn W' g n p l c :=
  ⟨Ytmmbbfmkhbengaa.later hb h.1, Ytmmbbfmkhbengaa.later hb h.2.1, laterF hb h.1 h.2.2.1, laterF hb h.2.1 h.2.2.2⟩
theorem NOwn.set {W : World} {g : Nat} {n : Int} {p : Option Addr} {l c : Nat} (h : NOwn W g n p l c) (n' : Int) (p' : Option Addr) (l' c' : Nat) : NOwn ((W.setCell ⟨g, 0, none⟩ (.int .i64 n')).setCell ⟨g, 1, none⟩ (.slice p' l' c')) g n' p' l' c' := by
  obtain ⟨q0, q1, q2, q3⟩ := h
  refine ⟨?_, ?_, ?_, ?_⟩
  all_goals go_cell
theorem NOwn.other {W : World} {g : Nat} {n : Int} {p : Option Addr} {l c : Nat} (h : NOwn W g n p l c) {k i : Nat} (hne : k ≠ g) (v : Value) : NOwn (W.setCell ⟨k, i, none⟩ v) g n p l c := by
  obtain ⟨q0, q1, q2, q3⟩ := h
  have ne : ∀ j, (⟨k, i, none⟩ : Addr) ≠ ⟨g, j, none⟩ := fun j e => by injection e with e1 e2; exact hne e1
  exact ⟨by rw [World.cell?_setCell_other _ _ _ _ (ne 0)]; exact q0, by rw [World.cell?_setCell_other _ _ _ _ (ne 1)]; exact q1, by rw [World.frozen?_setCell]; exact q2, by rw [World.frozen?_setCell]; exact q3⟩
theorem load24 {V : World} {g : Nat} {n : Int} {p : Option Addr} {l c : Nat} (h : NOwn V g n p l c) : (loadVar 24 ⟨g, 0, none⟩).run Try.prog V = .ok (nv n p l c) V := by
  obtain ⟨q0, q1, _, _⟩ := h
  have l0 : (load ⟨g, 0, none⟩).run Try.prog V = .ok (.int .i64 n) V := by simp [go_sem, q0]
  have l1 : (load ⟨g, 1, none⟩).run Try.prog V = .ok (.slice p l c) V := by simp [go_sem, q1]
  simp only [loadVar, Sem.run_bind, Try.isAgg24, Result.andThen_ok, if_true, Try.sizeOf24]
  simp only [loadCells, go_sem]
  simp only [Sem.run_bind, Nat.zero_add, l0, l1, Result.andThen_ok, Sem.run_pure]
  rfl
theorem asA (V : World) (a : Addr) : (asAddr (.pointer (some a))).run Try.prog V = .ok a V := rfl
theorem results_cT {fn : Func} {p u : Tmp} {ty : TypeId} (h : fn.results = #[.cell p ty, .tmp u]) (tmps : Array Value) (P : Program) (w : World) :
    (results fn tmps).run P w = ((asAddr (tmps.getD p undef)).run P w).andThen fun a w₁ => ((loadVar ty a).run P w₁).andThen fun v w₂ => .ok (.tuple #[v, tmps.getD u undef]) w₂ := by
  simp only [results, h]
  simp [Sem.run_bind, Result.andThen]
theorem results_cTT {fn : Func} {p u v : Tmp} {ty : TypeId} (h : fn.results = #[.cell p ty, .tmp u, .tmp v]) (tmps : Array Value) (P : Program) (w : World) :
    (results fn tmps).run P w = ((asAddr (tmps.getD p undef)).run P w).andThen fun a w₁ => ((loadVar ty a).run P w₁).andThen fun x w₂ => .ok (.tuple #[x, tmps.getD u undef, tmps.getD v undef]) w₂ := by
  simp only [results, h]
  simp [Sem.run_bind, Result.andThen]
theorem ret_net {fn : Func} {c u : Tmp} (hr : fn.results = #[.cell c 24, .tmp u]) {tmps : Array Value} {V : World} {g : Nat} {n : Int} {p : Option Addr} {l k : Nat} {e : Value} (h2 : tmps.getD c undef = .pointer (some ⟨g, 0, none⟩)) (h4 : tmps.getD u undef = e) (h : NOwn V g n p l k) :
    (results fn tmps).run Try.prog V = .ok (.tuple #[nv n p l k, e]) V := by
  rw [results_cT hr, h2, h4, asA, Result.andThen_ok, load24 h, Result.andThen_ok]
theorem ret_net3 {fn : Func} {c u v : Tmp} (hr : fn.results = #[.cell c 24, .tmp u, .tmp v]) {tmps : Array Value} {V : World} {g : Nat} {n : Int} {p : Option Addr} {l k : Nat} {e f : Value} (h2 : tmps.getD c undef = .pointer (some ⟨g, 0, none⟩)) (h4 : tmps.getD u undef = e) (h5 : tmps.getD v undef = f) (h : NOwn V g n p l k) :
    (results fn tmps).run Try.prog V = .ok (.tuple #[nv n p l k, e, f]) V := by
  rw [results_cTT hr, h2, h4, h5, asA, Result.andThen_ok, load24 h, Result.andThen_ok]

/-- As many numbers as are not -1. -/
theorem plN_count {l : List Int} {m : Nat} : ∀ {i : Nat}, (∀ j, j < i → chk l m j = 0) → (plN l m i).countP (fun x => decide (x ≠ -1)) = i
  | 0, _ => by simp [plN]
  | i + 1, h => by
    have ih := plN_count (l := l) (m := m) (i := i) (fun j hj => h j (by omega))
    have hc := chk_zero (h i (by omega))
    have hl := plN_length l m i
    obtain ⟨x, hx⟩ : ∃ x : Nat, iat l i = x := ⟨(iat l i).toNat, by omega⟩
    have hxm : x < m := by omega
    have hf := (plN_free (l := l) (m := m) (i := i) (x := x) (fun j hj => h j (by omega)) hxm).2 (fun k hk => by rw [← hx]; exact hc.2 k hk)
    simp only [plN]
    rw [hx, Int.toNat_natCast, List.countP_set (by rw [hl]; exact hxm), ih]
    have e : (plN l m i)[x]'(by rw [hl]; exact hxm) = -1 := by
      unfold iat at hf
      rw [List.getD_eq_getElem?_getD, List.getElem?_eq_getElem (by rw [hl]; exact hxm)] at hf
      exact hf
    rw [e]
    simp
theorem chosen_le {l : List Int} {m : Nat} (h : errL l m = 0) : l.length ≤ m := by
  have k := plN_count (errN_all _ h)
  have := List.countP_le_length (p := fun x => decide (x ≠ -1)) (l := plN l m l.length)
  rw [plN_length] at this
  omega
theorem chosen_in {l : List Int} {m : Nat} (h : errL l m = 0) : ∀ j, j < l.length → 0 ≤ iat l j ∧ iat l j < m := fun j hj => (chk_zero (errN_all _ h j hj)).1

theorem below_drew (w : World) : Below w.heap.size w w.drew := by go_grown
theorem owns_base {w : World} {b b' : Nat} {e : TypeId} {size : Nat} {v : Value} {n : Nat} {xs : List Value} (h : w.ownsRow b e size v n xs) (hb : b' ≤ b) : w.ownsRow b' e size v n xs := by
  obtain ⟨h1, h2 | ⟨g, cap, cur, rfl, h3, h4⟩⟩ := h
  · exact ⟨h1, Or.inl h2⟩
  · exact ⟨h1, Or.inr ⟨g, cap, cur, rfl, Nat.le_trans hb h3, h4⟩⟩
theorem PRow.base {w : World} {b b' g n : Nat} {ps : List Pt} (h : PRow w b g n ps) (hb : b' ≤ b) : PRow w b' g n ps := ⟨h.1, owns_base h.2 hb⟩
theorem IRow.base {w : World} {b b' g n : Nat} {l : List Int} (h : IRow w b g n l) (hb : b' ≤ b) : IRow w b' g n l := ⟨h.1, owns_base h.2 hb⟩
theorem IOwns.base {w : World} {b b' : Nat} {v : Value} {l : List Int} (h : IOwns w b v l) (hb : b' ≤ b) : IOwns w b' v l := owns_base h hb
theorem prow_other {w : World} {b g n : Nat} {ps : List Pt} (h : PRow w b g n ps) {k i : Nat} (hne : k ≠ g) (v : Value) : PRow (w.setCell ⟨k, i, none⟩ v) b g n ps := ⟨h.1, ownsRow_setCell_other h.2 (fun e => hne (by have : some g = some k := e; injection this with this; exact this.symm)) v⟩
theorem irow_other {w : World} {b g n : Nat} {ps : List Int} (h : IRow w b g n ps) {k i : Nat} (hne : k ≠ g) (v : Value) : IRow (w.setCell ⟨k, i, none⟩ v) b g n ps := ⟨h.1, ownsRow_setCell_other h.2 (fun e => hne (by have : some g = some k := e; injection this with this; exact this.symm)) v⟩
def subE (n : Int) (es : List Pt) (l : List Int) : Int := if netB n es then errL l es.length else 1
def SubPost (n : Int) (es : List Pt) (l : List Int) (w : World) (e : Ending) (w' : World) : Prop :=
  (subE n es l = 0 ∧ ∃ g, e = .returned (.tuple #[nv n (some ⟨g, 0, none⟩) l.length l.length, .int .i64 0]) ∧ PRow w' w.heap.size g l.length (pick es l)) ∨ (subE n es l ≠ 0 ∧ e = .returned (.tuple #[nv 0 none 0 0, .int .i64 (subE n es l)]))
theorem two_nets (w : World) (n : Int) (p : Option Addr) (l c : Nat) : ∃ W, W = (w.alloc (nbx n p l c)).alloc (nbx 0 none 0 0) ∧ Below w.heap.size w W ∧ NOwn W w.heap.size n p l c ∧ NOwn W (w.heap.size + 1) 0 none 0 0 :=
  ⟨_, rfl, by go_grown, ⟨by go_cell, by go_cell, by simp [go_sem], by simp [go_sem]⟩, by go_cell, by go_cell, by simp [go_sem], by simp [go_sem]⟩

set_option maxRecDepth 100000 in
set_option maxHeartbeats 4000000 in
theorem sub27 (n : Int) (p q : Option Addr) (es : List Pt) (l : List Int) (cp cq : Nat) (w : World) (hl : l.length ≤ maxLen) (h : Has w p es) (k : IHas w q l) : Calls Try.prog 27 #[nv n p es.length cp, .slice q l.length cq] w fun e w' => SubPost n es l w e w' ∧ Below w.heap.size w w' := by
  obtain ⟨W, hW, hb, a0, b0⟩ := two_nets w n p es.length cp
  have M := hide (may13 n p es cp W (h.later hb))
  have HH := hide (h.later hb)
  have HK := hide (k.later hb)
  have HB := hide hb
  have HA := hide a0
  have HN := hide b0
  obtain ⟨q0, q1, _, _⟩ := a0
  clear h k hb b0
  cases hm : netB n es
  · rw [hm] at M
    go_enter Try.func27, Try.ntmps27
    go_wp2_with fail
    rw [← hW]
    clear hW
    go_wp2_with fail
    refine M.out.mono ?_
    rintro e w1 ⟨rfl, hb1⟩
    have HB1 := hide (below_step HB.out hb1)
    have HN1 := hide (HN.out.later hb1)
    obtain ⟨r0, r1, r2, r3⟩ := HN1.out
    clear hb1 q0 q1
    go_wp2
    obtain ⟨V, hV⟩ : ∃ V, V = (w1.setCell ⟨w.heap.size + 1, 0, none⟩ (.int .i64 0)).setCell ⟨w.heap.size + 1, 1, none⟩ (.slice none 0 0) := ⟨_, rfl⟩
    have kV : NOwn V (w.heap.size + 1) 0 none 0 0 := by rw [hV]; exact HN1.out.set 0 none 0 0
    have bV : Below w.heap.size w V := by rw [hV]; exact (HB1.out.setCell (by simp) _).setCell (by simp) _
    rw [← hV]
    exact bodyPost_ret (ret_net Try.results27 rfl rfl kV) rfl ⟨Or.inr ⟨by simp [subE, hm], by simp [subE, hm]⟩, bV⟩
  · rw [hm] at M
    obtain ⟨n0, n1, hes, _⟩ := netB_is hm
    go_enter Try.func27, Try.ntmps27
    go_wp2_with fail
    rw [← hW]
    clear hW
    go_wp2_with fail
    refine M.out.mono ?_
    rintro e w1 ⟨rfl, hb1⟩
    have HB1 := hide (below_step HB.out hb1)
    have HN1 := hide (HN.out.later hb1)
    have HA1 := hide (HA.out.later hb1)
    have HH1 := hide (HH.out.later hb1)
    have HK1 := hide (HK.out.later hb1)
    clear q0 q1 hb1 HA HN HB HH HK M
    obtain ⟨q0, q1, _, _⟩ := HA1.out
    have P := hide (places49 q l cq es.length w1 hl (by omega) HK1.out)
    go_wp2_with fail
    refine P.out.mono ?_
    rintro e w2 ⟨hP, hb2⟩
    have HB2 := hide (below_step HB1.out hb2)
    have HN2 := hide (HN1.out.later hb2)
    have HA2 := hide (HA1.out.later hb2)
    have HH2 := hide (HH1.out.later hb2)
    have HK2 := hide (HK1.out.later hb2)
    clear hb2 q0 q1 HA1 HN1 HB1 HH1 HK1 P
    rcases hP with ⟨hE, g, rfl, _⟩ | ⟨hE, rfl⟩
    · have hS : Hid (subE n es l = 0) := by show _ = _; unfold subE; rw [hm, if_pos rfl, hE]
      have hlm := chosen_le hE
      have hin := hide (chosen_in hE)
      clear hE
      obtain ⟨q0, q1, _, _⟩ := HA2.out
      obtain ⟨r0, r1, r2, r3⟩ := HN2.out
      have PK : Hid (∀ w3, Below w2.heap.size w2 w3 → Calls Try.prog 54 #[.slice p es.length cp, .slice q l.length cq] w3 fun e w' => ∃ g, e = .returned (.slice (some ⟨g, 0, none⟩) l.length l.length) ∧ PRow w' w3.heap.size g l.length (pick es l) ∧ Below w3.heap.size w3 w') := fun w3 h3 => picked54 p q es l cp cq w3 (by omega) hin.out (HH2.out.later h3) (HK2.out.later h3)
      go_wp2_with fail
      go_region_held3 (fun W => W.cell? ⟨w.heap.size, 0, none⟩ = some (.int .i64 n) ∧ W.cell? ⟨w.heap.size, 1, none⟩ = some (.slice p es.length cp))
        (first | exact ⟨HA2.out.1, HA2.out.2.1⟩ | exact ⟨HA3.out.1, HA3.out.2.1⟩ | exact ⟨other2 HA3.out.1 (by simp), other2 HA3.out.2.1 (by simp)⟩)
        (first | (go_at_call 54; refine (PK.out _ (by go_grown)).mono ?_; rintro e w3 ⟨g3, rfl, hr3, hb3'⟩; have hb3 : Below w2.heap.size w2 w3 := below_step (below_drew w2) hb3'; clear hb3'; have HA3 := hide (HA2.out.later hb3); have HN3 := hide (HN2.out.later hb3); have HR3 : Hid (PRow w3 w2.heap.size g3 l.length (pick es l)) := hr3; have HB3 := hide (below_step HB2.out hb3); clear hb3 hr3; obtain ⟨s0, s1, s2, s3⟩ := HN3.out))
      rename_i hHeld
      clear hHeld
      have hws : w.heap.size + 1 < w2.heap.size := block_lt_of_cell r0
      have hg3 := HR3.out.lt
      obtain ⟨V, hV⟩ : ∃ V, V = (w3.setCell ⟨w.heap.size + 1, 0, none⟩ (.int .i64 n)).setCell ⟨w.heap.size + 1, 1, none⟩ (.slice (some ⟨g3, 0, none⟩) l.length l.length) := ⟨_, rfl⟩
      have kV : NOwn V (w.heap.size + 1) n (some ⟨g3, 0, none⟩) l.length l.length := by rw [hV]; exact HN3.out.set n _ _ _
      have bV : Below w.heap.size w V := by rw [hV]; exact (HB3.out.setCell (by simp) _).setCell (by simp) _
      have rV : PRow V w.heap.size g3 l.length (pick es l) := by rw [hV]; exact (prow_other (prow_other HR3.out (by omega) _) (by omega) _).base (by omega)
      rw [← hV]
      go_wp2_with fail
      exact bodyPost_ret (ret_net Try.results27 rfl rfl kV) rfl ⟨Or.inl ⟨hS.out, g3, rfl, rV⟩, bV⟩
    · obtain ⟨E, hEE⟩ : ∃ E, errL l es.length = E := ⟨_, rfl⟩
      have hS : Hid (subE n es l = E) := by show _ = _; unfold subE; rw [hm, if_pos rfl, hEE]
      rw [hEE] at hE ⊢
      have hEb : (E == 0) = false := by simpa using hE
      obtain ⟨r0, r1, r2, r3⟩ := HN2.out
      go_wp2
      obtain ⟨V, hV⟩ : ∃ V, V = (w2.setCell ⟨w.heap.size + 1, 0, none⟩ (.int .i64 0)).setCell ⟨w.heap.size + 1, 1, none⟩ (.slice none 0 0) := ⟨_, rfl⟩
      have kV : NOwn V (w.heap.size + 1) 0 none 0 0 := by rw [hV]; exact HN2.out.set 0 none 0 0
      have bV : Below w.heap.size w V := by rw [hV]; exact (HB2.out.setCell (by simp) _).setCell (by simp) _
      rw [← hV]
      exact bodyPost_ret (ret_net Try.results27 rfl rfl kV) rfl ⟨Or.inr ⟨by rw [hS.out]; exact hE, by rw [hS.out]; rfl⟩, bV⟩
end Go.Proofs.Ytmmbbfmkhbengaa
