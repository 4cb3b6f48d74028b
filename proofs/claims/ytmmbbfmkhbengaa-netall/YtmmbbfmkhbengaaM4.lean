/- Look, in every world. -/
import Derived.Test.YtmmbbfmkhbengaaM3
import Derived.RangeFuncBox
namespace Go.Proofs.Ytmmbbfmkhbengaa
open Go.RowKit Go.Sort
open Go

abbrev lv (a b c d : Int) (s : Bool) : Value := .agg #[.int .i64 a, .int .i64 b, .int .i64 c, .int .i64 d, .bool s]
abbrev lbx (a b c d : Int) (s : Bool) : Obj := .cells #[.int .i64 a, .int .i64 b, .int .i64 c, .int .i64 d, .bool s] 54
def LOwn (V : World) (g : Nat) (a b c d : Int) (s : Bool) : Prop := (V.cell? ⟨g, 0, none⟩ = some (.int .i64 a) ∧ V.cell? ⟨g, 1, none⟩ = some (.int .i64 b) ∧ V.cell? ⟨g, 2, none⟩ = some (.int .i64 c) ∧ V.cell? ⟨g, 3, none⟩ = some (.int .i64 d) ∧ V.cell? ⟨g, 4, none⟩ = some (.bool s)) ∧ V.frozen? ⟨g, 0, none⟩ = false ∧ V.frozen? ⟨g, 1, none⟩ = false ∧ V.frozen? ⟨g, 2, none⟩ = false ∧ V.frozen? ⟨g, 3, none⟩ = false ∧ V.frozen? ⟨g, 4, none⟩ = false
theorem LOwn.later {W W' : World} {g : Nat} {a b c d : Int} {s : Bool} (h : LOwn W g a b c d s) (hb : Below W.heap.size W W') : LOwn W' g a b c d s := by
  obtain ⟨⟨h0, h1, h2, h3, h4⟩, f0, f1, f2, f3, f4⟩ := h
  exact ⟨⟨Ytmmbbfmkhbengaa.later hb h0, Ytmmbbfmkhbengaa.later hb h1, Ytmmbbfmkhbengaa.later hb h2, Ytmmbbfmkhbengaa.later hb h3, Ytmmbbfmkhbengaa.later hb h4⟩, laterF hb h0 f0, laterF hb h1 f1, laterF hb h2 f2, laterF hb h3 f3, laterF hb h4 f4⟩
theorem lown_new (w : World) (a b c d : Int) (s : Bool) : LOwn (w.alloc (lbx a b c d s)) w.heap.size a b c d s := ⟨⟨by go_cell, by go_cell, by go_cell, by go_cell, by go_cell⟩, by simp [go_sem], by simp [go_sem], by simp [go_sem], by simp [go_sem], by simp [go_sem]⟩
theorem LOwn.set0 {W : World} {g : Nat} {a b c d : Int} {s : Bool} (h : LOwn W g a b c d s) (x : Int) : LOwn (W.setCell ⟨g, 0, none⟩ (.int .i64 x)) g x b c d s := by
  obtain ⟨⟨h0, h1, h2, h3, h4⟩, f0, f1, f2, f3, f4⟩ := h
  exact ⟨⟨by go_cell, by go_cell, by go_cell, by go_cell, by go_cell⟩, by go_cell, by go_cell, by go_cell, by go_cell, by go_cell⟩
theorem LOwn.set1 {W : World} {g : Nat} {a b c d : Int} {s : Bool} (h : LOwn W g a b c d s) (x : Int) : LOwn (W.setCell ⟨g, 1, none⟩ (.int .i64 x)) g a x c d s := by
  obtain ⟨⟨h0, h1, h2, h3, h4⟩, f0, f1, f2, f3, f4⟩ := h
  exact ⟨⟨by go_cell, by go_cell, by go_cell, by go_cell, by go_cell⟩, by go_cell, by go_cell, by go_cell, by go_cell, by go_cell⟩
theorem LOwn.set2 {W : World} {g : Nat} {a b c d : Int} {s : Bool} (h : LOwn W g a b c d s) (x : Int) : LOwn (W.setCell ⟨g, 2, none⟩ (.int .i64 x)) g a b x d s := by
  obtain ⟨⟨h0, h1, h2, h3, h4⟩, f0, f1, f2, f3, f4⟩ := h
  exact ⟨⟨by go_cell, by go_cell, by go_cell, by go_cell, by go_cell⟩, by go_cell, by go_cell, by go_cell, by go_cell, by go_cell⟩
theorem LOwn.set3 {W : World} {g : Nat} {a b c d : Int} {s : Bool} (h : LOwn W g a b c d s) (x : Int) : LOwn (W.setCell ⟨g, 3, none⟩ (.int .i64 x)) g a b c x s := by
  obtain ⟨⟨h0, h1, h2, h3, h4⟩, f0, f1, f2, f3, f4⟩ := h
  exact ⟨⟨by go_cell, by go_cell, by go_cell, by go_cell, by go_cell⟩, by go_cell, by go_cell, by go_cell, by go_cell, by go_cell⟩
theorem LOwn.set4 {W : World} {g : Nat} {a b c d : Int} {s : Bool} (h : LOwn W g a b c d s) (x : Bool) : LOwn (W.setCell ⟨g, 4, none⟩ (.bool x)) g a b c d x := by
  obtain ⟨⟨h0, h1, h2, h3, h4⟩, f0, f1, f2, f3, f4⟩ := h
  exact ⟨⟨by go_cell, by go_cell, by go_cell, by go_cell, by go_cell⟩, by go_cell, by go_cell, by go_cell, by go_cell, by go_cell⟩
theorem LOwn.other {W : World} {g : Nat} {a b c d : Int} {s : Bool} (h : LOwn W g a b c d s) {k i : Nat} (hne : k ≠ g) (v : Value) : LOwn (W.setCell ⟨k, i, none⟩ v) g a b c d s := by
  obtain ⟨⟨h0, h1, h2, h3, h4⟩, f0, f1, f2, f3, f4⟩ := h
  have ne : ∀ j, (⟨k, i, none⟩ : Addr) ≠ ⟨g, j, none⟩ := fun j e => by injection e with e1 e2; exact hne e1
  refine ⟨⟨?_, ?_, ?_, ?_, ?_⟩, ?_, ?_, ?_, ?_, ?_⟩
  all_goals first | (rw [World.cell?_setCell_other _ _ _ _ (ne _)]; assumption) | (rw [World.frozen?_setCell]; assumption)
theorem load54 {V : World} {g : Nat} {a b c d : Int} {s : Bool} (h : LOwn V g a b c d s) : (loadVar 54 ⟨g, 0, none⟩).run Try.prog V = .ok (lv a b c d s) V := by
  obtain ⟨⟨h0, h1, h2, h3, h4⟩, _⟩ := h
  have l0 : (load ⟨g, 0, none⟩).run Try.prog V = .ok (.int .i64 a) V := by simp [go_sem, h0]
  have l1 : (load ⟨g, 1, none⟩).run Try.prog V = .ok (.int .i64 b) V := by simp [go_sem, h1]
  have l2 : (load ⟨g, 2, none⟩).run Try.prog V = .ok (.int .i64 c) V := by simp [go_sem, h2]
  have l3 : (load ⟨g, 3, none⟩).run Try.prog V = .ok (.int .i64 d) V := by simp [go_sem, h3]
  have l4 : (load ⟨g, 4, none⟩).run Try.prog V = .ok (.bool s) V := by simp [go_sem, h4]
  simp only [loadVar, Sem.run_bind, Try.isAgg54, Result.andThen_ok, if_true, Try.sizeOf54]
  simp only [loadCells, go_sem]
  simp only [Sem.run_bind, Nat.zero_add, l0, l1, l2, l3, l4, Result.andThen_ok, Sem.run_pure]
  rfl
theorem ret_look {fn : Func} {c u : Tmp} (hr : fn.results = #[.cell c 54, .tmp u]) {tmps : Array Value} {V : World} {g : Nat} {a b x d : Int} {s : Bool} {e : Value} (h2 : tmps.getD c undef = .pointer (some ⟨g, 0, none⟩)) (h4 : tmps.getD u undef = e) (h : LOwn V g a b x d s) :
    (results fn tmps).run Try.prog V = .ok (.tuple #[lv a b x d s, e]) V := by
  rw [results_cT hr, h2, h4, asA, Result.andThen_ok, load54 h, Result.andThen_ok]
theorem grownBy_set (W : World) (a : Addr) (v : Value) : W.grownBy (W.setCell a v) (some a.block) :=
  ⟨rfl, rfl, rfl, (KeepsWalks.setCell W _ v).size, fun k _ hk => Below.heap_setCell _ _ _ k (fun e => hk (by rw [e]))⟩
def countB (f : Nat → Bool) : Nat → Int
  | 0 => 0
  | i + 1 => countB f i + if f i then 1 else 0
theorem countB_in (f : Nat → Bool) : ∀ i, 0 ≤ countB f i ∧ countB f i ≤ i
  | 0 => by simp [countB]
  | i + 1 => by have := countB_in f i; simp only [countB]; split <;> omega
def loopsI (es : List Pt) : Int := countB (fun j => decide ((at' es j).x = (at' es j).y)) es.length
def parI (es : List Pt) : Int := countB (repB es) es.length
def leastI (n : Nat) (es : List Pt) : Int := if n = 0 then 0 else mnL (degN es n es.length) (n - 1)
def mostI (n : Nat) (es : List Pt) : Int := if n = 0 then 0 else mxL (degN es n es.length) (n - 1)
def simpleB (es : List Pt) : Bool := decide (loopsI es = 0) && decide (parI es = 0)
def LookPost (n : Int) (es : List Pt) (e : Ending) : Prop :=
  (netB n es = true ∧ e = .returned (.tuple #[lv (loopsI es) (parI es) (leastI n.toNat es) (mostI n.toNat es) (simpleB es), .int .i64 0])) ∨ (netB n es = false ∧ e = .returned (.tuple #[lv 0 0 0 0 false, .int .i64 1]))
theorem net_look (w : World) (n : Int) (p : Option Addr) (l c : Nat) : ∃ W, W = (w.alloc (nbx n p l c)).alloc (lbx 0 0 0 0 false) ∧ Below w.heap.size w W ∧ NOwn W w.heap.size n p l c ∧ LOwn W (w.heap.size + 1) 0 0 0 0 false := by
  refine ⟨_, rfl, by go_grown, ⟨by go_cell, by go_cell, by simp [go_sem], by simp [go_sem]⟩, ?_⟩
  have := lown_new (w.alloc (nbx n p l c)) 0 0 0 0 false
  simpa using this

set_option maxRecDepth 100000 in
set_option maxHeartbeats 8000000 in
theorem look33 (n : Int) (p : Option Addr) (es : List Pt) (cp : Nat) (w : World) (h : Has w p es) : Calls Try.prog 33 #[nv n p es.length cp] w fun e w' => LookPost n es e ∧ Below w.heap.size w w' := by
  obtain ⟨W, hW, hb, a0, b0⟩ := net_look w n p es.length cp
  have M := hide (degrees25 n p es cp W (h.later hb))
  have HH := hide (h.later hb)
  have HB := hide hb
  have HA := hide a0
  have HN := hide b0
  obtain ⟨q0, q1, _, _⟩ := a0
  clear h hb b0
  go_enter Try.func33, Try.ntmps33
  go_wp2_with fail
  rw [← hW]
  clear hW
  go_wp2_with fail
  refine M.out.mono ?_
  rintro e w1 ⟨hP, hb1⟩
  have HB1 := hide (below_step HB.out hb1)
  have HN1 := hide (HN.out.later hb1)
  have HA1 := hide (HA.out.later hb1)
  have HH1 := hide (HH.out.later hb1)
  have hWw : w.heap.size + 1 < w1.heap.size := block_lt_of_cell HN1.out.1.1
  clear hb1 q0 q1 HB HN HA HH M
  rcases hP with ⟨hm, gd, rfl, hD⟩ | ⟨hm, rfl⟩
  · obtain ⟨n0, n1, hes, hends⟩ := netB_is hm
    have HE := hide hends
    have HD := hide hD
    clear hends hD
    obtain ⟨m, rfl⟩ : ∃ m : Nat, n = m := ⟨n.toNat, by omega⟩
    rw [Int.toNat_natCast] at HD ⊢
    obtain ⟨W2, hW2⟩ : ∃ W2, W2 = w1.alloc (lbx 0 0 0 0 false) := ⟨_, rfl⟩
    have hbW2 : Below w1.heap.size w1 W2 := by rw [hW2]; go_grown
    have HL2 : Hid (LOwn W2 w1.heap.size 0 0 0 0 false) := by show LOwn _ _ _ _ _ _ _; rw [hW2]; exact lown_new _ _ _ _ _ _
    have hsW2 : W2.heap.size = w1.heap.size + 1 := by rw [hW2]; simp
    have HB2 := hide hbW2
    have HA2 := hide (HA1.out.later hbW2)
    have HH2 := hide (HH1.out.later hbW2)
    obtain ⟨q0, q1, _, _⟩ := HA1.out
    have zw : w.heap.size < w1.heap.size := by omega
    have R := hide (repeats55 p es cp W2 (by omega) (fun j hj => by have := HE.out j hj; exact ⟨by omega, by omega, by omega, by omega⟩) HH2.out)
    clear hbW2
    go_wp2_with fail
    rw [show w1.alloc (lbx 0 0 0 0 false) = W2 from hW2.symm]
    clear hW2
    refine R.out.mono ?_
    rintro e w3 ⟨gr, rfl, hr, hb3⟩
    have HB3 : Hid (Below w1.heap.size w1 w3) := Below.trans HB2.out (hb3.mono HB2.out.size)
    have HL3 := hide (HL2.out.later hb3)
    have HA3 := hide (HA2.out.later hb3)
    have HH3 := hide (HH2.out.later hb3)
    have HR3 := hide hr
    have hgr := hr.lt.1
    clear hb3 hr q0 q1 R HL2 HA2 HH2 HB2
    go_wp2_with fail
    go_loopw [22] (fun t wr => ∃ i : Nat, i ≤ es.length ∧ t = .int .i64 i ∧ Hid (Below w1.heap.size w1 wr) ∧ Hid (BRow wr W2.heap.size gr es.length (reps es)) ∧ Hid (LOwn wr w1.heap.size (countB (fun j => decide ((at' es j).x = (at' es j).y)) i) (countB (repB es) i) 0 0 false)) (fun t _ => es.length - (intOf t).toNat)
    case atStart => exact ⟨0, by omega, rfl, HB3.out, HR3.out, HL3.out⟩
    case round =>
      obtain ⟨i, hi, rfl, HB, HR, HL⟩ := hrel
      by_cases hlt : i < es.length
      · rcases HH1.out.later HB.out with h | ⟨b, off, rfl, hL⟩
        · subst h; simp at hlt
        obtain ⟨c0, c1⟩ := hL i hlt
        obtain ⟨q0, q1, _, _⟩ := HA1.out.later HB.out
        obtain ⟨d0, _⟩ := HR.out.cell hlt
        rw [reps_at _ hlt] at d0
        have hC1 : Hid (countB (fun j => decide ((at' es j).x = (at' es j).y)) (i + 1) = countB (fun j => decide ((at' es j).x = (at' es j).y)) i + if decide ((at' es i).x = (at' es i).y) then 1 else 0) := rfl
        have hC2 : Hid (countB (repB es) (i + 1) = countB (repB es) i + if repB es i then 1 else 0) := rfl
        have ci1 := countB_in (fun j => decide ((at' es j).x = (at' es j).y)) i
        have ci2 := countB_in (repB es) i
        obtain ⟨A, hAA⟩ : ∃ A, countB (fun j => decide ((at' es j).x = (at' es j).y)) i = A := ⟨_, rfl⟩
        obtain ⟨B, hBB⟩ : ∃ B, countB (repB es) i = B := ⟨_, rfl⟩
        rw [hAA] at hC1 ci1 HL
        rw [hBB] at hC2 ci2 HL
        obtain ⟨r, hr⟩ : ∃ r, at' es i = r := ⟨_, rfl⟩
        obtain ⟨rb, hrb⟩ : ∃ rb, repB es i = rb := ⟨_, rfl⟩
        rw [hr] at c0 c1 hC1
        rw [hrb] at d0 hC2
        have I := hide (isLoop56 r wr)
        clear hL hAA hBB hr hrb
        have i1 : (i : Int) < es.length := by omega
        cases hlo : decide (r.x = r.y) <;> cases rb
        all_goals
          rw [hlo] at I hC1
          simp only [if_true, Bool.false_eq_true, if_false, Int.add_zero] at hC1 hC2
          go_wp2_with fail
          refine I.out.mono ?_
          rintro e w4 ⟨rfl, hb4⟩
          have HB4 := hide (below_step HB.out hb4)
          have HR4 := hide (HR.out.later hb4)
          have HL4 := hide (HL.out.later hb4)
          obtain ⟨⟨r0, r1, r2, r3, r4⟩, f0, f1, f2, f3, f4⟩ := HL4.out
          clear hb4 q0 q1 c0 c1 d0
          go_wp2
          go_roundw
          case rel =>
            first
            | exact ⟨i + 1, by omega, by go_num, HB4.out, HR4.out, by rw [hC1.out, hC2.out]; exact HL4.out⟩
            | exact ⟨i + 1, by omega, by go_num, HB4.out.setCell (by simp) _, HR4.out.kept (grownBy_set _ _ _) (by simp; omega), by rw [hC1.out, hC2.out]; exact HL4.out.set1 _⟩
            | exact ⟨i + 1, by omega, by go_num, HB4.out.setCell (by simp) _, HR4.out.kept (grownBy_set _ _ _) (by simp; omega), by rw [hC1.out, hC2.out]; exact HL4.out.set0 _⟩
            | exact ⟨i + 1, by omega, by go_num, (HB4.out.setCell (by simp) _).setCell (by simp) _, (HR4.out.kept (grownBy_set _ _ _) (by simp; omega)).kept (grownBy_set _ _ _) (by simp; omega), by rw [hC1.out, hC2.out]; exact (HL4.out.set0 _).set1 _⟩
          case measure => simp [intOf]; omega
      · have hin : i = es.length := by omega
        subst hin
        have hPost : Hid (∀ e, e = .returned (.tuple #[lv (loopsI es) (parI es) (leastI m es) (mostI m es) (simpleB es), .int .i64 0]) → LookPost m es e) := fun e he => Or.inl ⟨hm, by rw [Int.toNat_natCast]; exact he⟩
        have hLo : Hid (loopsI es = countB (fun j => decide ((at' es j).x = (at' es j).y)) es.length) := rfl
        have hPa : Hid (parI es = countB (repB es) es.length) := rfl
        have hSi : Hid (simpleB es = (decide (loopsI es = 0) && decide (parI es = 0))) := rfl
        obtain ⟨A, hAA⟩ : ∃ A, countB (fun j => decide ((at' es j).x = (at' es j).y)) es.length = A := ⟨_, rfl⟩
        obtain ⟨B, hBB⟩ : ∃ B, countB (repB es) es.length = B := ⟨_, rfl⟩
        rw [hAA] at hLo HL
        rw [hBB] at hPa HL
        rw [hLo.out, hPa.out] at hSi hPost
        obtain ⟨S, hSS⟩ : ∃ S, simpleB es = S := ⟨_, rfl⟩
        rw [hSS] at hSi hPost
        obtain ⟨⟨r0, r1, r2, r3, r4⟩, f0, f1, f2, f3, f4⟩ := HL.out
        have HN5 := hide (HN1.out.later HB.out)
        obtain ⟨⟨n0', n1', n2', n3', n4'⟩, e0', e1', e2', e3', e4'⟩ := HN5.out
        have HBw := hide (below_step HB1.out HB.out)
        clear hAA hBB hSS hLo hPa
        have zw2 : w.heap.size + 1 ≠ w1.heap.size := by omega
        have hS1 : Hid (S = (decide (A = 0) && decide (B = 0))) := hSi.out
        by_cases hm0 : m = 0
        · subst hm0
          have hle : Hid (leastI 0 es = 0) := rfl
          have hmo : Hid (mostI 0 es = 0) := rfl
          rw [hle.out, hmo.out] at hPost
          by_cases hA0 : A = 0 <;> by_cases hB0 : B = 0
          all_goals
            have hAb : (A == 0) = decide (A = 0) := rfl
            have hBb : (B == 0) = decide (B = 0) := rfl
            simp only [hA0, hB0, decide_true, decide_false, Bool.and_true, Bool.and_false] at hAb hBb hS1
            have HS1 := hide hS1.out
            clear hS1 hSi
            go_wp2
            exact bodyPost_ret (ret_look Try.results33 rfl rfl ((((((HN5.out.other (Ne.symm zw2) _).set0 _).set1 _).set2 _).set3 _).set4 _)) rfl ⟨hPost.out _ (by rw [HS1.out]; simp [hA0, hB0]), (((((HBw.out.setCell (by simp; omega) _).setCell (by simp) _).setCell (by simp) _).setCell (by simp) _).setCell (by simp) _).setCell (by simp) _⟩
        · have hle : Hid (leastI m es = mnL (degN es m es.length) (m - 1)) := by show _ = _; unfold leastI; rw [if_neg hm0]
          have hmo : Hid (mostI m es = mxL (degN es m es.length) (m - 1)) := by show _ = _; unfold mostI; rw [if_neg hm0]
          rw [hle.out, hmo.out] at hPost
          have hDl := degN_length es m es.length
          have hgd := HD.out.lt.2
          have HI : Hid (∀ s, ILies (wr.setCell ⟨w1.heap.size, 4, none⟩ (.bool s)) gd 0 (degN es m es.length)) := fun s => (irow_other (HD.out.later HB.out) (by omega) _).2.lies
          obtain ⟨L, hLL⟩ : ∃ L, degN es m es.length = L := ⟨_, rfl⟩
          rw [hLL] at hPost hDl HI
          have MN : Hid (∀ s, Calls Try.prog 57 #[.slice (some ⟨gd, 0, none⟩) m m] (wr.setCell ⟨w1.heap.size, 4, none⟩ (.bool s)) fun e w' => e = .returned (.int .i64 (mnL L (m - 1))) ∧ w' = wr.setCell ⟨w1.heap.size, 4, none⟩ (.bool s)) := fun s => by
            have := min57 gd 0 m L (wr.setCell ⟨w1.heap.size, 4, none⟩ (.bool s)) (by omega) (by omega) (HI.out s)
            rw [hDl] at this; exact this
          have MX : Hid (∀ s, Calls Try.prog 58 #[.slice (some ⟨gd, 0, none⟩) m m] (wr.setCell ⟨w1.heap.size, 4, none⟩ (.bool s)) fun e w' => e = .returned (.int .i64 (mxL L (m - 1))) ∧ w' = wr.setCell ⟨w1.heap.size, 4, none⟩ (.bool s)) := fun s => by
            have := max58 gd 0 m L (wr.setCell ⟨w1.heap.size, 4, none⟩ (.bool s)) (by omega) (by omega) (HI.out s)
            rw [hDl] at this; exact this
          obtain ⟨X, hX⟩ : ∃ X, mnL L (m - 1) = X := ⟨_, rfl⟩
          obtain ⟨Y, hY⟩ : ∃ Y, mxL L (m - 1) = Y := ⟨_, rfl⟩
          rw [hX] at MN hPost
          rw [hY] at MX hPost
          clear hLL hX hY HI hle hmo
          have hm1 : (0 : Int) < m := by omega
          by_cases hA0 : A = 0 <;> by_cases hB0 : B = 0
          all_goals
            have hAb : (A == 0) = decide (A = 0) := rfl
            have hBb : (B == 0) = decide (B = 0) := rfl
            simp only [hA0, hB0, decide_true, decide_false, Bool.and_true, Bool.and_false] at hAb hBb hS1
            have HS1 := hide hS1.out
            clear hS1 hSi
            go_wp2_with (first | (go_at_call 57; with_reducible refine (MN.out _).mono ?_; rintro e w' ⟨rfl, rfl⟩) | (go_at_call 58; with_reducible refine (MX.out _).mono ?_; rintro e w' ⟨rfl, rfl⟩))
            exact bodyPost_ret (ret_look Try.results33 rfl rfl ((((((((HN5.out.other (Ne.symm zw2) _).other (Ne.symm zw2) _).other (Ne.symm zw2) _).set0 _).set1 _).set2 _).set3 _).set4 _)) rfl ⟨hPost.out _ (by rw [HS1.out]; simp [hA0, hB0]), (((((((HBw.out.setCell (by simp; omega) _).setCell (by simp; omega) _).setCell (by simp; omega) _).setCell (by simp) _).setCell (by simp) _).setCell (by simp) _).setCell (by simp) _).setCell (by simp) _⟩
  · have hmE : Hid (LookPost n es (.returned (.tuple #[lv 0 0 0 0 false, .int .i64 1]))) := Or.inr ⟨hm, rfl⟩
    obtain ⟨⟨r0, r1, r2, r3, r4⟩, f0, f1, f2, f3, f4⟩ := HN1.out
    go_wp2
    obtain ⟨V, hV⟩ : ∃ V, V = ((((w1.setCell ⟨w.heap.size + 1, 0, none⟩ (.int .i64 0)).setCell ⟨w.heap.size + 1, 1, none⟩ (.int .i64 0)).setCell ⟨w.heap.size + 1, 2, none⟩ (.int .i64 0)).setCell ⟨w.heap.size + 1, 3, none⟩ (.int .i64 0)).setCell ⟨w.heap.size + 1, 4, none⟩ (.bool false) := ⟨_, rfl⟩
    have kV : LOwn V (w.heap.size + 1) 0 0 0 0 false := by rw [hV]; exact ((((HN1.out.set0 0).set1 0).set2 0).set3 0).set4 false
    have bV : Below w.heap.size w V := by rw [hV]; exact ((((HB1.out.setCell (by simp) _).setCell (by simp) _).setCell (by simp) _).setCell (by simp) _).setCell (by simp) _
    rw [← hV]
    exact bodyPost_ret (ret_look Try.results33 rfl rfl kV) rfl ⟨hmE.out, bV⟩
end Go.Proofs.Ytmmbbfmkhbengaa
