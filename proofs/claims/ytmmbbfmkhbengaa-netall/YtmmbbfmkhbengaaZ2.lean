/- What Look tells is what the document's tells. -/
import Derived.Test.YtmmbbfmkhbengaaZ1
namespace Go.Proofs.Ytmmbbfmkhbengaa
open Go.RowKit Go.Sort
open Go

theorem loops_lp (es : List Pt) : ∀ i, countB (fun j => decide ((at' es j).x = (at' es j).y)) i = lpN es i
  | 0 => rfl
  | i + 1 => by
    simp only [countB, lpN, loops_lp es i]
    by_cases h : (at' es i).x = (at' es i).y <;> simp [h]
theorem par_pc (es : List Pt) : ∀ i, countB (repB es) i = pcN es i
  | 0 => rfl
  | i + 1 => by simp only [countB, pcN, par_pc es i, rep_par]
theorem least_le (d : List Int) : ∀ k, leN d (k + 1) = mnL d k
  | 0 => by simp [leN, mnL]
  | k + 1 => by
    have ih := least_le d k
    show (if k + 1 = 0 ∨ iat d (k + 1) < leN d (k + 1) then iat d (k + 1) else leN d (k + 1)) = min (mnL d k) (iat d (k + 1))
    rw [ih]
    by_cases h : iat d (k + 1) < mnL d k
    · rw [if_pos (Or.inr h)]; omega
    · rw [if_neg (by rintro (h1 | h1); omega; exact h h1)]; omega
theorem most_gr (d : List Int) (h0 : ∀ j, 0 ≤ iat d j) : ∀ k, grN d (k + 1) = mxL d k
  | 0 => by
    have := h0 0
    show (if grN d 0 < iat d 0 then iat d 0 else grN d 0) = iat d 0
    have g0 : grN d 0 = 0 := rfl
    by_cases h : grN d 0 < iat d 0
    · rw [if_pos h]
    · rw [if_neg h]; omega
  | k + 1 => by
    have ih := most_gr d h0 k
    show (if grN d (k + 1) < iat d (k + 1) then iat d (k + 1) else grN d (k + 1)) = max (mxL d k) (iat d (k + 1))
    rw [ih]
    by_cases h : mxL d k < iat d (k + 1)
    · rw [if_pos h]; omega
    · rw [if_neg h]; omega
theorem deg_pos (es : List Pt) (m j : Nat) : 0 ≤ iat (degN es m es.length) j := by
  by_cases hj : j < m
  · have := dgH_in es m (2 * es.length) j hj
    rw [dgH_even] at this
    exact this.1
  · have hl : (degN es m es.length).length = m := by rw [← dgH_even, dgH_length]
    unfold iat
    rw [List.getD_eq_getElem?_getD, List.getElem?_eq_none (by omega)]
    simp
theorem look_same {m : Nat} {es : List Pt} (hm : netB m es = true) : lookV es m = lkV (lookA m es) := by
  unfold lookA
  rw [if_pos hm, Int.toNat_natCast]
  have e1 : lpN es es.length = loopsI es := (loops_lp es es.length).symm
  have e2 : pcN es es.length = parI es := (par_pc es es.length).symm
  have e3 : leN (degN es m es.length) m = leastI m es := by
    unfold leastI
    cases m with
    | zero => rfl
    | succ k => rw [if_neg (by omega), least_le]; rfl
  have e4 : grN (degN es m es.length) m = mostI m es := by
    unfold mostI
    cases m with
    | zero => rfl
    | succ k => rw [if_neg (by omega), most_gr _ (deg_pos es (k + 1))]; rfl
  unfold lookV simpleB
  rw [e1, e2, e3, e4]
theorem eq54 (l : Lk) (w : World) : (Op.equalIn 10000 54 (lkV l) (lkV l)).run Try.prog w = .ok true w := by
  have u3 := Try.underlying3
  have u4 := Try.underlying4
  rw [show (10000 : Nat) = 9999 + 1 from rfl, run_equalIn_struct w 9999 54 _ _ (by kernel_rfl) (by kernel_rfl), show (Try.prog.fieldsOf 54).toList = [Field.mk "Loops" 3 0 false "" "" 0, Field.mk "Parallel" 3 1 false "" "" 8, Field.mk "Least" 3 2 false "" "" 16, Field.mk "Greatest" 3 3 false "" "" 24, Field.mk "Simple" 4 4 false "" "" 32] from by kernel_rfl]
  simp only [Op.eqFields]
  go_simp
theorem SBox.later {w w' : World} {k : Nat} {n : Int} {v : Value} (h : SBox w k n v) (hb : Below w.heap.size w w') : SBox w' k n v := World.ownsRow.kept h (grown_below hb) (Or.inr (by simp [Value.ownBlock]))
theorem two_sbox (w : World) (n m : Int) (p q : Option Addr) (l c l' c' : Nat) : ∃ W, W = (w.alloc (nbx n p l c)).alloc (nbx m q l' c') ∧ Below w.heap.size w W ∧ SBox W w.heap.size n (.slice p l c) ∧ SBox W (w.heap.size + 1) m (.slice q l' c') := by
  refine ⟨_, rfl, by go_grown, SBox.later (w := w.alloc (nbx n p l c)) (SBox.made _ _ _) (by go_grown), ?_⟩
  have := SBox.made (w.alloc (nbx n p l c)) m (.slice q l' c')
  simpa using this
theorem LB.kp {w w' : World} {k : Nat} {a b c d : Int} {s : Bool} (h : LB w k a b c d s) (f : Kp w w') : LB w' k a b c d s := f.row h (by decide) (by decide)
theorem SBox.kp {w w' : World} {k : Nat} {n : Int} {v : Value} (h : SBox w k n v) (f : Kp w w') : SBox w' k n v := f.row h (by decide) (by decide)
theorem Owns.kp {w w' : World} {B : Nat} {v : Value} {l : List Pt} (h : Owns w B v l) (f : Kp w w') : Owns w' B v l := f.row h (by decide) (by decide)
theorem IOwns.kp {w w' : World} {B : Nat} {v : Value} {l : List Int} (h : IOwns w B v l) (f : Kp w w') : IOwns w' B v l := f.row h (by decide) (by decide)
theorem Owns.has {w : World} {B : Nat} {p : Option Addr} {c : Nat} {l : List Pt} (h : Owns w B (.slice p l.length c) l) : Has w p l := by
  obtain ⟨p', c', hv, hh, _⟩ := h.form
  simp only [Value.slice.injEq, true_and] at hv
  rw [hv.1]
  exact hh
theorem IOwns.has {w : World} {B : Nat} {p : Option Addr} {c : Nat} {l : List Int} (h : IOwns w B (.slice p l.length c) l) : IHas w p l := by
  obtain ⟨p', c', hv, hh, _⟩ := h.form
  simp only [Value.slice.injEq, true_and] at hv
  rw [hv.1]
  exact hh
end Go.Proofs.Ytmmbbfmkhbengaa
