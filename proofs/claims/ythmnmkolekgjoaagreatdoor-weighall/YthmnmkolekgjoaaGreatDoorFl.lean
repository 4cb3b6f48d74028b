/- Plain facts on 64-bit floating words: their order is that of their signed rungs, and a sum of weights is no less than either. -/
import Derived.Laws.FloatBits
namespace Go.Fl
open Ieee

def sgn (x : Nat) : Bool := x / 2 ^ 63 % 2 == 1
def rung (x : Nat) : Nat := x % 2 ^ 63
def bin : Nat := 2 ^ 52
def inf : Nat := 2047 * bin
def isNan (x : Nat) : Bool := decide (inf < rung x)
def sg (s : Bool) (m : Nat) : Int := if s then -(m : Int) else m
def key (x : Nat) : Int := sg (sgn x) (rung x)
def val (r : Nat) : Nat := if r < bin then r else (bin + r % bin) * 2 ^ (r / bin - 1)

theorem bin_pos : 0 < bin := Nat.two_pow_pos _

theorem read_eq (x : Nat) : double.read x =
    if rung x < bin then .number (sgn x) (rung x) (-1074)
    else if rung x < inf then .number (sgn x) (bin + rung x % bin) (-1074 + (rung x / bin - 1 : Nat))
    else if rung x = inf then .infinity (sgn x)
    else .nan (sgn x) (rung x - inf) := rfl

theorem val_succ (r : Nat) : val r < val (r + 1) := by
  have hb := bin_pos
  unfold val
  by_cases h1 : r + 1 < bin
  · rw [if_pos (by omega), if_pos h1]; omega
  · rw [if_neg h1]
    by_cases h2 : r < bin
    · rw [if_pos h2]
      have e : r + 1 = bin := by omega
      rw [e, Nat.mod_self, Nat.div_self hb]; simp; omega
    · rw [if_neg h2]
      have hq : 1 ≤ r / bin := (Nat.le_div_iff_mul_le hb).2 (by omega)
      have hm := Nat.mod_lt r hb
      have hd := Nat.div_add_mod r bin
      by_cases h3 : r % bin + 1 = bin
      · have e1 : r + 1 = bin * (r / bin + 1) := by rw [Nat.mul_add]; omega
        have e2 : (r + 1) / bin = r / bin + 1 := by rw [e1]; exact Nat.mul_div_cancel_left _ hb
        have e3 : (r + 1) % bin = 0 := by rw [e1]; exact Nat.mul_mod_right _ _
        rw [e2, e3]
        obtain ⟨q, hq'⟩ : ∃ q, r / bin = q + 1 := ⟨r / bin - 1, by omega⟩
        rw [hq']
        simp only [Nat.add_sub_cancel, Nat.add_zero]
        rw [Nat.pow_succ, ← Nat.mul_assoc, Nat.mul_right_comm]
        exact Nat.mul_lt_mul_of_pos_right (by omega) (Nat.two_pow_pos _)
      · have e1 : r + 1 = bin * (r / bin) + (r % bin + 1) := by omega
        have e2 : (r + 1) / bin = r / bin := by
          rw [e1, Nat.mul_add_div hb, Nat.div_eq_of_lt (show r % bin + 1 < bin by omega), Nat.add_zero]
        have e3 : (r + 1) % bin = r % bin + 1 := by
          rw [e1, Nat.mul_add_mod, Nat.mod_eq_of_lt (by omega)]
        rw [e2, e3]
        exact Nat.mul_lt_mul_of_pos_right (by omega) (Nat.two_pow_pos _)

theorem val_lt {a b : Nat} (h : a < b) : val a < val b := by
  induction b with
  | zero => omega
  | succ b ih =>
    by_cases e : a = b
    · rw [e]; exact val_succ b
    · exact Nat.lt_trans (ih (by omega)) (val_succ b)

theorem val_le {a b : Nat} (h : a ≤ b) : val a ≤ val b := by
  by_cases e : a = b
  · rw [e]; exact Nat.le_refl _
  · exact Nat.le_of_lt (val_lt (by omega))

theorem val_zero : val 0 = 0 := by unfold val; rw [if_pos bin_pos]

theorem val_pos {r : Nat} (h : 0 < r) : 0 < val r := by have := val_lt h; rw [val_zero] at this; exact this

theorem cmp_def (a b : Int) : compare a b = if a < b then .lt else if a = b then .eq else .gt := rfl

theorem cmp_scale (a b : Int) (p : Nat) : compare (a * (2 ^ p : Nat)) (b * (2 ^ p : Nat)) = compare a b := by
  have hp : (0 : Int) < (2 ^ p : Nat) := by exact_mod_cast Nat.two_pow_pos p
  rw [cmp_def, cmp_def]
  have h1 : (a * (2 ^ p : Nat) < b * (2 ^ p : Nat)) ↔ a < b :=
    ⟨fun h => Int.lt_of_mul_lt_mul_right h (Int.le_of_lt hp), fun h => Int.mul_lt_mul_of_pos_right h hp⟩
  have h2 : (a * (2 ^ p : Nat) = b * (2 ^ p : Nat)) ↔ a = b :=
    ⟨fun h => Int.eq_of_mul_eq_mul_right (Int.ne_of_gt hp) h, fun h => by rw [h]⟩
  simp only [h1, h2]

theorem signed_eq (s : Bool) (m k : Nat) : signed s m k = sg s (m * 2 ^ k) := by
  unfold signed sg; rw [Nat.shiftLeft_eq]

theorem sg_mul (s : Bool) (m k : Nat) : sg s (m * k) = sg s m * (k : Int) := by
  unfold sg; cases s <;> simp [Int.neg_mul]

theorem order_num (s t : Bool) (m n : Nat) (i j : Int) (hi : -1074 ≤ i) (hj : -1074 ≤ j) :
    Datum.order (.number s m i) (.number t n j) = some (compare (sg s (m * 2 ^ (i + 1074).toNat)) (sg t (n * 2 ^ (j + 1074).toNat))) := by
  simp only [Datum.order]
  congr 1
  rw [signed_eq, signed_eq, ← cmp_scale _ _ (min i j + 1074).toNat, ← sg_mul, ← sg_mul, Nat.mul_assoc, Nat.mul_assoc, ← Nat.pow_add, ← Nat.pow_add]
  have e1 : (i - min i j).toNat + (min i j + 1074).toNat = (i + 1074).toNat := by omega
  have e2 : (j - min i j).toNat + (min i j + 1074).toNat = (j + 1074).toNat := by omega
  rw [e1, e2]

theorem cmp_val (s t : Bool) (a b : Nat) : compare (sg s (val a)) (sg t (val b)) = compare (sg s a) (sg t b) := by
  have z := val_zero
  rw [cmp_def, cmp_def]
  have ha : a = 0 ∨ 0 < a := by omega
  have hb : b = 0 ∨ 0 < b := by omega
  have pa : 0 < a → 0 < val a := val_pos
  have pb : 0 < b → 0 < val b := val_pos
  have za : a = 0 → val a = 0 := fun h => by rw [h, z]
  have zb : b = 0 → val b = 0 := fun h => by rw [h, z]
  rcases Nat.lt_trichotomy a b with h | h | h
  · have hv := val_lt h
    cases s <;> cases t <;> simp only [sg, if_true, Bool.false_eq_true, if_false] <;> (repeat' split) <;> first | rfl | (exfalso; omega)
  · subst h
    cases s <;> cases t <;> simp only [sg, if_true, Bool.false_eq_true, if_false] <;> (repeat' split) <;> first | rfl | (exfalso; omega)
  · have hv := val_lt h
    cases s <;> cases t <;> simp only [sg, if_true, Bool.false_eq_true, if_false] <;> (repeat' split) <;> first | rfl | (exfalso; omega)

/-- A word that is no NaN, as a datum. -/
theorem read_cases (x : Nat) (h : isNan x = false) :
    (rung x = inf ∧ double.read x = .infinity (sgn x)) ∨
    (rung x < inf ∧ ∃ m : Nat, ∃ i : Int, double.read x = .number (sgn x) m i ∧ -1074 ≤ i ∧ m * 2 ^ (i + 1074).toNat = val (rung x)) := by
  have h' : ¬ inf < rung x := by simpa [isNan] using h
  have hb := bin_pos
  rw [read_eq]
  by_cases h1 : rung x < bin
  · right
    refine ⟨by unfold inf; omega, rung x, -1074, by rw [if_pos h1], by omega, ?_⟩
    unfold val; rw [if_pos h1]; simp
  · by_cases h2 : rung x < inf
    · right
      refine ⟨h2, bin + rung x % bin, -1074 + (rung x / bin - 1 : Nat), by rw [if_neg h1, if_pos h2], by omega, ?_⟩
      unfold val; rw [if_neg h1]
      congr 2
      omega
    · left
      have e : rung x = inf := by omega
      exact ⟨e, by rw [if_neg h1, if_neg h2, if_pos e]⟩

theorem read_nan (x : Nat) (h : isNan x = true) : double.read x = .nan (sgn x) (rung x - inf) := by
  have h' : inf < rung x := by simpa [isNan] using h
  have hb : bin ≤ inf := by unfold inf; omega
  rw [read_eq, if_neg (by omega), if_neg (by omega), if_neg (by omega)]

theorem order_nan_left (x y : Nat) (h : isNan x = true) : double.order x y = none := by
  unfold Format.order; rw [read_nan x h]; rfl

theorem order_nan_right (x y : Nat) (h : isNan y = true) : double.order x y = none := by
  unfold Format.order; rw [read_nan y h]; cases double.read x <;> rfl

theorem order_key (x y : Nat) (hx : isNan x = false) (hy : isNan y = false) :
    double.order x y = some (compare (key x) (key y)) := by
  unfold Format.order key
  have hb : 0 < inf := by have := bin_pos; unfold inf; omega
  rcases read_cases x hx with ⟨r1, e1⟩ | ⟨r1, m, i, e1, hi, v1⟩ <;>
  rcases read_cases y hy with ⟨r2, e2⟩ | ⟨r2, n, j, e2, hj, v2⟩
  · rw [e1, e2, r1, r2]
    simp only [Datum.order]
    cases sgn x <;> cases sgn y <;> simp only [sg, if_true, Bool.false_eq_true, if_false, cmp_def] <;> (repeat' split) <;> first | rfl | (exfalso; omega)
  · rw [e1, e2, r1]
    simp only [Datum.order]
    cases sgn x <;> cases sgn y <;> simp only [sg, if_true, Bool.false_eq_true, if_false, cmp_def] <;> (repeat' split) <;> first | rfl | (exfalso; omega)
  · rw [e1, e2, r2]
    simp only [Datum.order]
    cases sgn x <;> cases sgn y <;> simp only [sg, if_true, Bool.false_eq_true, if_false, cmp_def] <;> (repeat' split) <;> first | rfl | (exfalso; omega)
  · rw [e1, e2, order_num _ _ _ _ _ _ hi hj, v1, v2, cmp_val]

theorem sum_comm (d e : Datum) : d.sum e = e.sum d := by
  cases d <;> cases e <;> simp only [Datum.sum]
  · rename_i s m i t n j
    rw [Int.min_comm j i, Int.add_comm, Bool.and_comm]
  · rename_i s t
    by_cases h : s = t
    · subst h; rfl
    · rw [if_neg h, if_neg (fun e => h e.symm)]

theorem add_comm (x y : Nat) : double.add x y = double.add y x := by
  unfold Format.add; rw [sum_comm]

theorem add_nan (x y : Nat) (h : isNan x = true ∨ isNan y = true) : double.add x y = none := by
  unfold Format.add
  rcases h with h | h <;> rw [read_nan _ h]
  · rfl
  · cases double.read x <;> rfl

theorem val_at (l p : Nat) (h : bin ≤ p ∨ l = 0) (hp : p ≤ 2 * bin) : val (l * bin + p) = p * 2 ^ l := by
  have hb := bin_pos
  by_cases h1 : p < bin
  · obtain rfl : l = 0 := by omega
    unfold val; rw [if_pos (by omega)]; simp
  · unfold val
    have hge : bin ≤ l * bin + p := Nat.le_trans (by omega) (Nat.le_add_left p (l * bin))
    rw [if_neg (by omega)]
    by_cases h2 : p = 2 * bin
    · have e : l * bin + p = bin * (l + 2) := by rw [h2, Nat.mul_add, Nat.mul_comm l, Nat.mul_comm 2]
      rw [e, Nat.mul_mod_right, Nat.mul_div_cancel_left _ hb, h2]
      simp only [Nat.add_zero, show l + 2 - 1 = l + 1 from by omega, Nat.pow_succ]
      rw [Nat.mul_comm 2 bin, Nat.mul_assoc, Nat.mul_comm (2 ^ l) 2]
    · have e : l * bin + p = bin * (l + 1) + (p - bin) := by rw [Nat.mul_add, Nat.mul_comm l]; omega
      rw [e, Nat.mul_add_mod, Nat.mul_add_div hb, Nat.mod_eq_of_lt (by omega), Nat.div_eq_of_lt (show p - bin < bin by omega)]
      simp only [Nat.add_zero, Nat.add_sub_cancel]
      rw [show bin + (p - bin) = p by omega]

theorem rung_le (a l r : Nat) (hr : val r ≤ a) (hlt : a < 2 ^ (l + 53)) (hge : l = 0 ∨ 2 ^ (l + 52) ≤ a) : r ≤ l * bin + a / 2 ^ l := by
  have hp : 0 < 2 ^ l := Nat.two_pow_pos l
  have e53 : 2 ^ (l + 53) = 2 * bin * 2 ^ l := by
    rw [Nat.pow_add, Nat.mul_comm]; rfl
  have e52 : 2 ^ (l + 52) = bin * 2 ^ l := by
    rw [Nat.pow_add, Nat.mul_comm]; rfl
  rw [e53] at hlt; rw [e52] at hge
  have q1 : a / 2 ^ l < 2 * bin := (Nat.div_lt_iff_lt_mul hp).2 hlt
  have q2 : l = 0 ∨ bin ≤ a / 2 ^ l := hge.imp id fun h => (Nat.le_div_iff_mul_le hp).2 h
  have hv := val_at l (a / 2 ^ l + 1) (by omega) (by omega)
  have hup : a < (a / 2 ^ l + 1) * 2 ^ l := by
    have := Nat.lt_div_mul_add (a := a) hp
    rw [Nat.add_mul, Nat.one_mul]; exact this
  rw [← hv] at hup
  refine Nat.le_of_lt_succ ?_
  refine Nat.lt_of_not_le fun hc => ?_
  have := val_le hc
  have e : (l * bin + a / 2 ^ l).succ = l * bin + (a / 2 ^ l + 1) := rfl
  rw [e] at this
  omega

theorem cut_ge (neg : Bool) (n drop : Nat) : n / 2 ^ drop ≤ Toward.even.cut neg n drop := by
  unfold Toward.cut
  simp only [Nat.shiftLeft_eq, Nat.one_mul]
  refine Nat.le_trans (Nat.div_le_div_left (Nat.pow_le_pow_right (by omega) (Nat.min_le_left _ _)) (Nat.two_pow_pos _)) (Nat.le_add_right _ _)

/-- What is rounded to the nearest is not below a word that it was not below. -/
theorem nearest_ge (neg : Bool) (mag : Nat) (place : Int) (r : Nat) (hm : mag ≠ 0) (hp : -1074 ≤ place) (hr : r ≤ inf)
    (hv : val r ≤ mag * 2 ^ (place + 1074).toNat) : ∃ k, double.nearest neg mag place = double.word neg k ∧ r ≤ k ∧ k ≤ inf := by
  have hk := cut_ge neg (mag <<< (place - max (place + mag.log2 - 52) (-1074)).toNat) (max (place + mag.log2 - 52) (-1074) - place).toNat
  refine ⟨min ((max (place + mag.log2 - 52) (-1074) - (-1074)).toNat * bin + Toward.even.cut neg (mag <<< (place - max (place + mag.log2 - 52) (-1074)).toNat) (max (place + mag.log2 - 52) (-1074) - place).toNat) inf, ?_, ?_, Nat.min_le_right _ _⟩
  · unfold Format.nearest; rw [if_neg hm]; rfl
  · refine Nat.le_min.2 ⟨?_, hr⟩
    have g1 : 2 ^ mag.log2 ≤ mag := Nat.log2_self_le hm
    have g2 : mag < 2 ^ (mag.log2 + 1) := Nat.lt_log2_self
    revert hk g1 g2
    generalize mag.log2 = g
    generalize Toward.even.cut neg (mag <<< (place - max (place + g - 52) (-1074)).toNat) (max (place + g - 52) (-1074) - place).toNat = c
    intro hk g1 g2
    obtain ⟨b, rfl⟩ : ∃ b : Nat, place = b - 1074 := ⟨(place + 1074).toNat, by omega⟩
    have eb : ((b : Int) - 1074 + 1074).toNat = b := by omega
    rw [eb] at hv
    have el : (max ((b : Int) - 1074 + g - 52) (-1074) - (-1074)).toNat = b + g - 52 := by omega
    rw [el]
    have h1 : (max ((b : Int) - 1074 + g - 52) (-1074) - ((b : Int) - 1074)).toNat = (b + g - 52) - b := by omega
    have h2 : ((b : Int) - 1074 - max ((b : Int) - 1074 + g - 52) (-1074)).toNat = b - (b + g - 52) := by omega
    rw [h1, h2, Nat.shiftLeft_eq] at hk
    have hlow : mag * 2 ^ b / 2 ^ (b + g - 52) ≤ c := by
      refine Nat.le_trans (Nat.le_of_eq ?_) hk
      generalize b + g - 52 = l
      by_cases hl : l ≤ b
      · obtain ⟨d, rfl⟩ : ∃ d, b = l + d := ⟨b - l, by omega⟩
        rw [show l - (l + d) = 0 by omega, show l + d - l = d by omega, Nat.pow_zero, Nat.div_one, Nat.pow_add, Nat.mul_comm (2 ^ l), ← Nat.mul_assoc]
        exact Nat.mul_div_cancel _ (Nat.two_pow_pos l)
      · obtain ⟨d, rfl⟩ : ∃ d, l = b + d := ⟨l - b, by omega⟩
        rw [show b - (b + d) = 0 by omega, show b + d - b = d by omega, Nat.pow_zero, Nat.mul_one, Nat.pow_add, Nat.mul_comm (2 ^ b)]
        exact Nat.mul_div_mul_right _ _ (Nat.two_pow_pos b)
    have u : mag * 2 ^ b < 2 ^ (g + 1 + b) := by
      rw [Nat.pow_add]; exact Nat.mul_lt_mul_of_pos_right g2 (Nat.two_pow_pos _)
    have lo : 2 ^ (g + b) ≤ mag * 2 ^ b := by
      rw [Nat.pow_add]; exact Nat.mul_le_mul_right _ g1
    have := rung_le (mag * 2 ^ b) (b + g - 52) r hv (Nat.lt_of_lt_of_le u (Nat.pow_le_pow_right (by omega) (by omega)))
      (by
        by_cases h0 : b + g - 52 = 0
        · exact Or.inl h0
        · right; rw [show b + g - 52 + 52 = g + b by omega]; exact lo)
    omega

theorem inf_lt : inf < 2 ^ 63 := by decide

theorem word_sgn (neg : Bool) (k : Nat) (h : k ≤ inf) : sgn (double.word neg k) = neg ∧ rung (double.word neg k) = k := by
  have := inf_lt
  unfold sgn rung Format.word
  have e : double.signWeight = 2 ^ 63 := rfl
  rw [e]
  cases neg
  · simp only [Bool.false_eq_true, if_false]
    have : k / 2 ^ 63 = 0 := Nat.div_eq_of_lt (by omega)
    rw [this]
    exact ⟨by decide, Nat.mod_eq_of_lt (by omega)⟩
  · simp only [if_true]
    refine ⟨?_, by omega⟩
    have : (2 ^ 63 + k) / 2 ^ 63 = 1 := by omega
    rw [this]; decide

theorem key_word (neg : Bool) (k : Nat) (h : k ≤ inf) : key (double.word neg k) = sg neg k ∧ isNan (double.word neg k) = false := by
  obtain ⟨h1, h2⟩ := word_sgn neg k h
  unfold key isNan; rw [h1, h2]
  exact ⟨rfl, by simpa using h⟩

theorem sg_nonneg {s : Bool} {m : Nat} (h : 0 ≤ sg s m) : sg s m = m := by
  unfold sg at *; cases s
  · rfl
  · simp only [if_true] at *; omega

/-- The sum of two weights is a weight, not below either. -/
theorem add_weights (x y : Nat) (hx : isNan x = false) (hy : isNan y = false) (kx : 0 ≤ key x) (ky : 0 ≤ key y) :
    ∃ r, double.add x y = some r ∧ isNan r = false ∧ key x ≤ key r ∧ key y ≤ key r := by
  have hb : 0 < inf := by have := bin_pos; unfold inf; omega
  have sx : key x = rung x := sg_nonneg kx
  have sy : key y = rung y := sg_nonneg ky
  have lx : rung x ≤ inf := by simpa [isNan] using hx
  have ly : rung y ≤ inf := by simpa [isNan] using hy
  have top : ∀ s, 0 ≤ sg s inf → double.write (.infinity s) = double.word s inf ∧ sg s inf = inf := fun s h => ⟨rfl, sg_nonneg h⟩
  rcases read_cases x hx with ⟨r1, e1⟩ | ⟨r1, m, i, e1, hi, v1⟩
  · have t := top (sgn x) (by unfold key at kx; rw [r1] at kx; exact kx)
    have kw := key_word (sgn x) inf (Nat.le_refl _)
    refine ⟨double.word (sgn x) inf, ?_, kw.2, by rw [kw.1, t.2]; omega, by rw [kw.1, t.2]; omega⟩
    unfold Format.add; rw [e1]
    rcases read_cases y hy with ⟨r2, e2⟩ | ⟨r2, n, j, e2, hj, v2⟩
    · have t2 : 0 ≤ sg (sgn y) inf := by unfold key at ky; rw [r2] at ky; exact ky
      have t1 : 0 ≤ sg (sgn x) inf := by unfold key at kx; rw [r1] at kx; exact kx
      have es : sgn x = sgn y := by
        have f : ∀ s t : Bool, 0 ≤ sg s inf → 0 ≤ sg t inf → s = t := by
          intro s t a b
          cases s <;> cases t <;> first | rfl | (exfalso; simp only [sg, if_true] at a b; omega)
        exact f _ _ t1 t2
      rw [e2]; simp only [Datum.sum]; rw [if_pos es]; rfl
    · rw [e2]; rfl
  · rcases read_cases y hy with ⟨r2, e2⟩ | ⟨r2, n, j, e2, hj, v2⟩
    · have t := top (sgn y) (by unfold key at ky; rw [r2] at ky; exact ky)
      have kw := key_word (sgn y) inf (Nat.le_refl _)
      refine ⟨double.word (sgn y) inf, ?_, kw.2, by rw [kw.1, t.2]; omega, by rw [kw.1, t.2]; omega⟩
      unfold Format.add; rw [e1, e2]; rfl
    · -- two numbers
      have zero : ∀ (s : Bool) (q p : Nat), 0 ≤ sg s q → p = val q → s = true → p = 0 := by
        intro s q p h e es
        subst es
        have : q = 0 := by simp only [sg, if_true] at h; omega
        rw [e, this, val_zero]
      have zx := zero _ _ _ kx v1
      have zy := zero _ _ _ ky v2
      let base := min i j
      have hbase : -1074 ≤ base := by show -1074 ≤ min i j; omega
      have ei : (i - base).toNat + (base + 1074).toNat = (i + 1074).toNat := by show (i - min i j).toNat + (min i j + 1074).toNat = _; omega
      have ej : (j - base).toNat + (base + 1074).toNat = (j + 1074).toNat := by show (j - min i j).toNat + (min i j + 1074).toNat = _; omega
      have fx : m * 2 ^ (i - base).toNat * 2 ^ (base + 1074).toNat = val (rung x) := by rw [Nat.mul_assoc, ← Nat.pow_add, ei, v1]
      have fy : n * 2 ^ (j - base).toNat * 2 ^ (base + 1074).toNat = val (rung y) := by rw [Nat.mul_assoc, ← Nat.pow_add, ej, v2]
      have pw := Nat.two_pow_pos (base + 1074).toNat
      have qx : signed (sgn x) m (i - base).toNat = (m * 2 ^ (i - base).toNat : Nat) := by
        rw [signed_eq]; unfold sg
        cases hs : sgn x
        · rfl
        · have h0 := zx hs
          rw [v1, ← fx] at h0
          have : m * 2 ^ (i - base).toNat = 0 := by
            rcases Nat.mul_eq_zero.1 h0 with h | h
            · exact h
            · omega
          rw [this]; rfl
      have qy : signed (sgn y) n (j - base).toNat = (n * 2 ^ (j - base).toNat : Nat) := by
        rw [signed_eq]; unfold sg
        cases hs : sgn y
        · rfl
        · have h0 := zy hs
          rw [v2, ← fy] at h0
          have : n * 2 ^ (j - base).toNat = 0 := by
            rcases Nat.mul_eq_zero.1 h0 with h | h
            · exact h
            · omega
          rw [this]; rfl
      have es : double.add x y = some (double.nearest (if m * 2 ^ (i - base).toNat + n * 2 ^ (j - base).toNat = 0 then sgn x && sgn y else false) (m * 2 ^ (i - base).toNat + n * 2 ^ (j - base).toNat) base) := by
        unfold Format.add; rw [e1, e2]
        simp only [Datum.sum, Option.map_some]
        show some (double.nearest _ _ _) = _
        have q : signed (sgn x) m (i - min i j).toNat + signed (sgn y) n (j - min i j).toNat = ((m * 2 ^ (i - base).toNat + n * 2 ^ (j - base).toNat : Nat) : Int) := by
          show signed (sgn x) m (i - base).toNat + signed (sgn y) n (j - base).toNat = _
          rw [qx, qy]; rfl
        rw [q]
        generalize m * 2 ^ (i - base).toNat + n * 2 ^ (j - base).toNat = t
        rw [Int.natAbs_natCast]
        congr 2
        by_cases h : t = 0
        · subst h; rfl
        · rw [if_neg h, if_neg (by omega)]
          exact decide_eq_false (by omega)
      rw [es]
      have fs : (m * 2 ^ (i - base).toNat + n * 2 ^ (j - base).toNat) * 2 ^ (base + 1074).toNat = val (rung x) + val (rung y) := by
        rw [Nat.add_mul, fx, fy]
      revert fs
      generalize m * 2 ^ (i - base).toNat + n * 2 ^ (j - base).toNat = t
      intro fs
      by_cases h : t = 0
      · subst h
        have : val (rung x) = 0 ∧ val (rung y) = 0 := by omega
        have ix : rung x = 0 := by
          refine Nat.eq_zero_of_not_pos fun hp => ?_
          have := val_pos hp; omega
        have iy : rung y = 0 := by
          refine Nat.eq_zero_of_not_pos fun hp => ?_
          have := val_pos hp; omega
        rw [if_pos rfl]
        have kw := key_word (sgn x && sgn y) 0 (by omega)
        have z : sg (sgn x && sgn y) 0 = 0 := by unfold sg; split <;> rfl
        refine ⟨double.word (sgn x && sgn y) 0, rfl, kw.2, by rw [kw.1, z, sx, ix]; decide, by rw [kw.1, z, sy, iy]; decide⟩
      · rw [if_neg h]
        -- the greater of both rungs serves for both
        obtain ⟨k, hk, hge, hle⟩ := nearest_ge false t base (max (rung x) (rung y)) h hbase (by omega) (by
          rw [fs]
          rcases Nat.le_total (rung x) (rung y) with hh | hh
          · rw [Nat.max_eq_right hh]; omega
          · rw [Nat.max_eq_left hh]; omega)
        have kw := key_word false k hle
        refine ⟨_, by rw [hk], kw.2, ?_, ?_⟩
        · rw [kw.1, sx]; show (rung x : Int) ≤ k; omega
        · rw [kw.1, sy]; show (rung y : Int) ≤ k; omega

end Go.Fl
