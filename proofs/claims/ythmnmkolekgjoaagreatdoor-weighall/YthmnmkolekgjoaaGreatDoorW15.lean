/- What weigh.Text and the document's own Text answer to every word: the same string. -/
import Derived.Test.YthmnmkolekgjoaaGreatDoorW14
import Derived.Test.YthmnmkolekgjoaaGreatDoorWOrder
namespace Go.Proofs.YthmnmkolekgjoaaGreatDoor
open Go.RowKit
open Go
open Go.Lib (nDigits decDigits)

def Asc (l : List Int) : Prop := ∀ z ∈ l, 0 ≤ z ∧ z < 128
theorem Asc.append {a b : List Int} (ha : Asc a) (hb : Asc b) : Asc (a ++ b) := fun z hz => by
  rcases List.mem_append.1 hz with h | h
  · exact ha z h
  · exact hb z h
theorem Asc.cons {a : Int} {b : List Int} (ha : 0 ≤ a ∧ a < 128) (hb : Asc b) : Asc (a :: b) := fun z hz => by
  rcases List.mem_cons.1 hz with h | h
  · rw [h]; exact ha
  · exact hb z h
theorem Asc.nil : Asc [] := fun z hz => by cases hz
theorem Asc.sub {a b : List Int} (hb : Asc b) (h : ∀ z ∈ a, z ∈ b) : Asc a := fun z hz => hb z (h z hz)

theorem digs_asc (d : Nat) : Asc (digs d) := fun z hz => by
  unfold digs at hz
  obtain ⟨i, hi, rfl⟩ := List.mem_map.1 hz
  have hi' : i < nzd d := List.mem_range.1 hi
  have hz1 : nzd d ≤ nDigits d := stripN_le _ _
  rw [digAt_is d i (by omega)]
  omega

theorem digE_asc (a : Int) (h0 : 0 ≤ a) (h1 : a ≤ 999) : Asc (digE a) ∧ (digE a).length ≤ 3 := by
  unfold digE
  split
  · exact ⟨Asc.cons (by omega) (Asc.cons (by omega) Asc.nil), by simp⟩
  · split
    · exact ⟨Asc.cons (by omega) (Asc.cons (by omega) Asc.nil), by simp⟩
    · exact ⟨Asc.cons (by omega) (Asc.cons (by omega) (Asc.cons (by omega) Asc.nil)), by simp⟩

theorem textE_asc (neg : Bool) (ds : List Int) (x : Int) (hd : Asc ds) (hl : ds.length ≤ 20) (h0 : -999 ≤ x) (h1 : x ≤ 999) : Asc (textE neg ds x) ∧ (textE neg ds x).length ≤ 100 ∧ textE neg ds x ≠ [] := by
  have a1 : Asc (if neg then [45] else []) := by cases neg <;> simp [Asc]
  have a2 : Asc [ds.headD 0] := by
    refine Asc.cons ?_ Asc.nil
    cases ds with
    | nil => simp
    | cons d r => exact hd d (by simp)
  have a3 : Asc (if 1 < ds.length then 46 :: ds.tail else []) := by
    split
    · exact Asc.cons (by omega) (hd.sub fun z hz => List.mem_of_mem_tail hz)
    · exact Asc.nil
  have a4 : Asc (if x < 0 then 45 :: digE (-x) else 43 :: digE x) := by
    split
    · exact Asc.cons (by omega) (digE_asc _ (by omega) (by omega)).1
    · exact Asc.cons (by omega) (digE_asc _ (by omega) (by omega)).1
  have l4 : (if x < 0 then 45 :: digE (-x) else 43 :: digE x).length ≤ 4 := by
    split
    · have := (digE_asc (-x) (by omega) (by omega)).2; simp; omega
    · have := (digE_asc x (by omega) (by omega)).2; simp; omega
  have l3 : (if 1 < ds.length then 46 :: ds.tail else []).length ≤ 21 := by
    split
    · simp; omega
    · simp
  have l1 : (if neg then [45] else ([] : List Int)).length ≤ 1 := by cases neg <;> simp
  unfold textE
  refine ⟨(((a1.append a2).append a3).append (Asc.cons (by omega) Asc.nil)).append a4, ?_, ?_⟩
  · simp only [List.length_append, List.length_cons, List.length_nil]; omega
  · simp

theorem textF_asc (neg : Bool) (ds : List Int) (dp : Int) (hd : Asc ds) (hl0 : 1 ≤ ds.length) (hl : ds.length ≤ 20) (h0 : -3 ≤ dp) (h1 : dp ≤ 6) : Asc (textF neg ds dp) ∧ (textF neg ds dp).length ≤ 100 ∧ textF neg ds dp ≠ [] := by
  have a1 : Asc (if neg then [45] else []) := by cases neg <;> simp [Asc]
  have l1 : (if neg then [45] else ([] : List Int)).length ≤ 1 := by cases neg <;> simp
  have rp : ∀ n : Nat, Asc (List.replicate n 48) := fun n z hz => by rw [(List.mem_replicate.1 hz).2]; omega
  unfold textF
  by_cases c1 : dp ≤ 0
  · rw [if_pos c1]
    have a2 : Asc ([48, 46] ++ List.replicate (-dp).toNat 48 ++ ds) := ((Asc.cons (by omega) (Asc.cons (by omega) Asc.nil)).append (rp _)).append hd
    refine ⟨a1.append a2, ?_, ?_⟩
    · simp only [List.length_append, List.length_cons, List.length_nil, List.length_replicate]; omega
    · simp
  · rw [if_neg c1]
    by_cases c2 : dp < ds.length
    · rw [if_pos c2]
      have a2 : Asc (ds.take dp.toNat ++ [46] ++ ds.drop dp.toNat) := ((hd.sub fun z hz => List.mem_of_mem_take hz).append (Asc.cons (by omega) Asc.nil)).append (hd.sub fun z hz => List.mem_of_mem_drop hz)
      refine ⟨a1.append a2, ?_, ?_⟩
      · simp only [List.length_append, List.length_cons, List.length_nil, List.length_take, List.length_drop]; omega
      · simp
    · rw [if_neg c2]
      refine ⟨a1.append (hd.append (rp _)), ?_, ?_⟩
      · simp only [List.length_append, List.length_replicate]; omega
      · intro h
        have := congrArg List.length h
        simp only [List.length_append, List.length_nil] at this
        omega

theorem fmtD_asc (neg : Bool) (r : Int × Int) (h0 : 1 ≤ r.1) (h1 : r.1 < 18446744073709551616) (h2 : -350 ≤ r.2) (h3 : r.2 ≤ 350) : Asc (fmtD neg r) ∧ (fmtD neg r).length ≤ 100 ∧ fmtD neg r ≠ [] := by
  obtain ⟨q1, q2⟩ := r
  simp only at h0 h1 h2 h3
  unfold fmtD textG
  simp only
  have hd0 : 1 ≤ q1.toNat := by omega
  have hd1 : q1.toNat < 18446744073709551616 := by omega
  have hz1 : nzd q1.toNat ≤ nDigits q1.toNat := stripN_le _ _
  have hz0 : 1 ≤ nzd q1.toNat := stripN_pos _ (digAt_zero _ hd0) _ (nDigits_pos _)
  have hz2 := Go.Lib.nDigits_le20 q1.toNat hd1
  have hl := digs_length q1.toNat
  split
  · exact textE_asc neg _ _ (digs_asc _) (by omega) (by omega) (by omega)
  · exact textF_asc neg _ _ (digs_asc _) (by omega) (by omega) (by omega) (by omega)

theorem fmtBs_asc (x : Nat) (hf : fExp x ≠ 2047) : Asc (fmtBs x) ∧ (fmtBs x).length ≤ 100 ∧ fmtBs x ≠ [] := by
  have hE : fExp x < 2048 := Nat.mod_lt _ (by omega)
  have hM : fMan x < 4503599627370496 := Nat.mod_lt _ (by omega)
  unfold fmtBs
  by_cases h1 : fExp x = 0
  · rw [if_pos h1]
    by_cases h2 : fMan x = 0
    · rw [if_pos h2]
      unfold zeroText
      cases fNeg x <;> simp [Asc]
    · rw [if_neg h2]
      obtain ⟨r0, r1, r2, r3⟩ := sub_range (fMan x) (by omega) hM
      exact fmtD_asc _ _ r0 r1 r2 r3
  · rw [if_neg h1]
    obtain ⟨r0, r1, r2, r3⟩ := norm_range (fMan x) (fExp x) hM (by omega) (by omega)
    exact fmtD_asc _ _ r0 r1 r2 r3

theorem fin_of (x : Nat) (hx : x < 18446744073709551616) (h1 : nanB x = false) (h2 : infB x = false) (h3 : infB (negN x) = false) : fExp x ≠ 2047 := by
  intro h
  rw [nanB_is] at h1
  have hr : Fl.rung x ≤ Fl.inf := by simpa [Fl.isNan] using h1
  have e : x = 9218868437227405312 ∨ x = 18442240474082181120 := by
    have hi : Fl.inf = 9218868437227405312 := by decide
    rw [hi] at hr
    unfold Fl.rung at hr
    unfold fExp at h
    omega
  rcases e with rfl | rfl
  · have : infB 9218868437227405312 = true := by decide +kernel
    rw [this] at h2; cases h2
  · have : infB (negN 18442240474082181120) = true := by decide +kernel
    rw [this] at h3; cases h3

/-- The text of any word. -/
def textOf (x : Nat) : ByteArray := if nanB x then ⟨#[78, 97, 78]⟩ else if infB x then ⟨#[73, 78, 70]⟩ else if infB (negN x) then ⟨#[45, 73, 78, 70]⟩ else strOf (withDot (fmtBs x))

theorem format_fin (x : Nat) (hx : x < 18446744073709551616) (hf : fExp x ≠ 2047) (w : World) (hT : Tabs w) :
    Calls Tryz.prog 30 #[.float .f64 x, .int .u8 103, .int .i64 (-1), .int .i64 64] w fun e w' => e = .returned (.string (strOf (fmtBs x))) ∧ Below w.heap.size w w' :=
  format30 _ _ w (format37 _ _ w hT (fmtBs_asc x hf).1 (fmtBs_asc x hf).2.2 (fun B w1 v I hT1 => ftoaAll x hx hf B w w1 v I hT1))

set_option maxRecDepth 100000 in
set_option maxHeartbeats 1000000 in
theorem textAll16 (x : Nat) (hx : x < 18446744073709551616) (w : World) (hT : Tabs w) : Calls Tryz.prog 16 #[.float .f64 x] w fun e w' => e = .returned (.string (textOf x)) ∧ Below w.heap.size w w' := by
  unfold textOf
  cases h1 : nanB x
  · cases h2 : infB x
    · cases h3 : infB (negN x)
      · have hf := fin_of x hx h1 h2 h3
        exact text16 x (fmtBs x) w (fmtBs_asc x hf).1 (by have := (fmtBs_asc x hf).2.1; omega) h1 h2 h3 (format_fin x hx hf w hT)
      · clear hT
        go_enter Tryz.func16, Tryz.ntmps16
        go_wp2_with (first | (go_at_call 27; refine (isNaN27 _ _).mono ?_; rintro e w' ⟨rfl, rfl⟩) | (go_at_call_of 29 (Value.int IntKind.i64 1); refine (isInf29p _ _).mono ?_; rintro e w' ⟨rfl, rfl⟩))
        refine (isInf29n _ _).mono ?_
        rintro e w1 ⟨rfl, rfl⟩
        go_wp2
        go_ret
        exact ⟨rfl, Below.refl _ _⟩
    · clear hT
      go_enter Tryz.func16, Tryz.ntmps16
      go_wp2_with (first | (go_at_call 27; refine (isNaN27 _ _).mono ?_; rintro e w' ⟨rfl, rfl⟩) | (go_at_call 29; refine (isInf29p _ _).mono ?_; rintro e w' ⟨rfl, rfl⟩))
      go_ret
      exact ⟨rfl, Below.refl _ _⟩
  · clear hT
    go_enter Tryz.func16, Tryz.ntmps16
    go_wp2_with (go_at_call 27; refine (isNaN27 _ _).mono ?_; rintro e w' ⟨rfl, rfl⟩)
    go_ret
    exact ⟨rfl, Below.refl _ _⟩
end Go.Proofs.YthmnmkolekgjoaaGreatDoor
