/- What fmtEFG appends for the shortest digits of a number that is written with an exponent. -/
import Derived.Test.YthmnmkolekgjoaaGreatDoorW4
namespace Go.Proofs.YthmnmkolekgjoaaGreatDoor
open Go.RowKit
open Go

/-- The digits of an exponent, two at least. -/
def digE (a : Int) : List Int := if a < 10 then [48, a + 48] else if a < 100 then [a / 10 + 48, a % 10 + 48] else [a / 100 + 48, a / 10 % 10 + 48, a % 10 + 48]
/-- A number's text with an exponent: a sign, a digit, a point and more digits if there are, the exponent. -/
def textE (neg : Bool) (ds : List Int) (x : Int) : List Int :=
  (if neg then [45] else []) ++ [ds.headD 0] ++ (if 1 < ds.length then 46 :: ds.tail else []) ++ [101] ++ (if x < 0 then 45 :: digE (-x) else 43 :: digE x)

theorem neg10 (x : Int) (h0 : -401 ≤ x) (h1 : x ≤ 0) : wrap64 (-x.tdiv 10) = -x / 10 ∧ wrap64 (-x.tdiv 100) = -x / 100 ∧ -x.tmod 10 = -x % 10 := by
  have f : ∀ i : Fin 402, wrap64 (-(-(i.val : Int)).tdiv 10) = -(-(i.val : Int)) / 10 ∧ wrap64 (-(-(i.val : Int)).tdiv 100) = -(-(i.val : Int)) / 100 ∧ -(-(i.val : Int)).tmod 10 = -(-(i.val : Int)) % 10 := by decide +kernel
  have := f ⟨(-x).toNat, by omega⟩
  have e : -(((-x).toNat : Nat) : Int) = x := by omega
  simp only [e] at this
  exact this

theorem tl (ds : List Int) (d0 : Int) (hd : ds.getD 0 0 = d0) (h : 1 ≤ ds.length) : d0 = ds.headD 0 ∧ List.take (ds.length - 1) (List.drop 1 ds) = ds.tail := by
  match ds, h with
  | d :: r, _ => subst hd; simp

theorem endE1 (pre : List Int) (x : Int) (h0 : -401 ≤ x) (h1 : x < 0) : (-x < 10 → pre ++ [101] ++ [45] ++ [48, -x + 48] = pre ++ [101] ++ (if x < 0 then 45 :: digE (-x) else 43 :: digE x))
    ∧ (10 ≤ -x → -x < 100 → pre ++ [101] ++ [45] ++ [(wrap64 (-x.tdiv 10) + 48) % 256, (-x.tmod 10 + 48) % 256] = pre ++ [101] ++ (if x < 0 then 45 :: digE (-x) else 43 :: digE x))
    ∧ (10 ≤ -x → 100 ≤ -x → pre ++ [101] ++ [45] ++ [(wrap64 (-x.tdiv 100) + 48) % 256, wrap64 (-x.tdiv 10) % 256 % 10 + 48, (-x.tmod 10 + 48) % 256] = pre ++ [101] ++ (if x < 0 then 45 :: digE (-x) else 43 :: digE x)) := by
  obtain ⟨a, b, c⟩ := neg10 x h0 (by omega)
  rw [a, b, c, if_pos h1]
  unfold digE
  refine ⟨fun h => ?_, fun h h' => ?_, fun h h' => ?_⟩
  · rw [if_pos h]; simp
  · rw [if_neg (by omega), if_pos h']
    have e1 : (-x / 10 + 48) % 256 = -x / 10 + 48 := by omega
    have e2 : (-x % 10 + 48) % 256 = -x % 10 + 48 := by omega
    rw [e1, e2]; simp
  · rw [if_neg (by omega), if_neg (by omega)]
    have e1 : (-x / 100 + 48) % 256 = -x / 100 + 48 := by omega
    have e2 : (-x % 10 + 48) % 256 = -x % 10 + 48 := by omega
    have e3 : -x / 10 % 256 % 10 + 48 = -x / 10 % 10 + 48 := by omega
    rw [e1, e2, e3]; simp

set_option maxRecDepth 100000 in
set_option maxHeartbeats 2000000 in
theorem efgEP1L (B b : Nat) (dc : Array Value) (w0 w : World) (v : Value) (d0 : Int) (dp : Int)
    (I : Inv B [(b, dc)] w0 w v []) (hdc : ∀ i : Nat, i < [d0].length → dc[i]? = some (.int .u8 ([d0].getD i 0)))  (he0 : -400 ≤ dp) (hexp : dp - 1 < -4) :
    Calls Tryz.prog 62 #[v, .bool false, .slice (some ⟨b, 0, none⟩) 32 32, .int .i64 dp, .int .i64 1, .int .i64 1, .int .u8 103, .bool true] w fun e w' =>
      ∃ v', e = .returned v' ∧ Inv B [(b, dc)] w0 w' v' (textE false [d0] (dp - 1)) := by
  have c0 : w.cell? ⟨b, 0, none⟩ = some (.int .u8 d0) := I.dig hdc 0 (by simp)
  have HD := Lib.hid hdc
  clear hdc
  go_enter Tryz.func62, Tryz.ntmps62
  go_wp2_with (at_builtin; refine app1 rfl (.tmp 87) _ rfl I rfl _ rfl (by simp) ?_; clear I; intro v1 w1 I; refine Hid.out ?_)
  refine Lib.hid ?_
  go_wp2_with (first | (at_builtin; refine app1 rfl (.tmp 120) _ rfl I rfl _ rfl (by simp) ?_; clear I; intro v1 w1 I) | (at_builtin; refine app1 rfl (.tmp 132) _ rfl I rfl _ rfl (by simp) ?_; clear I; intro v1 w1 I) | (at_builtin; refine app2 rfl (.tmp 155) _ rfl I rfl _ _ rfl (by simp) ?_; clear I; intro v1 w1 I) | (at_builtin; refine app2 rfl (.tmp 164) _ rfl I rfl _ _ rfl (by simp) ?_; clear I; intro v1 w1 I) | (at_builtin; refine app3 rfl (.tmp 136) _ rfl I rfl _ _ _ rfl (by simp) ?_; clear I; intro v1 w1 I))
  all_goals go_ret
  all_goals refine ⟨_, rfl, I.cast ?_⟩
  all_goals unfold textE
  all_goals simp only [Bool.false_eq_true, if_false]
  all_goals rw [if_neg (show ¬ 1 < [d0].length by simp)]
  all_goals first | (rw [(endE1 _ (dp - 1) (by omega) (by omega)).1 ‹_›]; simp) | (rw [(endE1 _ (dp - 1) (by omega) (by omega)).2.1 ‹_› ‹_›]; simp) | (rw [(endE1 _ (dp - 1) (by omega) (by omega)).2.2 ‹_› ‹_›]; simp)
set_option maxRecDepth 100000 in
set_option maxHeartbeats 2000000 in
theorem efgEP1H (B b : Nat) (dc : Array Value) (w0 w : World) (v : Value) (d0 : Int) (dp : Int)
    (I : Inv B [(b, dc)] w0 w v []) (hdc : ∀ i : Nat, i < [d0].length → dc[i]? = some (.int .u8 ([d0].getD i 0)))  (he1 : dp ≤ 400) (hexp : 6 ≤ dp - 1) :
    Calls Tryz.prog 62 #[v, .bool false, .slice (some ⟨b, 0, none⟩) 32 32, .int .i64 dp, .int .i64 1, .int .i64 1, .int .u8 103, .bool true] w fun e w' =>
      ∃ v', e = .returned v' ∧ Inv B [(b, dc)] w0 w' v' (textE false [d0] (dp - 1)) := by
  have c0 : w.cell? ⟨b, 0, none⟩ = some (.int .u8 d0) := I.dig hdc 0 (by simp)
  have HD := Lib.hid hdc
  clear hdc
  go_enter Tryz.func62, Tryz.ntmps62
  go_wp2_with (at_builtin; refine app1 rfl (.tmp 87) _ rfl I rfl _ rfl (by simp) ?_; clear I; intro v1 w1 I; refine Hid.out ?_)
  refine Lib.hid ?_
  go_wp2_with (first | (at_builtin; refine app1 rfl (.tmp 120) _ rfl I rfl _ rfl (by simp) ?_; clear I; intro v1 w1 I) | (at_builtin; refine app1 rfl (.tmp 132) _ rfl I rfl _ rfl (by simp) ?_; clear I; intro v1 w1 I) | (at_builtin; refine app2 rfl (.tmp 155) _ rfl I rfl _ _ rfl (by simp) ?_; clear I; intro v1 w1 I) | (at_builtin; refine app2 rfl (.tmp 164) _ rfl I rfl _ _ rfl (by simp) ?_; clear I; intro v1 w1 I) | (at_builtin; refine app3 rfl (.tmp 136) _ rfl I rfl _ _ _ rfl (by simp) ?_; clear I; intro v1 w1 I))
  all_goals go_ret
  all_goals refine ⟨_, rfl, I.cast ?_⟩
  all_goals unfold textE
  all_goals simp only [Bool.false_eq_true, if_false]
  all_goals rw [if_neg (show ¬ 1 < [d0].length by simp)]
  all_goals rw [if_neg (show ¬ dp - 1 < 0 by omega)]
  all_goals unfold digE
  all_goals first | (rw [if_pos (show dp - 1 < 10 by assumption)]; simp) | (rw [if_neg (show ¬ dp - 1 < 10 by omega), if_pos (show dp - 1 < 100 by assumption)]; simp) | (rw [if_neg (show ¬ dp - 1 < 10 by omega), if_neg (show ¬ dp - 1 < 100 by omega)]; simp)
set_option maxRecDepth 100000 in
set_option maxHeartbeats 2000000 in
theorem efgEP2L (B b : Nat) (dc : Array Value) (w0 w : World) (v : Value) (ds : List Int) (dp : Int)
    (I : Inv B [(b, dc)] w0 w v []) (hdc : ∀ i : Nat, i < ds.length → dc[i]? = some (.int .u8 (ds.getD i 0))) (hn : 2 ≤ ds.length) (hn1 : ds.length ≤ 20) (he0 : -400 ≤ dp) (hexp : dp - 1 < -4) :
    Calls Tryz.prog 62 #[v, .bool false, .slice (some ⟨b, 0, none⟩) 32 32, .int .i64 dp, .int .i64 ds.length, .int .i64 ds.length, .int .u8 103, .bool true] w fun e w' =>
      ∃ v', e = .returned v' ∧ Inv B [(b, dc)] w0 w' v' (textE false ds (dp - 1)) := by
  obtain ⟨d0, hd0⟩ : ∃ d0, ds.getD 0 0 = d0 := ⟨_, rfl⟩
  have c0 : w.cell? ⟨b, 0, none⟩ = some (.int .u8 d0) := by rw [← hd0]; exact I.dig hdc 0 (by omega)
  have HT := Lib.hid (tl ds d0 hd0 (by omega))
  have HD := Lib.hid hdc
  clear hdc
  have Hd0 := Lib.hid hd0
  clear hd0
  go_enter Tryz.func62, Tryz.ntmps62
  go_wp2_with (at_builtin; refine app1 rfl (.tmp 87) _ rfl I rfl _ rfl (by simp) ?_; clear I; intro v1 w1 I; refine Hid.out ?_)
  refine Lib.hid ?_
  go_wp2_with (at_builtin; refine app1 rfl (.tmp 93) _ rfl I rfl _ rfl (by simp) ?_; clear I; intro v1 w1 I; refine Hid.out ?_)
  refine Lib.hid ?_
  go_wp2_with (at_builtin; refine appS rfl (.tmp 103) (.tmp 107) rfl I HD.out rfl 1 (ds.length - 1) 31 rfl (by omega) (by simp) (by omega) ?_; clear I; intro v1 w1 I; refine Hid.out ?_)
  refine Lib.hid ?_
  go_wp2
  refine wp_loop_rounds 1 ?_
  rw [rounds_succ]
  go_wp2_with (first | (at_builtin; refine app1 rfl (.tmp 120) _ rfl I rfl _ rfl (by simp; omega) ?_; clear I; intro v1 w1 I) | (at_builtin; refine app1 rfl (.tmp 132) _ rfl I rfl _ rfl (by simp; omega) ?_; clear I; intro v1 w1 I) | (at_builtin; refine app2 rfl (.tmp 155) _ rfl I rfl _ _ rfl (by simp; omega) ?_; clear I; intro v1 w1 I) | (at_builtin; refine app2 rfl (.tmp 164) _ rfl I rfl _ _ rfl (by simp; omega) ?_; clear I; intro v1 w1 I) | (at_builtin; refine app3 rfl (.tmp 136) _ rfl I rfl _ _ _ rfl (by simp; omega) ?_; clear I; intro v1 w1 I))
  all_goals go_ret
  all_goals refine ⟨_, rfl, I.cast ?_⟩
  all_goals unfold textE
  all_goals simp only [Bool.false_eq_true, if_false]
  all_goals rw [if_pos (show 1 < ds.length by omega), HT.out.2, ← HT.out.1]
  all_goals first | (rw [(endE1 _ (dp - 1) (by omega) (by omega)).1 ‹_›]; simp) | (rw [(endE1 _ (dp - 1) (by omega) (by omega)).2.1 ‹_› ‹_›]; simp) | (rw [(endE1 _ (dp - 1) (by omega) (by omega)).2.2 ‹_› ‹_›]; simp)
set_option maxRecDepth 100000 in
set_option maxHeartbeats 2000000 in
theorem efgEP2H (B b : Nat) (dc : Array Value) (w0 w : World) (v : Value) (ds : List Int) (dp : Int)
    (I : Inv B [(b, dc)] w0 w v []) (hdc : ∀ i : Nat, i < ds.length → dc[i]? = some (.int .u8 (ds.getD i 0))) (hn : 2 ≤ ds.length) (hn1 : ds.length ≤ 20) (he1 : dp ≤ 400) (hexp : 6 ≤ dp - 1) :
    Calls Tryz.prog 62 #[v, .bool false, .slice (some ⟨b, 0, none⟩) 32 32, .int .i64 dp, .int .i64 ds.length, .int .i64 ds.length, .int .u8 103, .bool true] w fun e w' =>
      ∃ v', e = .returned v' ∧ Inv B [(b, dc)] w0 w' v' (textE false ds (dp - 1)) := by
  obtain ⟨d0, hd0⟩ : ∃ d0, ds.getD 0 0 = d0 := ⟨_, rfl⟩
  have c0 : w.cell? ⟨b, 0, none⟩ = some (.int .u8 d0) := by rw [← hd0]; exact I.dig hdc 0 (by omega)
  have HT := Lib.hid (tl ds d0 hd0 (by omega))
  have HD := Lib.hid hdc
  clear hdc
  have Hd0 := Lib.hid hd0
  clear hd0
  go_enter Tryz.func62, Tryz.ntmps62
  go_wp2_with (at_builtin; refine app1 rfl (.tmp 87) _ rfl I rfl _ rfl (by simp) ?_; clear I; intro v1 w1 I; refine Hid.out ?_)
  refine Lib.hid ?_
  go_wp2_with (at_builtin; refine app1 rfl (.tmp 93) _ rfl I rfl _ rfl (by simp) ?_; clear I; intro v1 w1 I; refine Hid.out ?_)
  refine Lib.hid ?_
  go_wp2_with (at_builtin; refine appS rfl (.tmp 103) (.tmp 107) rfl I HD.out rfl 1 (ds.length - 1) 31 rfl (by omega) (by simp) (by omega) ?_; clear I; intro v1 w1 I; refine Hid.out ?_)
  refine Lib.hid ?_
  go_wp2
  refine wp_loop_rounds 1 ?_
  rw [rounds_succ]
  go_wp2_with (first | (at_builtin; refine app1 rfl (.tmp 120) _ rfl I rfl _ rfl (by simp; omega) ?_; clear I; intro v1 w1 I) | (at_builtin; refine app1 rfl (.tmp 132) _ rfl I rfl _ rfl (by simp; omega) ?_; clear I; intro v1 w1 I) | (at_builtin; refine app2 rfl (.tmp 155) _ rfl I rfl _ _ rfl (by simp; omega) ?_; clear I; intro v1 w1 I) | (at_builtin; refine app2 rfl (.tmp 164) _ rfl I rfl _ _ rfl (by simp; omega) ?_; clear I; intro v1 w1 I) | (at_builtin; refine app3 rfl (.tmp 136) _ rfl I rfl _ _ _ rfl (by simp; omega) ?_; clear I; intro v1 w1 I))
  all_goals go_ret
  all_goals refine ⟨_, rfl, I.cast ?_⟩
  all_goals unfold textE
  all_goals simp only [Bool.false_eq_true, if_false]
  all_goals rw [if_pos (show 1 < ds.length by omega), HT.out.2, ← HT.out.1]
  all_goals rw [if_neg (show ¬ dp - 1 < 0 by omega)]
  all_goals unfold digE
  all_goals first | (rw [if_pos (show dp - 1 < 10 by assumption)]; simp) | (rw [if_neg (show ¬ dp - 1 < 10 by omega), if_pos (show dp - 1 < 100 by assumption)]; simp) | (rw [if_neg (show ¬ dp - 1 < 10 by omega), if_neg (show ¬ dp - 1 < 100 by omega)]; simp)
set_option maxRecDepth 100000 in
set_option maxHeartbeats 2000000 in
theorem efgEN1L (B b : Nat) (dc : Array Value) (w0 w : World) (v : Value) (d0 : Int) (dp : Int)
    (I : Inv B [(b, dc)] w0 w v []) (hdc : ∀ i : Nat, i < [d0].length → dc[i]? = some (.int .u8 ([d0].getD i 0)))  (he0 : -400 ≤ dp) (hexp : dp - 1 < -4) :
    Calls Tryz.prog 62 #[v, .bool true, .slice (some ⟨b, 0, none⟩) 32 32, .int .i64 dp, .int .i64 1, .int .i64 1, .int .u8 103, .bool true] w fun e w' =>
      ∃ v', e = .returned v' ∧ Inv B [(b, dc)] w0 w' v' (textE true [d0] (dp - 1)) := by
  have c0 : w.cell? ⟨b, 0, none⟩ = some (.int .u8 d0) := I.dig hdc 0 (by simp)
  have HD := Lib.hid hdc
  clear hdc
  go_enter Tryz.func62, Tryz.ntmps62
  go_wp2_with (at_builtin; refine app1 rfl (.tmp 79) _ rfl I rfl _ rfl (by simp) ?_; clear I c0; intro v1 w1 I; refine Hid.out ?_)
  refine Lib.hid ?_
  have c0 : w1.cell? ⟨b, 0, none⟩ = some (.int .u8 d0) := I.dig HD.out 0 (by simp)
  go_wp2_with (at_builtin; refine app1 rfl (.tmp 87) _ rfl I rfl _ rfl (by simp) ?_; clear I; intro v1 w1 I; refine Hid.out ?_)
  refine Lib.hid ?_
  go_wp2_with (first | (at_builtin; refine app1 rfl (.tmp 120) _ rfl I rfl _ rfl (by simp) ?_; clear I; intro v1 w1 I) | (at_builtin; refine app1 rfl (.tmp 132) _ rfl I rfl _ rfl (by simp) ?_; clear I; intro v1 w1 I) | (at_builtin; refine app2 rfl (.tmp 155) _ rfl I rfl _ _ rfl (by simp) ?_; clear I; intro v1 w1 I) | (at_builtin; refine app2 rfl (.tmp 164) _ rfl I rfl _ _ rfl (by simp) ?_; clear I; intro v1 w1 I) | (at_builtin; refine app3 rfl (.tmp 136) _ rfl I rfl _ _ _ rfl (by simp) ?_; clear I; intro v1 w1 I))
  all_goals go_ret
  all_goals refine ⟨_, rfl, I.cast ?_⟩
  all_goals unfold textE
  all_goals simp only [if_true]
  all_goals rw [if_neg (show ¬ 1 < [d0].length by simp)]
  all_goals first | (rw [(endE1 _ (dp - 1) (by omega) (by omega)).1 ‹_›]; simp) | (rw [(endE1 _ (dp - 1) (by omega) (by omega)).2.1 ‹_› ‹_›]; simp) | (rw [(endE1 _ (dp - 1) (by omega) (by omega)).2.2 ‹_› ‹_›]; simp)
set_option maxRecDepth 100000 in
set_option maxHeartbeats 2000000 in
theorem efgEN1H (B b : Nat) (dc : Array Value) (w0 w : World) (v : Value) (d0 : Int) (dp : Int)
    (I : Inv B [(b, dc)] w0 w v []) (hdc : ∀ i : Nat, i < [d0].length → dc[i]? = some (.int .u8 ([d0].getD i 0)))  (he1 : dp ≤ 400) (hexp : 6 ≤ dp - 1) :
    Calls Tryz.prog 62 #[v, .bool true, .slice (some ⟨b, 0, none⟩) 32 32, .int .i64 dp, .int .i64 1, .int .i64 1, .int .u8 103, .bool true] w fun e w' =>
      ∃ v', e = .returned v' ∧ Inv B [(b, dc)] w0 w' v' (textE true [d0] (dp - 1)) := by
  have c0 : w.cell? ⟨b, 0, none⟩ = some (.int .u8 d0) := I.dig hdc 0 (by simp)
  have HD := Lib.hid hdc
  clear hdc
  go_enter Tryz.func62, Tryz.ntmps62
  go_wp2_with (at_builtin; refine app1 rfl (.tmp 79) _ rfl I rfl _ rfl (by simp) ?_; clear I c0; intro v1 w1 I; refine Hid.out ?_)
  refine Lib.hid ?_
  have c0 : w1.cell? ⟨b, 0, none⟩ = some (.int .u8 d0) := I.dig HD.out 0 (by simp)
  go_wp2_with (at_builtin; refine app1 rfl (.tmp 87) _ rfl I rfl _ rfl (by simp) ?_; clear I; intro v1 w1 I; refine Hid.out ?_)
  refine Lib.hid ?_
  go_wp2_with (first | (at_builtin; refine app1 rfl (.tmp 120) _ rfl I rfl _ rfl (by simp) ?_; clear I; intro v1 w1 I) | (at_builtin; refine app1 rfl (.tmp 132) _ rfl I rfl _ rfl (by simp) ?_; clear I; intro v1 w1 I) | (at_builtin; refine app2 rfl (.tmp 155) _ rfl I rfl _ _ rfl (by simp) ?_; clear I; intro v1 w1 I) | (at_builtin; refine app2 rfl (.tmp 164) _ rfl I rfl _ _ rfl (by simp) ?_; clear I; intro v1 w1 I) | (at_builtin; refine app3 rfl (.tmp 136) _ rfl I rfl _ _ _ rfl (by simp) ?_; clear I; intro v1 w1 I))
  all_goals go_ret
  all_goals refine ⟨_, rfl, I.cast ?_⟩
  all_goals unfold textE
  all_goals simp only [if_true]
  all_goals rw [if_neg (show ¬ 1 < [d0].length by simp)]
  all_goals rw [if_neg (show ¬ dp - 1 < 0 by omega)]
  all_goals unfold digE
  all_goals first | (rw [if_pos (show dp - 1 < 10 by assumption)]; simp) | (rw [if_neg (show ¬ dp - 1 < 10 by omega), if_pos (show dp - 1 < 100 by assumption)]; simp) | (rw [if_neg (show ¬ dp - 1 < 10 by omega), if_neg (show ¬ dp - 1 < 100 by omega)]; simp)
set_option maxRecDepth 100000 in
set_option maxHeartbeats 2000000 in
theorem efgEN2L (B b : Nat) (dc : Array Value) (w0 w : World) (v : Value) (ds : List Int) (dp : Int)
    (I : Inv B [(b, dc)] w0 w v []) (hdc : ∀ i : Nat, i < ds.length → dc[i]? = some (.int .u8 (ds.getD i 0))) (hn : 2 ≤ ds.length) (hn1 : ds.length ≤ 20) (he0 : -400 ≤ dp) (hexp : dp - 1 < -4) :
    Calls Tryz.prog 62 #[v, .bool true, .slice (some ⟨b, 0, none⟩) 32 32, .int .i64 dp, .int .i64 ds.length, .int .i64 ds.length, .int .u8 103, .bool true] w fun e w' =>
      ∃ v', e = .returned v' ∧ Inv B [(b, dc)] w0 w' v' (textE true ds (dp - 1)) := by
  obtain ⟨d0, hd0⟩ : ∃ d0, ds.getD 0 0 = d0 := ⟨_, rfl⟩
  have c0 : w.cell? ⟨b, 0, none⟩ = some (.int .u8 d0) := by rw [← hd0]; exact I.dig hdc 0 (by omega)
  have HT := Lib.hid (tl ds d0 hd0 (by omega))
  have HD := Lib.hid hdc
  clear hdc
  have Hd0 := Lib.hid hd0
  clear hd0
  go_enter Tryz.func62, Tryz.ntmps62
  go_wp2_with (at_builtin; refine app1 rfl (.tmp 79) _ rfl I rfl _ rfl (by simp) ?_; clear I c0; intro v1 w1 I; refine Hid.out ?_)
  refine Lib.hid ?_
  have c0 : w1.cell? ⟨b, 0, none⟩ = some (.int .u8 d0) := by rw [← Hd0.out]; exact I.dig HD.out 0 (by omega)
  go_wp2_with (at_builtin; refine app1 rfl (.tmp 87) _ rfl I rfl _ rfl (by simp) ?_; clear I; intro v1 w1 I; refine Hid.out ?_)
  refine Lib.hid ?_
  go_wp2_with (at_builtin; refine app1 rfl (.tmp 93) _ rfl I rfl _ rfl (by simp) ?_; clear I; intro v1 w1 I; refine Hid.out ?_)
  refine Lib.hid ?_
  go_wp2_with (at_builtin; refine appS rfl (.tmp 103) (.tmp 107) rfl I HD.out rfl 1 (ds.length - 1) 31 rfl (by omega) (by simp) (by omega) ?_; clear I; intro v1 w1 I; refine Hid.out ?_)
  refine Lib.hid ?_
  go_wp2
  refine wp_loop_rounds 1 ?_
  rw [rounds_succ]
  go_wp2_with (first | (at_builtin; refine app1 rfl (.tmp 120) _ rfl I rfl _ rfl (by simp; omega) ?_; clear I; intro v1 w1 I) | (at_builtin; refine app1 rfl (.tmp 132) _ rfl I rfl _ rfl (by simp; omega) ?_; clear I; intro v1 w1 I) | (at_builtin; refine app2 rfl (.tmp 155) _ rfl I rfl _ _ rfl (by simp; omega) ?_; clear I; intro v1 w1 I) | (at_builtin; refine app2 rfl (.tmp 164) _ rfl I rfl _ _ rfl (by simp; omega) ?_; clear I; intro v1 w1 I) | (at_builtin; refine app3 rfl (.tmp 136) _ rfl I rfl _ _ _ rfl (by simp; omega) ?_; clear I; intro v1 w1 I))
  all_goals go_ret
  all_goals refine ⟨_, rfl, I.cast ?_⟩
  all_goals unfold textE
  all_goals simp only [if_true]
  all_goals rw [if_pos (show 1 < ds.length by omega), HT.out.2, ← HT.out.1]
  all_goals first | (rw [(endE1 _ (dp - 1) (by omega) (by omega)).1 ‹_›]; simp) | (rw [(endE1 _ (dp - 1) (by omega) (by omega)).2.1 ‹_› ‹_›]; simp) | (rw [(endE1 _ (dp - 1) (by omega) (by omega)).2.2 ‹_› ‹_›]; simp)
set_option maxRecDepth 100000 in
set_option maxHeartbeats 2000000 in
theorem efgEN2H (B b : Nat) (dc : Array Value) (w0 w : World) (v : Value) (ds : List Int) (dp : Int)
    (I : Inv B [(b, dc)] w0 w v []) (hdc : ∀ i : Nat, i < ds.length → dc[i]? = some (.int .u8 (ds.getD i 0))) (hn : 2 ≤ ds.length) (hn1 : ds.length ≤ 20) (he1 : dp ≤ 400) (hexp : 6 ≤ dp - 1) :
    Calls Tryz.prog 62 #[v, .bool true, .slice (some ⟨b, 0, none⟩) 32 32, .int .i64 dp, .int .i64 ds.length, .int .i64 ds.length, .int .u8 103, .bool true] w fun e w' =>
      ∃ v', e = .returned v' ∧ Inv B [(b, dc)] w0 w' v' (textE true ds (dp - 1)) := by
  obtain ⟨d0, hd0⟩ : ∃ d0, ds.getD 0 0 = d0 := ⟨_, rfl⟩
  have c0 : w.cell? ⟨b, 0, none⟩ = some (.int .u8 d0) := by rw [← hd0]; exact I.dig hdc 0 (by omega)
  have HT := Lib.hid (tl ds d0 hd0 (by omega))
  have HD := Lib.hid hdc
  clear hdc
  have Hd0 := Lib.hid hd0
  clear hd0
  go_enter Tryz.func62, Tryz.ntmps62
  go_wp2_with (at_builtin; refine app1 rfl (.tmp 79) _ rfl I rfl _ rfl (by simp) ?_; clear I c0; intro v1 w1 I; refine Hid.out ?_)
  refine Lib.hid ?_
  have c0 : w1.cell? ⟨b, 0, none⟩ = some (.int .u8 d0) := by rw [← Hd0.out]; exact I.dig HD.out 0 (by omega)
  go_wp2_with (at_builtin; refine app1 rfl (.tmp 87) _ rfl I rfl _ rfl (by simp) ?_; clear I; intro v1 w1 I; refine Hid.out ?_)
  refine Lib.hid ?_
  go_wp2_with (at_builtin; refine app1 rfl (.tmp 93) _ rfl I rfl _ rfl (by simp) ?_; clear I; intro v1 w1 I; refine Hid.out ?_)
  refine Lib.hid ?_
  go_wp2_with (at_builtin; refine appS rfl (.tmp 103) (.tmp 107) rfl I HD.out rfl 1 (ds.length - 1) 31 rfl (by omega) (by simp) (by omega) ?_; clear I; intro v1 w1 I; refine Hid.out ?_)
  refine Lib.hid ?_
  go_wp2
  refine wp_loop_rounds 1 ?_
  rw [rounds_succ]
  go_wp2_with (first | (at_builtin; refine app1 rfl (.tmp 120) _ rfl I rfl _ rfl (by simp; omega) ?_; clear I; intro v1 w1 I) | (at_builtin; refine app1 rfl (.tmp 132) _ rfl I rfl _ rfl (by simp; omega) ?_; clear I; intro v1 w1 I) | (at_builtin; refine app2 rfl (.tmp 155) _ rfl I rfl _ _ rfl (by simp; omega) ?_; clear I; intro v1 w1 I) | (at_builtin; refine app2 rfl (.tmp 164) _ rfl I rfl _ _ rfl (by simp; omega) ?_; clear I; intro v1 w1 I) | (at_builtin; refine app3 rfl (.tmp 136) _ rfl I rfl _ _ _ rfl (by simp; omega) ?_; clear I; intro v1 w1 I))
  all_goals go_ret
  all_goals refine ⟨_, rfl, I.cast ?_⟩
  all_goals unfold textE
  all_goals simp only [if_true]
  all_goals rw [if_pos (show 1 < ds.length by omega), HT.out.2, ← HT.out.1]
  all_goals rw [if_neg (show ¬ dp - 1 < 0 by omega)]
  all_goals unfold digE
  all_goals first | (rw [if_pos (show dp - 1 < 10 by assumption)]; simp) | (rw [if_neg (show ¬ dp - 1 < 10 by omega), if_pos (show dp - 1 < 100 by assumption)]; simp) | (rw [if_neg (show ¬ dp - 1 < 10 by omega), if_neg (show ¬ dp - 1 < 100 by omega)]; simp)
end Go.Proofs.YthmnmkolekgjoaaGreatDoor
