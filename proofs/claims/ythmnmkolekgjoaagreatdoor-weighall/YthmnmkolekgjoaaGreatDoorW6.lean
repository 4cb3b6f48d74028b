/- What fmtEFG appends for the shortest digits of a number that is written without an exponent. -/
import Derived.Test.YthmnmkolekgjoaaGreatDoorW4
namespace Go.Proofs.YthmnmkolekgjoaaGreatDoor
open Go.RowKit
open Go

/-- A number's text without an exponent. -/
def textF (neg : Bool) (ds : List Int) (dp : Int) : List Int :=
  (if neg then [45] else []) ++ (if dp ≤ 0 then [48, 46] ++ List.replicate (-dp).toNat 48 ++ ds else if dp < ds.length then ds.take dp.toNat ++ [46] ++ ds.drop dp.toNat else ds ++ List.replicate (dp.toNat - ds.length) 48)

theorem take_snoc (ds : List Int) (k : Nat) (dk : Int) (hd : ds.getD k 0 = dk) (h : k < ds.length) : ds.take (k + 1) = ds.take k ++ [dk] := by
  rw [List.take_add_one, List.getElem?_eq_getElem h, ← hd]
  simp [List.getD, List.getElem?_eq_getElem h]

theorem drop_snoc (ds : List Int) (n k : Nat) (dk : Int) (hd : ds.getD (n + k) 0 = dk) (h : n + k < ds.length) : (ds.drop n).take (k + 1) = (ds.drop n).take k ++ [dk] := by
  refine take_snoc _ k dk ?_ (by simp; omega)
  rw [← hd]
  simp [List.getD, List.getElem?_drop]

set_option maxRecDepth 100000 in
set_option maxHeartbeats 2000000 in
theorem efgFcP (B b : Nat) (dc : Array Value) (w0 w : World) (v : Value) (ds : List Int) (dp : Int)
    (I : Inv B [(b, dc)] w0 w v []) (hdc : ∀ i : Nat, i < ds.length → dc[i]? = some (.int .u8 (ds.getD i 0))) (hn : 1 ≤ ds.length) (hn1 : (ds.length : Int) ≤ dp) (he1 : dp ≤ 6) :
    Calls Tryz.prog 62 #[v, .bool false, .slice (some ⟨b, 0, none⟩) 32 32, .int .i64 dp, .int .i64 ds.length, .int .i64 ds.length, .int .u8 103, .bool true] w fun e w' =>
      ∃ v', e = .returned v' ∧ Inv B [(b, dc)] w0 w' v' (textF false ds dp) := by
  have HD := Lib.hid hdc
  clear hdc
  have hdp : decide (0 < dp) = true := by simp; omega
  go_enter Tryz.func62, Tryz.ntmps62
  go_wp2
  go_loopw [0, 191] (fun v1 i wr => ∃ k : Nat, k ≤ ds.length ∧ i = .int .i64 k ∧ Inv B [(b, dc)] w0 wr v1 ([] ++ ds.take k)) (fun _ i _ => ds.length - (intOf i).toNat)
  case atStart => exact ⟨0, Nat.zero_le _, rfl, I.cast (by simp)⟩
  case round =>
    clear I
    obtain ⟨k, hk, rfl, I⟩ := hrel
    by_cases hlt : k < ds.length
    · obtain ⟨dk, hdk⟩ : ∃ dk, ds.getD k 0 = dk := ⟨_, rfl⟩
      have ck : wr.cell? ⟨b, k, none⟩ = some (.int .u8 dk) := by rw [← hdk]; exact I.dig HD.out k hlt
      have HS := Lib.hid (take_snoc ds k dk hdk hlt)
      clear hdk
      go_wp2_with (at_builtin; refine app1 rfl (.tmp 195) _ rfl I rfl _ rfl (by simp; omega) ?_; clear I; intro v1 w1 I)
      go_roundw
      case rel => exact ⟨k + 1, by omega, by go_num, I.cast (by rw [HS.out, List.append_assoc])⟩
      case measure => simp [intOf]; omega
    · have hke : k = ds.length := by omega
      subst hke
      go_wp2
      go_loopw [0, 203] (fun v1 i wr => ∃ k : Nat, k ≤ dp.toNat - ds.length ∧ i = .int .i64 k ∧ Inv B [(b, dc)] w0 wr v1 ([] ++ ds.take ds.length ++ List.replicate k 48)) (fun _ i _ => (dp.toNat - ds.length) - (intOf i).toNat)
      case atStart => exact ⟨0, Nat.zero_le _, rfl, I.cast (by simp)⟩
      case round =>
        clear I
        obtain ⟨k, hk, rfl, I⟩ := hrel
        by_cases hlt : (k : Int) < dp - ds.length
        · go_wp2_with (at_builtin; refine app1 rfl (.tmp 205) _ rfl I rfl _ rfl (by simp; omega) ?_; clear I; intro v1 w1 I)
          go_roundw
          case rel => exact ⟨k + 1, by omega, by go_num, I.cast (by rw [List.replicate_succ', List.append_assoc])⟩
          case measure => simp [intOf]; omega
        · have hke : k = dp.toNat - ds.length := by omega
          go_wp2
          go_ret
          refine ⟨_, rfl, I.cast ?_⟩
          unfold textF
          rw [hke, if_neg (show ¬ dp ≤ 0 by omega), if_neg (show ¬ dp < ds.length by omega)]
          simp
set_option maxRecDepth 100000 in
set_option maxHeartbeats 2000000 in
theorem efgFcN (B b : Nat) (dc : Array Value) (w0 w : World) (v : Value) (ds : List Int) (dp : Int)
    (I : Inv B [(b, dc)] w0 w v []) (hdc : ∀ i : Nat, i < ds.length → dc[i]? = some (.int .u8 (ds.getD i 0))) (hn : 1 ≤ ds.length) (hn1 : (ds.length : Int) ≤ dp) (he1 : dp ≤ 6) :
    Calls Tryz.prog 62 #[v, .bool true, .slice (some ⟨b, 0, none⟩) 32 32, .int .i64 dp, .int .i64 ds.length, .int .i64 ds.length, .int .u8 103, .bool true] w fun e w' =>
      ∃ v', e = .returned v' ∧ Inv B [(b, dc)] w0 w' v' (textF true ds dp) := by
  have HD := Lib.hid hdc
  clear hdc
  have hdp : decide (0 < dp) = true := by simp; omega
  go_enter Tryz.func62, Tryz.ntmps62
  go_wp2_with (at_builtin; refine app1 rfl (.tmp 179) _ rfl I rfl _ rfl (by simp) ?_; clear I; intro v1 w1 I; refine Hid.out ?_)
  refine Lib.hid ?_
  go_wp2
  go_loopw [0, 191] (fun v1 i wr => ∃ k : Nat, k ≤ ds.length ∧ i = .int .i64 k ∧ Inv B [(b, dc)] w0 wr v1 ([] ++ [45] ++ ds.take k)) (fun _ i _ => ds.length - (intOf i).toNat)
  case atStart => exact ⟨0, Nat.zero_le _, rfl, I.cast (by simp)⟩
  case round =>
    clear I
    obtain ⟨k, hk, rfl, I⟩ := hrel
    by_cases hlt : k < ds.length
    · obtain ⟨dk, hdk⟩ : ∃ dk, ds.getD k 0 = dk := ⟨_, rfl⟩
      have ck : wr.cell? ⟨b, k, none⟩ = some (.int .u8 dk) := by rw [← hdk]; exact I.dig HD.out k hlt
      have HS := Lib.hid (take_snoc ds k dk hdk hlt)
      clear hdk
      go_wp2_with (at_builtin; refine app1 rfl (.tmp 195) _ rfl I rfl _ rfl (by simp; omega) ?_; clear I; intro v1 w1 I)
      go_roundw
      case rel => exact ⟨k + 1, by omega, by go_num, I.cast (by rw [HS.out, List.append_assoc])⟩
      case measure => simp [intOf]; omega
    · have hke : k = ds.length := by omega
      subst hke
      go_wp2
      go_loopw [0, 203] (fun v1 i wr => ∃ k : Nat, k ≤ dp.toNat - ds.length ∧ i = .int .i64 k ∧ Inv B [(b, dc)] w0 wr v1 ([] ++ [45] ++ ds.take ds.length ++ List.replicate k 48)) (fun _ i _ => (dp.toNat - ds.length) - (intOf i).toNat)
      case atStart => exact ⟨0, Nat.zero_le _, rfl, I.cast (by simp)⟩
      case round =>
        clear I
        obtain ⟨k, hk, rfl, I⟩ := hrel
        by_cases hlt : (k : Int) < dp - ds.length
        · go_wp2_with (at_builtin; refine app1 rfl (.tmp 205) _ rfl I rfl _ rfl (by simp; omega) ?_; clear I; intro v1 w1 I)
          go_roundw
          case rel => exact ⟨k + 1, by omega, by go_num, I.cast (by rw [List.replicate_succ', List.append_assoc])⟩
          case measure => simp [intOf]; omega
        · have hke : k = dp.toNat - ds.length := by omega
          go_wp2
          go_ret
          refine ⟨_, rfl, I.cast ?_⟩
          unfold textF
          rw [hke, if_neg (show ¬ dp ≤ 0 by omega), if_neg (show ¬ dp < ds.length by omega)]
          simp
set_option maxRecDepth 100000 in
set_option maxHeartbeats 2000000 in
theorem efgFbP (B b : Nat) (dc : Array Value) (w0 w : World) (v : Value) (ds : List Int) (dp : Int)
    (I : Inv B [(b, dc)] w0 w v []) (hdc : ∀ i : Nat, i < ds.length → dc[i]? = some (.int .u8 (ds.getD i 0))) (hn0 : 1 ≤ dp) (hn : dp < ds.length) (hn1 : dp ≤ 6) (hd1 : ds.length ≤ 20) :
    Calls Tryz.prog 62 #[v, .bool false, .slice (some ⟨b, 0, none⟩) 32 32, .int .i64 dp, .int .i64 ds.length, .int .i64 ds.length, .int .u8 103, .bool true] w fun e w' =>
      ∃ v', e = .returned v' ∧ Inv B [(b, dc)] w0 w' v' (textF false ds dp) := by
  have HD := Lib.hid hdc
  clear hdc
  have hdp : decide (0 < dp) = true := by simp; omega
  go_enter Tryz.func62, Tryz.ntmps62
  go_wp2
  go_loopw [0, 191] (fun v1 i wr => ∃ k : Nat, k ≤ dp.toNat ∧ i = .int .i64 k ∧ Inv B [(b, dc)] w0 wr v1 ([] ++ ds.take k)) (fun _ i _ => dp.toNat - (intOf i).toNat)
  case atStart => exact ⟨0, Nat.zero_le _, rfl, I.cast (by simp)⟩
  case round =>
    clear I
    obtain ⟨k, hk, rfl, I⟩ := hrel
    by_cases hlt : (k : Int) < dp
    · obtain ⟨dk, hdk⟩ : ∃ dk, ds.getD k 0 = dk := ⟨_, rfl⟩
      have ck : wr.cell? ⟨b, k, none⟩ = some (.int .u8 dk) := by rw [← hdk]; exact I.dig HD.out k (by omega)
      have HS := Lib.hid (take_snoc ds k dk hdk (by omega))
      clear hdk
      go_wp2_with (at_builtin; refine app1 rfl (.tmp 195) _ rfl I rfl _ rfl (by simp; omega) ?_; clear I; intro v1 w1 I)
      go_roundw
      case rel => exact ⟨k + 1, by omega, by go_num, I.cast (by rw [HS.out, List.append_assoc])⟩
      case measure => simp [intOf]; omega
    · have hke : (k : Int) = dp := by omega
      have HK := Lib.hid hke
      have hk2 : ¬ (k : Int) < dp := hlt
      clear hke
      go_wp2
      refine wp_loop_rounds 1 ?_
      rw [rounds_succ]
      go_wp2_with (at_builtin; refine app1 rfl (.tmp 214) _ rfl I rfl _ rfl (by simp; omega) ?_; clear I; intro v1 w1 I)
      refine wp_loop_rounds 1 ?_
      rw [rounds_succ]
      go_wp2
      go_loopw [0, 247] (fun v1 i wr => ∃ j : Nat, j ≤ ds.length - k ∧ i = .int .i64 j ∧ Inv B [(b, dc)] w0 wr v1 ([] ++ ds.take k ++ [46] ++ (ds.drop k).take j)) (fun _ i _ => (ds.length - k) - (intOf i).toNat)
      case atStart => exact ⟨0, Nat.zero_le _, rfl, I.cast (by simp)⟩
      case round =>
        clear I
        obtain ⟨j, hj, rfl, I⟩ := hrel
        by_cases hlt2 : (j : Int) < ds.length - k
        · obtain ⟨dj, hdj⟩ : ∃ dj, ds.getD (k + j) 0 = dj := ⟨_, rfl⟩
          have cj : wr.cell? ⟨b, (dp + min (max (↑ds.length - dp) 0) (max 0 (-dp)) + ↑j).toNat, none⟩ = some (.int .u8 dj) := by
            rw [← hdj, show (dp + min (max (↑ds.length - dp) 0) (max 0 (-dp)) + ↑j).toNat = k + j by have := HK.out; omega]; exact I.dig HD.out (k + j) (by omega)
          have HS := Lib.hid (drop_snoc ds (k) j dj hdj (by omega))
          clear hdj
          have hlt3 : (j : Int) < min (max (↑ds.length - dp) 0 - min (max (↑ds.length - dp) 0) (max 0 (-dp))) (max 0 (↑ds.length - (dp + min (max (↑ds.length - dp) 0) (max 0 (-dp))))) := by have := HK.out; omega
          go_wp2_with (at_builtin; refine app1 rfl (.tmp 250) _ rfl I rfl _ rfl (by simp; omega) ?_; clear I; intro v1 w1 I)
          go_roundw
          case rel => exact ⟨j + 1, by omega, by go_num, I.cast (by rw [HS.out, List.append_assoc])⟩
          case measure => simp [intOf]; omega
        · have hje : j = ds.length - k := by omega
          have HJ := Lib.hid hje
          have hlt3 : ¬ (j : Int) < min (max (↑ds.length - dp) 0 - min (max (↑ds.length - dp) 0) (max 0 (-dp))) (max 0 (↑ds.length - (dp + min (max (↑ds.length - dp) 0) (max 0 (-dp))))) := by have := HK.out; omega
          clear hje
          go_wp2
          refine wp_loop_rounds 1 ?_
          rw [rounds_succ]
          go_wp2
          go_ret
          refine ⟨_, rfl, I.cast ?_⟩
          unfold textF
          rw [HJ.out, if_neg (show ¬ dp ≤ 0 by omega), if_pos hn, ← HK.out, List.take_of_length_le (l := List.drop k ds) (by simp)]
          simp
set_option maxRecDepth 100000 in
set_option maxHeartbeats 2000000 in
theorem efgFbN (B b : Nat) (dc : Array Value) (w0 w : World) (v : Value) (ds : List Int) (dp : Int)
    (I : Inv B [(b, dc)] w0 w v []) (hdc : ∀ i : Nat, i < ds.length → dc[i]? = some (.int .u8 (ds.getD i 0))) (hn0 : 1 ≤ dp) (hn : dp < ds.length) (hn1 : dp ≤ 6) (hd1 : ds.length ≤ 20) :
    Calls Tryz.prog 62 #[v, .bool true, .slice (some ⟨b, 0, none⟩) 32 32, .int .i64 dp, .int .i64 ds.length, .int .i64 ds.length, .int .u8 103, .bool true] w fun e w' =>
      ∃ v', e = .returned v' ∧ Inv B [(b, dc)] w0 w' v' (textF true ds dp) := by
  have HD := Lib.hid hdc
  clear hdc
  have hdp : decide (0 < dp) = true := by simp; omega
  go_enter Tryz.func62, Tryz.ntmps62
  go_wp2_with (at_builtin; refine app1 rfl (.tmp 179) _ rfl I rfl _ rfl (by simp) ?_; clear I; intro v1 w1 I; refine Hid.out ?_)
  refine Lib.hid ?_
  go_wp2
  go_loopw [0, 191] (fun v1 i wr => ∃ k : Nat, k ≤ dp.toNat ∧ i = .int .i64 k ∧ Inv B [(b, dc)] w0 wr v1 ([] ++ [45] ++ ds.take k)) (fun _ i _ => dp.toNat - (intOf i).toNat)
  case atStart => exact ⟨0, Nat.zero_le _, rfl, I.cast (by simp)⟩
  case round =>
    clear I
    obtain ⟨k, hk, rfl, I⟩ := hrel
    by_cases hlt : (k : Int) < dp
    · obtain ⟨dk, hdk⟩ : ∃ dk, ds.getD k 0 = dk := ⟨_, rfl⟩
      have ck : wr.cell? ⟨b, k, none⟩ = some (.int .u8 dk) := by rw [← hdk]; exact I.dig HD.out k (by omega)
      have HS := Lib.hid (take_snoc ds k dk hdk (by omega))
      clear hdk
      go_wp2_with (at_builtin; refine app1 rfl (.tmp 195) _ rfl I rfl _ rfl (by simp; omega) ?_; clear I; intro v1 w1 I)
      go_roundw
      case rel => exact ⟨k + 1, by omega, by go_num, I.cast (by rw [HS.out, List.append_assoc])⟩
      case measure => simp [intOf]; omega
    · have hke : (k : Int) = dp := by omega
      have HK := Lib.hid hke
      have hk2 : ¬ (k : Int) < dp := hlt
      clear hke
      go_wp2
      refine wp_loop_rounds 1 ?_
      rw [rounds_succ]
      go_wp2_with (at_builtin; refine app1 rfl (.tmp 214) _ rfl I rfl _ rfl (by simp; omega) ?_; clear I; intro v1 w1 I)
      refine wp_loop_rounds 1 ?_
      rw [rounds_succ]
      go_wp2
      go_loopw [0, 247] (fun v1 i wr => ∃ j : Nat, j ≤ ds.length - k ∧ i = .int .i64 j ∧ Inv B [(b, dc)] w0 wr v1 ([] ++ [45] ++ ds.take k ++ [46] ++ (ds.drop k).take j)) (fun _ i _ => (ds.length - k) - (intOf i).toNat)
      case atStart => exact ⟨0, Nat.zero_le _, rfl, I.cast (by simp)⟩
      case round =>
        clear I
        obtain ⟨j, hj, rfl, I⟩ := hrel
        by_cases hlt2 : (j : Int) < ds.length - k
        · obtain ⟨dj, hdj⟩ : ∃ dj, ds.getD (k + j) 0 = dj := ⟨_, rfl⟩
          have cj : wr.cell? ⟨b, (dp + min (max (↑ds.length - dp) 0) (max 0 (-dp)) + ↑j).toNat, none⟩ = some (.int .u8 dj) := by
            rw [← hdj, show (dp + min (max (↑ds.length - dp) 0) (max 0 (-dp)) + ↑j).toNat = k + j by have := HK.out; omega]; exact I.dig HD.out (k + j) (by omega)
          have HS := Lib.hid (drop_snoc ds (k) j dj hdj (by omega))
          clear hdj
          have hlt3 : (j : Int) < min (max (↑ds.length - dp) 0 - min (max (↑ds.length - dp) 0) (max 0 (-dp))) (max 0 (↑ds.length - (dp + min (max (↑ds.length - dp) 0) (max 0 (-dp))))) := by have := HK.out; omega
          go_wp2_with (at_builtin; refine app1 rfl (.tmp 250) _ rfl I rfl _ rfl (by simp; omega) ?_; clear I; intro v1 w1 I)
          go_roundw
          case rel => exact ⟨j + 1, by omega, by go_num, I.cast (by rw [HS.out, List.append_assoc])⟩
          case measure => simp [intOf]; omega
        · have hje : j = ds.length - k := by omega
          have HJ := Lib.hid hje
          have hlt3 : ¬ (j : Int) < min (max (↑ds.length - dp) 0 - min (max (↑ds.length - dp) 0) (max 0 (-dp))) (max 0 (↑ds.length - (dp + min (max (↑ds.length - dp) 0) (max 0 (-dp))))) := by have := HK.out; omega
          clear hje
          go_wp2
          refine wp_loop_rounds 1 ?_
          rw [rounds_succ]
          go_wp2
          go_ret
          refine ⟨_, rfl, I.cast ?_⟩
          unfold textF
          rw [HJ.out, if_neg (show ¬ dp ≤ 0 by omega), if_pos hn, ← HK.out, List.take_of_length_le (l := List.drop k ds) (by simp)]
          simp
set_option maxRecDepth 100000 in
set_option maxHeartbeats 2000000 in
theorem efgFaP (B b : Nat) (dc : Array Value) (w0 w : World) (v : Value) (ds : List Int) (dp : Int)
    (I : Inv B [(b, dc)] w0 w v []) (hdc : ∀ i : Nat, i < ds.length → dc[i]? = some (.int .u8 (ds.getD i 0))) (hn0 : -3 ≤ dp) (hn1 : dp ≤ 0) (hd0 : 1 ≤ ds.length) (hd1 : ds.length ≤ 20) :
    Calls Tryz.prog 62 #[v, .bool false, .slice (some ⟨b, 0, none⟩) 32 32, .int .i64 dp, .int .i64 ds.length, .int .i64 ds.length, .int .u8 103, .bool true] w fun e w' =>
      ∃ v', e = .returned v' ∧ Inv B [(b, dc)] w0 w' v' (textF false ds dp) := by
  have HD := Lib.hid hdc
  clear hdc
  have hdp : decide (0 < dp) = false := by simp; omega
  have hpp : decide (0 < max (↑ds.length - dp) 0) = true := by simp; omega
  go_enter Tryz.func62, Tryz.ntmps62
  go_wp2_with (at_builtin; refine app1 rfl (.tmp 209) _ rfl I rfl _ rfl (by simp) ?_; clear I; intro v1 w1 I; refine Hid.out ?_)
  refine Lib.hid ?_
  go_wp2_with (at_builtin; refine app1 rfl (.tmp 214) _ rfl I rfl _ rfl (by simp) ?_; clear I; intro v1 w1 I; refine Hid.out ?_)
  refine Lib.hid ?_
  go_wp2
  go_loopw [0, 240] (fun v1 i wr => ∃ k : Nat, k ≤ (-dp).toNat ∧ i = .int .i64 k ∧ Inv B [(b, dc)] w0 wr v1 ([] ++ [48] ++ [46] ++ List.replicate k 48)) (fun _ i _ => (-dp).toNat - (intOf i).toNat)
  case atStart => exact ⟨0, Nat.zero_le _, rfl, I.cast (by simp)⟩
  case round =>
    clear I
    obtain ⟨k, hk, rfl, I⟩ := hrel
    by_cases hlt : (k : Int) < -dp
    · have hlt4 : (k : Int) < min (max (↑ds.length - dp) 0) (max 0 (-dp)) := by omega
      go_wp2_with (at_builtin; refine app1 rfl (.tmp 242) _ rfl I rfl _ rfl (by simp; omega) ?_; clear I; intro v1 w1 I)
      go_roundw
      case rel => exact ⟨k + 1, by omega, by go_num, I.cast (by rw [List.replicate_succ', List.append_assoc])⟩
      case measure => simp [intOf]; omega
    · have hke : k = (-dp).toNat := by omega
      have HK := Lib.hid hke
      have hlt4 : ¬ (k : Int) < min (max (↑ds.length - dp) 0) (max 0 (-dp)) := by omega
      clear hke
      go_wp2
      go_loopw [0, 247] (fun v1 i wr => ∃ j : Nat, j ≤ ds.length - 0 ∧ i = .int .i64 j ∧ Inv B [(b, dc)] w0 wr v1 ([] ++ [48] ++ [46] ++ List.replicate k 48 ++ (ds.drop 0).take j)) (fun _ i _ => (ds.length - 0) - (intOf i).toNat)
      case atStart => exact ⟨0, Nat.zero_le _, rfl, I.cast (by simp)⟩
      case round =>
        clear I
        obtain ⟨j, hj, rfl, I⟩ := hrel
        by_cases hlt2 : (j : Int) < ds.length - 0
        · obtain ⟨dj, hdj⟩ : ∃ dj, ds.getD (0 + j) 0 = dj := ⟨_, rfl⟩
          have cj : wr.cell? ⟨b, (dp + min (max (↑ds.length - dp) 0) (max 0 (-dp)) + ↑j).toNat, none⟩ = some (.int .u8 dj) := by
            rw [← hdj, show (dp + min (max (↑ds.length - dp) 0) (max 0 (-dp)) + ↑j).toNat = 0 + j by omega]; exact I.dig HD.out (0 + j) (by omega)
          have HS := Lib.hid (drop_snoc ds (0) j dj hdj (by omega))
          clear hdj
          have hlt3 : (j : Int) < min (max (↑ds.length - dp) 0 - min (max (↑ds.length - dp) 0) (max 0 (-dp))) (max 0 (↑ds.length - (dp + min (max (↑ds.length - dp) 0) (max 0 (-dp))))) := by omega
          go_wp2_with (at_builtin; refine app1 rfl (.tmp 250) _ rfl I rfl _ rfl (by simp; omega) ?_; clear I; intro v1 w1 I)
          go_roundw
          case rel => exact ⟨j + 1, by omega, by go_num, I.cast (by rw [HS.out, List.append_assoc])⟩
          case measure => simp [intOf]; omega
        · have hje : j = ds.length - 0 := by omega
          have HJ := Lib.hid hje
          have hlt3 : ¬ (j : Int) < min (max (↑ds.length - dp) 0 - min (max (↑ds.length - dp) 0) (max 0 (-dp))) (max 0 (↑ds.length - (dp + min (max (↑ds.length - dp) 0) (max 0 (-dp))))) := by omega
          clear hje
          go_wp2
          refine wp_loop_rounds 1 ?_
          rw [rounds_succ]
          go_wp2
          go_ret
          refine ⟨_, rfl, I.cast ?_⟩
          unfold textF
          rw [HJ.out, if_pos hn1, ← HK.out]
          simp
set_option maxRecDepth 100000 in
set_option maxHeartbeats 2000000 in
theorem efgFaN (B b : Nat) (dc : Array Value) (w0 w : World) (v : Value) (ds : List Int) (dp : Int)
    (I : Inv B [(b, dc)] w0 w v []) (hdc : ∀ i : Nat, i < ds.length → dc[i]? = some (.int .u8 (ds.getD i 0))) (hn0 : -3 ≤ dp) (hn1 : dp ≤ 0) (hd0 : 1 ≤ ds.length) (hd1 : ds.length ≤ 20) :
    Calls Tryz.prog 62 #[v, .bool true, .slice (some ⟨b, 0, none⟩) 32 32, .int .i64 dp, .int .i64 ds.length, .int .i64 ds.length, .int .u8 103, .bool true] w fun e w' =>
      ∃ v', e = .returned v' ∧ Inv B [(b, dc)] w0 w' v' (textF true ds dp) := by
  have HD := Lib.hid hdc
  clear hdc
  have hdp : decide (0 < dp) = false := by simp; omega
  have hpp : decide (0 < max (↑ds.length - dp) 0) = true := by simp; omega
  go_enter Tryz.func62, Tryz.ntmps62
  go_wp2_with (at_builtin; refine app1 rfl (.tmp 179) _ rfl I rfl _ rfl (by simp) ?_; clear I; intro v1 w1 I; refine Hid.out ?_)
  refine Lib.hid ?_
  go_wp2_with (at_builtin; refine app1 rfl (.tmp 209) _ rfl I rfl _ rfl (by simp) ?_; clear I; intro v1 w1 I; refine Hid.out ?_)
  refine Lib.hid ?_
  go_wp2_with (at_builtin; refine app1 rfl (.tmp 214) _ rfl I rfl _ rfl (by simp) ?_; clear I; intro v1 w1 I; refine Hid.out ?_)
  refine Lib.hid ?_
  go_wp2
  go_loopw [0, 240] (fun v1 i wr => ∃ k : Nat, k ≤ (-dp).toNat ∧ i = .int .i64 k ∧ Inv B [(b, dc)] w0 wr v1 ([] ++ [45] ++ [48] ++ [46] ++ List.replicate k 48)) (fun _ i _ => (-dp).toNat - (intOf i).toNat)
  case atStart => exact ⟨0, Nat.zero_le _, rfl, I.cast (by simp)⟩
  case round =>
    clear I
    obtain ⟨k, hk, rfl, I⟩ := hrel
    by_cases hlt : (k : Int) < -dp
    · have hlt4 : (k : Int) < min (max (↑ds.length - dp) 0) (max 0 (-dp)) := by omega
      go_wp2_with (at_builtin; refine app1 rfl (.tmp 242) _ rfl I rfl _ rfl (by simp; omega) ?_; clear I; intro v1 w1 I)
      go_roundw
      case rel => exact ⟨k + 1, by omega, by go_num, I.cast (by rw [List.replicate_succ', List.append_assoc])⟩
      case measure => simp [intOf]; omega
    · have hke : k = (-dp).toNat := by omega
      have HK := Lib.hid hke
      have hlt4 : ¬ (k : Int) < min (max (↑ds.length - dp) 0) (max 0 (-dp)) := by omega
      clear hke
      go_wp2
      go_loopw [0, 247] (fun v1 i wr => ∃ j : Nat, j ≤ ds.length - 0 ∧ i = .int .i64 j ∧ Inv B [(b, dc)] w0 wr v1 ([] ++ [45] ++ [48] ++ [46] ++ List.replicate k 48 ++ (ds.drop 0).take j)) (fun _ i _ => (ds.length - 0) - (intOf i).toNat)
      case atStart => exact ⟨0, Nat.zero_le _, rfl, I.cast (by simp)⟩
      case round =>
        clear I
        obtain ⟨j, hj, rfl, I⟩ := hrel
        by_cases hlt2 : (j : Int) < ds.length - 0
        · obtain ⟨dj, hdj⟩ : ∃ dj, ds.getD (0 + j) 0 = dj := ⟨_, rfl⟩
          have cj : wr.cell? ⟨b, (dp + min (max (↑ds.length - dp) 0) (max 0 (-dp)) + ↑j).toNat, none⟩ = some (.int .u8 dj) := by
            rw [← hdj, show (dp + min (max (↑ds.length - dp) 0) (max 0 (-dp)) + ↑j).toNat = 0 + j by omega]; exact I.dig HD.out (0 + j) (by omega)
          have HS := Lib.hid (drop_snoc ds (0) j dj hdj (by omega))
          clear hdj
          have hlt3 : (j : Int) < min (max (↑ds.length - dp) 0 - min (max (↑ds.length - dp) 0) (max 0 (-dp))) (max 0 (↑ds.length - (dp + min (max (↑ds.length - dp) 0) (max 0 (-dp))))) := by omega
          go_wp2_with (at_builtin; refine app1 rfl (.tmp 250) _ rfl I rfl _ rfl (by simp; omega) ?_; clear I; intro v1 w1 I)
          go_roundw
          case rel => exact ⟨j + 1, by omega, by go_num, I.cast (by rw [HS.out, List.append_assoc])⟩
          case measure => simp [intOf]; omega
        · have hje : j = ds.length - 0 := by omega
          have HJ := Lib.hid hje
          have hlt3 : ¬ (j : Int) < min (max (↑ds.length - dp) 0 - min (max (↑ds.length - dp) 0) (max 0 (-dp))) (max 0 (↑ds.length - (dp + min (max (↑ds.length - dp) 0) (max 0 (-dp))))) := by omega
          clear hje
          go_wp2
          refine wp_loop_rounds 1 ?_
          rw [rounds_succ]
          go_wp2
          go_ret
          refine ⟨_, rfl, I.cast ?_⟩
          unfold textF
          rw [HJ.out, if_pos hn1, ← HK.out]
          simp
end Go.Proofs.YthmnmkolekgjoaaGreatDoor
