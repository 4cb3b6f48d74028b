/- The document's own complete nets and nets of two sides (carried from the maker seat). -/
import Derived.Test.YtaebbfilgfkckaaKC7
import Derived.Test.YtaebbfilgfkckaaNC
import Derived.Test.YtaebbfilgfkckaaT4
import Derived.Test.YtaebbfilgfkckaaL1
namespace Go.Proofs.Ytaebbfilgfkckaa
open Go.RowKit Go.Sort
open Go

/-- A net that a call answers, with its error: its edges are memory of its own. -/
def Made (w : World) (n : Int) (es : List Pt) (err : Int) (e : Ending) (w' : World) : Prop :=
  Below w.heap.size w w' ∧ ∃ p c, e = .returned (.tuple #[nv n p es.length c, .int .i64 err]) ∧ Owns w' w.heap.size (.slice p es.length c) es
/-- A box of a net, empty, as a call's result. -/
theorem one_box (w : World) : ∃ W, W = w.alloc (nbx 0 none 0 0) ∧ Below w.heap.size w W ∧ NOwn W w.heap.size 0 none 0 0 ∧ W.heap.size = w.heap.size + 1 :=
  ⟨_, rfl, by go_grown, ⟨by unfold nbx; go_cell, by unfold nbx; go_cell, by unfold nbx; go_cell, by unfold nbx; go_cell⟩, by simp⟩
structure Out where
  n : Int
  es : List Pt
  err : Int
def Out.made (o : Out) (w : World) (e : Ending) (w' : World) : Prop := Made w o.n o.es o.err e w'
def fullRow (u m : Nat) : List Pt := (List.range m).map fun (k : Nat) => ⟨u, u + 1 + k⟩
def fullL (n u : Nat) : List Pt := (List.range u).flatMap fun i => fullRow i (n - i - 1)
theorem fullRow_length (u m : Nat) : (fullRow u m).length = m := by simp [fullRow]
theorem fullRow_more (u m : Nat) : fullRow u (m + 1) = fullRow u m ++ [⟨u, u + 1 + m⟩] := by simp [fullRow, List.range_succ]
theorem fullL_more (n u : Nat) : fullL n (u + 1) = fullL n u ++ fullRow u (n - u - 1) := by simp [fullL, List.range_succ]
theorem fullL_length (n u : Nat) (h : n ≤ 79) : (fullL n u).length ≤ u * 79 := by
  induction u with
  | zero => simp [fullL]
  | succ k ih => rw [fullL_more, List.length_append, fullRow_length]; omega
def twoRow (a u m : Nat) : List Pt := (List.range m).map fun (k : Nat) => ⟨u, a + k⟩
def twoL (a b u : Nat) : List Pt := (List.range u).flatMap fun i => twoRow a i b
theorem twoRow_length (a u m : Nat) : (twoRow a u m).length = m := by simp [twoRow]
theorem twoRow_more (a u m : Nat) : twoRow a u (m + 1) = twoRow a u m ++ [⟨u, a + m⟩] := by simp [twoRow, List.range_succ]
theorem twoL_more (a b u : Nat) : twoL a b (u + 1) = twoL a b u ++ twoRow a u b := by simp [twoL, List.range_succ]
theorem twoL_length (a b u : Nat) : (twoL a b u).length = u * b := by
  induction u with
  | zero => simp [twoL]
  | succ k ih => rw [twoL_more, List.length_append, twoRow_length, ih, Nat.succ_mul]
def madeO (n : Int) (es : List Pt) : Out := if netB n es then ⟨n, es, 0⟩ else ⟨0, [], 3⟩
def MadePost (n : Int) (p : Option Addr) (es : List Pt) (cap : Nat) (e : Ending) : Prop :=
  (netB n es = true ∧ e = .returned (.tuple #[nv n p es.length cap, .int .i64 0])) ∨ (netB n es = false ∧ e = .returned (.tuple #[nv 0 none 0 0, .int .i64 3]))
theorem two_boxes (w : World) (n : Int) (p : Option Addr) (l c : Nat) : ∃ W, W = (w.alloc (nbx 0 none 0 0)).alloc (nbx n p l c) ∧ Below w.heap.size w W ∧ NOwn W w.heap.size 0 none 0 0 ∧ NOwn W (w.heap.size + 1) n p l c :=
  ⟨_, rfl, by go_grown, ⟨by unfold nbx; go_cell, by unfold nbx; go_cell, by unfold nbx; go_cell, by unfold nbx; go_cell⟩, by unfold nbx; go_cell, by unfold nbx; go_cell, by unfold nbx; go_cell, by unfold nbx; go_cell⟩
set_option maxRecDepth 100000 in
set_option maxHeartbeats 4000000 in
theorem made22 (n : Int) (p : Option Addr) (es : List Pt) (cap : Nat) (w : World) (h : Has w p es) : Calls Try.prog 49 #[.int .i64 n, .slice p es.length cap] w fun e w' => MadePost n p es cap e ∧ Below w.heap.size w w' := by
  obtain ⟨W, hW, hb, a0, b0⟩ := two_boxes w n p es.length cap
  have M := hide (may12 n p es cap W (h.later hb))
  have HB := hide hb
  have HA := hide a0
  have HN := hide b0
  clear h hb a0 b0
  obtain ⟨q0, q1, _, _⟩ := HN.out
  cases hm : netB n es
  · rw [hm] at M
    go_enter Try.func49, Try.ntmps49
    go_wp2_with fail
    rw [← hW]
    clear hW
    refine M.out.mono ?_
    rintro e w1 ⟨rfl, hb1⟩
    have HA1 := hide (HA.out.later hb1)
    have HB1 := hide (below_step HB.out hb1)
    clear hb1 q0 q1
    obtain ⟨r0, r1, r2, r3⟩ := HA1.out
    go_wp2
    refine bodyPost_ret (ret_net Try.results49 rfl rfl (HA1.out.set 0 none 0 0)) rfl ⟨Or.inr ⟨hm, rfl⟩, ?_⟩
    exact (HB1.out.setCell (by simp) _).setCell (by simp) _
  · rw [hm] at M
    go_enter Try.func49, Try.ntmps49
    go_wp2_with fail
    rw [← hW]
    clear hW
    refine M.out.mono ?_
    rintro e w1 ⟨rfl, hb1⟩
    have HA1 := hide (HA.out.later hb1)
    have HN1 := hide (HN.out.later hb1)
    have HB1 := hide (below_step HB.out hb1)
    clear hb1 q0 q1
    obtain ⟨r0, r1, r2, r3⟩ := HA1.out
    obtain ⟨q0, q1, _, _⟩ := HN1.out
    go_wp2
    refine bodyPost_ret (ret_net Try.results49 rfl rfl (HA1.out.set n p es.length cap)) rfl ⟨Or.inl ⟨hm, rfl⟩, ?_⟩
    exact (HB1.out.setCell (by simp) _).setCell (by simp) _
theorem too21 (k : Nat) (x : Int) (w : World) (h : w.cell? ⟨k, 0, none⟩ = some (.int .i64 x)) : Calls Try.prog 48 #[.slice (some ⟨k, 0, none⟩) 1 1] w fun e w' => e = .returned (.bool (decide (4096 < x))) ∧ w' = w := by
  by_cases hx : 4096 < x
  · go_enter Try.func48, Try.ntmps48
    go_wp2_with fail
    go_loopw [3] (fun t wr => t = .int .i64 0 ∧ wr = w) (fun _ _ => 0)
    case atStart => exact ⟨rfl, rfl⟩
    case round =>
      obtain ⟨rfl, rfl⟩ := hrel
      go_wp2
      go_ret
      exact ⟨retB (by simp [hx]), rfl⟩
  · have hx' : ¬ 4096 < x := hx
    go_enter Try.func48, Try.ntmps48
    go_wp2_with fail
    go_loopw [3] (fun t wr => ∃ i : Nat, i ≤ 1 ∧ t = .int .i64 i ∧ wr = w) (fun t _ => 1 - (intOf t).toNat)
    case atStart => exact ⟨0, by omega, rfl, rfl⟩
    case round =>
      obtain ⟨i, hi, rfl, rfl⟩ := hrel
      have h2 : i = 0 ∨ i = 1 := by omega
      rcases h2 with rfl | rfl
      · go_wp2
        go_roundw
        case rel => exact ⟨1, by omega, by go_num, trivial⟩
        case measure => simp [intOf]
      · go_wp2
        go_ret
        exact ⟨retB (by simp [hx]), rfl⟩
/-- What a net that is made ends in: the result's box takes it. -/
theorem end_made {w wr w1 : World} {B : Nat} {n : Int} {es : List Pt} {p : Option Addr} {c : Nat} {e : Ending} (hB : w.heap.size < B) (HN : NOwn wr w.heap.size 0 none 0 0) (HO : Owns wr B (.slice p es.length c) es) (HB : Below w.heap.size w wr) (hm : MadePost n p es c e) (hb : Below wr.heap.size wr w1) :
    ∃ N q len k err, e = .returned (.tuple #[nv N q len k, .int .i64 err]) ∧ NOwn w1 w.heap.size 0 none 0 0 ∧ NOwn ((w1.setCell ⟨w.heap.size, 0, none⟩ (.int .i64 N)).setCell ⟨w.heap.size, 1, none⟩ (.slice q len k)) w.heap.size N q len k ∧ (madeO n es).made w (.returned (.tuple #[nv N q len k, .int .i64 err])) ((w1.setCell ⟨w.heap.size, 0, none⟩ (.int .i64 N)).setCell ⟨w.heap.size, 1, none⟩ (.slice q len k)) := by
  have hN1 := HN.later hb
  have hB1 := below_step HB hb
  have hO1 := HO.later hb
  rcases hm with ⟨h1, h2⟩ | ⟨h1, h2⟩
  · refine ⟨n, p, es.length, c, 0, h2, hN1, hN1.set _ _ _ _, ?_⟩
    unfold madeO
    rw [if_pos h1]
    exact ⟨(hB1.setCell (by simp) _).setCell (by simp) _, p, c, rfl, (owns_other (owns_other hO1 hB _) hB _).base (by omega)⟩
  · refine ⟨0, none, 0, 0, 3, h2, hN1, hN1.set _ _ _ _, ?_⟩
    unfold madeO
    rw [if_neg (by simp [h1])]
    exact ⟨(hB1.setCell (by simp) _).setCell (by simp) _, none, 0, rfl, Owns.nil _ _⟩
set_option maxRecDepth 100000 in
set_option maxHeartbeats 4000000 in
theorem complete24ok (n : Nat) (w : World) (h1 : 1 ≤ n) (h2 : n ≤ 79) : Calls Try.prog 51 #[.int .i64 n] w fun e w' => (madeO n (fullL n n)).made w e w' := by
  obtain ⟨W, hW, hb, hN, hsz⟩ := one_box w
  have HB := hide hb
  have HN := hide hN
  have hlt0 : w.heap.size < W.heap.size := by rw [hsz]; omega
  clear hb hN hsz
  go_enter Try.func51, Try.ntmps51
  go_wp2_with fail
  rw [← hW]
  clear hW
  go_loopw [4, 5] (fun s t wr => ∃ u : Nat, u ≤ n ∧ t = .int .i64 u ∧ Hid (Below W.heap.size W wr) ∧ Hid (Owns wr W.heap.size s (fullL n u))) (fun _ t _ => n - (intOf t).toNat)
  case atStart => exact ⟨0, by omega, rfl, Below.refl _ _, Owns.nil _ _⟩
  case round =>
    obtain ⟨u, hi, rfl, HBr, HOr⟩ := hrel
    by_cases hlt : u < n
    · go_wp2_with fail
      go_loopw [4, 6] (fun s t wr => ∃ v : Nat, v ≤ n - u - 1 ∧ t = .int .i64 (u + 1 + v) ∧ Hid (Below W.heap.size W wr) ∧ Hid (Owns wr W.heap.size s (fullL n u ++ fullRow u v))) (fun _ t _ => n - (intOf t).toNat)
      case atStart => exact ⟨0, by omega, by go_num, HBr.out, by show Owns _ _ _ _; rw [show fullRow u 0 = [] from rfl, List.append_nil]; exact HOr.out⟩
      case round =>
        obtain ⟨v, hv, rfl, HBv, HOv⟩ := hrel
        by_cases hv2 : v < n - u - 1
        · obtain ⟨v1, D1, e1, o1, _, b1⟩ := app1 HOv.out (u) (u + 1 + v) (by have := HBv.out.size; omega) (by rw [List.length_append, fullRow_length]; have := fullL_length n u (by omega); omega)
          have HO1 := hide o1
          have HB1 := hide (Below.trans HBv.out b1)
          clear o1 b1
          go_wp2_with (at_builtin; refine wpList_run_append rfl (.tmp 22) (.tmp 26) 22 rfl 22 rfl _ _ v1 D1 rfl rfl e1 ?_)
          go_roundw
          case rel => exact ⟨v + 1, by omega, by go_num, HB1.out, by show Owns _ _ _ _; rw [fullRow_more, ← List.append_assoc]; exact HO1.out⟩
          case measure => simp [intOf]; omega
        · have hin : v = n - u - 1 := by omega
          subst hin
          go_wp2
          go_roundw
          case rel => exact ⟨u + 1, by omega, by go_num, HBv.out, by show Owns _ _ _ _; rw [fullL_more]; exact HOv.out⟩
          case measure => simp [intOf]; omega
    · have hin : u = n := by omega
      subst hin
      obtain ⟨p, c, rfl, hHas, _, _, _⟩ := HOr.out.form
      have M := hide (made22 (u) p (fullL u u) c wr hHas)
      clear hHas
      go_wp2_with fail
      refine M.out.mono ?_
      rintro e w1 ⟨hm, hb1⟩
      obtain ⟨N, q, len, k, err, rfl, hN1, kV, mV⟩ := end_made hlt0 (HN.out.later HBr.out) HOr.out (below_step HB.out HBr.out) hm hb1
      have KV := hide kV
      have MV := hide mV
      clear hm hb1 kV mV M
      obtain ⟨r0, r1, r2, r3⟩ := hN1
      go_wp2
      exact bodyPost_ret (ret_net Try.results51 rfl rfl KV.out) rfl MV.out
set_option maxRecDepth 100000 in
set_option maxHeartbeats 4000000 in
theorem sides25ok (a b m : Nat) (w : World) (h0 : a ≤ 4096) (h1 : b ≤ 4096) (hm : (a : Int) * b = m) (hm0 : a * b = m) (hm1 : m ≤ 3072) : Calls Try.prog 52 #[.int .i64 a, .int .i64 b] w fun e w' => (madeO ((a : Int) + b) (twoL a b a)).made w e w' := by
  have HM := hide hm0
  clear hm0
  obtain ⟨W, hW, hb, hN, hsz⟩ := one_box w
  have HB := hide hb
  have HN := hide hN
  have hlt0 : w.heap.size < W.heap.size := by rw [hsz]; omega
  clear hb hN hsz
  go_enter Try.func52, Try.ntmps52
  go_wp2_with fail
  rw [← hW]
  clear hW hm
  go_loopw [6, 7] (fun s t wr => ∃ u : Nat, u ≤ a ∧ t = .int .i64 u ∧ Hid (Below W.heap.size W wr) ∧ Hid (Owns wr W.heap.size s (twoL a b u))) (fun _ t _ => a - (intOf t).toNat)
  case atStart => exact ⟨0, by omega, rfl, Below.refl _ _, Owns.nil _ _⟩
  case round =>
    obtain ⟨u, hi, rfl, HBr, HOr⟩ := hrel
    by_cases hlt : u < a
    · go_wp2_with fail
      go_loopw [6, 8] (fun s t wr => ∃ v : Nat, v ≤ b ∧ t = .int .i64 v ∧ Hid (Below W.heap.size W wr) ∧ Hid (Owns wr W.heap.size s (twoL a b u ++ twoRow a u v))) (fun _ t _ => b - (intOf t).toNat)
      case atStart => exact ⟨0, by omega, by go_num, HBr.out, by show Owns _ _ _ _; rw [show twoRow a u 0 = [] from rfl, List.append_nil]; exact HOr.out⟩
      case round =>
        obtain ⟨v, hv, rfl, HBv, HOv⟩ := hrel
        by_cases hv2 : v < b
        · obtain ⟨v1, D1, e1, o1, _, b1⟩ := app1 HOv.out (u) (a + v) (by have := HBv.out.size; omega) (by rw [List.length_append, twoRow_length, twoL_length]; have e1 : u * b ≤ a * b := Nat.mul_le_mul_right b (by omega); have e2 := HM.out; omega)
          have HO1 := hide o1
          have HB1 := hide (Below.trans HBv.out b1)
          clear o1 b1
          go_wp2_with (at_builtin; refine wpList_run_append rfl (.tmp 24) (.tmp 30) 22 rfl 22 rfl _ _ v1 D1 rfl rfl e1 ?_)
          go_roundw
          case rel => exact ⟨v + 1, by omega, by go_num, HB1.out, by show Owns _ _ _ _; rw [twoRow_more, ← List.append_assoc]; exact HO1.out⟩
          case measure => simp [intOf]; omega
        · have hin : v = b := by omega
          subst hin
          go_wp2
          go_roundw
          case rel => exact ⟨u + 1, by omega, by go_num, HBv.out, by show Owns _ _ _ _; rw [twoL_more]; exact HOv.out⟩
          case measure => simp [intOf]; omega
    · have hin : u = a := by omega
      subst hin
      obtain ⟨p, c, rfl, hHas, _, _, _⟩ := HOr.out.form
      have M := hide (made22 ((u : Int) + b) p (twoL u b u) c wr hHas)
      clear hHas
      go_wp2_with fail
      refine M.out.mono ?_
      rintro e w1 ⟨hm, hb1⟩
      obtain ⟨N, q, len, k, err, rfl, hN1, kV, mV⟩ := end_made hlt0 (HN.out.later HBr.out) HOr.out (below_step HB.out HBr.out) hm hb1
      have KV := hide kV
      have MV := hide mV
      clear hm hb1 kV mV M
      obtain ⟨r0, r1, r2, r3⟩ := hN1
      go_wp2
      exact bodyPost_ret (ret_net Try.results52 rfl rfl KV.out) rfl MV.out
end Go.Proofs.Ytaebbfilgfkckaa
