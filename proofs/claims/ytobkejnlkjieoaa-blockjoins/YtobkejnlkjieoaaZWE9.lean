/- The closure of slices.Backward, its elements of a kind of their own; the law of a range over a function where the assignment is one move. -/
import Derived.Test.YtobkejnlkjieoaaZC02
import Derived.WalkKit
import Derived.RangeFuncCalls
import Derived.OrdersIn
import Derived.Deep.RegionHeld3
import Derived.Test.YtobkejnlkjieoaaZC08
import Derived.RangeFuncNested
import Derived.RangeFuncBound
import Derived.RangeFuncLeaves
import Derived.Shelf.Abstract
import Derived.Shelf.RegionOpen
import Derived.OwnWalkIn
import Derived.TacticsInMore
import Derived.LoopNIn
import Derived.LoopIn
import Derived.RangeFuncWrites
/- A drawn region within a round of a range over a function: walked as anywhere, where no operation defers. -/
namespace Go.Proofs.Ytobkejnlkjieoaa
open Go.RowKit
open Go

/-- No operation is a defer. -/
def calmOps (ops : Array Oper) : Bool := ops.toList.all fun o => match o.op with
  | .defer _ => false
  | _ => true
theorem calm_at {ops : Array Oper} (h : calmOps ops = true) {i : Nat} {o : Oper} (hi : ops[i]? = some o) : ∀ c, o.op ≠ .defer c := by
  intro c hc
  unfold calmOps at h
  rw [List.all_eq_true] at h
  have hm : o ∈ ops.toList := by
    have := Array.mem_of_getElem? hi
    simpa using this
  have := h o hm
  rw [hc] at this
  simp at this
theorem rows_wide {n l : Nat} {P : Program} {row : String} {args : Array Value} {w : World} {R : Value → World → Prop} (h : Go.Rows P row args w R) : RowsIn (Fence.wide.inRound l) n P row args w R :=
  fun c cs _ => let ⟨v, w', r, s⟩ := h c cs; ⟨v, w', r, stepsIn_wide.2 s⟩
theorem oper_round {n l : Nat} {P : Program} {o : Oper} {a : Act} {w : World} {K : Act → World → Prop} {Q : Exit → Act → World → Prop} (hd : ∀ c, o.op ≠ .defer c) (h : o.wp P a w K Q) : o.wpIn (Fence.wide.inRound l) n P a w K Q := by
  refine ⟨fun _ _ => trivial, ?_⟩
  rw [Oper.semAt_eq _ _ _ hd]
  unfold Oper.wp at h
  generalize (execOp a.eval o).run P w = r at *
  cases r with
  | ok x w' =>
    cases x with
    | value v => exact h
    | skip => exact h
    | defer d => exact h
    | enter f args => exact ⟨fun h => by simp [Fence.inRound, Fence.wide] at h, CallsIn.inRound l (callsIn_wide.2 h)⟩
    | row row args => exact ⟨fun h => by simp [Fence.inRound, Fence.wide] at h, rows_wide h⟩
    | _ => exact h.elim
  | halt x w' => cases x <;> first | exact h | exact h.elim
theorem any_round {n l : Nat} {P : Program} {md : Region.Mode} {ops : Array Oper} {Q : Exit → Act → World → Prop} (hd : calmOps ops = true) (hQ : ¬ LetsOut Q) : ∀ (fuel : Nat) (listed : Array Bool) (a : Act) (w : World), wpAny P md ops Q fuel listed a w → wpAnyIn (Fence.wide.inRound l) n P md ops Q fuel listed a w
  | 0, _, _, _, h => h
  | fuel + 1, listed, a, w, h => by
    refine ⟨h.1, fun i hi => ?_⟩
    have h1 := h.2 i hi
    unfold wpOp at h1
    unfold wpOpIn
    cases ho : ops[i]? with
    | none => rw [ho] at h1; exact any_round hd hQ fuel _ _ _ h1
    | some o =>
      rw [ho] at h1
      simp only at h1 ⊢
      split
      · rename_i hw
        rw [if_pos hw] at h1
        rcases h1 with h1 | h1
        · exact Oper.wpIn_mono (fun a w => any_round hd hQ fuel _ a w) (oper_round (calm_at hd ho) h1)
        · exact absurd h1.2 hQ
      · rename_i hw
        rw [if_neg hw] at h1
        exact ⟨fun _ _ => trivial, any_round hd hQ fuel _ _ _ h1⟩
/-- A drawn region in a round, with a condition that is held. -/
theorem round_held {n l id : Nat} {P : Program} {ops : Array Oper} {Q : Exit → Act → World → Prop} {S : World → Prop} {a : Act} {w : World} (hm : P.follows .mixedOrders = true) (hd : calmOps ops = true) (hQ : ¬ LetsOut Q) (hS : S w.drew)
    (h : S w.drew → wpAnyH P .any ops Q S ops.size (Array.replicate ops.size false) a w.drew) : (Code.region id ops true).wpIn (Fence.wide.inRound l) n P Q a w :=
  wpIn_region_any hm (any_round hd hQ _ _ _ _ (wpAny_of_held _ _ _ _ (h hS)))
/-- An operation that gives a value. -/
theorem wp_valW {P : Program} {o : Oper} {a : Act} {w w2 : World} {K : Act → World → Prop} {Q : Exit → Act → World → Prop} {v : Value} (h : (execOp a.eval o).run P w = .ok (.value v) w2) (hk : K (a.put o.dst v) w2) : Oper.wp P o a w K Q := by
  unfold Oper.wp
  rw [h]
  exact hk
/-- One of those that may come up, where it has no guard: the step stands as it is. -/
theorem ready_consW {P : Program} {md : Region.Mode} {ops : Array Oper} {Q : Exit → Act → World → Prop} {S : World → Prop} {fuel : Nat} {listed : Array Bool} {a : Act} {w : World} {i : Nat} (o : Oper) {rs : List Nat} (ho : ops[i]? = some o) (hg : o.guard = none)
    (h : ∀ K' : Act → World → Prop, Go.Shut (∀ a w, S w → (S w → wpAnyH P md ops Q S fuel (listed.setIfInBounds i true) a w) → K' a w) → Oper.wp P o a w K' Q)
    (hs : AllReadyH P md ops Q S fuel listed a w rs) : AllReadyH P md ops Q S fuel listed a w (i :: rs) :=
  AllReadyH.cons ho (fun K hK => by rw [if_pos (by simp [Region.wanted, hg])]; exact h K hK) hs
end Go.Proofs.Ytobkejnlkjieoaa

/- The closure of slices.Backward, for every loop body that keeps what lay below n0. -/
/- slices.Backward: a closure over a box with the list. -/
namespace Go.Proofs.Ytobkejnlkjieoaa
open Go.RowKit Go.Sort
open Go

set_option maxRecDepth 100000 in
set_option maxHeartbeats 4000000 in
theorem backward55 (po : Option Addr) (lo co : Nat) (w : World) : Calls Try.prog 98 #[.slice po lo co] w fun e w' => e = .returned (.func (.func 104) #[] #[.pointer (some ⟨w.heap.size, 0, none⟩)]) ∧ w' = w.alloc (.cells #[.slice po lo co] 32) := by
  go_enter Try.func98, Try.ntmps98
  go_wp2
  go_ret
  exact ⟨rfl, rfl⟩
end Go.Proofs.Ytobkejnlkjieoaa

namespace Go.Proofs.Ytobkejnlkjieoaa
open Go.RowKit Go.Sort Go.Shelf
open Go

attribute [local go_sem] Oper.semAt_some
/-- What has come when k rounds are over: the last k, with their places, the last first. -/
def bwL (zs : List Int) (k : Nat) : List (Nat × Int) := (List.range k).map fun j => (zs.length - 1 - j, iat zs (zs.length - 1 - j))
theorem bwL_succ (zs : List Int) (k : Nat) : bwL zs (k + 1) = bwL zs k ++ [(zs.length - 1 - k, iat zs (zs.length - 1 - k))] := by simp [bwL, List.range_succ]
theorem bwL_length (zs : List Int) (k : Nat) : (bwL zs k).length = k := by simp [bwL]
set_option maxRecDepth 100000 in
set_option maxHeartbeats 4000000 in
theorem backward61 (F : Fence) (n : Nat) (h8 : F.fn 104) (hro : F.round = none) (hn : 1 ≤ n) (l Bs n₀ b cap : Nat) (zs : List Int) (hlen : zs.length ≤ 100000) (hb : b < n₀) (hBsn : Bs < n₀) (J Jx : List (Nat × Int) → World → Prop)
    (hY : ∀ pre x W, J pre W → pre.length < zs.length → YieldAt F (n - 1) Try.prog l #[.int .i64 (x.1 : Int), .int .i64 x.2] W fun e W' =>
      (e = .returned (.bool true) ∧ J (pre ++ [x]) W' ∧ Below n₀ W W') ∨ (e = .returned (.bool false) ∧ Jx (pre ++ [x]) W'))
    (W : World) (hBs : W.cell? ⟨Bs, 0, none⟩ = some (.slice (some ⟨b, 0, none⟩) zs.length cap)) (hc : ∀ j, j < zs.length → W.cell? ⟨b, j, none⟩ = some (.int .i64 (iat zs j))) (h0 : J [] W) :
    CallsIn F n Try.prog 104 #[.func (.yield l) #[] #[], .pointer (some ⟨Bs, 0, none⟩)] W fun e W' => (∃ v, e = .returned v) ∧
      ((∃ ys, ys = bwL zs zs.length ∧ J ys W') ∨ (∃ pre, (∃ k, k ≤ zs.length ∧ pre = bwL zs k) ∧ Jx pre W')) := by
  refine callsIn_of_wp Try.func104 rfl h8 ?_ hro
  simp only [Try.ntmps104, List.size_toArray, List.length_cons, List.length_nil, Nat.reduceAdd, Nat.reduceSub, Array.replicate_succ, Array.replicate_zero, List.push_toArray, List.append_toArray, List.nil_append, List.cons_append]
  gi_wp2
  gi_loopw [3] (fun i wr => ∃ r : Nat, r ≤ zs.length ∧ i = .int .i64 ((r : Int) - 1) ∧ J (bwL zs (zs.length - r)) wr ∧ Below n₀ W wr)
    (fun i _ => (intOf i + 1).toNat)
  case atStart => exact ⟨zs.length, Nat.le_refl _, rfl, by rw [Nat.sub_self]; exact h0, Below.refl _ _⟩
  case round =>
    obtain ⟨r, hr, rfl, hJs, hnx⟩ := hrel
    have hBs' := (hnx.cell (p := ⟨Bs, 0, none⟩) hBsn).trans hBs
    rcases Nat.eq_zero_or_pos r with h | h
    · subst h
      gi_wp2
      go_end0
      exact ⟨⟨_, rfl⟩, .inl ⟨_, rfl, hJs⟩⟩
    · obtain ⟨q, rfl⟩ : ∃ q, r = q + 1 := ⟨r - 1, by omega⟩
      have eq1 : ((q + 1 : Nat) : Int) - 1 = q := by omega
      rw [eq1]
      have hq : q < zs.length := by omega
      have i1 : (q : Int) < zs.length := by omega
      have i2 : (0 : Int) ≤ q := by omega
      have hcx := (hnx.cell (p := ⟨b, q, none⟩) hb).trans (hc q hq)
      have hsucc : bwL zs (zs.length - q) = bwL zs (zs.length - (q + 1)) ++ [(q, iat zs q)] := by
        have := bwL_succ zs (zs.length - (q + 1))
        rw [show zs.length - (q + 1) + 1 = zs.length - q by omega, show zs.length - 1 - (zs.length - (q + 1)) = q by omega] at this
        exact this
      obtain ⟨fn, tmps, assign, body, hy, hR⟩ := hY _ (q, iat zs q) wr hJs (by rw [bwL_length]; omega)
      dsimp only at hy
      gi_wp2
      refine hR.mono ?_
      rintro e W3 (⟨rfl, hJ3, hk3⟩ | ⟨rfl, hJx3⟩)
      · gi_wp2
        go_roundw
        case rel => exact ⟨q, by omega, by go_num, by rw [hsucc]; exact hJ3, hnx.trans hk3⟩
        case measure => simp [intOf]
      · gi_wp2
        refine bodyPost_ret (results_none rfl _ _ _) rfl ?_
        exact ⟨⟨_, rfl⟩, .inr ⟨_, ⟨zs.length - q, by omega, hsucc.symm⟩, hJx3⟩⟩
theorem bwL_take (zs : List Int) {k : Nat} (hk : k ≤ zs.length) : bwL zs k <+: bwL zs zs.length := by
  refine ⟨((List.range zs.length).drop k).map fun j => (zs.length - 1 - j, iat zs (zs.length - 1 - j)), ?_⟩
  unfold bwL
  rw [← List.map_append]
  congr 1
  have h := List.take_append_drop k (List.range zs.length)
  rw [List.take_range, Nat.min_eq_left hk] at h
  exact h
/-- What slices.Backward hands back, at a list that is not nil. -/
theorem backward_stops (F : Fence) (n : Nat) (h8 : F.fn 104) (hro : F.round = none) (hn : 1 ≤ n) (Bs n₀ b cap : Nat) (zs : List Int) (hlen : zs.length ≤ 100000) (hb : b < n₀) (hBsn : Bs < n₀) (w : World) (hn₀ : n₀ ≤ w.heap.size)
    (hBs : w.cell? ⟨Bs, 0, none⟩ = some (.slice (some ⟨b, 0, none⟩) zs.length cap)) (hc : ∀ j, j < zs.length → w.cell? ⟨b, j, none⟩ = some (.int .i64 (iat zs j))) :
    SeqStopsK F n Try.prog 104 #[.pointer (some ⟨Bs, 0, none⟩)] (fun x : Nat × Int => #[Value.int .i64 (x.1 : Int), Value.int .i64 x.2]) (Below n₀) (fun ys => ys = bwL zs zs.length) (fun pre => pre <+: bwL zs zs.length) zs.length w := fun l J Jx W hW _ _ hY h0 => by
  have hc' := (hW.cell (p := ⟨Bs, 0, none⟩) (by show Bs < _; omega)).trans hBs
  refine (backward61 F n h8 hro hn l Bs n₀ b cap zs hlen hb hBsn J Jx hY W hc' (fun j hj => (hW.cell (p := ⟨b, j, none⟩) (by show b < _; omega)).trans (hc j hj)) h0).mono ?_
  rintro e W' ⟨he, ⟨ys, rfl, hj⟩ | ⟨pre, ⟨k, hk, rfl⟩, hj⟩⟩
  · exact ⟨he, .inl ⟨_, rfl, hj⟩⟩
  · exact ⟨he, .inr ⟨_, bwL_take zs hk, hj⟩⟩
end Go.Proofs.Ytobkejnlkjieoaa

namespace Go.Proofs.Ytobkejnlkjieoaa
open Go.RowKit Go.Sort Go.Shelf
open Go

attribute [local go_sem] Oper.semAt_some
def bwG {α : Type} (el : Nat → α) (N k : Nat) : List α := (List.range k).map fun j => el (N - 1 - j)
theorem bwG_succ {α : Type} (el : Nat → α) (N k : Nat) : bwG el N (k + 1) = bwG el N k ++ [el (N - 1 - k)] := by simp [bwG, List.range_succ]
theorem bwG_length {α : Type} (el : Nat → α) (N k : Nat) : (bwG el N k).length = k := by simp [bwG]
set_option maxRecDepth 100000 in
set_option maxHeartbeats 4000000 in
theorem backwardG {α : Type} (el : Nat → α) (encs : α → Array Value) (F : Fence) (n : Nat) (h8 : F.fn 104) (hro : F.round = none) (hn : 1 ≤ n) (l Bs b cap : Nat) (zs : List Int) (hlen : zs.length ≤ 100000) (Kp : World → World → Prop) (hK1 : ∀ A B, Kp A B → ∀ v, A.cell? ⟨Bs, 0, none⟩ = some v → B.cell? ⟨Bs, 0, none⟩ = some v) (hK2 : ∀ A B, Kp A B → ∀ j v, A.cell? ⟨b, j, none⟩ = some v → B.cell? ⟨b, j, none⟩ = some v) (J Jx : List α → World → Prop)
    (henc : ∀ j, j < zs.length → encs (el j) = #[.int .i64 (j : Int), .int .i64 (iat zs j)])
    (hY : ∀ pre x W, J pre W → pre.length < zs.length → YieldAt F (n - 1) Try.prog l (encs x) W fun e W' =>
      (e = .returned (.bool true) ∧ J (pre ++ [x]) W' ∧ Kp W W') ∨ (e = .returned (.bool false) ∧ Jx (pre ++ [x]) W'))
    (W : World) (hBs : W.cell? ⟨Bs, 0, none⟩ = some (.slice (some ⟨b, 0, none⟩) zs.length cap)) (hc : ∀ j, j < zs.length → W.cell? ⟨b, j, none⟩ = some (.int .i64 (iat zs j))) (h0 : J [] W) :
    CallsIn F n Try.prog 104 #[.func (.yield l) #[] #[], .pointer (some ⟨Bs, 0, none⟩)] W fun e W' => (∃ v, e = .returned v) ∧
      ((∃ ys, ys = bwG el zs.length zs.length ∧ J ys W') ∨ (∃ pre, (∃ k, k ≤ zs.length ∧ pre = bwG el zs.length k) ∧ Jx pre W')) := by
  refine callsIn_of_wp Try.func104 rfl h8 ?_ hro
  simp only [Try.ntmps104, List.size_toArray, List.length_cons, List.length_nil, Nat.reduceAdd, Nat.reduceSub, Array.replicate_succ, Array.replicate_zero, List.push_toArray, List.append_toArray, List.nil_append, List.cons_append]
  gi_wp2
  gi_loopw [3] (fun i wr => ∃ r : Nat, r ≤ zs.length ∧ i = .int .i64 ((r : Int) - 1) ∧ J (bwG el zs.length (zs.length - r)) wr ∧ wr.cell? ⟨Bs, 0, none⟩ = some (.slice (some ⟨b, 0, none⟩) zs.length cap) ∧ Hid (∀ j, j < zs.length → wr.cell? ⟨b, j, none⟩ = some (.int .i64 (iat zs j))))
    (fun i _ => (intOf i + 1).toNat)
  case atStart => exact ⟨zs.length, Nat.le_refl _, rfl, by rw [Nat.sub_self]; exact h0, hBs, hc⟩
  case round =>
    obtain ⟨r, hr, rfl, hJs, hBs', hnx⟩ := hrel
    rcases Nat.eq_zero_or_pos r with h | h
    · subst h
      gi_wp2
      go_end0
      exact ⟨⟨_, rfl⟩, .inl ⟨_, rfl, hJs⟩⟩
    · obtain ⟨q, rfl⟩ : ∃ q, r = q + 1 := ⟨r - 1, by omega⟩
      have eq1 : ((q + 1 : Nat) : Int) - 1 = q := by omega
      rw [eq1]
      have hq : q < zs.length := by omega
      have i1 : (q : Int) < zs.length := by omega
      have i2 : (0 : Int) ≤ q := by omega
      have hcx := hnx.out q hq
      have hsucc : bwG el zs.length (zs.length - q) = bwG el zs.length (zs.length - (q + 1)) ++ [el q] := by
        have := bwG_succ el zs.length (zs.length - (q + 1))
        rw [show zs.length - (q + 1) + 1 = zs.length - q by omega, show zs.length - 1 - (zs.length - (q + 1)) = q by omega] at this
        exact this
      obtain ⟨fn, tmps, assign, body, hy, hR⟩ := hY _ (el q) wr hJs (by rw [bwG_length]; omega)
      rw [henc q hq] at hy
      gi_wp2
      refine hR.mono ?_
      rintro e W3 (⟨rfl, hJ3, hk3⟩ | ⟨rfl, hJx3⟩)
      · gi_wp2
        go_roundw
        case rel => exact ⟨q, by omega, by go_num, by rw [hsucc]; exact hJ3, hK1 _ _ hk3 _ hBs', fun j hj => hK2 _ _ hk3 j _ (hnx.out j hj)⟩
        case measure => simp [intOf]
      · gi_wp2
        refine bodyPost_ret (results_none rfl _ _ _) rfl ?_
        exact ⟨⟨_, rfl⟩, .inr ⟨_, ⟨zs.length - q, by omega, hsucc.symm⟩, hJx3⟩⟩
/-- What slices.Backward hands back, at a list that is not nil. -/
theorem backwardG_stops {α : Type} (el : Nat → α) (encs : α → Array Value) (F : Fence) (n : Nat) (h8 : F.fn 104) (hro : F.round = none) (hn : 1 ≤ n) (Bs b cap : Nat) (zs : List Int) (hlen : zs.length ≤ 100000) (Kp : World → World → Prop) (hK1 : ∀ A B, Kp A B → ∀ v, A.cell? ⟨Bs, 0, none⟩ = some v → B.cell? ⟨Bs, 0, none⟩ = some v) (hK2 : ∀ A B, Kp A B → ∀ j v, A.cell? ⟨b, j, none⟩ = some v → B.cell? ⟨b, j, none⟩ = some v) (w : World)
    (henc : ∀ j, j < zs.length → encs (el j) = #[.int .i64 (j : Int), .int .i64 (iat zs j)])
    (hBs : w.cell? ⟨Bs, 0, none⟩ = some (.slice (some ⟨b, 0, none⟩) zs.length cap)) (hc : ∀ j, j < zs.length → w.cell? ⟨b, j, none⟩ = some (.int .i64 (iat zs j))) :
    SeqStopsK F n Try.prog 104 #[.pointer (some ⟨Bs, 0, none⟩)] encs Kp (fun ys => ys = bwG el zs.length zs.length) (fun _ => True) zs.length w := fun l J Jx W hW _ _ hY h0 => by
  refine (backwardG el encs F n h8 hro hn l Bs b cap zs hlen Kp hK1 hK2 J Jx henc hY W (later hW hBs) (fun j hj => later hW (hc j hj)) h0).mono ?_
  rintro e W' ⟨he, ⟨ys, rfl, hj⟩ | ⟨pre, ⟨k, hk, rfl⟩, hj⟩⟩
  · exact ⟨he, .inl ⟨_, rfl, hj⟩⟩
  · exact ⟨he, .inr ⟨_, trivial, hj⟩⟩
/-- The law of a range over a function whose body never leaves, where the assignment puts one value into one slot. -/
theorem range_own {F : Fence} {n : Nat} {P : Program} {α : Type} {g : Operand} {ps : Array Tmp} {assign body : Code} {Q : Exit → Act → World → Prop} {a : Act} {w : World}
    (hro : F.round = none) (h1 : 1 ≤ n) {gf : Nat} {lb : Array Value} (hg : a.eval g = .func (.func gf) #[] lb) (hFg : F.fn gf) (eg : ∀ args w, (callFunc gf args).run P w = .ok (.enter gf args) w)
    {encs : α → Array Value} {Kp : World → World → Prop} {S Sp : List α → Prop} {N : Nat} {w0 : World} (hseq : SeqStopsK F (n - 1) P gf lb encs Kp S Sp N w0)
    (hKt : ∀ {A B C : World}, Kp A B → Kp B C → Kp A C) (hKb : ∀ (W : World) (l : Nat) (o o' : Obj), w.heap.size ≤ l → W.heap[l]? = some o → o.isCells = false → o.isWalk = false → Kp W (W.putObj l o')) (hb0 : Below w0.heap.size w0 w) (hps : ∀ x, (encs x).size = ps.size)
    (I : List α → World → Prop) (hI : OwnFrom w.heap.size I) (h0 : I [] w) (d : Tmp) (f : α → Value)
    (hassign : ∀ (l : Nat) (x : α) (W : World) (K : Act → World → Prop), K { tmps := ((ps.zip (encs x)).foldl (fun t (p, v) => t.setIfInBounds p v) a.tmps).setIfInBounds d (f x), defers := [] } W →
      assign.wpIn (F.inRound l) (n - 1 - 1) P (Exit.then K (fun _ _ _ => False)) { tmps := (ps.zip (encs x)).foldl (fun t (p, v) => t.setIfInBounds p v) a.tmps, defers := [] } W)
    (hbody : ∀ (l : Nat) (pre : List α) (x : α) (W : World), I pre W → pre.length < N → body.wpIn (F.inRound l) (n - 1 - 1) P (ownPostG w.heap.size Kp I (fun _ _ _ => False) (pre ++ [x]) W) { tmps := ((ps.zip (encs x)).foldl (fun t (p, v) => t.setIfInBounds p v) a.tmps).setIfInBounds d (f x), defers := [] } W)
    (hdone : ∀ (D : Nat) (xs : List α) (W : World), w.heap.size ≤ D → S xs → I xs W → W.heap[D]? = some (.deferred (some [])) → Q .normal { a with defers := { target := .collected D, args := #[] } :: a.defers } W) :
    (Code.rangeFunc g ps assign body).wpIn F n P Q a w :=
  wpIn_rangeFunc_ownG hro h1 hg hFg eg hseq hKt hKb hb0 hps I (fun _ _ _ => False) hI (fun _ _ _ _ _ hs _ _ => hs) h0 _ hassign hbody hdone (fun _ _ _ _ _ _ h _ => h.elim)
end Go.Proofs.Ytobkejnlkjieoaa
