/- What the calls of WalkAll answer, refused or not, in one form. -/
import Derived.Test.YtghffodjffkijaaE11
import Derived.Test.YtghffodjffkijaaE9
import Derived.LoopNIn
import Derived.Test.YtghffodjffkijaaR1
import Derived.Test.YtghffodjffkijaaC4
import Derived.Test.YtghffodjffkijaaB8
import Derived.Test.YtghffodjffkijaaX5
import Derived.Test.YtghffodjffkijaaT1
import Derived.Test.YtghffodjffkijaaT2
import Derived.Test.YtghffodjffkijaaT4
import Derived.Test.YtghffodjffkijaaM8
import Derived.Deep.RegionHeld3
import Derived.Lib.QuietBelow
import Derived.BigQuiet
import Derived.Deep.QuietTactic
import Derived.Test.YtghffodjffkijaaL6
/- The law's own loop over Each, gone over twice: it answers true where Each yields the tour. -/
/- The closure that Each hands back: it yields the tour's nodes with how far they are, for every loop body that keeps its lists. -/
namespace Go.Proofs.Ytghffodjffkijaa
open Go.RowKit Go.Sort Go.Shelf
open Go

attribute [local go_sem] Oper.semAt_some
/-- The first k of what is yielded. -/
def eL (O Fa : List Int) (k : Nat) : List (Int × Int) := (List.range k).map fun j => (iat O j, iat Fa (iat O j).toNat)
theorem eL_succ (O Fa : List Int) (k : Nat) : eL O Fa (k + 1) = eL O Fa k ++ [(iat O k, iat Fa (iat O k).toNat)] := by simp [eL, List.range_succ]
theorem eL_length (O Fa : List Int) (k : Nat) : (eL O Fa k).length = k := by simp [eL]
def eEnc (x : Int × Int) : Array Value := #[.int .i64 x.1, .int .i64 x.2]
set_option maxRecDepth 100000 in
set_option maxHeartbeats 4000000 in
theorem each51 (F : Fence) (n : Nat) (h8 : F.fn 51) (hro : F.round = none) (hn : 1 ≤ n) (l k1 k2 go gf m co : Nat) (po pf : Option Addr) (lf cf : Nat) (O Fa : List Int) (hlen : O.length ≤ 100000) (hpo : 0 < O.length → po = some ⟨go, 0, none⟩ ∧ pf = some ⟨gf, 0, none⟩ ∧ lf = m ∧ m ≤ 100000) (hO : ∀ j, j < O.length → 0 ≤ iat O j ∧ iat O j < (m : Int)) (Kp : World → World → Prop) (hK1 : ∀ A B, Kp A B → ∀ i j v, (i = k1 ∨ i = k2 ∨ 0 < O.length ∧ (i = go ∨ i = gf)) → A.cell? ⟨i, j, none⟩ = some v → B.cell? ⟨i, j, none⟩ = some v) (J Jx : List (Int × Int) → World → Prop)
    (hY : ∀ pre x W, J pre W → pre.length < O.length → YieldAt F (n - 1) Try.prog l (eEnc x) W fun e W' =>
      (e = .returned (.bool true) ∧ J (pre ++ [x]) W' ∧ Kp W W') ∨ (e = .returned (.bool false) ∧ Jx (pre ++ [x]) W'))
    (W : World) (hB1 : W.cell? ⟨k1, 0, none⟩ = some (.slice po O.length co)) (hB2 : W.cell? ⟨k2, 0, none⟩ = some (.slice pf lf cf)) (hc : ∀ j, j < O.length → W.cell? ⟨go, j, none⟩ = some (.int .i64 (iat O j)) ∧ W.cell? ⟨gf, (iat O j).toNat, none⟩ = some (.int .i64 (iat Fa (iat O j).toNat))) (h0 : J [] W) :
    CallsIn F n Try.prog 51 #[.func (.yield l) #[] #[], .pointer (some ⟨k1, 0, none⟩), .pointer (some ⟨k2, 0, none⟩)] W fun e W' => (∃ v, e = .returned v) ∧
      ((∃ ys, ys = eL O Fa O.length ∧ J ys W') ∨ (∃ pre, (∃ k, k ≤ O.length ∧ pre = eL O Fa k) ∧ Jx pre W')) := by
  refine callsIn_of_wp Try.func51 rfl h8 ?_ hro
  simp only [Try.ntmps51, List.size_toArray, List.length_cons, List.length_nil, Nat.reduceAdd, Nat.reduceSub, Array.replicate_succ, Array.replicate_zero, List.push_toArray, List.append_toArray, List.nil_append, List.cons_append]
  gi_wp2
  have HHO := hide hO
  have HHP := hide hpo
  clear hO hpo
  gi_loopw [8] (fun i wr => ∃ r : Nat, r ≤ O.length ∧ i = .int .i64 (r : Int) ∧ J (eL O Fa r) wr ∧ wr.cell? ⟨k2, 0, none⟩ = some (.slice pf lf cf) ∧ Hid (∀ j, j < O.length → wr.cell? ⟨go, j, none⟩ = some (.int .i64 (iat O j)) ∧ wr.cell? ⟨gf, (iat O j).toNat, none⟩ = some (.int .i64 (iat Fa (iat O j).toNat))))
    (fun i _ => O.length - (intOf i).toNat)
  case atStart => exact ⟨0, Nat.zero_le _, rfl, h0, hB2, hc⟩
  case round =>
    obtain ⟨r, hr, rfl, hJs, hB2', hnx⟩ := hrel
    by_cases h : r < O.length
    · obtain ⟨hpo1, hpf1, hlf1, hm1⟩ := HHP.out (by omega)
      obtain ⟨v0, v1⟩ := HHO.out r h
      obtain ⟨c0, c1⟩ := hnx.out r h
      have hsucc := eL_succ O Fa r
      have HY := hide (hY _ (iat O r, iat Fa (iat O r).toNat) wr hJs (by rw [eL_length]; exact h))
      subst hpo1 hpf1 hlf1
      obtain ⟨v, hv⟩ : ∃ v : Nat, iat O r = v := ⟨(iat O r).toNat, by omega⟩
      rw [hv] at c0 c1 hsucc HY v0 v1
      rw [Int.toNat_natCast] at c1 hsucc HY
      have i1 : (r : Int) < O.length := by omega
      have i2 : (0 : Int) ≤ r := by omega
      have i3 : (v : Int) < lf := by omega
      obtain ⟨fn, tmps, assign, body, hy, hR⟩ := HY.out
      unfold eEnc at hy
      dsimp only at hy
      gi_wp2
      refine hR.mono ?_
      rintro e W3 (⟨rfl, hJ3, hk3⟩ | ⟨rfl, hJx3⟩)
      · gi_wp2
        go_roundw
        case rel => exact ⟨r + 1, by omega, by go_num, by rw [hsucc]; exact hJ3, hK1 _ _ hk3 _ _ _ (by omega) hB2', fun j hj => ⟨hK1 _ _ hk3 _ _ _ (by omega) (hnx.out j hj).1, hK1 _ _ hk3 _ _ _ (by omega) (hnx.out j hj).2⟩⟩
        case measure => simp [intOf]; omega
      · gi_wp2
        refine bodyPost_ret (results_none rfl _ _ _) rfl ?_
        exact ⟨⟨_, rfl⟩, .inr ⟨_, ⟨r + 1, by omega, hsucc.symm⟩, hJx3⟩⟩
    · have hin : r = O.length := by omega
      have i1 : ¬ (r : Int) < O.length := by omega
      gi_wp2
      go_end0
      exact ⟨⟨_, rfl⟩, .inl (by rw [← hin]; exact hJs)⟩
theorem each51_stops (F : Fence) (n : Nat) (h8 : F.fn 51) (hro : F.round = none) (hn : 1 ≤ n) (k1 k2 go gf m co : Nat) (po pf : Option Addr) (lf cf : Nat) (O Fa : List Int) (hlen : O.length ≤ 100000) (hpo : 0 < O.length → po = some ⟨go, 0, none⟩ ∧ pf = some ⟨gf, 0, none⟩ ∧ lf = m ∧ m ≤ 100000) (hO : ∀ j, j < O.length → 0 ≤ iat O j ∧ iat O j < (m : Int)) (Kp : World → World → Prop) (hK1 : ∀ A B, Kp A B → ∀ i j v, (i = k1 ∨ i = k2 ∨ 0 < O.length ∧ (i = go ∨ i = gf)) → A.cell? ⟨i, j, none⟩ = some v → B.cell? ⟨i, j, none⟩ = some v) (w : World)
    (hB1 : w.cell? ⟨k1, 0, none⟩ = some (.slice po O.length co)) (hB2 : w.cell? ⟨k2, 0, none⟩ = some (.slice pf lf cf)) (hc : ∀ j, j < O.length → w.cell? ⟨go, j, none⟩ = some (.int .i64 (iat O j)) ∧ w.cell? ⟨gf, (iat O j).toNat, none⟩ = some (.int .i64 (iat Fa (iat O j).toNat))) :
    SeqStopsK F n Try.prog 51 #[.pointer (some ⟨k1, 0, none⟩), .pointer (some ⟨k2, 0, none⟩)] eEnc Kp (fun ys => ys = eL O Fa O.length) (fun pre => ∃ k, k ≤ O.length ∧ pre = eL O Fa k) O.length w := fun l J Jx W hW _ _ hY h0 => by
  refine (each51 F n h8 hro hn l k1 k2 go gf m co po pf lf cf O Fa hlen hpo hO Kp hK1 J Jx hY W (later hW hB1) (later hW hB2) (fun j hj => ⟨later hW (hc j hj).1, later hW (hc j hj).2⟩) h0).mono ?_
  rintro e W' ⟨he, ⟨ys, rfl, hj⟩ | ⟨pre, hk, hj⟩⟩
  · exact ⟨he, .inl ⟨_, rfl, hj⟩⟩
  · exact ⟨he, .inr ⟨_, hk, hj⟩⟩
set_option maxRecDepth 100000 in
set_option maxHeartbeats 4000000 in
/-- Each of what is refused yields nothing. -/
theorem each35n (n : Int) (p : Option Addr) (es : List Pt) (cp : Nat) (s r : Int) (w : World) (h : Has w p es) (hr : refI n es s = r) (h0 : ¬ r = 0) : Calls Try.prog 35 #[nv n p es.length cp, .int .i64 s] w fun e w' => ∃ (k1 k2 : Nat), e = .returned (.func (.func 51) #[] #[.pointer (some ⟨k1, 0, none⟩), .pointer (some ⟨k2, 0, none⟩)]) ∧ w'.cell? ⟨k1, 0, none⟩ = some nilS ∧ w'.cell? ⟨k2, 0, none⟩ = some nilS ∧ Below w.heap.size w w' := by
  obtain ⟨W, hW, hb, a0⟩ := one_net w n p es.length cp
  have BR := hide (breadth13no n p es cp s r W (h.later hb) hr h0)
  have HB := hide hb
  clear h hb hr h0
  go_enter Try.func35, Try.ntmps35
  go_wp2_with fail
  rw [← hW]
  clear hW
  refine BR.out.mono ?_
  rintro e w1 ⟨rfl, hb1⟩
  have HB1 := hide (below_step HB.out hb1)
  clear hb1 BR
  have hbX : ∀ V, Below w1.heap.size w1 V → Below w.heap.size w V := fun V hV => below_step HB1.out hV
  go_wp2_with fail
  obtain ⟨X, hX⟩ : ∃ X, X = w1.alloc (.cells #[nilS, nilS, nilS, nilS] 35) := ⟨_, rfl⟩
  have hx1 : Below w1.heap.size w1 X := by rw [hX]; go_grown
  have HBX := hide (hbX X hx1)
  have c0 : X.cell? ⟨w1.heap.size, 0, none⟩ = some nilS := by rw [hX]; go_cell
  have c2 : X.cell? ⟨w1.heap.size, 2, none⟩ = some nilS := by rw [hX]; go_cell
  have z1 : w1.heap.size < X.heap.size := block_lt_of_cell c0
  have z2 : w1.heap.size ≠ X.heap.size := by omega
  have z3 : w1.heap.size < X.heap.size + 1 := by omega
  have z4 : w1.heap.size ≠ X.heap.size + 1 := by omega
  rw [← hX]
  clear hX hbX hx1
  go_region_held3 (fun V => V.cell? ⟨w1.heap.size, 0, none⟩ = some nilS ∧ V.cell? ⟨w1.heap.size, 2, none⟩ = some nilS) (go_keep) (fail)
  all_goals
    rename_i hHeld
    clear hHeld
    go_wp2
    go_ret
    refine ⟨_, _, rfl, ?_, ?_, below_step HBX.out ?_⟩
    · go_cell
    · go_cell
    all_goals go_grown
end Go.Proofs.Ytghffodjffkijaa

namespace Go.Proofs.Ytghffodjffkijaa
open Go.RowKit Go.Sort Go.Shelf
open Go

attribute [local go_sem] Oper.semAt_some
/-- The mark that a range over a function leaves among the deferred calls. -/
def mkD (D : Nat) : Deferred := { target := .collected D, args := #[] }
/-- The blocks of the marks. -/
def Marks (B : Nat) (W : World) (Ds : List Nat) : Prop := Ds.Nodup ∧ ∀ D ∈ Ds, B ≤ D ∧ W.heap[D]? = some (.deferred (some []))
theorem leave_marks {F : Fence} {n : Nat} {P : Program} {fn : Func} {tmps : Array Value} {R : Ending → World → Prop} {B : Nat} : ∀ (Ds : List Nat) (W : World), Marks B W Ds → (∀ W', Below B W W' → (∀ a v, W.cell? a = some v → W'.cell? a = some v) → LeavesInM F n P fn tmps R [] .returning W') → LeavesInM F n P fn tmps R (Ds.map mkD) .returning W
  | [], W, _, h => h W (Below.refl _ _) (fun _ _ hv => hv)
  | D :: Ds, W, hM, h => by
    obtain ⟨hn, hD⟩ := hM
    obtain ⟨hDB, hDl⟩ := hD D (by simp)
    rw [List.nodup_cons] at hn
    refine ⟨by simp, .inl ⟨D, _, rfl, run_takeDeferred hDl, ?_⟩⟩
    refine leave_marks (B := B) Ds _ ⟨hn.2, fun E hE => ?_⟩ ?_
    · refine ⟨(hD E (by simp [hE])).1, (World.putObj_heap_other (fun e => hn.1 (by rw [← e]; exact hE))).trans (hD E (by simp [hE])).2⟩
    · intro W' hb hc
      refine h W' (Below.trans ?_ hb) (fun a v hv => hc a v (cell_kept hv (grownBy_putObj' _ D _) (fun r e => by cases e; exact ⟨_, hDl, rfl⟩)))
      exact (Below.refl B W).grown (grownBy_putObj' W D _) (by have := (Array.getElem?_eq_some_iff.1 hDl).1; omega) (fun k e => by cases e; omega)
theorem Marks.later {B : Nat} {W W' : World} {Ds : List Nat} (h : Marks B W Ds) (hb : Below W.heap.size W W') : Marks B W' Ds :=
  ⟨h.1, fun D hD => ⟨(h.2 D hD).1, (hb.block D (Array.getElem?_eq_some_iff.1 (h.2 D hD).2).1).trans (h.2 D hD).2⟩⟩
/-- What Each hands back. -/
def EachAt (nvv : Value) (s : Int) (O Fa : List Int) (m : Nat) (w : World) : Prop := ∀ W, Below w.heap.size w W → Calls Try.prog 35 #[nvv, .int .i64 s] W fun e w' => ∃ (k1 k2 : Nat) (po : Option Addr) (co : Nat) (pf : Option Addr) (lf cf go gf : Nat), e = .returned (.func (.func 51) #[] #[.pointer (some ⟨k1, 0, none⟩), .pointer (some ⟨k2, 0, none⟩)]) ∧ w'.cell? ⟨k1, 0, none⟩ = some (.slice po O.length co) ∧ w'.cell? ⟨k2, 0, none⟩ = some (.slice pf lf cf) ∧ (0 < O.length → po = some ⟨go, 0, none⟩ ∧ pf = some ⟨gf, 0, none⟩ ∧ lf = m ∧ m ≤ 100000) ∧ (∀ j, j < O.length → w'.cell? ⟨go, j, none⟩ = some (.int .i64 (iat O j)) ∧ w'.cell? ⟨gf, (iat O j).toNat, none⟩ = some (.int .i64 (iat Fa (iat O j).toNat))) ∧ Below W.heap.size W w'
/-- A tour's order and distances, as far as the loop looks. -/
def TourAt (w : World) (vo vf : Value) (O Fa : List Int) (m : Nat) : Prop := ∃ (px : Option Addr) (cx : Nat), vo = .slice px O.length cx ∧ (0 < O.length → ∃ gx gy cy, px = some ⟨gx, 0, none⟩ ∧ vf = .slice (some ⟨gy, 0, none⟩) m cy ∧ ∀ j, j < O.length → w.cell? ⟨gx, j, none⟩ = some (.int .i64 (iat O j)) ∧ w.cell? ⟨gy, (iat O j).toNat, none⟩ = some (.int .i64 (iat Fa (iat O j).toNat)))
/-- The law of a range over a function, where the assignment puts two values into two slots. -/
theorem range_two {F : Fence} {n : Nat} {P : Program} {α : Type} {g : Operand} {ps : Array Tmp} {assign body : Code} {Q : Exit → Act → World → Prop} {a : Act} {w : World}
    (hro : F.round = none) (h1 : 1 ≤ n) {gf : Nat} {lb : Array Value} (hg : a.eval g = .func (.func gf) #[] lb) (hFg : F.fn gf) (eg : ∀ args w, (callFunc gf args).run P w = .ok (.enter gf args) w)
    {encs : α → Array Value} {Kp : World → World → Prop} {S Sp : List α → Prop} {N : Nat} {w0 : World} (hseq : SeqStopsK F (n - 1) P gf lb encs Kp S Sp N w0)
    (hKt : ∀ {A B C : World}, Kp A B → Kp B C → Kp A C) (hKb : ∀ (W : World) (l : Nat) (o o' : Obj), w.heap.size ≤ l → W.heap[l]? = some o → o.isCells = false → o.isWalk = false → Kp W (W.putObj l o')) (hb0 : Below w0.heap.size w0 w) (hps : ∀ x, (encs x).size = ps.size)
    (I : List α → World → Prop) (Ix : Code → List α → World → Prop) (hI : OwnFrom w.heap.size I) (hIx : ∀ c, OwnFrom w.heap.size (Ix c)) (h0 : I [] w) (d e : Tmp) (f h : α → Value)
    (hassign : ∀ (l : Nat) (x : α) (W : World) (K : Act → World → Prop), K { tmps := (((ps.zip (encs x)).foldl (fun t (p, v) => t.setIfInBounds p v) a.tmps).setIfInBounds d (f x)).setIfInBounds e (h x), defers := [] } W →
      assign.wpIn (F.inRound l) (n - 1 - 1) P (Exit.then K (fun _ _ _ => False)) { tmps := (ps.zip (encs x)).foldl (fun t (p, v) => t.setIfInBounds p v) a.tmps, defers := [] } W)
    (hbody : ∀ (l : Nat) (pre : List α) (x : α) (W : World), I pre W → pre.length < N → body.wpIn (F.inRound l) (n - 1 - 1) P (ownPostG w.heap.size Kp I Ix (pre ++ [x]) W) { tmps := (((ps.zip (encs x)).foldl (fun t (p, v) => t.setIfInBounds p v) a.tmps).setIfInBounds d (f x)).setIfInBounds e (h x), defers := [] } W)
    (hdone : ∀ (D : Nat) (xs : List α) (W : World), w.heap.size ≤ D → S xs → I xs W → W.heap[D]? = some (.deferred (some [])) → Q .normal { a with defers := { target := .collected D, args := #[] } :: a.defers } W)
    (hstop : ∀ (D : Nat) (c : Code) (pre : List α) (W : World), w.heap.size ≤ D → Sp pre → Ix c pre W → W.heap[D]? = some (.deferred (some [])) → c.wpIn F n P Q { a with defers := { target := .collected D, args := #[] } :: a.defers } W) :
    (Code.rangeFunc g ps assign body).wpIn F n P Q a w :=
  wpIn_rangeFunc_ownG hro h1 hg hFg eg hseq hKt hKb hb0 hps I Ix hI hIx h0 _ hassign hbody hdone hstop

set_option maxRecDepth 100000 in
set_option maxHeartbeats 8000000 in
theorem each23 (n : Int) (p : Option Addr) (es : List Pt) (cp : Nat) (s : Int) (vo vb vf vl : Value) (O Fa : List Int) (m : Nat) (w : World) (hE : EachAt (nv n p es.length cp) s O Fa m w) (hT : TourAt w vo vf O Fa m) (hl : O.length ≤ 100000) (hO : ∀ j, j < O.length → 0 ≤ iat O j ∧ iat O j < (m : Int)) : Calls Try.prog 23 #[nv n p es.length cp, .int .i64 s, tv vo vb vf vl] w fun e w' => e = .returned (.bool true) ∧ Below w.heap.size w w' := by
  obtain ⟨W0, hW0⟩ : ∃ W, W = ((w.alloc (nbx n p es.length cp)).alloc (.cells #[vo, vb, vf, vl] 35)).alloc (.cells #[.bool false] 4) := ⟨_, rfl⟩
  have hb0 : Below w.heap.size w W0 := by rw [hW0]; go_grown
  have hs0 : W0.heap.size = w.heap.size + 3 := by rw [hW0]; simp
  have a0 : NOwn W0 w.heap.size n p es.length cp := by rw [hW0]; exact ⟨by unfold nbx; go_cell, by unfold nbx; go_cell, by unfold nbx; go_cell, by unfold nbx; go_cell⟩
  have b0 : W0.cell? ⟨w.heap.size + 1, 0, none⟩ = some vo := by rw [hW0]; go_cell
  have b2 : W0.cell? ⟨w.heap.size + 1, 2, none⟩ = some vf := by rw [hW0]; go_cell
  have c0 : W0.cell? ⟨w.heap.size + 1 + 1, 0, none⟩ = some (.bool false) := by rw [hW0]; go_cell
  have c1 : W0.frozen? ⟨w.heap.size + 1 + 1, 0, none⟩ = false := by rw [hW0]; go_cell
  obtain ⟨px, cx, rfl, hT2⟩ := hT
  have HT := hide hT2
  have HO := hide hO
  have EA := hide (hE W0 hb0)
  have HB0 := hide hb0
  obtain ⟨q0, q1, _, _⟩ := a0
  clear hE hT2 hO hb0
  refine (callsIn_wide (n := 9)).1 ?_
  refine callsIn_of_wp_marks Try.func23 rfl trivial ?_ rfl
  simp only [Try.ntmps23, List.size_toArray, List.length_cons, List.length_nil, Nat.reduceAdd, Nat.reduceSub, Array.replicate_succ, Array.replicate_zero, List.push_toArray, List.append_toArray, List.nil_append, List.cons_append]
  refine wpIn_wide.2 ?_
  go_wp2_with fail
  rw [← hW0]
  clear hW0
  refine EA.out.mono ?_
  rintro e w1 ⟨k1, k2, po, co, pf, lf, cf, go, gf, rfl, e1, e2, e3, e4, hb1⟩
  have hs1 := hb1.size
  have HB1 := hide (below_step HB0.out hb1)
  have HE1 := hide e1
  have HE2 := hide e2
  have HE3 := hide e3
  have HE4 := hide e4
  have B0 := hide (later hb1 b0)
  have B2 := hide (later hb1 b2)
  have C0 := hide (later hb1 c0)
  have C1 : Hid (w1.frozen? ⟨w.heap.size + 1 + 1, 0, none⟩ = false) := (hb1.frozen (p := ⟨w.heap.size + 1 + 1, 0, none⟩) (by show w.heap.size + 1 + 1 < W0.heap.size; omega)).trans c1
  clear EA e1 e2 e3 e4 hb1 b0 b2 c0 c1 q0 q1
  have hq : (binOp .eql 62 (.func (.func 51) #[] #[.pointer (some ⟨k1, 0, none⟩), .pointer (some ⟨k2, 0, none⟩)]) .nilFunc).run Try.prog w1 = .ok (.bool false) w1 := rfl
  go_wp2_with fail
  clear hq
  have HLT : Hid (∀ i, (i = k1 ∨ i = k2 ∨ 0 < O.length ∧ (i = go ∨ i = gf)) → i < w1.heap.size) := by
    rintro i (rfl | rfl | ⟨h0, rfl | rfl⟩)
    · exact block_lt_of_cell HE1.out
    · exact block_lt_of_cell HE2.out
    · exact block_lt_of_cell (HE4.out 0 h0).1
    · exact block_lt_of_cell (HE4.out 0 h0).2
  refine wp_loop_ghost_k (fun gk a' w' => ∃ (turn k8 : Nat) (Ds : List Nat) (u9 u10 u11 u17 u18 u19 u20 u21 u22 u23 u24 u25 u26 u27 u28 u29 u30 u31 u32 u33 u34 u35 u36 u37 u38 u39 u40 u41 u42 u43 u44 u45 u46 u47 u48 u49 u50 u51 u52 u53 u54 u55 u56 u57 u58 u59 u60 u61 u62 u63 u64 u65 u66 u67 u68 : Value), turn + gk = 2 ∧ Hid (Below w1.heap.size w1 w') ∧ Hid (Marks w1.heap.size w' Ds) ∧ w'.cell? ⟨k8, 0, none⟩ = some (.int .i64 turn) ∧ w'.frozen? ⟨k8, 0, none⟩ = false ∧ Hid (w1.heap.size ≤ k8) ∧ a' = { tmps := #[nv n p es.length cp, .int .i64 s, tv (.slice px O.length cx) vb vf vl, .pointer (some ⟨w.heap.size, 0, none⟩), undef, .pointer (some ⟨w.heap.size + 1, 0, none⟩), .pointer (some ⟨w.heap.size + 1 + 1, 0, none⟩), .func (.func 51) #[] #[.pointer (some ⟨k1, 0, none⟩), .pointer (some ⟨k2, 0, none⟩)], .pointer (some ⟨k8, 0, none⟩), u9, u10, u11, nv n p es.length cp, .int .i64 s, .func (.func 51) #[] #[.pointer (some ⟨k1, 0, none⟩), .pointer (some ⟨k2, 0, none⟩)], .func (.func 51) #[] #[.pointer (some ⟨k1, 0, none⟩), .pointer (some ⟨k2, 0, none⟩)], .bool false, u17, u18, u19, u20, u21, u22, u23, u24, u25, u26, u27, u28, u29, u30, u31, u32, u33, u34, u35, u36, u37, u38, u39, u40, u41, u42, u43, u44, u45, u46, u47, u48, u49, u50, u51, u52, u53, u54, u55, u56, u57, u58, u59, u60, u61, u62, u63, u64, u65, u66, u67, u68], defers := Ds.map mkD }) 2 ?start ?round
  case start =>
    exact ⟨0, _, [], _, _, _, _, _, _, _, _, _, _, _, _, _, _, _, _, _, _, _, _, _, _, _, _, _, _, _, _, _, _, _, _, _, _, _, _, _, _, _, _, _, _, _, _, _, _, _, _, _, _, _, _, _, _, _, rfl, by show Below _ _ _; go_grown, ⟨List.nodup_nil, fun D hD => by simp at hD⟩, by go_cell, by go_cell, Nat.le_refl _, rfl⟩
  case round =>
    rintro gk a' wr ⟨turn, k8, Ds, u9, u10, u11, u17, u18, u19, u20, u21, u22, u23, u24, u25, u26, u27, u28, u29, u30, u31, u32, u33, u34, u35, u36, u37, u38, u39, u40, u41, u42, u43, u44, u45, u46, u47, u48, u49, u50, u51, u52, u53, u54, u55, u56, u57, u58, u59, u60, u61, u62, u63, u64, u65, u66, u67, u68, htk, HBr, HM, h8, f8, HK8, rfl⟩ J K hJ hK
    have HHJ := hide hJ
    have HHK := hide hK
    have hsr := HBr.out.size
    have HC0 : Hid (wr.cell? ⟨w.heap.size + 1 + 1, 0, none⟩ = some (.bool false) ∧ wr.frozen? ⟨w.heap.size + 1 + 1, 0, none⟩ = false) := ⟨later HBr.out C0.out, (HBr.out.frozen (p := ⟨w.heap.size + 1 + 1, 0, none⟩) (by show w.heap.size + 1 + 1 < w1.heap.size; omega)).trans C1.out⟩
    by_cases hlt : turn < 2
    · have i1 : (turn : Int) < 2 := by omega
      have hkr : k8 < wr.heap.size := block_lt_of_cell h8
      go_wp2_with fail
      refine (wpIn_wide (n := 9)).1 ?_
      obtain ⟨X, hX⟩ : ∃ X, X = wr.alloc (.cells #[.int .i64 0] 3) := ⟨_, rfl⟩
      have hbX : Below wr.heap.size wr X := by rw [hX]; go_grown
      have x9 : X.cell? ⟨wr.heap.size, 0, none⟩ = some (.int .i64 0) := by rw [hX]; go_cell
      have y9 : X.frozen? ⟨wr.heap.size, 0, none⟩ = false := by rw [hX]; go_cell
      have hsX : X.heap.size = wr.heap.size + 1 := by rw [hX]; simp
      have HBX := hide (below_step HBr.out hbX)
      have HQ : Hid (∀ i, i < w1.heap.size → ¬ (i = wr.heap.size ∨ X.heap.size ≤ i)) := fun i hi => by omega
      have X8 : Hid (X.cell? ⟨k8, 0, none⟩ = some (.int .i64 turn)) := later hbX h8
      have MX := hide (HM.out.later hbX)
      have hq8 : ¬ (k8 = wr.heap.size ∨ X.heap.size ≤ k8) := by omega
      have C0X : Hid (X.cell? ⟨w.heap.size + 1 + 1, 0, none⟩ = some (.bool false) ∧ X.frozen? ⟨w.heap.size + 1 + 1, 0, none⟩ = false) := ⟨later hbX HC0.out.1, (hbX.frozen (p := ⟨w.heap.size + 1 + 1, 0, none⟩) (by show w.heap.size + 1 + 1 < wr.heap.size; omega)).trans HC0.out.2⟩
      rw [← hX]
      have HSX := hide hsX
      clear hX hsX
      refine range_two rfl (by omega) (gf := 51) (lb := #[.pointer (some ⟨k1, 0, none⟩), .pointer (some ⟨k2, 0, none⟩)]) rfl trivial (enters_of Try.func51 (by kernel_rfl) rfl)
        (each51_stops Fence.wide (9 - 1) trivial rfl (by omega) k1 k2 go gf m co po pf lf cf O Fa hl HE3.out HO.out (fun A B => Frame A B (fun i => i = wr.heap.size ∨ X.heap.size ≤ i)) (fun A B h i j v hi hc => frame_cell h (HQ.out i (HLT.out i hi)) hc) X (later HBX.out HE1.out) (later HBX.out HE2.out) (fun j hj => ⟨later HBX.out (HE4.out j hj).1, later HBX.out (HE4.out j hj).2⟩))
        (fun h k => Frame.trans h k) (fun W l o o' hl h _ _ => frame_put h (Or.inr hl)) (Below.refl _ _) (fun _ => rfl)
        (fun pre W => Frame X W (fun i => i = wr.heap.size ∨ X.heap.size ≤ i) ∧ W.cell? ⟨wr.heap.size, 0, none⟩ = some (.int .i64 pre.length) ∧ W.frozen? ⟨wr.heap.size, 0, none⟩ = false)
        (fun c pre W => (c = .ret ∧ ∀ k, k ≤ O.length → ¬ pre = eL O Fa k) ∨ (c = .exit 2 ∧ turn = 0 ∧ pre.length = 3 ∧ Frame X W (fun i => i = wr.heap.size ∨ X.heap.size ≤ i) ∧ W.cell? ⟨wr.heap.size, 0, none⟩ = some (.int .i64 pre.length) ∧ W.frozen? ⟨wr.heap.size, 0, none⟩ = false))
        ?own ?ownx ⟨Frame.of_below (Below.refl _ _) _, x9, y9⟩ 10 11 (fun x => .int .i64 x.1) (fun x => .int .i64 x.2) ?assign ?body ?done ?stop
      case own =>
        intro pre A B row ⟨h1, h2, h3⟩ hg hr
        exact ⟨h1.trans (Frame.grown hg (fun i e => Or.inr (hr i e).1)), cell_kept h2 hg (fun r e => (hr r e).2), (frozen_kept h2 hg (fun r e => (hr r e).2)).trans h3⟩
      case ownx =>
        rintro c pre A B row (⟨h1, h2⟩ | ⟨h0, ht, hp, h1, h2, h3⟩) hg hr
        · exact Or.inl ⟨h1, h2⟩
        · exact Or.inr ⟨h0, ht, hp, h1.trans (Frame.grown hg (fun i e => Or.inr (hr i e).1)), cell_kept h2 hg (fun r e => (hr r e).2), (frozen_kept h2 hg (fun r e => (hr r e).2)).trans h3⟩
      case assign =>
        intro l x W K hK
        simp only [eEnc, List.zip_toArray, List.zip_cons_cons, List.zip_nil_right, List.foldl_toArray, List.foldl_cons, List.foldl_nil, List.setIfInBounds_toArray, List.set_cons_zero, List.set_cons_succ] at hK ⊢
        gi_wp2
        exact hK
      case done =>
        rintro D ys W hD rfl ⟨h1, h2, h3⟩ hKD
        rw [eL_length] at h2
        have b0 := h1.cell (later HBX.out B0.out) (HQ.out _ (by show w.heap.size + 1 < w1.heap.size; omega))
        have c8 := h1.cell X8.out hq8
        have HN : Hid (Marks w1.heap.size W (D :: Ds)) := by
          refine ⟨List.nodup_cons.2 ⟨fun hm => ?_, MX.out.1⟩, fun E hE => ?_⟩
          · have := (Array.getElem?_eq_some_iff.1 (MX.out.2 D hm).2).1
            exact absurd this (by omega)
          · rcases List.mem_cons.1 hE with rfl | hE
            · exact ⟨by have := HSX.out; omega, hKD⟩
            · have h5 := (Array.getElem?_eq_some_iff.1 (HM.out.2 E hE).2).1
              exact ⟨(MX.out.2 E hE).1, (h1.block E (by have := HSX.out; omega) (by have := HSX.out; omega)).trans (MX.out.2 E hE).2⟩
        have HBW : Hid (Below w1.heap.size w1 W) := HBX.out.trans (h1.below (by have := HSX.out; omega) (fun i hi => by have := HSX.out; omega))
        have hsW := h1.size
        clear h1 h3
        go_wp2_with fail
        refine Handed.intro (gk - 1) (by omega) (HHJ.out _ _ _ ⟨turn + 1, _, D :: Ds, _, _, _, _, _, _, _, _, _, _, _, _, _, _, _, _, _, _, _, _, _, _, _, _, _, _, _, _, _, _, _, _, _, _, _, _, _, _, _, _, _, _, _, _, _, _, _, _, _, _, _, _, _, _, _, by omega, ?_, ?_, ?_, ?_, ?_, rfl⟩)
        · exact below_step HBW.out (by go_grown)
        · exact HN.out.later (by go_grown)
        · rw [show ((turn + 1 : Nat) : Int) = (turn : Int) + 1 from by omega]
          go_cell
        · go_cell
        · show w1.heap.size ≤ W.heap.size
          have := HBW.out.size
          omega
      case stop =>
        rintro D c pre W hD ⟨k, hk, hpe⟩ (⟨rfl, hbad⟩ | ⟨rfl, ht0, hp3, h1, h2, h3⟩) hKD
        · exact absurd hpe (hbad k hk)
        rw [hp3] at h2
        refine wpIn_wide.2 ?_
        have b0 := h1.cell (later HBX.out B0.out) (HQ.out _ (by show w.heap.size + 1 < w1.heap.size; omega))
        have c8 := h1.cell X8.out hq8
        have HN : Hid (Marks w1.heap.size W (D :: Ds)) := by
          refine ⟨List.nodup_cons.2 ⟨fun hm => ?_, MX.out.1⟩, fun E hE => ?_⟩
          · have := (Array.getElem?_eq_some_iff.1 (MX.out.2 D hm).2).1
            exact absurd this (by omega)
          · rcases List.mem_cons.1 hE with rfl | hE
            · exact ⟨by have := HSX.out; omega, hKD⟩
            · have h5 := (Array.getElem?_eq_some_iff.1 (HM.out.2 E hE).2).1
              exact ⟨(MX.out.2 E hE).1, (h1.block E (by have := HSX.out; omega) (by have := HSX.out; omega)).trans (MX.out.2 E hE).2⟩
        have HBW : Hid (Below w1.heap.size w1 W) := HBX.out.trans (h1.below (by have := HSX.out; omega) (fun i hi => by have := HSX.out; omega))
        have hsW := h1.size
        clear h1 h3 hp3 hpe
        subst ht0
        go_wp2_with fail
        all_goals
          refine Handed.intro (gk - 1) (by omega) (HHJ.out _ _ _ ⟨1, _, D :: Ds, _, _, _, _, _, _, _, _, _, _, _, _, _, _, _, _, _, _, _, _, _, _, _, _, _, _, _, _, _, _, _, _, _, _, _, _, _, _, _, _, _, _, _, _, _, _, _, _, _, _, _, _, _, _, _, by omega, ?_, ?_, ?_, ?_, ?_, rfl⟩)
          · exact below_step HBW.out (by go_grown)
          · exact HN.out.later (by go_grown)
          · show _ = some (Value.int .i64 1)
            go_cell
          · go_cell
          · show w1.heap.size ≤ W.heap.size
            have := HBW.out.size
            omega
      case body =>
        rintro l pre ⟨xa, xb⟩ W ⟨h1, h2, h3⟩ hlen
        obtain ⟨r, hr⟩ : ∃ r, pre.length = r := ⟨_, rfl⟩
        have HR := hide hr
        rw [hr] at h2 hlen
        simp only [eEnc, List.zip_toArray, List.zip_cons_cons, List.zip_nil_right, List.foldl_toArray, List.foldl_cons, List.foldl_nil, List.setIfInBounds_toArray, List.set_cons_zero, List.set_cons_succ]
        obtain ⟨gx, gy, cy, rfl, rfl, hcx⟩ := HT.out (by omega)
        obtain ⟨v0, v1⟩ := HO.out r hlen
        obtain ⟨v, hv⟩ : ∃ v : Nat, iat O r = v := ⟨(iat O r).toNat, by omega⟩
        have HV := hide hv
        obtain ⟨d0, d1⟩ := hcx r hlen
        rw [hv] at d0 d1 v0 v1
        rw [Int.toNat_natCast] at d1
        have HK1 : Hid (∀ a x, w1.cell? a = some x → W.cell? a = some x) := fun a x hx => h1.cell (later HBX.out hx) (HQ.out _ (block_lt_of_cell hx))
        have e0 := HK1.out _ _ (later HB1.out d0)
        have e1 := HK1.out _ _ (later HB1.out d1)
        have b0 := HK1.out _ _ B0.out
        have b2 := HK1.out _ _ B2.out
        have c8 := h1.cell X8.out hq8
        have c6 := h1.cell C0X.out.1 (HQ.out _ (by show w.heap.size + 1 + 1 < w1.heap.size; omega))
        have g6 := h1.frozen C0X.out.1 C0X.out.2 (HQ.out _ (by show w.heap.size + 1 + 1 < w1.heap.size; omega))
        have HF1 := hide h1
        have i2 : (r : Int) < O.length := by omega
        have i3 : ¬ (O.length : Int) ≤ r := by omega
        have i4 : (0 : Int) ≤ r := by omega
        have i5 : (v : Int) < m := by omega
        have i6 : (0 : Int) ≤ v := by omega
        clear d0 d1 hcx hv hr h1
        have HBAD : Hid ((xa ≠ v ∨ xb ≠ iat Fa v) → ∀ k, k ≤ O.length → ¬ pre ++ [(xa, xb)] = eL O Fa k) := by
          intro hn k hk he
          have hlk := congrArg List.length he
          rw [eL_length, List.length_append, HR.out, List.length_singleton] at hlk
          subst hlk
          rw [eL_succ] at he
          have he2 := (List.append_inj' he rfl).2
          simp only [List.cons.injEq, Prod.mk.injEq, and_true] at he2
          rw [HV.out, Int.toNat_natCast] at he2
          omega
        by_cases hxa : xa = v
        · by_cases hxb : xb = iat Fa v
          · subst hxa hxb
            obtain ⟨W', hW'⟩ : ∃ W', W' = W.setCell ⟨wr.heap.size, 0, none⟩ (.int .i64 ((r : Int) + 1)) := ⟨_, rfl⟩
            have FIN : Hid (Frame W W' (fun i => i = wr.heap.size ∨ X.heap.size ≤ i) ∧ KeepsFrom X.heap.size W W' ∧ Frame X W' (fun i => i = wr.heap.size ∨ X.heap.size ≤ i) ∧ W'.cell? ⟨wr.heap.size, 0, none⟩ = some (.int .i64 ((pre ++ [((v : Int), iat Fa v)]).length : Nat)) ∧ W'.frozen? ⟨wr.heap.size, 0, none⟩ = false) := by
              rw [hW']
              refine ⟨Frame.set W _ _ (Or.inl rfl), (KeepsOthers.setCell _ _ _).from _, HF1.out.trans (Frame.set W _ _ (Or.inl rfl)), ?_, ?_⟩
              · rw [List.length_append, HR.out]
                exact World.cell?_setCell_same' _ _ _ (by rw [h2]; rfl)
              · rw [World.frozen?_setCell]; exact h3
            have FL : Hid ((pre ++ [((v : Int), iat Fa v)]).length = r + 1) := by show _ = _; rw [List.length_append, HR.out]; rfl
            by_cases hex : turn = 0 ∧ r = 2
            · have t3 : ((turn : Int) == 0) = true := by simp [hex.1]
              have t4 : ((r : Int) + 1 == 3) = true := by simp [hex.2]
              have HEX := hide hex
              clear hex
              gi_wp2
              rw [← hW']
              obtain ⟨_, f2, f3, f4, f5⟩ := FIN.out
              exact ⟨f2, Or.inr ⟨rfl, HEX.out.1, by rw [FL.out, HEX.out.2], f3, f4, f5⟩⟩
            · by_cases ht0 : turn = 0
              · have t3 : ((turn : Int) == 0) = true := by simp [ht0]
                have t4 : ((r : Int) + 1 == 3) = false := by
                  have : (r : Int) + 1 ≠ 3 := by omega
                  simp [this]
                clear ht0 hex
                gi_wp2
                rw [← hW']
                obtain ⟨f1, f2, f3, f4, f5⟩ := FIN.out
                exact ⟨f2, f1, f3, f4, f5⟩
              · have t3 : ((turn : Int) == 0) = false := beq_eq_false_iff_ne.2 (by omega)
                clear ht0 hex
                gi_wp2
                rw [← hW']
                obtain ⟨f1, f2, f3, f4, f5⟩ := FIN.out
                exact ⟨f2, f1, f3, f4, f5⟩
          · have t2 : (xb == iat Fa v) = false := by simp [hxb]
            have HBAD := hide (HBAD.out (Or.inr hxb))
            clear hxb
            subst hxa
            gi_wp2
            exact ⟨(KeepsOthers.setCell _ _ _).from _, Or.inl ⟨rfl, HBAD.out⟩⟩
        · have t1 : (xa == (v : Int)) = false := by simp [hxa]
          have HBAD := hide (HBAD.out (Or.inl hxa))
          clear hxa
          gi_wp2
          exact ⟨(KeepsOthers.setCell _ _ _).from _, Or.inl ⟨rfl, HBAD.out⟩⟩
    · have i1 : ¬ (turn : Int) < 2 := by omega
      obtain ⟨c6, g6⟩ := HC0.out
      go_wp2_with fail
      refine leave_marks (B := w1.heap.size) Ds _ ?_ ?_
      · refine ⟨HM.out.1, fun D hD => ⟨(HM.out.2 D hD).1, ?_⟩⟩
        exact (Below.heap_setCell _ _ _ D (by have := (HM.out.2 D hD).1; show D ≠ w.heap.size + 1 + 1; omega)).trans (HM.out.2 D hD).2
      · intro W' hb hc
        have c7 := hc ⟨w.heap.size + 1 + 1, 0, none⟩ (.bool true) (World.cell?_setCell_same' _ _ _ (by rw [c6]; rfl))
        refine ⟨.bool true, ?_, rfl, ?_⟩
        · simp [results, Try.f23, go_sem, c7]
        · exact ((below_step HB1.out HBr.out).setCell (p := ⟨w.heap.size + 1 + 1, 0, none⟩) (by show w.heap.size ≤ w.heap.size + 1 + 1; omega) _).trans (hb.mono (by omega))
end Go.Proofs.Ytghffodjffkijaa


/- Apart: the lists that were kept, each written full by its number, still hold their own marks. -/
/- Lists that are kept until all are there: Room, Keep, in every world. -/
namespace Go.Proofs.Ytghffodjffkijaa
open Go.RowKit Go.Sort
open Go

theorem oper_append {P : Program} {w : World} {o : Oper} {a : Act} {K : Act → World → Prop} {Q : Exit → Act → World → Prop} (s x : Operand) (t : TypeId)
    (ho : o.op = .call { callee := .builtin .append, args := #[s, x], argTypes := #[t, t] }) (ty : TypeId) (hty : o.type = ty) (vs vx v' : Value) (w' : World) (hs : a.eval s = vs) (hx : a.eval x = vx)
    (hr : (Builtin.append_ #[t, t] ty #[vs, vx]).run P w = .ok v' w') (h : K (a.put o.dst v') w') : Oper.wp P o a w K Q := by
  subst hty
  unfold Oper.wp execOp
  simp only [ho, resolve, invoke, builtin, Sem.run_bind, Sem.run_pure, Result.andThen_ok, List.map_toArray, List.map_cons, List.map_nil, hs, hx, hr]
  exact h
def roomI (a b : Int) : Int := if a + 2000 < b then a + 2000 else b
theorem room47 (a b : Int) (w : World) (h0 : 0 ≤ a) (h1 : a ≤ 100000) : Calls Try.prog 47 #[.int .i64 a, .int .i64 b] w fun e w' => e = .returned (.int .i64 (roomI a b)) ∧ Below w.heap.size w w' := by
  unfold roomI
  go_enter Try.func47, Try.ntmps47
  by_cases h : a + 2000 < b
  · rw [if_pos h]
    go_wp2
    all_goals go_ret
    all_goals exact ⟨rfl, Below.refl _ _⟩
  · rw [if_neg h]
    go_wp2
    all_goals go_ret
    all_goals exact ⟨rfl, Below.refl _ _⟩
/-- Blocks of other types than the box of kept lists and its list stay. -/
def Kp (w w' : World) : Prop := ∀ (k : Nat) (o : Array Value) (fz : Nat × Nat) (ty : TypeId), w.heap[k]? = some (.cells o ty fz) → ty ≠ 31 → ty ≠ 33 → w'.heap[k]? = some (.cells o ty fz)
theorem Kp.trans {a b c : World} (h : Kp a b) (k : Kp b c) : Kp a c := fun i o fz ty h1 h2 h3 => k i o fz ty (h i o fz ty h1 h2 h3) h2 h3
theorem Kp.below {a b : World} (h : Below a.heap.size a b) : Kp a b := fun i o fz ty h1 _ _ => by
  rw [h.block i (Array.getElem?_eq_some_iff.1 h1).1]; exact h1
theorem Kp.row {w w' : World} {base e size n : Nat} {v : Value} {xs : List Value} (h : Kp w w') (o : w.ownsRow base e size v n xs) (h1 : e ≠ 31) (h2 : e ≠ 33) : w'.ownsRow base e size v n xs := by
  obtain ⟨k0, k1 | ⟨g, c, cur, e1, e2, e3, e4⟩⟩ := o
  · exact ⟨k0, Or.inl k1⟩
  · exact ⟨k0, Or.inr ⟨g, c, cur, e1, e2, h _ _ _ _ e3 h1 h2, e4⟩⟩
/-- The lists that are kept: their box, the list of them, each a row of its own. -/
structure Bag (w : World) (B k : Nat) (lv : Value) (n : Nat) (rv : Nat → Value) (L : Nat → List Int) (sz : Nat) : Prop where
  box : w.ownsRow 0 31 2 (.slice (some ⟨k, 0, none⟩) 1 1) 1 [lv, .int .i64 sz]
  kB : B ≤ k
  lst : w.ownsRow B 33 1 lv n ((List.range n).map rv)
  uniq : ∀ u v j, u < n → v < n → (rv u).ownBlock = some j → (rv v).ownBlock = some j → u = v
  own : ∀ v, v < n → IOwns w B (rv v) (L v)
  len : ∀ v, v < n → (L v).length ≤ 30000
  big : sz ≤ 1048576
  cnt : n ≤ sz
variable {w w' : World} {B k n sz : Nat} {lv : Value} {rv : Nat → Value} {L : Nat → List Int}
theorem Bag.later (h : Bag w B k lv n rv L sz) (hb : Below w.heap.size w w') : Bag w' B k lv n rv L sz :=
  ⟨World.ownsRow.kept h.box (grown_below hb) (Or.inr (by simp [Value.ownBlock])), h.kB, World.ownsRow.kept h.lst (grown_below hb) (by cases lv.ownBlock <;> simp), h.uniq, fun v hv => (h.own v hv).later hb, h.len, h.big, h.cnt⟩
theorem Bag.cells (h : Bag w B k lv n rv L sz) : w.cell? ⟨k, 0, none⟩ = some lv ∧ w.cell? ⟨k, 1, none⟩ = some (.int .i64 sz) ∧ w.frozen? ⟨k, 0, none⟩ = false ∧ w.frozen? ⟨k, 1, none⟩ = false :=
  ⟨World.ownsRow.cellAt h.box 0 (by omega), World.ownsRow.cellAt h.box 1 (by omega), World.ownsRow.frozenAt h.box 0, World.ownsRow.frozenAt h.box 1⟩
theorem Bag.lk (h : Bag w B k lv n rv L sz) : lv.ownBlock ≠ some k := by
  obtain ⟨cur, hk⟩ := row_kind h.box
  exact row_apart hk h.lst (by decide)
theorem Bag.rk (h : Bag w B k lv n rv L sz) {v : Nat} (hv : v < n) : (rv v).ownBlock ≠ some k := by
  obtain ⟨cur, hk⟩ := row_kind h.box
  exact row_apart hk (h.own v hv) (by decide)
theorem lst_kind {B n : Nat} {lv : Value} {xs : List Value} (h : w.ownsRow B 33 1 lv n xs) {g : Nat} (hg : lv.ownBlock = some g) : ∃ cur, w.heap[g]? = some (.cells cur 33 (0, 0)) := by
  obtain ⟨_, ⟨h1, _⟩ | ⟨g1, c1, cur1, h1, h2, h3, _⟩⟩ := h
  · rw [h1] at hg; simp [Value.ownBlock] at hg
  · rw [h1] at hg
    simp only [Value.ownBlock, Option.some.injEq] at hg
    rw [← hg]
    exact ⟨_, h3⟩
theorem lst_apart {B B' n : Nat} {lv v : Value} {xs : List Value} {l : List Int} (h : w.ownsRow B 33 1 lv n xs) (o : IOwns w B' v l) {g : Nat} (hg : lv.ownBlock = some g) : v.ownBlock ≠ some g := by
  obtain ⟨cur, hk⟩ := lst_kind h hg
  exact row_apart hk o (by decide)
theorem frame_cellK {w w' : World} {p : Nat → Prop} {a : Addr} {v : Value} (f : Frame w w' p) (hp : ¬ p a.block) (h : w.cell? a = some v) : w'.cell? a = some v := by
  have hl := block_lt_of_cell h
  have hb := f.block a.block hl hp
  unfold World.cell? at h ⊢
  rw [hb]
  exact h
/-- The blocks of a bag that Keep writes to. -/
def BgP (k : Nat) (lv : Value) (i : Nat) : Prop := i = k ∨ lv.ownBlock = some i
theorem Bag.kp (h : Bag w B k lv n rv L sz) (f : Frame w w' (BgP k lv)) : Kp w w' := by
  intro i o fz ty h1 h2 h3
  rw [f.block i (Array.getElem?_eq_some_iff.1 h1).1 ?_]
  · exact h1
  rintro (e | e)
  · subst e
    obtain ⟨cur, hk⟩ := row_kind h.box
    rw [hk] at h1
    cases h1
    exact h2 rfl
  · obtain ⟨cur, hk⟩ := lst_kind h.lst e
    rw [hk] at h1
    cases h1
    exact h3 rfl
theorem Bag.lb (h : Bag w B k lv n rv L sz) : ∀ i, BgP k lv i → B ≤ i := by
  rintro i (e | e)
  · rw [e]; exact h.kB
  · exact (World.ownsRow.lt h.lst i e).1
/-- The size is written anew. -/
theorem Bag.sized (h : Bag w B k lv n rv L sz) {s2 : Nat} (h1 : n ≤ s2) (h2 : s2 ≤ 1048576) : Bag (w.setCell ⟨k, 1, none⟩ (.int .i64 s2)) B k lv n rv L s2 :=
  ⟨(World.ownsRow.stored h.box 1 _).1, h.kB, ownsRow_setCell_other (a := ⟨k, 1, none⟩) h.lst h.lk _, h.uniq, fun v hv => ownsRow_setCell_other (a := ⟨k, 1, none⟩) (h.own v hv) (h.rk hv) _, h.len, h2, h1⟩
theorem append_lst {base g n : Nat} {v x : Value} {xs : List Value} (o : w.ownsRow base 33 1 v n xs) (hk : w.cell? ⟨g, 0, none⟩ = some x) (hx : x.oneCell' = true) (hb : base ≤ w.heap.size) (hl : n ≤ 2000000) :
    ∃ v' w', (Builtin.append_ #[29, 29] 29 #[v, .slice (some ⟨g, 0, none⟩) 1 1]).run Try.prog w = .ok v' w' ∧ w'.ownsRow base 33 1 v' (n + 1) (xs ++ [x]) ∧ w.grownBy w' v.ownBlock ∧ (v'.ownBlock = v.ownBlock ∨ v'.ownBlock = some w.heap.size) := by
  obtain ⟨i0, hi0, hz0, hz1, hz2⟩ := info_parts info41
  have hnews : ∀ j u, [x][j]? = some u → w.cell? ((⟨g, 0, none⟩ : Addr).add j) = some u := by
    intro j u hj
    cases j with
    | zero => simp at hj; subst hj; exact hk
    | succ k => simp at hj
  obtain ⟨v', w', h1, h2, h3, _, h5⟩ := run_append_own_at (P := Try.prog) w base 29 29 33 i0 (.slice none 0 0) 1 24 Try.underlying29 hi0 hz0 hz1 hz2 rfl (by decide) v n xs o ⟨g, 0, none⟩ 1 1 [x] rfl hnews (by simp [hx]) (by unfold maxLen; omega) (by omega) hb
  exact ⟨v', w', h1, h2, h3, h5⟩
/-- A list put behind those that are kept. -/
theorem Bag.push {Lx : List Int} {a : Option Addr} {b c g : Nat} (h : Bag w B k lv n rv L sz) (hB : B ≤ w.heap.size) (hx : IOwns w B (.slice a b c) Lx) (hxl : Lx.length ≤ 30000) (hc : n + 1 ≤ sz)
    (hg : w.cell? ⟨g, 0, none⟩ = some (.slice a b c)) (hn : ∀ u j, u < n → (Value.slice a b c).ownBlock = some j → (rv u).ownBlock ≠ some j) :
    ∃ p1 l1 c1 D, (Builtin.append_ #[29, 29] 29 #[lv, .slice (some ⟨g, 0, none⟩) 1 1]).run Try.prog w = .ok (.slice p1 l1 c1) D ∧ D.cell? ⟨k, 0, none⟩ = some lv ∧ D.frozen? ⟨k, 0, none⟩ = false ∧ k < D.heap.size ∧
      Bag (D.setCell ⟨k, 0, none⟩ (.slice p1 l1 c1)) B k (.slice p1 l1 c1) (n + 1) (upd rv n (.slice a b c)) (upd L n Lx) sz ∧ Frame w (D.setCell ⟨k, 0, none⟩ (.slice p1 l1 c1)) (BgP k lv) ∧ Frame w D (fun i => lv.ownBlock = some i) ∧
      ((Value.slice p1 l1 c1).ownBlock = lv.ownBlock ∨ (Value.slice p1 l1 c1).ownBlock = some w.heap.size) := by
  obtain ⟨v1, D, e1, o1, gr, at1⟩ := append_lst h.lst hg rfl hB (by have := h.cnt; have := h.big; omega)
  obtain ⟨p1, c1, hv1, _, _⟩ := World.ownsRow.form o1 (by omega)
  subst hv1
  have dbox := World.ownsRow.kept h.box gr (Or.inr (fun e => h.lk (by rw [← e]; rfl)))
  have down : ∀ v l, IOwns w B v l → IOwns D B v l := fun v l o => by
    refine World.ownsRow.kept o gr ?_
    cases hb : v.ownBlock with
    | none => exact Or.inl rfl
    | some j => exact Or.inr (fun e => lst_apart h.lst o e.symm hb)
  have hk1 : (Value.slice (some ⟨p1, 0, none⟩) (n + 1) c1).ownBlock ≠ some k := by obtain ⟨cur, hk⟩ := row_kind dbox; exact row_apart hk o1 (by decide)
  have hrk : ∀ v l, IOwns D B v l → v.ownBlock ≠ some k := fun v l o => by obtain ⟨cur, hk⟩ := row_kind dbox; exact row_apart hk o (by decide)
  refine ⟨some ⟨p1, 0, none⟩, n + 1, c1, D, e1, World.ownsRow.cellAt dbox 0 (by omega), World.ownsRow.frozenAt dbox 0, (World.ownsRow.lt dbox k rfl).2, ⟨(World.ownsRow.stored dbox 0 _).1, h.kB, ?_, ?_, ?_, ?_, h.big, hc⟩, ?_, Frame.grown gr (fun i e => e), at1⟩
  · have := ownsRow_setCell_other (a := ⟨k, 0, none⟩) o1 hk1 (.slice (some ⟨p1, 0, none⟩) (n + 1) c1)
    rw [show ((List.range (n + 1)).map (upd rv n (.slice a b c))) = (List.range n).map rv ++ [.slice a b c] from ?_]
    · exact this
    rw [List.range_succ, List.map_append, List.map_cons, List.map_nil, upd_same]
    congr 1
    apply List.map_congr_left
    intro i hi
    exact upd_other _ _ (by have := List.mem_range.1 hi; omega)
  · intro u v j hu hv e1 e2
    by_cases hua : u = n <;> by_cases hva : v = n
    · omega
    · rw [hua, upd_same] at e1
      rw [upd_other _ _ hva] at e2
      exact absurd e2 (hn v j (by omega) e1)
    · rw [hva, upd_same] at e2
      rw [upd_other _ _ hua] at e1
      exact absurd e1 (hn u j (by omega) e2)
    · rw [upd_other _ _ hua] at e1
      rw [upd_other _ _ hva] at e2
      exact h.uniq u v j (by omega) (by omega) e1 e2
  · intro v hv
    by_cases hva : v = n
    · rw [hva, upd_same, upd_same]
      exact ownsRow_setCell_other (a := ⟨k, 0, none⟩) (down _ _ hx) (hrk _ _ (down _ _ hx)) _
    · rw [upd_other _ _ hva, upd_other _ _ hva]
      have o := down _ _ (h.own v (by omega))
      exact ownsRow_setCell_other (a := ⟨k, 0, none⟩) o (hrk _ _ o) _
  · intro v hv
    by_cases hva : v = n
    · rw [hva, upd_same]; exact hxl
    · rw [upd_other _ _ hva]; exact h.len v (by omega)
  · exact (Frame.grown gr (fun i e => Or.inr e)).trans (Frame.set _ _ _ (Or.inl rfl))
/-- What Keep has done with the first i lists. -/
structure KI (w wr : World) (B k g q T i : Nat) (vs : Nat → Value) (Ls : Nat → List Int) (lv : Value) (n : Nat) (rv : Nat → Value) (L : Nat → List Int) (sz : Nat) : Prop where
  below : Below B w wr
  kp : Kp w wr
  args : wr.ownsRow T 33 1 (.slice (some ⟨g, 0, none⟩) q q) q ((List.range q).map vs)
  bag : Bag wr B k lv n rv L sz
  ng : lv.ownBlock ≠ some g
  own : ∀ j, j < q → IOwns wr B (vs j) (Ls j)
  fresh : ∀ j u b, i ≤ j → j < q → u < n → (vs j).ownBlock = some b → (rv u).ownBlock ≠ some b
theorem KI.later {wr wq : World} {g q T i : Nat} {vs : Nat → Value} {Ls : Nat → List Int} (h : KI w wr B k g q T i vs Ls lv n rv L sz) (hb : Below wr.heap.size wr wq) (hB : B ≤ wr.heap.size) : KI w wq B k g q T i vs Ls lv n rv L sz :=
  ⟨Below.trans h.below (hb.mono hB), h.kp.trans (Kp.below hb), World.ownsRow.kept h.args (grown_below hb) (Or.inr (by simp [Value.ownBlock])), h.bag.later hb, h.ng, fun j hj => (h.own j hj).later hb, h.fresh⟩
set_option maxRecDepth 100000 in
set_option maxHeartbeats 8000000 in
theorem keep22 {lv0 : Value} {n0 sz0 : Nat} {rv0 : Nat → Value} {L0 : Nat → List Int} (B k g q T : Nat) (vs : Nat → Value) (Ls : Nat → List Int) (w : World) (hbag : Bag w B k lv0 n0 rv0 L0 sz0) (hB : B ≤ w.heap.size) (hBT : B ≤ T) (hq : q ≤ 1000)
    (hargs : w.ownsRow T 33 1 (.slice (some ⟨g, 0, none⟩) q q) q ((List.range q).map vs)) (hng : lv0.ownBlock ≠ some g)
    (hown : ∀ j, j < q → IOwns w B (vs j) (Ls j)) (hlen : ∀ j, j < q → (Ls j).length ≤ 20000)
    (hun : ∀ i j b, i < q → j < q → (vs i).ownBlock = some b → (vs j).ownBlock = some b → i = j)
    (hfr : ∀ j u b, j < q → u < n0 → (vs j).ownBlock = some b → (rv0 u).ownBlock ≠ some b) :
    Calls Try.prog 22 #[.pointer (some ⟨k, 0, none⟩), .slice (some ⟨g, 0, none⟩) q q] w fun e w' => e = .returned (.tuple #[]) ∧ (∃ lv n rv L sz, Bag w' B k lv n rv L sz) ∧ Below B w w' ∧ Kp w w' := by
  have HK0 : Hid (∃ lv n rv L sz, KI w w B k g q T 0 vs Ls lv n rv L sz) := ⟨lv0, n0, rv0, L0, sz0, Below.refl _ _, Kp.below (Below.refl _ _), hargs, hbag, hng, hown, fun j u b _ h1 h2 h3 => hfr j u b h1 h2 h3⟩
  have HLEN := hide hlen
  have HUN := hide hun
  have HBS := hide hB
  have HBT := hide hBT
  clear hbag hB hargs hng hown hlen hun hfr hBT
  go_enter Try.func22, Try.ntmps22
  go_wp2_with fail
  go_loopw [4] (fun t wr => ∃ i : Nat, i ≤ q ∧ t = .int .i64 i ∧ Hid (∃ lv n rv L sz, KI w wr B k g q T i vs Ls lv n rv L sz)) (fun t _ => q - (intOf t).toNat)
  case atStart => exact ⟨0, by omega, rfl, HK0.out⟩
  case round =>
    obtain ⟨i, hi, rfl, HR⟩ := hrel
    obtain ⟨lv, n, rv, L, sz, hK⟩ := HR.out
    obtain ⟨pl, ll, cl, rfl⟩ : ∃ pl ll cl, lv = .slice pl ll cl := by
      rcases hK.bag.lst.2 with ⟨h1, _⟩ | ⟨g1, c1, _, h1, _⟩
      · exact ⟨_, _, _, h1⟩
      · exact ⟨_, _, _, h1⟩
    by_cases hlt : i < q
    · have i1 : (i : Int) < q := by omega
      have i2 : (0 : Int) ≤ i := by omega
      have c0 : wr.cell? ⟨g, i, none⟩ = some (vs i) := by rw [World.ownsRow.cellAt hK.args i (by omega)]; simp [hlt]
      obtain ⟨pa, ca, hva, _, hca, _⟩ := IOwns.form (hK.own i hlt)
      have hll := HLEN.out i hlt
      have HVA := hide hva
      have HKI := hide hK
      rw [hva] at c0
      obtain ⟨ln, hln⟩ : ∃ ln, (Ls i).length = ln := ⟨_, rfl⟩
      have HLN := hide hln
      rw [hln] at c0 hll hca
      clear hK HR hva hln HK0
      have RM : ∀ dd os, Calls Try.prog 47 #[.int .i64 ln, .int .i64 ca] (grow (redrawn wr dd) os) fun e w'' => e = .returned (.int .i64 (roomI ln ca)) ∧ ∃ p : Regrown, w'' = grow (redrawn wr p.d) p.os := fun dd os => Calls.regrown_of (room47 ln ca _ (by omega) (by omega))
      have hr0 : 0 ≤ roomI ln ca ∧ roomI ln ca ≤ (ln : Int) + 2000 := by unfold roomI; split <;> omega
      obtain ⟨r, hr⟩ : ∃ r, roomI ln ca = r := ⟨_, rfl⟩
      rw [hr] at RM hr0
      have C0 := cell_regrown c0
      clear hr
      go_upto_region 3 with fail
      refine wp_region_quiet_below (by kernel_rfl) (by kernel_rfl) ?_
      repeat (go_big_quiet_step (with_reducible exact RM _ _))
      refine wpQuiet_nil ?_
      intro X hw'
      have hb3 : Below wr.heap.size wr X := by
        obtain ⟨⟨dq, osq⟩, hw''⟩ := hw'
        rw [hw'']
        exact below_regrown wr dq osq
      have HKX := hide (HKI.out.later hb3 (Nat.le_trans HBS.out HKI.out.below.size))
      clear hw' hb3 c0 C0 RM HKI
      obtain ⟨x0, x1, x2, x3⟩ := HKX.out.bag.cells
      have hbig := HKX.out.bag.big
      have hcnt := HKX.out.bag.cnt
      by_cases hrp : r > 0
      · by_cases hfit : (sz : Int) + r ≤ 1048576
        · obtain ⟨s2, hs2⟩ : ∃ s2 : Nat, (sz : Int) + r = s2 := ⟨((sz : Int) + r).toNat, by omega⟩
          obtain ⟨Y, hY⟩ : ∃ Y, Y = X.setCell ⟨k, 1, none⟩ (.int .i64 s2) := ⟨_, rfl⟩
          have HBY : Hid (Bag Y B k (.slice pl ll cl) n rv L s2) := by show Bag _ _ _ _ _ _ _ _; rw [hY]; exact HKX.out.bag.sized (by omega) (by omega)
          have HFY : Hid (Frame X Y (BgP k (.slice pl ll cl))) := by show Frame _ _ _; rw [hY]; exact Frame.set _ _ _ (Or.inl rfl)
          have HN1 : Hid (n + 1 ≤ s2) := by show n + 1 ≤ s2; omega
          go_upto_region 6 with fail
          rw [← hY]
          clear hY x0 x1 x2 x3 hs2 hfit hrp hr0 hbig hcnt
          have bd : Below Y.heap.size Y Y.drew := below_drew _
          obtain ⟨V0, hV0⟩ : ∃ V, V = Y.drew := ⟨_, rfl⟩
          have HF0 : Hid (Frame X V0 (BgP k (.slice pl ll cl))) := by show Frame _ _ _; rw [hV0]; exact HFY.out.trans (Frame.of_below bd _)
          have HG0 : Hid (Bag V0 B k (.slice pl ll cl) n rv L s2) := by show Bag _ _ _ _ _ _ _ _; rw [hV0]; exact HBY.out.later bd
          have hkg : g ≠ k := by
            intro e
            obtain ⟨cur, hk⟩ := row_kind HKX.out.bag.box
            exact row_apart hk HKX.out.args (by decide) (by rw [e]; rfl)
          have c0 : V0.cell? ⟨g, i, none⟩ = some (.slice pa ln ca) := by
            refine frame_cellK HF0.out ?_ ?_
            · rintro (e | e)
              · exact hkg e
              · exact HKX.out.ng e
            · rw [World.ownsRow.cellAt HKX.out.args i (by omega)]
              have := HVA.out
              rw [HLN.out] at this
              simp [hlt, this]
          have HOX : Hid (∀ V, Frame X V (BgP k (.slice pl ll cl)) → IOwns V B (.slice pa ln ca) (Ls i)) := fun V hV => by
            have hvi := HVA.out
            rw [HLN.out] at hvi
            rw [← hvi]
            refine hV.iowns (HKX.out.own i hlt) (fun b hb => ?_)
            rintro (e | e)
            · obtain ⟨cur, hk⟩ := row_kind HKX.out.bag.box
              exact row_apart hk (HKX.out.own i hlt) (by decide) (by rw [hb, e])
            · exact lst_apart HKX.out.bag.lst (HKX.out.own i hlt) e hb
          have HNX : Hid (∀ u j, u < n → (Value.slice pa ln ca).ownBlock = some j → (rv u).ownBlock ≠ some j) := fun u j hu hj => by
            have hvi := HVA.out
            rw [HLN.out] at hvi
            exact HKX.out.fresh i u j (Nat.le_refl _) hlt hu (by rw [hvi]; exact hj)
          refine wp_region_held_drew (S := (fun W' => W'.cell? ⟨g, i, none⟩ = some (.slice pa ln ca))) (by kernel_rfl) (by rw [← hV0]; exact c0) (fun hHeld => ?_)
          rw [← hV0] at hHeld ⊢
          clear hV0 bd HBY HFY
          refine wpAnyH_take (i := 0) (v := ?v1) rfl (by kernel_rfl) (by kernel_rfl) (by kernel_rfl) (fun _ _ _ h => h) (Or.inl ⟨by rfl, ?hy1⟩) (by assumption) ?rest1
          case hy1 => (intro w hSw; (try dsimp only at hSw); go_simp; try with_reducible rfl)
          try simp only [Act.put, List.setIfInBounds_toArray]
          refine wpAnyH_take (i := 1) (v := ?v2) rfl (by kernel_rfl) (by kernel_rfl) (by kernel_rfl) (fun _ _ _ h => h) (Or.inl ⟨by rfl, ?hy2⟩) (by assumption) ?rest2
          case hy2 => (intro w hSw; (try dsimp only at hSw); go_simp; try with_reducible rfl)
          try simp only [Act.put]
          refine wpAnyH_take (i := 2) (v := ?v3) rfl (by kernel_rfl) (by kernel_rfl) (by kernel_rfl) (fun _ _ _ h => h) (Or.inl ⟨by rfl, ?hy3⟩) (by assumption) ?rest3
          case hy3 => (intro w hSw; (try dsimp only at hSw); go_simp; try with_reducible rfl)
          try simp only [Act.put]
          refine wpAnyH_take (i := 3) (v := ?v4) rfl (by kernel_rfl) (by kernel_rfl) (by kernel_rfl) (fun _ _ _ h => h) (Or.inl ⟨by rfl, ?hy4⟩) (by assumption) ?rest4
          case hy4 => (intro w hSw; (try dsimp only at hSw); go_simp; try with_reducible rfl)
          try simp only [Act.put]
          refine wpAnyH_take (i := 5) (v := ?v5) rfl (by kernel_rfl) (by kernel_rfl) (by kernel_rfl) (fun _ _ _ h => h) (Or.inl ⟨by rfl, ?hy5⟩) (by assumption) ?rest5
          case hy5 => (intro w hSw; (try dsimp only at hSw); go_simp; try with_reducible rfl)
          try simp only [Act.put]
          refine wpAnyH_take (i := 6) (v := ?v6) rfl (by kernel_rfl) (by kernel_rfl) (by kernel_rfl) (fun _ _ _ h => h) (Or.inl ⟨by rfl, ?hy6⟩) (by assumption) ?rest6
          case hy6 => (intro w hSw; (try dsimp only at hSw); go_simp; try with_reducible rfl)
          try simp only [Act.put]
          refine wpAnyH_take (i := 7) (v := ?v7) rfl (by kernel_rfl) (by kernel_rfl) (by kernel_rfl) (fun _ _ _ h => h) (Or.inl ⟨by rfl, ?hy7⟩) (by assumption) ?rest7
          case hy7 => (intro w hSw; (try dsimp only at hSw); go_simp; try with_reducible rfl)
          try simp only [Act.put]
          refine wpAnyH_take (i := 8) (v := ?v8) rfl (by kernel_rfl) (by kernel_rfl) (by kernel_rfl) (fun _ _ _ h => h) (Or.inl ⟨by rfl, ?hy8⟩) (by assumption) ?rest8
          case hy8 => (intro w hSw; (try dsimp only at hSw); go_simp; try with_reducible rfl)
          try simp only [Act.put]
          refine wpAnyH_ready (rs := [4, 9]) (by kernel_rfl) (by simp) ?_
          refine ready_cons ({ dst := some 47, op := Op.load 29 (Operand.tmp 46), type := 29, pos := "law.go:48", after := #[{ on := 3, ground := Ground.data }], guard := none }) rfl rfl (fun K hK => ?_) ?_
          · clear hHeld
            have d0 := HG0.out.cells.1
            refine wp_val (v := ?vl1) (w2 := V0) ?hl1 ?_
            case hl1 => (go_simp; try with_reducible rfl)
            clear d0
            refine hK.out _ _ (by first | exact c0 | (dsimp only; exact c0) | exact cell_other c0 hkg) (fun hHeld => ?_)
            clear hK K
            try simp only [Act.put]
            refine wpAnyH_ready (rs := [9]) (by kernel_rfl) (by simp) ?_
            refine ready_cons ({ dst := some 52, op := Op.buildSlice 29 1 #[(0, Operand.tmp 51)], type := 29, pos := "law.go:48", after := #[{ on := 8, ground := Ground.data }], guard := none }) rfl rfl (fun K hK => ?_) ?_
            · clear hHeld
              go_simp
              obtain ⟨V1, hV⟩ : ∃ V, V = V0.alloc (.cells #[.slice pa ln ca] 33) := ⟨_, rfl⟩
              have hb2 : Below V0.heap.size V0 V1 := by rw [hV]; go_grown
              have HL1 : Hid (V1.cell? ⟨V0.heap.size, 0, none⟩ = some (.slice pa ln ca)) := by show _ = _; rw [hV]; go_cell
              rw [← hV]
              have HF1 := hide (HF0.out.trans (Frame.of_below hb2 _))
              have HG1 := hide (HG0.out.later hb2)
              have c1 := later hb2 c0
              clear c0
              have c0 := c1
              clear hV hb2 c1
              refine hK.out _ _ (by first | exact c0 | (dsimp only; exact c0) | exact cell_other c0 hkg) (fun hHeld => ?_)
              clear hK K
              try simp only [Act.put, List.setIfInBounds_toArray, List.set_cons_zero, List.set_cons_succ]
              refine wpAnyH_ready (rs := [10]) (by kernel_rfl) (by simp) ?_
              refine ready_cons ({ dst := some 53, op := Op.call { callee := Callee.builtin Builtin.append, args := #[Operand.tmp 47, Operand.tmp 52], argTypes := #[29, 29] }, type := 29, pos := "law.go:48", after := #[{ on := 4, ground := Ground.data }, { on := 9, ground := Ground.data }], guard := none }) rfl rfl (fun K hK => ?_) ?_
              · clear hHeld
                obtain ⟨p1, l1, c1, V2, e4, e5, e6, e7, b4, f4, f5, at4⟩ := HG1.out.push (by have := HF1.out.size; have := HBS.out; have := HKX.out.below.size; omega) (HOX.out V1 HF1.out) (by have := HLN.out; omega) HN1.out HL1.out HNX.out
                have HE2 : Hid (k < V2.heap.size ∧ V2.cell? ⟨k, 0, none⟩ = some (.slice pl ll cl) ∧ V2.frozen? ⟨k, 0, none⟩ = false) := ⟨e7, e5, e6⟩
                have HB4 := hide b4
                have HF4 := hide (HF1.out.trans f4)
                have HAT := hide at4
                have HSA : Hid (X.heap.size ≤ V1.heap.size) := HF1.out.size
                have c9 : V2.cell? ⟨g, i, none⟩ = some (.slice pa ln ca) := frame_cellK f5 (fun e => HKX.out.ng e) c0
                clear c0
                have c0 := c9
                refine oper_append (.tmp 47) (.tmp 52) 29 (by rfl) 29 (by rfl) (.slice pl ll cl) (.slice (some ⟨V0.heap.size, 0, none⟩) 1 1) (.slice p1 l1 c1) V2 (by rfl) (by rfl) ?_ ?_
                with_reducible exact e4
                clear e4 e5 e6 e7 b4 f4 f5 at4 c9
                refine hK.out _ _ (by first | exact c0 | (dsimp only; exact c0) | exact cell_other c0 hkg) (fun hHeld => ?_)
                clear hK K
                try simp only [Act.put, List.setIfInBounds_toArray, List.set_cons_zero, List.set_cons_succ]
                refine wpAnyH_take (i := 11) (v := ?v9) rfl (by kernel_rfl) (by kernel_rfl) (by kernel_rfl) (fun _ _ _ h => h) (Or.inl ⟨by rfl, ?hy9⟩) (by assumption) ?rest9
                case hy9 => (intro w hSw; (try dsimp only at hSw); go_simp; try with_reducible rfl)
                try simp only [Act.put, List.setIfInBounds_toArray]
                refine wpAnyH_take (i := 12) (v := ?v10) rfl (by kernel_rfl) (by kernel_rfl) (by kernel_rfl) (fun _ _ _ h => h) (Or.inl ⟨by rfl, ?hy10⟩) (by assumption) ?rest10
                case hy10 => (intro w hSw; (try dsimp only at hSw); go_simp; try with_reducible rfl)
                try simp only [Act.put]
                refine wpAnyH_ready (rs := [13]) (by kernel_rfl) (by simp) ?_
                refine ready_cons ({ dst := none, op := Op.store 29 (Operand.tmp 55) (Operand.tmp 53), type := 0, pos := "law.go:48", after := #[{ on := 12, ground := Ground.data }, { on := 10, ground := Ground.data }, { on := 10, ground := Ground.chain }, { on := 0, ground := Ground.phase }, { on := 1, ground := Ground.phase }, { on := 2, ground := Ground.phase }, { on := 3, ground := Ground.phase }, { on := 4, ground := Ground.phase }, { on := 5, ground := Ground.phase }, { on := 6, ground := Ground.phase }, { on := 7, ground := Ground.phase }, { on := 8, ground := Ground.phase }, { on := 9, ground := Ground.phase }, { on := 10, ground := Ground.phase }], guard := none }) rfl rfl (fun K hK => ?_) ?_
                · clear hHeld
                  obtain ⟨hgl, d0, e0⟩ := HE2.out
                  go_simp
                  clear d0 e0
                  refine hK.out _ _ (by first | exact c0 | (dsimp only; exact c0) | exact cell_other c0 hkg) (fun hHeld => ?_)
                  clear hK K
                  try simp only [Act.put, List.setIfInBounds_toArray, List.set_cons_zero, List.set_cons_succ]
                  refine wpAnyH_done (by kernel_rfl) ?_ _
                  clear hHeld
                  obtain ⟨Z, hZ⟩ : ∃ Z, Z = V2.setCell ⟨k, 0, none⟩ (.slice p1 l1 c1) := ⟨_, rfl⟩
                  rw [← hZ] at HB4 HF4
                  rw [← hZ]
                  have HZ : Hid (KI w Z B k g q T (i + 1) vs Ls (.slice p1 l1 c1) (n + 1) (upd rv n (.slice pa ln ca)) (upd L n (Ls i)) s2) := by
                    refine ⟨Below.trans HKX.out.below (HF4.out.below (by have := HBS.out; have := HKX.out.below.size; omega) HKX.out.bag.lb), HKX.out.kp.trans (HKX.out.bag.kp HF4.out), ?_, HB4.out, ?_, ?_, ?_⟩
                    · exact HF4.out.row HKX.out.args (fun j hj => by
                        simp only [Value.ownBlock, Option.some.injEq] at hj
                        rintro (e | e)
                        · exact hkg (hj.trans e)
                        · exact HKX.out.ng (by rw [e, hj]))
                    · have hgl := (World.ownsRow.lt HKX.out.args g rfl).2
                      rcases HAT.out with e | e
                      · rw [e]; exact HKX.out.ng
                      · rw [e]; intro e2; injection e2 with e2; have := HSA.out; omega
                    · intro j hj
                      refine HF4.out.iowns (HKX.out.own j hj) (fun b hb => ?_)
                      rintro (e | e)
                      · obtain ⟨cur, hk⟩ := row_kind HKX.out.bag.box
                        exact row_apart hk (HKX.out.own j hj) (by decide) (by rw [hb, e])
                      · exact lst_apart HKX.out.bag.lst (HKX.out.own j hj) e hb
                    · intro j u b h1 h2 h3 h4
                      by_cases hu : u = n
                      · rw [hu, upd_same]
                        intro h5
                        have hji := HUN.out i j b hlt h2 (by rw [HVA.out, HLN.out]; exact h5) h4
                        omega
                      · rw [upd_other _ _ hu]
                        exact HKX.out.fresh j u b (by omega) h2 (by omega) h4
                  clear hZ HE2 HB4 HF4 HAT HSA HG0 HG1 HF0 HF1 HL1 c0 HKX HOX HNX
                  go_wp2
                  go_roundw
                  case rel => exact ⟨i + 1, by omega, by go_num, _, _, _, _, _, HZ.out⟩
                  case measure => simp [intOf]; omega
                exact AllReadyH.nil
              exact AllReadyH.nil
            exact AllReadyH.nil
          refine ready_cons ({ dst := some 52, op := Op.buildSlice 29 1 #[(0, Operand.tmp 51)], type := 29, pos := "law.go:48", after := #[{ on := 8, ground := Ground.data }], guard := none }) rfl rfl (fun K hK => ?_) ?_
          · clear hHeld
            go_simp
            obtain ⟨V1, hV⟩ : ∃ V, V = V0.alloc (.cells #[.slice pa ln ca] 33) := ⟨_, rfl⟩
            have hb2 : Below V0.heap.size V0 V1 := by rw [hV]; go_grown
            have HL1 : Hid (V1.cell? ⟨V0.heap.size, 0, none⟩ = some (.slice pa ln ca)) := by show _ = _; rw [hV]; go_cell
            rw [← hV]
            have HF1 := hide (HF0.out.trans (Frame.of_below hb2 _))
            have HG1 := hide (HG0.out.later hb2)
            have c1 := later hb2 c0
            clear c0
            have c0 := c1
            clear hV hb2 c1
            refine hK.out _ _ (by first | exact c0 | (dsimp only; exact c0) | exact cell_other c0 hkg) (fun hHeld => ?_)
            clear hK K
            try simp only [Act.put, List.setIfInBounds_toArray, List.set_cons_zero, List.set_cons_succ]
            refine wpAnyH_ready (rs := [4]) (by kernel_rfl) (by simp) ?_
            refine ready_cons ({ dst := some 47, op := Op.load 29 (Operand.tmp 46), type := 29, pos := "law.go:48", after := #[{ on := 3, ground := Ground.data }], guard := none }) rfl rfl (fun K hK => ?_) ?_
            · clear hHeld
              have d0 := HG1.out.cells.1
              refine wp_val (v := ?vl2) (w2 := V1) ?hl2 ?_
              case hl2 => (go_simp; try with_reducible rfl)
              clear d0
              refine hK.out _ _ (by first | exact c0 | (dsimp only; exact c0) | exact cell_other c0 hkg) (fun hHeld => ?_)
              clear hK K
              try simp only [Act.put, List.setIfInBounds_toArray, List.set_cons_zero, List.set_cons_succ]
              refine wpAnyH_ready (rs := [10]) (by kernel_rfl) (by simp) ?_
              refine ready_cons ({ dst := some 53, op := Op.call { callee := Callee.builtin Builtin.append, args := #[Operand.tmp 47, Operand.tmp 52], argTypes := #[29, 29] }, type := 29, pos := "law.go:48", after := #[{ on := 4, ground := Ground.data }, { on := 9, ground := Ground.data }], guard := none }) rfl rfl (fun K hK => ?_) ?_
              · clear hHeld
                obtain ⟨p1, l1, c1, V2, e4, e5, e6, e7, b4, f4, f5, at4⟩ := HG1.out.push (by have := HF1.out.size; have := HBS.out; have := HKX.out.below.size; omega) (HOX.out V1 HF1.out) (by have := HLN.out; omega) HN1.out HL1.out HNX.out
                have HE2 : Hid (k < V2.heap.size ∧ V2.cell? ⟨k, 0, none⟩ = some (.slice pl ll cl) ∧ V2.frozen? ⟨k, 0, none⟩ = false) := ⟨e7, e5, e6⟩
                have HB4 := hide b4
                have HF4 := hide (HF1.out.trans f4)
                have HAT := hide at4
                have HSA : Hid (X.heap.size ≤ V1.heap.size) := HF1.out.size
                have c9 : V2.cell? ⟨g, i, none⟩ = some (.slice pa ln ca) := frame_cellK f5 (fun e => HKX.out.ng e) c0
                clear c0
                have c0 := c9
                refine oper_append (.tmp 47) (.tmp 52) 29 (by rfl) 29 (by rfl) (.slice pl ll cl) (.slice (some ⟨V0.heap.size, 0, none⟩) 1 1) (.slice p1 l1 c1) V2 (by rfl) (by rfl) ?_ ?_
                with_reducible exact e4
                clear e4 e5 e6 e7 b4 f4 f5 at4 c9
                refine hK.out _ _ (by first | exact c0 | (dsimp only; exact c0) | exact cell_other c0 hkg) (fun hHeld => ?_)
                clear hK K
                try simp only [Act.put, List.setIfInBounds_toArray, List.set_cons_zero, List.set_cons_succ]
                refine wpAnyH_take (i := 11) (v := ?v11) rfl (by kernel_rfl) (by kernel_rfl) (by kernel_rfl) (fun _ _ _ h => h) (Or.inl ⟨by rfl, ?hy11⟩) (by assumption) ?rest11
                case hy11 => (intro w hSw; (try dsimp only at hSw); go_simp; try with_reducible rfl)
                try simp only [Act.put, List.setIfInBounds_toArray]
                refine wpAnyH_take (i := 12) (v := ?v12) rfl (by kernel_rfl) (by kernel_rfl) (by kernel_rfl) (fun _ _ _ h => h) (Or.inl ⟨by rfl, ?hy12⟩) (by assumption) ?rest12
                case hy12 => (intro w hSw; (try dsimp only at hSw); go_simp; try with_reducible rfl)
                try simp only [Act.put]
                refine wpAnyH_ready (rs := [13]) (by kernel_rfl) (by simp) ?_
                refine ready_cons ({ dst := none, op := Op.store 29 (Operand.tmp 55) (Operand.tmp 53), type := 0, pos := "law.go:48", after := #[{ on := 12, ground := Ground.data }, { on := 10, ground := Ground.data }, { on := 10, ground := Ground.chain }, { on := 0, ground := Ground.phase }, { on := 1, ground := Ground.phase }, { on := 2, ground := Ground.phase }, { on := 3, ground := Ground.phase }, { on := 4, ground := Ground.phase }, { on := 5, ground := Ground.phase }, { on := 6, ground := Ground.phase }, { on := 7, ground := Ground.phase }, { on := 8, ground := Ground.phase }, { on := 9, ground := Ground.phase }, { on := 10, ground := Ground.phase }], guard := none }) rfl rfl (fun K hK => ?_) ?_
                · clear hHeld
                  obtain ⟨hgl, d0, e0⟩ := HE2.out
                  go_simp
                  clear d0 e0
                  refine hK.out _ _ (by first | exact c0 | (dsimp only; exact c0) | exact cell_other c0 hkg) (fun hHeld => ?_)
                  clear hK K
                  try simp only [Act.put, List.setIfInBounds_toArray, List.set_cons_zero, List.set_cons_succ]
                  refine wpAnyH_done (by kernel_rfl) ?_ _
                  clear hHeld
                  obtain ⟨Z, hZ⟩ : ∃ Z, Z = V2.setCell ⟨k, 0, none⟩ (.slice p1 l1 c1) := ⟨_, rfl⟩
                  rw [← hZ] at HB4 HF4
                  rw [← hZ]
                  have HZ : Hid (KI w Z B k g q T (i + 1) vs Ls (.slice p1 l1 c1) (n + 1) (upd rv n (.slice pa ln ca)) (upd L n (Ls i)) s2) := by
                    refine ⟨Below.trans HKX.out.below (HF4.out.below (by have := HBS.out; have := HKX.out.below.size; omega) HKX.out.bag.lb), HKX.out.kp.trans (HKX.out.bag.kp HF4.out), ?_, HB4.out, ?_, ?_, ?_⟩
                    · exact HF4.out.row HKX.out.args (fun j hj => by
                        simp only [Value.ownBlock, Option.some.injEq] at hj
                        rintro (e | e)
                        · exact hkg (hj.trans e)
                        · exact HKX.out.ng (by rw [e, hj]))
                    · have hgl := (World.ownsRow.lt HKX.out.args g rfl).2
                      rcases HAT.out with e | e
                      · rw [e]; exact HKX.out.ng
                      · rw [e]; intro e2; injection e2 with e2; have := HSA.out; omega
                    · intro j hj
                      refine HF4.out.iowns (HKX.out.own j hj) (fun b hb => ?_)
                      rintro (e | e)
                      · obtain ⟨cur, hk⟩ := row_kind HKX.out.bag.box
                        exact row_apart hk (HKX.out.own j hj) (by decide) (by rw [hb, e])
                      · exact lst_apart HKX.out.bag.lst (HKX.out.own j hj) e hb
                    · intro j u b h1 h2 h3 h4
                      by_cases hu : u = n
                      · rw [hu, upd_same]
                        intro h5
                        have hji := HUN.out i j b hlt h2 (by rw [HVA.out, HLN.out]; exact h5) h4
                        omega
                      · rw [upd_other _ _ hu]
                        exact HKX.out.fresh j u b (by omega) h2 (by omega) h4
                  clear hZ HE2 HB4 HF4 HAT HSA HG0 HG1 HF0 HF1 HL1 c0 HKX HOX HNX
                  go_wp2
                  go_roundw
                  case rel => exact ⟨i + 1, by omega, by go_num, _, _, _, _, _, HZ.out⟩
                  case measure => simp [intOf]; omega
                exact AllReadyH.nil
              exact AllReadyH.nil
            exact AllReadyH.nil
          exact AllReadyH.nil
        · go_wp2
          go_roundw
          case rel => exact ⟨i + 1, by omega, by go_num, .slice pl ll cl, n, rv, L, sz, HKX.out.below, HKX.out.kp, HKX.out.args, HKX.out.bag, HKX.out.ng, HKX.out.own, fun j u b h1 => HKX.out.fresh j u b (by omega)⟩
          case measure => simp [intOf]; omega
      · go_wp2
        go_roundw
        case rel => exact ⟨i + 1, by omega, by go_num, .slice pl ll cl, n, rv, L, sz, HKX.out.below, HKX.out.kp, HKX.out.args, HKX.out.bag, HKX.out.ng, HKX.out.own, fun j u b h1 => HKX.out.fresh j u b (by omega)⟩
        case measure => simp [intOf]; omega
    · have i1 : ¬ (i : Int) < q := by omega
      have HF : Hid ((∃ lv n rv L sz, Bag wr B k lv n rv L sz) ∧ Below B w wr ∧ Kp w wr) := ⟨⟨_, _, _, _, _, hK.bag⟩, hK.below, hK.kp⟩
      clear hK HR
      go_wp2
      go_end0
      exact ⟨rfl, HF.out⟩
end Go.Proofs.Ytghffodjffkijaa

namespace Go.Proofs.Ytghffodjffkijaa
open Go.RowKit Go.Sort
open Go

/-- A bag of lists, however long. -/
structure Bg (w : World) (B k : Nat) (lv : Value) (n : Nat) (rv : Nat → Value) (L : Nat → List Int) (sz : Nat) : Prop where
  box : w.ownsRow 0 31 2 (.slice (some ⟨k, 0, none⟩) 1 1) 1 [lv, .int .i64 sz]
  kB : B ≤ k
  lst : w.ownsRow B 33 1 lv n ((List.range n).map rv)
  uniq : ∀ u v j, u < n → v < n → (rv u).ownBlock = some j → (rv v).ownBlock = some j → u = v
  own : ∀ v, v < n → IOwns w B (rv v) (L v)
variable {w w' : World} {B k n sz gl cl a : Nat} {lv v' : Value} {rv : Nat → Value} {L : Nat → List Int} {L' : List Int}
theorem Bag.bg (h : Bag w B k lv n rv L sz) : Bg w B k lv n rv L sz := ⟨h.box, h.kB, h.lst, h.uniq, h.own⟩
theorem Bg.later (h : Bg w B k lv n rv L sz) (hb : Below w.heap.size w w') : Bg w' B k lv n rv L sz :=
  ⟨World.ownsRow.kept h.box (grown_below hb) (Or.inr (by simp [Value.ownBlock])), h.kB, World.ownsRow.kept h.lst (grown_below hb) (by cases lv.ownBlock <;> simp), h.uniq, fun v hv => (h.own v hv).later hb⟩
theorem Bg.cell (h : Bg w B k lv n rv L sz) : w.cell? ⟨k, 0, none⟩ = some lv := World.ownsRow.cellAt h.box 0 (by omega)
theorem Bg.row (h : Bg w B k (.slice (some ⟨gl, 0, none⟩) n cl) n rv L sz) (ha : a < n) : w.cell? ⟨gl, a, none⟩ = some (rv a) ∧ w.frozen? ⟨gl, a, none⟩ = false := by
  refine ⟨?_, World.ownsRow.frozenAt h.lst a⟩
  rw [World.ownsRow.cellAt h.lst a (by omega)]
  simp [ha]
theorem Bg.rk (h : Bg w B k lv n rv L sz) {v : Nat} (hv : v < n) : (rv v).ownBlock ≠ some k := by
  obtain ⟨cur, hk⟩ := row_kind h.box
  exact row_apart hk (h.own v hv) (by decide)
theorem Bg.put (h : Bg w B k (.slice (some ⟨gl, 0, none⟩) n cl) n rv L sz) (ha : a < n) (o : IOwns w' B v' L') (gr : w.grownBy w' (rv a).ownBlock) (hv : v'.ownBlock = (rv a).ownBlock ∨ v'.ownBlock = some w.heap.size) :
    Bg (w'.setCell ⟨gl, a, none⟩ v') B k (.slice (some ⟨gl, 0, none⟩) n cl) n (upd rv a v') (upd L a L') sz ∧ w'.cell? ⟨gl, a, none⟩ = some (rv a) ∧ w'.frozen? ⟨gl, a, none⟩ = false ∧ gl < w'.heap.size ∧ w'.cell? ⟨k, 0, none⟩ = some (.slice (some ⟨gl, 0, none⟩) n cl) ∧ k ≠ gl := by
  obtain ⟨h0, hkB, h1, h2, h3⟩ := id h
  obtain ⟨cur, hg⟩ := row_kind h1
  have hap : (rv a).ownBlock ≠ some gl := row_apart hg (h3 a ha) (by decide)
  have h1' := World.ownsRow.kept h1 gr (Or.inr (fun e => hap e.symm))
  have h0' := World.ownsRow.kept h0 gr (Or.inr (fun e => h.rk ha e.symm))
  obtain ⟨cur', hg'⟩ := row_kind h1'
  have hkg : (Value.slice (some ⟨k, 0, none⟩) 1 1).ownBlock ≠ some gl := row_apart hg' h0' (by decide)
  have cell : w'.cell? ⟨gl, a, none⟩ = some (rv a) := by rw [World.ownsRow.cellAt h1' a (by omega)]; simp [ha]
  refine ⟨⟨ownsRow_setCell_other (a := ⟨gl, a, none⟩) h0' hkg _, hkB, ?_, ?_, ?_⟩, cell, World.ownsRow.frozenAt h1' a, (World.ownsRow.lt h1' gl rfl).2, World.ownsRow.cellAt h0' 0 (by omega), fun e => hkg (by rw [← e]; rfl)⟩
  · have q := (World.ownsRow.stored h1' a v').1
    rw [show ((List.range n).map (upd rv a v')) = ((List.range n).map rv).set a v' from ?_]
    · exact q
    apply List.ext_getElem
    · simp
    intro i h4 h5
    simp only [List.getElem_map, List.getElem_range, List.getElem_set]
    by_cases hia : a = i
    · subst hia; simp [upd]
    · rw [if_neg hia, upd_other _ _ (fun e => hia e.symm)]
  · intro u v j hu hv' e1 e2
    by_cases hua : u = a <;> by_cases hva : v = a
    · omega
    · rw [hua, upd_same] at e1
      rw [upd_other _ _ hva] at e2
      rcases hv with h | h
      · rw [h] at e1
        rw [hua]
        exact h2 a v j ha hv' e1 e2
      · rw [h] at e1
        have := (World.ownsRow.lt (h3 v hv') j e2).2
        injection e1 with e1
        omega
    · rw [hva, upd_same] at e2
      rw [upd_other _ _ hua] at e1
      rcases hv with h | h
      · rw [h] at e2
        rw [hva]
        exact h2 u a j hu ha e1 e2
      · rw [h] at e2
        have := (World.ownsRow.lt (h3 u hu) j e1).2
        injection e2 with e2
        omega
    · rw [upd_other _ _ hua] at e1
      rw [upd_other _ _ hva] at e2
      exact h2 u v j hu hv' e1 e2
  · intro v hv'
    by_cases hva : v = a
    · rw [hva, upd_same, upd_same]
      exact ownsRow_setCell_other (a := ⟨gl, a, none⟩) o (row_apart hg' o (by decide)) _
    · rw [upd_other _ _ hva, upd_other _ _ hva]
      have k1 : IOwns w' B (rv v) (L v) := by
        refine World.ownsRow.kept (h3 v hv') gr ?_
        cases hb : (rv v).ownBlock with
        | none => exact Or.inl rfl
        | some j => exact Or.inr (fun e => hva (h2 v a j hv' ha hb e.symm))
      exact ownsRow_setCell_other (a := ⟨gl, a, none⟩) k1 (row_apart hg' k1 (by decide)) _
/-- A number written into one of the lists. -/
theorem Bg.store {ga ca j : Nat} {x : Int} (h : Bg w B k (.slice (some ⟨gl, 0, none⟩) n cl) n rv L sz) (ha : a < n) (hr : rv a = .slice (some ⟨ga, 0, none⟩) (L a).length ca) : Bg (w.setCell ⟨ga, j, none⟩ (.int .i64 x)) B k (.slice (some ⟨gl, 0, none⟩) n cl) n rv (upd L a ((L a).set j x)) sz := by
  obtain ⟨h0, hkB, h1, h2, h3⟩ := id h
  obtain ⟨cur, hg⟩ := row_kind h1
  have o := h3 a ha
  have hap : (rv a).ownBlock ≠ some gl := row_apart hg o (by decide)
  have hak := h.rk ha
  rw [hr] at o hap hak
  refine ⟨ownsRow_setCell_other (a := ⟨ga, j, none⟩) h0 (fun e => hak e.symm) _, hkB, ownsRow_setCell_other (a := ⟨ga, j, none⟩) h1 (fun e => hap e.symm) _, h2, fun v hv => ?_⟩
  by_cases hva : v = a
  · rw [hva, upd_same, hr]
    have := o.set j x
    rw [← List.length_set (i := j) (a := x)]
    exact this
  · rw [upd_other _ _ hva]
    refine ownsRow_setCell_other (a := ⟨ga, j, none⟩) (h3 v hv) (fun e => hva (h2 v a ga hv ha e ?_)) _
    rw [hr]; rfl
def rowLen (w : World) (g i : Nat) : Nat :=
  match w.cell? ⟨g, i, none⟩ with
  | some (.slice _ l _) => l
  | _ => 0
theorem rowLen_is (h : Bg w B k (.slice (some ⟨gl, 0, none⟩) n cl) n rv L sz) (ha : a < n) : rowLen w gl a = (L a).length := by
  obtain ⟨p, c, hv, _⟩ := IOwns.form (h.own a ha)
  unfold rowLen
  rw [(h.row ha).1, hv]
/-- What Apart has come to: the first i lists are full of their marks. -/
structure AI (w wr : World) (B k gl cl n i : Nat) (rv : Nat → Value) (L : Nat → List Int) (sz : Nat) : Prop where
  below : Below B w wr
  bg : Bg wr B k (.slice (some ⟨gl, 0, none⟩) n cl) n rv L sz
  full : ∀ j, j < i → L j = List.replicate (L j).length (-1000 - (j : Int))
  all : ∀ j, j < n → (L j).length ≤ 40000
  rest : ∀ j, i ≤ j → j < n → (L j).length ≤ 30000
theorem AI.later {wr wq : World} {i : Nat} (h : AI w wr B k gl cl n i rv L sz) (hb : Below wr.heap.size wr wq) (hB : B ≤ wr.heap.size) : AI w wq B k gl cl n i rv L sz :=
  ⟨Below.trans h.below (hb.mono hB), h.bg.later hb, h.full, h.all, h.rest⟩
/-- While list i is under way: it may be longer. -/
structure AJ (w wr : World) (B k gl cl n i : Nat) (rv : Nat → Value) (L : Nat → List Int) (sz : Nat) : Prop where
  below : Below B w wr
  bg : Bg wr B k (.slice (some ⟨gl, 0, none⟩) n cl) n rv L sz
  full : ∀ j, j < i → L j = List.replicate (L j).length (-1000 - (j : Int))
  all : ∀ j, j < n → (L j).length ≤ 40000
  rest : ∀ j, i < j → j < n → (L j).length ≤ 30000
set_option maxRecDepth 100000 in
set_option maxHeartbeats 8000000 in
theorem apart24 {lv0 : Value} {n sz : Nat} {rv0 : Nat → Value} {L0 : Nat → List Int} (B k : Nat) (w : World) (hbag : Bag w B k lv0 n rv0 L0 sz) (hB : B ≤ w.heap.size) :
    Calls Try.prog 24 #[.pointer (some ⟨k, 0, none⟩)] w fun e w' => e = .returned (.bool true) ∧ Below B w w' := by
  have hnn : n ≤ 1048576 := by have := hbag.cnt; have := hbag.big; omega
  rcases Nat.eq_zero_or_pos n with hn0 | hn0
  · -- no list
    subst hn0
    have x0 := hbag.cells.1
    obtain ⟨pl, ll, cl, rfl, hll⟩ : ∃ pl ll cl, lv0 = .slice pl ll cl ∧ ll = 0 := by
      rcases hbag.lst.2 with ⟨h1, _⟩ | ⟨g1, c1, _, h1, _⟩
      · exact ⟨_, _, _, h1, rfl⟩
      · exact ⟨_, _, _, h1, rfl⟩
    subst hll
    clear hbag
    go_enter Try.func24, Try.ntmps24
    go_wp2_with fail
    go_loopw [3] (fun t wr => t = .int .i64 0 ∧ wr = w) (fun _ _ => 0)
    case atStart => exact ⟨rfl, rfl⟩
    case round =>
      obtain ⟨rfl, hw⟩ := hrel
      have hw := hw.symm
      subst hw
      go_wp2_with fail
      go_loopw [6] (fun t wr => t = .int .i64 0 ∧ wr = w) (fun _ _ => 0)
      case atStart => exact ⟨rfl, rfl⟩
      case round =>
        obtain ⟨rfl, hw⟩ := hrel
        have hw := hw.symm
        subst hw
        go_wp2
        go_ret
        exact ⟨rfl, Below.refl _ _⟩
  obtain ⟨gl, cl, hlv, _, _⟩ := World.ownsRow.form hbag.lst hn0
  subst hlv
  have H0 : Hid (∃ rv L, AI w w B k gl cl n 0 rv L sz) := ⟨rv0, L0, Below.refl _ _, hbag.bg, fun j hj => by omega, fun j hj => by have := hbag.len j hj; omega, fun j _ hj => hbag.len j hj⟩
  have HBS := hide hB
  clear hbag hB
  go_enter Try.func24, Try.ntmps24
  go_wp2_with fail
  go_loopw [3] (fun t wr => ∃ i : Nat, i ≤ n ∧ t = .int .i64 i ∧ Hid (∃ rv L, AI w wr B k gl cl n i rv L sz)) (fun t _ => n - (intOf t).toNat)
  case atStart => exact ⟨0, by omega, rfl, H0.out⟩
  case round =>
    obtain ⟨i, hi, rfl, HR⟩ := hrel
    obtain ⟨rv, L, hA⟩ := HR.out
    have x0 := hA.bg.cell
    by_cases hlt : i < n
    · have i1 : (i : Int) < n := by omega
      have i2 : (0 : Int) ≤ i := by omega
      have c0 := (hA.bg.row hlt).1
      obtain ⟨pa, ca, hva, _, hca, _⟩ := IOwns.form (hA.bg.own i hlt)
      have hll := hA.rest i (Nat.le_refl _) hlt
      have HAI := hide hA
      rw [hva] at c0
      obtain ⟨ln, hln⟩ : ∃ ln, (L i).length = ln := ⟨_, rfl⟩
      rw [hln] at c0 hll hca
      clear hA HR hva hln H0
      have RM : ∀ dd os, Calls Try.prog 47 #[.int .i64 ln, .int .i64 ca] (grow (redrawn wr dd) os) fun e w'' => e = .returned (.int .i64 (roomI ln ca)) ∧ ∃ p : Regrown, w'' = grow (redrawn wr p.d) p.os := fun dd os => Calls.regrown_of (room47 ln ca _ (by omega) (by omega))
      have hr0 : roomI ln ca ≤ (ln : Int) + 2000 := by unfold roomI; split <;> omega
      obtain ⟨r, hr⟩ : ∃ r, roomI ln ca = r := ⟨_, rfl⟩
      rw [hr] at RM hr0
      have C0 := cell_regrown c0
      have X0 := cell_regrown x0
      clear hr
      go_upto_region 4 with fail
      refine wp_region_quiet_below (by kernel_rfl) (by kernel_rfl) ?_
      repeat (go_big_quiet_step (with_reducible exact RM _ _))
      refine wpQuiet_nil ?_
      intro X hw'
      have hb3 : Below wr.heap.size wr X := by
        obtain ⟨⟨dq, osq⟩, hw''⟩ := hw'
        rw [hw'']
        exact below_regrown wr dq osq
      have HAX : Hid (∃ rv L, AJ w X B k gl cl n i rv L sz) := by
        have q := HAI.out.later hb3 (Nat.le_trans HBS.out HAI.out.below.size)
        exact ⟨rv, L, q.below, q.bg, q.full, q.all, fun j h1 h2 => q.rest j (by omega) h2⟩
      clear hw' hb3 c0 C0 RM HAI X0 x0
      have hr1 : r ≤ 32000 := by omega
      clear hr0 hll hca
      go_wp2_with fail
      go_loopw [44] (fun _ wz => Hid (∃ rv L, AJ w wz B k gl cl n i rv L sz)) (fun _ wz => 50000 - rowLen wz gl i)
      case atStart => exact HAX.out
      case round =>
        obtain ⟨rv, L, hJ⟩ := hrel.out
        have HRL := hide (rowLen_is hJ.bg hlt)
        have x0 := hJ.bg.cell
        have c0 := (hJ.bg.row hlt).1
        obtain ⟨pa, ca, hva, _, hca, _⟩ := IOwns.form (hJ.bg.own i hlt)
        have hll := hJ.all i hlt
        have HJ := hide hJ
        have HVA := hide hva
        rw [hva] at c0
        obtain ⟨ln, hln⟩ : ∃ ln, (L i).length = ln := ⟨_, rfl⟩
        have HLN := hide hln
        rw [hln] at c0 hll hca
        clear hJ hrel hva hln HAX
        by_cases hlr : (ln : Int) < r
        · go_upto_region 6 with fail
          have bd : Below wr.heap.size wr wr.drew := below_drew _
          obtain ⟨V0, hV0⟩ : ∃ V, V = wr.drew := ⟨_, rfl⟩
          have HB0 : Hid (Below B w V0) := by show Below _ _ _; rw [hV0]; exact Below.trans HJ.out.below (bd.mono (Nat.le_trans HBS.out HJ.out.below.size))
          have HG0 : Hid (Bg V0 B k (.slice (some ⟨gl, 0, none⟩) n cl) n rv L sz) := by show Bg _ _ _ _ _ _ _ _; rw [hV0]; exact HJ.out.bg.later bd
          have q0 := HG0.out.cell
          clear x0 c0
          refine wp_region_held_drew (S := (fun W' => W'.cell? ⟨k, 0, none⟩ = some (.slice (some ⟨gl, 0, none⟩) n cl))) (by kernel_rfl) (by rw [← hV0]; exact q0) (fun hHeld => ?_)
          rw [← hV0] at hHeld ⊢
          clear hV0 bd
          refine wpAnyH_take (i := 0) (v := ?v1) rfl (by kernel_rfl) (by kernel_rfl) (by kernel_rfl) (fun _ _ _ h => h) (Or.inl ⟨by rfl, ?hy1⟩) (by assumption) ?rest1
          case hy1 => (intro w hSw; (try dsimp only at hSw); go_simp; try with_reducible rfl)
          try simp only [Act.put, List.setIfInBounds_toArray]
          refine wpAnyH_take (i := 1) (v := ?v2) rfl (by kernel_rfl) (by kernel_rfl) (by kernel_rfl) (fun _ _ _ h => h) (Or.inl ⟨by rfl, ?hy2⟩) (by assumption) ?rest2
          case hy2 => (intro w hSw; (try dsimp only at hSw); go_simp; try with_reducible rfl)
          try simp only [Act.put]
          refine wpAnyH_take (i := 2) (v := ?v3) rfl (by kernel_rfl) (by kernel_rfl) (by kernel_rfl) (fun _ _ _ h => h) (Or.inl ⟨by rfl, ?hy3⟩) (by assumption) ?rest3
          case hy3 => (intro w hSw; (try dsimp only at hSw); go_simp; try with_reducible rfl)
          try simp only [Act.put]
          refine wpAnyH_take (i := 3) (v := ?v4) rfl (by kernel_rfl) (by kernel_rfl) (by kernel_rfl) (fun _ _ _ h => h) (Or.inl ⟨by rfl, ?hy4⟩) (by assumption) ?rest4
          case hy4 => (intro w hSw; (try dsimp only at hSw); go_simp; try with_reducible rfl)
          try simp only [Act.put]
          refine wpAnyH_take (i := 4) (v := ?v5) rfl (by kernel_rfl) (by kernel_rfl) (by kernel_rfl) (fun _ _ _ h => h) (Or.inl ⟨by rfl, ?hy5⟩) (by assumption) ?rest5
          case hy5 => (intro w hSw; (try dsimp only at hSw); go_simp; try with_reducible rfl)
          try simp only [Act.put]
          refine wpAnyH_take (i := 5) (v := ?v6) rfl (by kernel_rfl) (by kernel_rfl) (by kernel_rfl) (fun _ _ _ h => h) (Or.inl ⟨by rfl, ?hy6⟩) (by assumption) ?rest6
          case hy6 => (intro w hSw; (try dsimp only at hSw); go_simp; try with_reducible rfl)
          try simp only [Act.put]
          refine wpAnyH_take (i := 6) (v := ?v7) rfl (by kernel_rfl) (by kernel_rfl) (by kernel_rfl) (fun _ _ _ h => h) (Or.inl ⟨by rfl, ?hy7⟩) (by assumption) ?rest7
          case hy7 => (intro w hSw; (try dsimp only at hSw); go_simp; try with_reducible rfl)
          try simp only [Act.put]
          refine wpAnyH_take (i := 7) (v := ?v8) rfl (by kernel_rfl) (by kernel_rfl) (by kernel_rfl) (fun _ _ _ h => h) (Or.inl ⟨by rfl, ?hy8⟩) (by assumption) ?rest8
          case hy8 => (intro w hSw; (try dsimp only at hSw); go_simp; try with_reducible rfl)
          try simp only [Act.put]
          refine wpAnyH_take (i := 8) (v := ?v9) rfl (by kernel_rfl) (by kernel_rfl) (by kernel_rfl) (fun _ _ _ h => h) (Or.inl ⟨by rfl, ?hy9⟩) (by assumption) ?rest9
          case hy9 => (intro w hSw; (try dsimp only at hSw); go_simp; try with_reducible rfl)
          try simp only [Act.put]
          refine wpAnyH_take (i := 9) (v := ?v10) rfl (by kernel_rfl) (by kernel_rfl) (by kernel_rfl) (fun _ _ _ h => h) (Or.inl ⟨by rfl, ?hy10⟩) (by assumption) ?rest10
          case hy10 => (intro w hSw; (try dsimp only at hSw); go_simp; try with_reducible rfl)
          try simp only [Act.put]
          refine wpAnyH_take (i := 10) (v := ?v11) rfl (by kernel_rfl) (by kernel_rfl) (by kernel_rfl) (fun _ _ _ h => h) (Or.inl ⟨by rfl, ?hy11⟩) (by assumption) ?rest11
          case hy11 => (intro w hSw; (try dsimp only at hSw); go_simp; try with_reducible rfl)
          try simp only [Act.put]
          refine wpAnyH_ready (rs := [11, 12]) (by kernel_rfl) (by simp) ?_
          refine ready_cons ({ dst := some 55, op := Op.load 33 (Operand.tmp 54), type := 33, pos := "law.go:64", after := #[{ on := 10, ground := Ground.data }], guard := none }) rfl rfl (fun K hK => ?_) ?_
          · clear hHeld
            have d0 := (HG0.out.row hlt).1
            rw [HVA.out, HLN.out] at d0
            refine wp_val (v := ?vl1) (w2 := V0) ?hl1 ?_
            case hl1 => (go_simp; try with_reducible rfl)
            clear d0
            refine hK.out _ _ (by first | exact q0 | (dsimp only; exact q0) | exact cell_other q0 hkg) (fun hHeld => ?_)
            clear hK K
            try simp only [Act.put]
            refine wpAnyH_ready (rs := [12]) (by kernel_rfl) (by simp) ?_
            refine ready_cons ({ dst := some 56, op := Op.buildSlice 33 1 #[(0, Operand.const (Value.int IntKind.i64 0))], type := 33, pos := "law.go:64", after := #[], guard := none }) rfl rfl (fun K hK => ?_) ?_
            · clear hHeld
              go_simp
              obtain ⟨V1, hV⟩ : ∃ V, V = V0.alloc (.cells #[.int .i64 0] 3) := ⟨_, rfl⟩
              have hb2 : Below V0.heap.size V0 V1 := by rw [hV]; go_grown
              have HL1 : Hid (V1.cell? ⟨V0.heap.size, 0, none⟩ = some (.int .i64 0)) := by show _ = _; rw [hV]; exact one_int _ _
              rw [← hV]
              have HB1 : Hid (Below B w V1) := Below.trans HB0.out (hb2.mono (Nat.le_trans HBS.out HB0.out.size))
              have HG1 := hide (HG0.out.later hb2)
              clear hV hb2 q0
              have q0 := HG1.out.cell
              refine hK.out _ _ (by first | exact q0 | (dsimp only; exact q0) | exact cell_other q0 hkg) (fun hHeld => ?_)
              clear hK K
              try simp only [Act.put, List.setIfInBounds_toArray, List.set_cons_zero, List.set_cons_succ]
              refine wpAnyH_ready (rs := [13]) (by kernel_rfl) (by simp) ?_
              refine ready_cons ({ dst := some 57, op := Op.call { callee := Callee.builtin Builtin.append, args := #[Operand.tmp 55, Operand.tmp 56], argTypes := #[33, 33] }, type := 33, pos := "law.go:64", after := #[{ on := 11, ground := Ground.data }, { on := 12, ground := Ground.data }], guard := none }) rfl rfl (fun K hK => ?_) ?_
              · clear hHeld
                have hrx := HG1.out.own i hlt
                obtain ⟨v1, V2, e4, o4, gr4, at4⟩ := append_int hrx HL1.out (Nat.le_trans HBS.out HB1.out.size) (by have := HLN.out; omega)
                obtain ⟨p1, l1, c1, rfl⟩ : ∃ p1 l1 c1, v1 = .slice p1 l1 c1 := by obtain ⟨p1, c1, h1, _⟩ := o4.form; exact ⟨_, _, _, h1⟩
                have HB2 : Hid (Below B w V2) := below_grown HB1.out hrx (Nat.le_refl _) (Nat.le_trans HBS.out HB1.out.size) gr4
                obtain ⟨g4, g5, g6, g7, g8, g9⟩ := HG1.out.put hlt o4 gr4 at4
                rw [HVA.out, HLN.out] at e4 g5
                have HG4 := hide g4
                have HGB : Hid (B ≤ gl) := (World.ownsRow.lt HG1.out.lst gl rfl).1
                have HE2 : Hid (gl < V2.heap.size ∧ V2.cell? ⟨gl, i, none⟩ = some (.slice pa ln ca) ∧ V2.frozen? ⟨gl, i, none⟩ = false) := ⟨g7, g5, g6⟩
                clear q0
                have q0 := g8
                have hkg := g9
                refine oper_append (.tmp 55) (.tmp 56) 33 (by rfl) 33 (by rfl) (.slice pa ln ca) (.slice (some ⟨V0.heap.size, 0, none⟩) 1 1) (.slice p1 l1 c1) V2 (by rfl) (by rfl) ?_ ?_
                with_reducible exact e4
                clear hrx o4 gr4 at4 e4 g4 g5 g6 g7 g8 g9
                refine hK.out _ _ (by first | exact q0 | (dsimp only; exact q0) | exact cell_other q0 hkg) (fun hHeld => ?_)
                clear hK K
                try simp only [Act.put, List.setIfInBounds_toArray, List.set_cons_zero, List.set_cons_succ]
                refine wpAnyH_take (i := 14) (v := ?v12) rfl (by kernel_rfl) (by kernel_rfl) (by kernel_rfl) (fun _ _ _ h => h) (Or.inl ⟨by rfl, ?hy12⟩) (by assumption) ?rest12
                case hy12 => (intro w hSw; (try dsimp only at hSw); go_simp; try with_reducible rfl)
                try simp only [Act.put, List.setIfInBounds_toArray]
                refine wpAnyH_ready (rs := [15]) (by kernel_rfl) (by simp) ?_
                refine ready_cons ({ dst := none, op := Op.store 33 (Operand.tmp 58) (Operand.tmp 57), type := 0, pos := "law.go:64", after := #[{ on := 14, ground := Ground.data }, { on := 13, ground := Ground.data }, { on := 13, ground := Ground.chain }, { on := 0, ground := Ground.phase }, { on := 1, ground := Ground.phase }, { on := 2, ground := Ground.phase }, { on := 3, ground := Ground.phase }, { on := 4, ground := Ground.phase }, { on := 5, ground := Ground.phase }, { on := 6, ground := Ground.phase }, { on := 7, ground := Ground.phase }, { on := 8, ground := Ground.phase }, { on := 9, ground := Ground.phase }, { on := 10, ground := Ground.phase }, { on := 11, ground := Ground.phase }, { on := 12, ground := Ground.phase }, { on := 13, ground := Ground.phase }], guard := none }) rfl rfl (fun K hK => ?_) ?_
                · clear hHeld
                  obtain ⟨hgl, d0, e0⟩ := HE2.out
                  go_simp
                  clear d0 e0
                  refine hK.out _ _ (by first | exact q0 | (dsimp only; exact q0) | exact cell_other q0 hkg) (fun hHeld => ?_)
                  clear hK K
                  try simp only [Act.put, List.setIfInBounds_toArray, List.set_cons_zero, List.set_cons_succ]
                  refine wpAnyH_done (by kernel_rfl) ?_ _
                  clear hHeld
                  obtain ⟨Z, hZ⟩ : ∃ Z, Z = V2.setCell ⟨gl, i, none⟩ (.slice p1 l1 c1) := ⟨_, rfl⟩
                  rw [← hZ] at HG4
                  have HBZ : Hid (Below B w Z) := by show Below _ _ _; rw [hZ]; exact HB2.out.setCell HGB.out _
                  rw [← hZ]
                  have HZ : Hid (AJ w Z B k gl cl n i (upd rv i (.slice p1 l1 c1)) (upd L i (L i ++ [0])) sz) := by
                    refine ⟨HBZ.out, HG4.out, ?_, ?_, ?_⟩
                    · intro j hj; rw [upd_other _ _ (by omega)]; exact HJ.out.full j hj
                    · intro j hj
                      by_cases e : j = i
                      · rw [e, upd_same, List.length_append, HLN.out, List.length_cons, List.length_nil]; omega
                      · rw [upd_other _ _ e]; exact HJ.out.all j hj
                    · intro j h1 h2; rw [upd_other _ _ (by omega)]; exact HJ.out.rest j h1 h2
                  have HML : Hid (rowLen Z gl i = ln + 1) := by
                    show _ = _
                    rw [rowLen_is HZ.out.bg hlt, upd_same, List.length_append, HLN.out, List.length_cons, List.length_nil]
                  clear hZ HE2 HG4 HBZ HB0 HB1 HB2 HG0 HG1 HL1 q0 HGB hkg
                  go_wp2
                  go_roundw
                  case rel => exact ⟨_, _, HZ.out⟩
                  case measure => rw [HML.out, HRL.out, HLN.out]; omega
                exact AllReadyH.nil
              exact AllReadyH.nil
            exact AllReadyH.nil
          refine ready_cons ({ dst := some 56, op := Op.buildSlice 33 1 #[(0, Operand.const (Value.int IntKind.i64 0))], type := 33, pos := "law.go:64", after := #[], guard := none }) rfl rfl (fun K hK => ?_) ?_
          · clear hHeld
            go_simp
            obtain ⟨V1, hV⟩ : ∃ V, V = V0.alloc (.cells #[.int .i64 0] 3) := ⟨_, rfl⟩
            have hb2 : Below V0.heap.size V0 V1 := by rw [hV]; go_grown
            have HL1 : Hid (V1.cell? ⟨V0.heap.size, 0, none⟩ = some (.int .i64 0)) := by show _ = _; rw [hV]; exact one_int _ _
            rw [← hV]
            have HB1 : Hid (Below B w V1) := Below.trans HB0.out (hb2.mono (Nat.le_trans HBS.out HB0.out.size))
            have HG1 := hide (HG0.out.later hb2)
            clear hV hb2 q0
            have q0 := HG1.out.cell
            refine hK.out _ _ (by first | exact q0 | (dsimp only; exact q0) | exact cell_other q0 hkg) (fun hHeld => ?_)
            clear hK K
            try simp only [Act.put, List.setIfInBounds_toArray, List.set_cons_zero, List.set_cons_succ]
            refine wpAnyH_ready (rs := [11]) (by kernel_rfl) (by simp) ?_
            refine ready_cons ({ dst := some 55, op := Op.load 33 (Operand.tmp 54), type := 33, pos := "law.go:64", after := #[{ on := 10, ground := Ground.data }], guard := none }) rfl rfl (fun K hK => ?_) ?_
            · clear hHeld
              have d0 := (HG1.out.row hlt).1
              rw [HVA.out, HLN.out] at d0
              refine wp_val (v := ?vl2) (w2 := V1) ?hl2 ?_
              case hl2 => (go_simp; try with_reducible rfl)
              clear d0
              refine hK.out _ _ (by first | exact q0 | (dsimp only; exact q0) | exact cell_other q0 hkg) (fun hHeld => ?_)
              clear hK K
              try simp only [Act.put, List.setIfInBounds_toArray, List.set_cons_zero, List.set_cons_succ]
              refine wpAnyH_ready (rs := [13]) (by kernel_rfl) (by simp) ?_
              refine ready_cons ({ dst := some 57, op := Op.call { callee := Callee.builtin Builtin.append, args := #[Operand.tmp 55, Operand.tmp 56], argTypes := #[33, 33] }, type := 33, pos := "law.go:64", after := #[{ on := 11, ground := Ground.data }, { on := 12, ground := Ground.data }], guard := none }) rfl rfl (fun K hK => ?_) ?_
              · clear hHeld
                have hrx := HG1.out.own i hlt
                obtain ⟨v1, V2, e4, o4, gr4, at4⟩ := append_int hrx HL1.out (Nat.le_trans HBS.out HB1.out.size) (by have := HLN.out; omega)
                obtain ⟨p1, l1, c1, rfl⟩ : ∃ p1 l1 c1, v1 = .slice p1 l1 c1 := by obtain ⟨p1, c1, h1, _⟩ := o4.form; exact ⟨_, _, _, h1⟩
                have HB2 : Hid (Below B w V2) := below_grown HB1.out hrx (Nat.le_refl _) (Nat.le_trans HBS.out HB1.out.size) gr4
                obtain ⟨g4, g5, g6, g7, g8, g9⟩ := HG1.out.put hlt o4 gr4 at4
                rw [HVA.out, HLN.out] at e4 g5
                have HG4 := hide g4
                have HGB : Hid (B ≤ gl) := (World.ownsRow.lt HG1.out.lst gl rfl).1
                have HE2 : Hid (gl < V2.heap.size ∧ V2.cell? ⟨gl, i, none⟩ = some (.slice pa ln ca) ∧ V2.frozen? ⟨gl, i, none⟩ = false) := ⟨g7, g5, g6⟩
                clear q0
                have q0 := g8
                have hkg := g9
                refine oper_append (.tmp 55) (.tmp 56) 33 (by rfl) 33 (by rfl) (.slice pa ln ca) (.slice (some ⟨V0.heap.size, 0, none⟩) 1 1) (.slice p1 l1 c1) V2 (by rfl) (by rfl) ?_ ?_
                with_reducible exact e4
                clear hrx o4 gr4 at4 e4 g4 g5 g6 g7 g8 g9
                refine hK.out _ _ (by first | exact q0 | (dsimp only; exact q0) | exact cell_other q0 hkg) (fun hHeld => ?_)
                clear hK K
                try simp only [Act.put, List.setIfInBounds_toArray, List.set_cons_zero, List.set_cons_succ]
                refine wpAnyH_take (i := 14) (v := ?v13) rfl (by kernel_rfl) (by kernel_rfl) (by kernel_rfl) (fun _ _ _ h => h) (Or.inl ⟨by rfl, ?hy13⟩) (by assumption) ?rest13
                case hy13 => (intro w hSw; (try dsimp only at hSw); go_simp; try with_reducible rfl)
                try simp only [Act.put, List.setIfInBounds_toArray]
                refine wpAnyH_ready (rs := [15]) (by kernel_rfl) (by simp) ?_
                refine ready_cons ({ dst := none, op := Op.store 33 (Operand.tmp 58) (Operand.tmp 57), type := 0, pos := "law.go:64", after := #[{ on := 14, ground := Ground.data }, { on := 13, ground := Ground.data }, { on := 13, ground := Ground.chain }, { on := 0, ground := Ground.phase }, { on := 1, ground := Ground.phase }, { on := 2, ground := Ground.phase }, { on := 3, ground := Ground.phase }, { on := 4, ground := Ground.phase }, { on := 5, ground := Ground.phase }, { on := 6, ground := Ground.phase }, { on := 7, ground := Ground.phase }, { on := 8, ground := Ground.phase }, { on := 9, ground := Ground.phase }, { on := 10, ground := Ground.phase }, { on := 11, ground := Ground.phase }, { on := 12, ground := Ground.phase }, { on := 13, ground := Ground.phase }], guard := none }) rfl rfl (fun K hK => ?_) ?_
                · clear hHeld
                  obtain ⟨hgl, d0, e0⟩ := HE2.out
                  go_simp
                  clear d0 e0
                  refine hK.out _ _ (by first | exact q0 | (dsimp only; exact q0) | exact cell_other q0 hkg) (fun hHeld => ?_)
                  clear hK K
                  try simp only [Act.put, List.setIfInBounds_toArray, List.set_cons_zero, List.set_cons_succ]
                  refine wpAnyH_done (by kernel_rfl) ?_ _
                  clear hHeld
                  obtain ⟨Z, hZ⟩ : ∃ Z, Z = V2.setCell ⟨gl, i, none⟩ (.slice p1 l1 c1) := ⟨_, rfl⟩
                  rw [← hZ] at HG4
                  have HBZ : Hid (Below B w Z) := by show Below _ _ _; rw [hZ]; exact HB2.out.setCell HGB.out _
                  rw [← hZ]
                  have HZ : Hid (AJ w Z B k gl cl n i (upd rv i (.slice p1 l1 c1)) (upd L i (L i ++ [0])) sz) := by
                    refine ⟨HBZ.out, HG4.out, ?_, ?_, ?_⟩
                    · intro j hj; rw [upd_other _ _ (by omega)]; exact HJ.out.full j hj
                    · intro j hj
                      by_cases e : j = i
                      · rw [e, upd_same, List.length_append, HLN.out, List.length_cons, List.length_nil]; omega
                      · rw [upd_other _ _ e]; exact HJ.out.all j hj
                    · intro j h1 h2; rw [upd_other _ _ (by omega)]; exact HJ.out.rest j h1 h2
                  have HML : Hid (rowLen Z gl i = ln + 1) := by
                    show _ = _
                    rw [rowLen_is HZ.out.bg hlt, upd_same, List.length_append, HLN.out, List.length_cons, List.length_nil]
                  clear hZ HE2 HG4 HBZ HB0 HB1 HB2 HG0 HG1 HL1 q0 HGB hkg
                  go_wp2
                  go_roundw
                  case rel => exact ⟨_, _, HZ.out⟩
                  case measure => rw [HML.out, HRL.out, HLN.out]; omega
                exact AllReadyH.nil
              exact AllReadyH.nil
            exact AllReadyH.nil
          exact AllReadyH.nil
        · go_wp2_with fail
          clear x0 c0 HRL HVA
          have HI0 : Hid (∃ rv L, AJ w wr B k gl cl n i rv L sz ∧ (L i).length = ln ∧ ∀ j, j < 0 → iat (L i) j = -1000 - (i : Int)) := ⟨rv, L, HJ.out, HLN.out, fun j hj => by omega⟩
          clear HJ HLN
          obtain ⟨w9, hw9⟩ : ∃ w9, w9 = wr := ⟨_, rfl⟩
          rw [← hw9] at HI0 ⊢
          clear hw9
          go_loopw [5] (fun t wy => ∃ q : Nat, q ≤ ln ∧ t = .int .i64 q ∧ Hid (∃ rv L, AJ w wy B k gl cl n i rv L sz ∧ (L i).length = ln ∧ ∀ j, j < q → iat (L i) j = -1000 - (i : Int))) (fun t _ => ln - (intOf t).toNat)
          case atStart => exact ⟨0, by omega, rfl, HI0.out⟩
          case round =>
            obtain ⟨q, hq, rfl, HQ⟩ := hrel
            obtain ⟨rv, L, hJ, hLl, hdone⟩ := HQ.out
            have x0 := hJ.bg.cell
            have c0 := (hJ.bg.row hlt).1
            by_cases hql : q < ln
            · obtain ⟨ga, ca2, hva, _, hgB, _⟩ := iowns_block (hJ.bg.own i hlt) (by omega)
              have o := hJ.bg.own i hlt
              rw [hva] at c0 o
              have d0 := IOwns.at_ o (j := q) (by omega)
              have f0 := IOwns.frozen o q
              have HST := hide (hJ.bg.store (j := q) (x := -1000 - (i : Int)) hlt hva)
              have HBW : Hid (Below B w (wr.setCell ⟨ga, q, none⟩ (.int .i64 (-1000 - (i : Int))))) := hJ.below.setCell hgB _
              have HJJ := hide hJ
              have HDN := hide hdone
              have HLL := hide hLl
              rw [hLl] at c0
              obtain ⟨y, hy⟩ : ∃ y, iat (L i) q = y := ⟨_, rfl⟩
              rw [hy] at d0
              have j1 : (q : Int) < ln := by omega
              have j2 : (0 : Int) ≤ q := by omega
              clear hJ hva hgB o hdone hLl HQ hy
              go_wp2
              go_roundw
              case rel =>
                refine ⟨q + 1, by omega, by go_num, rv, upd L i ((L i).set q (-1000 - (i : Int))), ⟨HBW.out, HST.out, ?_, ?_, ?_⟩, ?_, ?_⟩
                · intro j hj
                  rw [upd_other _ _ (by omega)]
                  exact HJJ.out.full j hj
                · intro j hj
                  by_cases e : j = i
                  · rw [e, upd_same, List.length_set]; exact HJJ.out.all i hlt
                  · rw [upd_other _ _ e]; exact HJJ.out.all j hj
                · intro j h1 h2
                  rw [upd_other _ _ (by omega)]
                  exact HJJ.out.rest j h1 h2
                · rw [upd_same, List.length_set]; exact HLL.out
                · intro j hj
                  rw [upd_same]
                  by_cases e : j = q
                  · rw [e, iat_put (by rw [HLL.out]; exact hql)]
                  · rw [iat_put_ne e]; exact HDN.out j (by omega)
              case measure => simp [intOf]; omega
            · have hqe : q = ln := by omega
              obtain ⟨pa2, ca2, hva, _, _, _⟩ := IOwns.form (hJ.bg.own i hlt)
              rw [hva, hLl] at c0
              have HJJ := hide hJ
              have HDN := hide hdone
              have HLL := hide hLl
              have j1 : ¬ (q : Int) < ln := by omega
              clear hJ hva hdone hLl HQ
              go_wp2
              go_roundw
              case rel =>
                refine ⟨i + 1, by omega, by go_num, rv, L, HJJ.out.below, HJJ.out.bg, ?_, HJJ.out.all, fun j h1 h2 => HJJ.out.rest j (by omega) h2⟩
                intro j hj
                by_cases e : j = i
                · subst e
                  apply List.ext_getElem
                  · simp
                  intro p h1 h2
                  have := HDN.out p (by have := HLL.out; omega)
                  unfold iat at this
                  rw [List.getD_eq_getElem?_getD, List.getElem?_eq_getElem h1] at this
                  rw [List.getElem_replicate]
                  exact this
                · exact HJJ.out.full j (by omega)
              case measure => simp [intOf]; omega
    · have i1 : ¬ (i : Int) < n := by omega
      have hin : i = n := by omega
      subst hin
      have HAI := hide hA
      clear hA HR H0
      go_wp2_with fail
      clear x0
      obtain ⟨V, hV⟩ : ∃ V, V = wr := ⟨_, rfl⟩
      rw [← hV] at HAI ⊢
      clear hV
      go_loopw [6] (fun t wy => ∃ p : Nat, p ≤ i ∧ t = .int .i64 p ∧ wy = V) (fun t _ => i - (intOf t).toNat)
      case atStart => exact ⟨0, by omega, rfl, rfl⟩
      case round =>
        obtain ⟨p, hp, rfl, hw⟩ := hrel
        have hw := hw.symm
        subst hw
        have x0 := HAI.out.bg.cell
        by_cases hpl : p < i
        · have j1 : (p : Int) < i := by omega
          have j2 : (0 : Int) ≤ p := by omega
          have hll := HAI.out.all p hpl
          go_wp2_with fail
          go_loopw [7] (fun t wz => ∃ q : Nat, q ≤ (L p).length ∧ t = .int .i64 q ∧ wz = V) (fun t _ => (L p).length - (intOf t).toNat)
          case atStart => exact ⟨0, by omega, rfl, rfl⟩
          case round =>
            obtain ⟨q, hq, rfl, hw⟩ := hrel
            have hw := hw.symm
            subst hw
            have c0 := (HAI.out.bg.row hpl).1
            obtain ⟨ln, hln⟩ : ∃ ln, (L p).length = ln := ⟨_, rfl⟩
            by_cases hql : q < (L p).length
            · obtain ⟨ga, ca2, hva, _, _, _⟩ := iowns_block (HAI.out.bg.own p hpl) (by omega)
              have o := HAI.out.bg.own p hpl
              rw [hva] at c0 o
              have d0 := IOwns.at_ o (j := q) (by omega)
              have hval : iat (L p) q = -1000 - (p : Int) := by
                have := HAI.out.full p hpl
                rw [this]
                unfold iat
                rw [List.getD_eq_getElem?_getD, List.getElem?_replicate, if_pos hql]
                rfl
              rw [hval] at d0
              have HLN := hide hln
              rw [hln] at c0 hll hq hql
              have j3 : (q : Int) < ln := by omega
              have j4 : (0 : Int) ≤ q := by omega
              have j5 : IntKind.i64.wrap (-1000 - (p : Int)) = -1000 - (p : Int) := IntWalk.i64_in _ (by omega)
              clear hva o hval hln
              go_wp2
              go_roundw
              case rel => exact ⟨q + 1, by have := HLN.out; omega, by go_num, by first | rfl | trivial⟩
              case measure => simp [intOf]; have := HLN.out; omega
            · obtain ⟨pa2, ca2, hva, _, _, _⟩ := IOwns.form (HAI.out.bg.own p hpl)
              rw [hva, hln] at c0
              rw [hln] at hq hql
              have j3 : ¬ (q : Int) < ln := by omega
              clear hva hln
              go_wp2
              go_roundw
              case rel => exact ⟨p + 1, by omega, by go_num, by first | rfl | trivial⟩
              case measure => simp [intOf]; omega
        · have j1 : ¬ (p : Int) < i := by omega
          go_wp2
          go_ret
          exact ⟨rfl, HAI.out.below⟩
end Go.Proofs.Ytghffodjffkijaa

/- Same: two tours are the same. -/
/- The document's Ints. -/
namespace Go.Proofs.Ytghffodjffkijaa
open Go.RowKit Go.Sort
open Go

set_option maxHeartbeats 1000000 in
theorem ints30 (p q : Option Addr) (a b : List Int) (cp cq : Nat) (w : World) (hla : a.length ≤ maxLen) (hp : IHas w p a) (hq : IHas w q b) : Calls Try.prog 21 #[.slice p a.length cp, .slice q b.length cq] w fun e w' => e = .returned (.bool (decide (a = b))) ∧ Below w.heap.size w w' := by
  have H := hide hp
  have K := hide hq
  unfold maxLen at hla
  clear hp hq
  by_cases hl : a.length = b.length
  · go_enter Try.func21, Try.ntmps21
    have hli : ((a.length : Int) == b.length) = true := by simp [hl]
    go_wp2_with fail
    go_loopw [5] (fun t wr => ∃ i : Nat, i ≤ a.length ∧ t = .int .i64 i ∧ Hid (∀ j, j < i → iat a j = iat b j) ∧ Hid (Below w.heap.size w wr)) (fun t _ => a.length - (intOf t).toNat)
    case atStart => exact ⟨0, by omega, rfl, fun j hj => by omega, Below.refl _ _⟩
    case round =>
      obtain ⟨i, hi, rfl, HP, HB⟩ := hrel
      by_cases hlt : i < a.length
      · rcases H.out.later HB.out with h | ⟨b1, o1, rfl, l1⟩
        · subst h; simp at hlt
        rcases K.out.later HB.out with h | ⟨b2, o2, rfl, l2⟩
        · rw [h] at hl; simp at hl; rw [hl] at hlt; simp at hlt
        have c0 := l1 i hlt
        have d0 := l2 i (by omega)
        clear l1 l2
        obtain ⟨x, hx⟩ : ∃ x, iat a i = x := ⟨_, rfl⟩
        obtain ⟨y, hy⟩ : ∃ y, iat b i = y := ⟨_, rfl⟩
        rw [hx] at c0
        rw [hy] at d0
        have e1 : (i : Int) < a.length := by omega
        have e2 : (i : Int) < b.length := by omega
        by_cases hxy : x = y
        · subst hxy
          go_wp2_with fail
          go_quiet (fail)
          go_wp2
          go_roundw
          case rel => exact ⟨i + 1, by omega, by go_num, more HP.out (by rw [hx, hy]), below_drewN HB.out⟩
          case measure => simp [intOf]; omega
        · have hxb : (x == y) = false := by simpa using hxy
          go_wp2_with fail
          go_quiet (fail)
          go_wp2
          go_ret
          refine ⟨retB ?_, below_drewN HB.out⟩
          have hne : a ≠ b := by
            intro e
            subst e
            rw [hx] at hy
            exact absurd hy hxy
          simp [hne]
      · go_wp2
        go_ret
        have : i = a.length := by omega
        subst this
        exact ⟨retB (by simp [iat_ext hl HP.out]), HB.out⟩
  · go_enter Try.func21, Try.ntmps21
    have hli : ((a.length : Int) == b.length) = false := by simp; omega
    go_wp2
    go_ret
    refine ⟨retB ?_, Below.refl _ _⟩
    have hne : a ≠ b := fun e => hl (by rw [e])
    simp [hne]

end Go.Proofs.Ytghffodjffkijaa

namespace Go.Proofs.Ytghffodjffkijaa
open Go.RowKit Go.Sort
open Go

theorem IOwns.has {w : World} {B : Nat} {p : Option Addr} {c : Nat} {l : List Int} (h : IOwns w B (.slice p l.length c) l) : IHas w p l := by
  obtain ⟨p', c', hv, hh, _⟩ := h.form
  simp only [Value.slice.injEq, true_and] at hv
  rw [hv.1]
  exact hh
theorem two_tours (w : World) (a0 a1 a2 a3 b0 b1 b2 b3 : Value) : ∃ W, W = (w.alloc (.cells #[a0, a1, a2, a3] 35)).alloc (.cells #[b0, b1, b2, b3] 35) ∧ Below w.heap.size w W ∧ W.ownsRow 0 35 4 (.slice (some ⟨w.heap.size, 0, none⟩) 1 1) 1 [a0, a1, a2, a3] ∧ W.ownsRow 0 35 4 (.slice (some ⟨w.heap.size + 1, 0, none⟩) 1 1) 1 [b0, b1, b2, b3] := by
  refine ⟨_, rfl, by go_grown, box_later (w := w.alloc (.cells #[a0, a1, a2, a3] 35)) (box35 _ _ _ _ _) (by go_grown), ?_⟩
  have := box35 (w.alloc (.cells #[a0, a1, a2, a3] 35)) b0 b1 b2 b3
  simpa using this
set_option maxRecDepth 100000 in
set_option maxHeartbeats 4000000 in
/-- Tours of the same lists are told the same. -/
theorem same18 (w : World) (L0 L1 L2 L3 : List Int) (p0 p1 p2 p3 q0 q1 q2 q3 : Option Addr) (c0 c1 c2 c3 d0 d1 d2 d3 : Nat) (hl : L0.length ≤ 100000 ∧ L1.length ≤ 100000 ∧ L2.length ≤ 100000 ∧ L3.length ≤ 100000)
    (h0 : IHas w p0 L0 ∧ IHas w q0 L0) (h1 : IHas w p1 L1 ∧ IHas w q1 L1) (h2 : IHas w p2 L2 ∧ IHas w q2 L2) (h3 : IHas w p3 L3 ∧ IHas w q3 L3) :
    Calls Try.prog 18 #[.agg #[.slice p0 L0.length c0, .slice p1 L1.length c1, .slice p2 L2.length c2, .slice p3 L3.length c3], .agg #[.slice q0 L0.length d0, .slice q1 L1.length d1, .slice q2 L2.length d2, .slice q3 L3.length d3]] w fun e w' => e = .returned (.bool true) ∧ Below w.heap.size w w' := by
  obtain ⟨W, hW, hb, x, y⟩ := two_tours w (.slice p0 L0.length c0) (.slice p1 L1.length c1) (.slice p2 L2.length c2) (.slice p3 L3.length c3) (.slice q0 L0.length d0) (.slice q1 L1.length d1) (.slice q2 L2.length d2) (.slice q3 L3.length d3)
  have HI : Hid (∀ (V : World) (p q : Option Addr) (L : List Int) (c d : Nat), L.length ≤ 100000 → IHas V p L → IHas V q L → Calls Try.prog 21 #[.slice p L.length c, .slice q L.length d] V fun e w' => e = .returned (.bool true) ∧ Below V.heap.size V w') := fun V p q L c d hl hp hq => by
    have := ints30 p q L L c d V (by unfold maxLen; omega) hp hq
    rw [decide_eq_true rfl] at this
    exact this
  have HX := hide x
  have HY := hide y
  have HB := hide hb
  have H0 := hide h0
  have H1 := hide h1
  have H2 := hide h2
  have H3 := hide h3
  have HL := hide hl
  clear x y hb h0 h1 h2 h3 hl
  go_enter Try.func18, Try.ntmps18
  go_wp2_with fail
  rw [← hW]
  clear hW
  obtain ⟨kb, hkb⟩ : ∃ kb, w.heap.size = kb := ⟨_, rfl⟩
  have HKB := hide hkb
  rw [hkb] at HX HY
  try rw [hkb]
  clear hkb
  refine (HI.out W p0 q0 L0 c0 d0 HL.out.1 (H0.out.1.later HB.out) (H0.out.2.later HB.out)).mono ?_
  rintro e w1 ⟨rfl, hb1⟩
  have HB1 := hide (below_step HB.out hb1)
  have HX1 := hide (box_later HX.out hb1)
  have HY1 := hide (box_later HY.out hb1)
  obtain ⟨a0, a1, a2, a3, _⟩ := box_cells HX1.out
  obtain ⟨b0, b1, b2, b3, _⟩ := box_cells HY1.out
  clear hb1 HX HY
  go_wp2_with fail
  clear a0 a1 a2 a3 b0 b1 b2 b3
  refine (HI.out w1 p1 q1 L1 c1 d1 HL.out.2.1 (H1.out.1.later HB1.out) (H1.out.2.later HB1.out)).mono ?_
  rintro e w2 ⟨rfl, hb1⟩
  have HB2 := hide (below_step HB1.out hb1)
  have HX2 := hide (box_later HX1.out hb1)
  have HY2 := hide (box_later HY1.out hb1)
  obtain ⟨a0, a1, a2, a3, _⟩ := box_cells HX2.out
  obtain ⟨b0, b1, b2, b3, _⟩ := box_cells HY2.out
  clear hb1 HX1 HY1
  go_wp2_with fail
  clear a0 a1 a2 a3 b0 b1 b2 b3
  refine (HI.out w2 p2 q2 L2 c2 d2 HL.out.2.2.1 (H2.out.1.later HB2.out) (H2.out.2.later HB2.out)).mono ?_
  rintro e w3 ⟨rfl, hb1⟩
  have HB3 := hide (below_step HB2.out hb1)
  have HX3 := hide (box_later HX2.out hb1)
  have HY3 := hide (box_later HY2.out hb1)
  obtain ⟨a0, a1, a2, a3, _⟩ := box_cells HX3.out
  obtain ⟨b0, b1, b2, b3, _⟩ := box_cells HY3.out
  clear hb1 HX2 HY2
  go_wp2_with fail
  clear a0 a1 a2 a3 b0 b1 b2 b3
  refine (HI.out w3 p3 q3 L3 c3 d3 HL.out.2.2.2 (H3.out.1.later HB3.out) (H3.out.2.later HB3.out)).mono ?_
  rintro e w4 ⟨rfl, hb1⟩
  have HB4 := hide (below_step HB3.out hb1)
  clear hb1
  go_wp2
  go_ret
  exact ⟨rfl, HB4.out⟩
end Go.Proofs.Ytghffodjffkijaa

/- The reference's Parts answers the program's numbers. -/
namespace Go.Proofs.Ytghffodjffkijaa
open Go.RowKit Go.Sort
open Go

theorem parts20 (m : Nat) (p : Option Addr) (es : List Pt) (cp : Nat) (w : World) (h : Has w p es) (hm : netB m es = true) : Calls Try.prog 20 #[nv m p es.length cp, .slice none 0 0, .slice none 0 0] w fun e w' => ∃ g, e = .returned (.tuple #[.slice (some ⟨g, 0, none⟩) m m, .int .i64 (pcnt (everyN es m m).O (everyN es m m).By (everyN es m m).O.length : Nat)]) ∧ IRow w' w.heap.size g m (plab (everyN es m m).O (everyN es m m).By m (everyN es m m).O.length) ∧ Below w.heap.size w w' := by
  refine (parts19 m p es cp w h hm).mono ?_
  rintro e w' ⟨gc, k, C, r, rfl, hr, hL, hb⟩
  obtain ⟨r', L'⟩ := parts_lab (es := es) hm
  obtain ⟨hk, hC⟩ := Lab.uniq hm hL L'
  subst hk
  subst hC
  exact ⟨gc, rfl, hr, hb⟩
end Go.Proofs.Ytghffodjffkijaa

/- begun: what the statements of the sixth layer ask first. -/
namespace Go.Proofs.Ytghffodjffkijaa
open Go.RowKit Go.Sort
open Go

theorem ringE_net : netB (4 : Nat) ringE = true := by decide
/-- What a net that lies there is. -/
theorem lies_has {w : World} {g : Nat} {es : List Pt} (h : Lies w g 0 es) : Has w (some ⟨g, 0, none⟩) es := Or.inr ⟨g, 0, rfl, h⟩
set_option maxRecDepth 100000 in
set_option maxHeartbeats 8000000 in
theorem begun9 (w : World) : Calls Try.prog 9 #[] w fun e w' => e = .returned (.bool true) ∧ Below w.heap.size w w' := by
  have hm : netB (4 : Nat) ringE = true := ringE_net
  have H13 : Hid (∀ (V : World) (g : Nat), Lies V g 0 ringE → Calls Try.prog 13 #[nv 4 (some ⟨g, 0, none⟩) 4 4, .int .i64 0] V fun e w' => ∃ v, e = .returned (.tuple #[v, .int .i64 0]) ∧ TR w' V.heap.size 4 v (bOne ringE 4 0) nilS ∧ Below V.heap.size V w') := fun V g hL => breadth13 4 (some ⟨g, 0, none⟩) ringE 4 0 V (lies_has hL) hm (by omega)
  have H14 : Hid (∀ (V : World) (g : Nat), Lies V g 0 ringE → Calls Try.prog 14 #[nv 4 (some ⟨g, 0, none⟩) 4 4, .int .i64 0] V fun e w' => ∃ v gl, e = .returned (.tuple #[v, .int .i64 0]) ∧ TR w' V.heap.size 4 v (dOneSt ringE 4 0) (.slice (some ⟨gl, 0, none⟩) 4 4) ∧ IRow w' V.heap.size gl 4 (lwN ringE (dOneSt ringE 4 0) 4 (dOneSt ringE 4 0).O.length) ∧ Below V.heap.size V w') := fun V g hL => depth14all 4 (some ⟨g, 0, none⟩) ringE 4 0 V (lies_has hL) hm (by omega)
  have H15 : Hid (∀ (V : World) (g : Nat), Lies V g 0 ringE → Calls Try.prog 15 #[nv 4 (some ⟨g, 0, none⟩) 4 4] V fun e w' => ∃ g', e = .returned (.tuple #[.slice (some ⟨g', 0, none⟩) 4 4, .int .i64 2, .int .i64 0]) ∧ w'.cell? ⟨g', 3, none⟩ = some (.int .i64 1) ∧ Below V.heap.size V w') := fun V g hL => (parts15 4 (some ⟨g, 0, none⟩) ringE 4 V (lies_has hL) hm).mono (by
    rintro e w' ⟨g', rfl, hg, hb⟩
    exact ⟨g', rfl, by have := (hg.cell (j := 3) (by omega)).1; rw [show iat (plab (everyN ringE 4 4).O (everyN ringE 4 4).By 4 (everyN ringE 4 4).O.length) 3 = 1 by decide] at this; exact this, hb⟩)
  have H31 : Hid (∀ (V : World) (g : Nat), Lies V g 0 ringE → Calls Try.prog 31 #[nv 4 (some ⟨g, 0, none⟩) 4 4] V fun e w' => ∃ p c, e = .returned (.tuple #[.slice p 2 c, .int .i64 0]) ∧ Below V.heap.size V w') := fun V g hL => (ring31 4 (some ⟨g, 0, none⟩) ringE 4 V (lies_has hL) hm).mono (by
    rintro e w' ⟨v, rfl, ho, hb⟩
    obtain ⟨p, c, rfl, _⟩ := ho.form
    exact ⟨p, c, by rw [show (rgN ringE 4 4).length = 2 by decide, if_neg (by decide)], hb⟩)
  have H28 : Hid (∀ (V : World) (g : Nat), Lies V g 0 ringE → Calls Try.prog 28 #[nv 4 (some ⟨g, 0, none⟩) 4 4] V fun e w' => ∃ p c, e = .returned (.tuple #[nilS, .slice p 3 c, .int .i64 0]) ∧ Below V.heap.size V w') := fun V g hL => (sides28 4 (some ⟨g, 0, none⟩) ringE 4 V (lies_has hL) hm).mono (by
    rintro e w' ⟨a, b, rfl, hs, hb⟩
    have a1 : alike ringE (everyN ringE 4 4).Fa 1 := by unfold alike; decide
    rcases hs with ⟨h, _⟩ | ⟨q, hq, hq1, hq2, rfl, ho⟩
    · exact absurd a1 (h 1 (by decide))
    · have e1 : q = 1 := by
        rcases (by omega : q = 0 ∨ q = 1 ∨ 1 < q) with h | h | h
        · exfalso
          rw [h] at hq2
          revert hq2
          unfold alike
          decide
        · exact h
        · exact absurd a1 (hq1 1 h)
      rw [e1] at ho
      obtain ⟨p, c, rfl, _⟩ := ho.form
      exact ⟨p, c, by rw [show (cloL ringE (everyN ringE 4 4) (2 * 1)).length = 3 by decide], hb⟩)
  have H35 : Hid (∀ (V : World) (g : Nat), Lies V g 0 ringE → Calls Try.prog 35 #[nv 4 (some ⟨g, 0, none⟩) 4 4, .int .i64 0] V fun e w' => ∃ k1 k2, e = .returned (.func (.func 51) #[] #[.pointer (some ⟨k1, 0, none⟩), .pointer (some ⟨k2, 0, none⟩)]) ∧ Below V.heap.size V w') := fun V g hL => (each35f 4 (some ⟨g, 0, none⟩) ringE 4 0 V (lies_has hL) hm (by omega)).mono (by
    rintro e w' ⟨k1, k2, _, _, _, rfl, _, _, _, _, hb⟩
    exact ⟨k1, k2, rfl, hb⟩)
  clear hm
  go_enter Try.func9, Try.ntmps9
  go_wp2_with fail
  refine (ring34 w).mono ?_
  rintro e w1 ⟨g1, rfl, hL1, hb1⟩
  have C1 := hide (H13.out w1 g1 hL1)
  have HB1 := hide hb1
  clear hb1 hL1
  go_wp2_with fail
  refine C1.out.mono ?_
  rintro e w2 ⟨v, rfl, ⟨vo, gb, gf, rfl, ho, _⟩, hb2⟩
  obtain ⟨po, co, rfl, _⟩ := ho.form
  rw [show (bOne ringE 4 0).O.length = 3 by decide]
  have HB2 := hide (below_step HB1.out hb2)
  clear hb2 C1 ho
  obtain ⟨X, hX⟩ : ∃ X, X = w2.alloc (.cells #[.slice po 3 co, .slice (some ⟨gb, 0, none⟩) 4 4, .slice (some ⟨gf, 0, none⟩) 4 4, nilS] 35) := ⟨_, rfl⟩
  have hbX : Below w2.heap.size w2 X := by rw [hX]; go_grown
  have k1 : X.cell? ⟨w2.heap.size, 0, none⟩ = some (.slice po 3 co) := by rw [hX]; go_cell
  have HBX := hide (below_step HB2.out hbX)
  have K1 := hide k1
  clear k1 hbX
  go_wp2_with fail
  rw [← hX]
  clear hX
  refine (ring34 X).mono ?_
  rintro e w3 ⟨g3, rfl, hL3, hb3⟩
  have C2 := hide (H14.out w3 g3 hL3)
  have HB3 := hide (below_step HBX.out hb3)
  have K2 := hide (later hb3 K1.out)
  clear hb3 hL3 K1
  go_wp2_with fail
  refine C2.out.mono ?_
  rintro e w4 ⟨v, gl, rfl, ⟨vo, gb4, gf4, rfl, ho, _⟩, hgl, hb4⟩
  obtain ⟨po4, co4, rfl, _⟩ := ho.form
  rw [show (dOneSt ringE 4 0).O.length = 3 by decide] at hgl ⊢
  have l4 : w4.cell? ⟨gl, 2, none⟩ = some (.int .i64 0) := by have := (hgl.cell (j := 2) (by omega)).1; rw [show iat (lwN ringE (dOneSt ringE 4 0) 4 3) 2 = 0 by decide] at this; exact this
  have HB4 := hide (below_step HB3.out hb4)
  have K3 := hide (later hb4 K2.out)
  obtain ⟨Y, hY⟩ : ∃ Y, Y = w4.alloc (.cells #[.slice po4 3 co4, .slice (some ⟨gb4, 0, none⟩) 4 4, .slice (some ⟨gf4, 0, none⟩) 4 4, .slice (some ⟨gl, 0, none⟩) 4 4] 35) := ⟨_, rfl⟩
  have hbY : Below w4.heap.size w4 Y := by rw [hY]; go_grown
  have y1 : Y.cell? ⟨w4.heap.size, 3, none⟩ = some (.slice (some ⟨gl, 0, none⟩) 4 4) := by rw [hY]; go_cell
  have HBY := hide (below_step HB4.out hbY)
  have K4 := hide (And.intro (later hbY K3.out) (And.intro y1 (later hbY l4)))
  clear hb4 C2 ho hgl l4 K2 K3 y1 hbY
  go_wp2_with fail
  rw [← hY]
  clear hY
  refine (ring34 Y).mono ?_
  rintro e w5 ⟨g5, rfl, hL5, hb5⟩
  have C3 := hide (H15.out w5 g5 hL5)
  have HB5 := hide (below_step HBY.out hb5)
  have K5 := hide (And.intro (later hb5 K4.out.1) (And.intro (later hb5 K4.out.2.1) (later hb5 K4.out.2.2)))
  clear hb5 hL5 K4
  go_wp2_with fail
  refine C3.out.mono ?_
  rintro e w6 ⟨g6, rfl, hg6, hb6⟩
  have HB6 := hide (below_step HB5.out hb6)
  have K6 := hide (And.intro hg6 (And.intro (later hb6 K5.out.1) (And.intro (later hb6 K5.out.2.1) (later hb6 K5.out.2.2))))
  clear hb6 hg6 C3 K5
  go_wp2_with fail
  refine (ring34 w6).mono ?_
  rintro e w7 ⟨g7, rfl, hL7, hb7⟩
  have C4 := hide (H31.out w7 g7 hL7)
  have HB7 := hide (below_step HB6.out hb7)
  have K7 := hide (And.intro (later hb7 K6.out.1) (And.intro (later hb7 K6.out.2.1) (And.intro (later hb7 K6.out.2.2.1) (later hb7 K6.out.2.2.2))))
  clear hb7 hL7 K6
  go_wp2_with fail
  refine C4.out.mono ?_
  rintro e w8 ⟨p8, c8, rfl, hb8⟩
  have HB8 := hide (below_step HB7.out hb8)
  have K8 := hide (And.intro (later hb8 K7.out.1) (And.intro (later hb8 K7.out.2.1) (And.intro (later hb8 K7.out.2.2.1) (later hb8 K7.out.2.2.2))))
  clear hb8 C4 K7
  go_wp2_with fail
  refine (ring34 w8).mono ?_
  rintro e w9 ⟨g9, rfl, hL9, hb9⟩
  have C5 := hide (H28.out w9 g9 hL9)
  have HB9 := hide (below_step HB8.out hb9)
  have K9 := hide (And.intro (later hb9 K8.out.1) (And.intro (later hb9 K8.out.2.1) (And.intro (later hb9 K8.out.2.2.1) (later hb9 K8.out.2.2.2))))
  clear hb9 hL9 K8
  go_wp2_with fail
  refine C5.out.mono ?_
  rintro e wa ⟨pa, ca, rfl, hba⟩
  have HBa := hide (below_step HB9.out hba)
  have Ka := hide (And.intro (later hba K9.out.1) (And.intro (later hba K9.out.2.1) (And.intro (later hba K9.out.2.2.1) (later hba K9.out.2.2.2))))
  clear hba C5 K9
  go_wp2_with fail
  refine (ring34 wa).mono ?_
  rintro e wb ⟨gb', rfl, hLb, hbb⟩
  have C6 := hide (H35.out wb gb' hLb)
  have HBb := hide (below_step HBa.out hbb)
  have Kb := hide (And.intro (later hbb Ka.out.1) (And.intro (later hbb Ka.out.2.1) (And.intro (later hbb Ka.out.2.2.1) (later hbb Ka.out.2.2.2))))
  clear hbb hLb Ka
  go_wp2_with fail
  refine C6.out.mono ?_
  rintro e wc ⟨q1, q2, rfl, hbc⟩
  have HBc := hide (below_step HBb.out hbc)
  have d1 := later hbc Kb.out.1
  have d2 := later hbc Kb.out.2.1
  have d3 := later hbc Kb.out.2.2.1
  have d4 := later hbc Kb.out.2.2.2
  have hq : (binOp .eql 62 (.func (.func 51) #[] #[.pointer (some ⟨q1, 0, none⟩), .pointer (some ⟨q2, 0, none⟩)]) .nilFunc).run Try.prog wc = .ok (.bool false) wc := rfl
  clear hbc C6 Kb
  go_wp2
  go_ret
  exact ⟨rfl, HBc.out⟩
end Go.Proofs.Ytghffodjffkijaa

/- Light, Twin, Kept. -/
namespace Go.Proofs.Ytghffodjffkijaa
open Go.RowKit Go.Sort
open Go

set_option maxHeartbeats 1000000 in
theorem light9 (n : Int) (p : Option Addr) (es : List Pt) (cap : Nat) (w : World) (h : Has w p es) : Calls Try.prog 10 #[nv n p es.length cap] w fun e w' => e = .returned (.bool (lightB n es)) ∧ Below w.heap.size w w' := by
  obtain ⟨W, hW, hb, a0⟩ := one_net w n p es.length cap
  have M := hide (may12 n p es cap W (h.later hb))
  have HB := hide hb
  obtain ⟨q0, q1, _, _⟩ := a0
  clear h hb
  by_cases hl : es.length ≤ 300
  · have hl' : (es.length : Int) ≤ 300 := by omega
    by_cases hn : n ≤ 300
    · go_enter Try.func10, Try.ntmps10
      go_wp2_with fail
      go_ret
      exact ⟨retB (by simp [lightB, hl, hn]), by go_grown⟩
    · have hn' : 300 < n := by omega
      go_enter Try.func10, Try.ntmps10
      go_wp2_with fail
      rw [← hW]
      clear hW
      refine M.out.mono ?_
      rintro e w1 ⟨rfl, hb1⟩
      have HB1 := hide (below_step HB.out hb1)
      clear hb1 q0 q1
      go_wp2
      go_ret
      exact ⟨retB (by simp [lightB, hl]; omega), HB1.out⟩
  · have hl' : 300 < (es.length : Int) := by omega
    go_enter Try.func10, Try.ntmps10
    go_wp2_with fail
    go_ret
    exact ⟨retB (by simp [lightB, hl]), by go_grown⟩

set_option maxRecDepth 100000 in
set_option maxHeartbeats 8000000 in
theorem twin11 (n : Int) (p : Option Addr) (es : List Pt) (cp : Nat) (w : World) (hnil : p = none → cp = 0) (hl : es.length ≤ 90000) (h : Has w p es) : Calls Try.prog 11 #[nv n p es.length cp] w fun e w' => ∃ g c, e = .returned (nv n (some ⟨g, 0, none⟩) es.length c) ∧ Owns w' w.heap.size (.slice (some ⟨g, 0, none⟩) (es.length + 1) c) (es ++ [mk]) ∧ es.length + 1 ≤ c ∧ Below w.heap.size w w' := by
  obtain ⟨W, hW, hb, a0, b0⟩ := two_nets w n p es.length cp
  have HB := hide hb
  have HA := hide a0
  have hws : w.heap.size + 1 < W.heap.size := block_lt_of_cell b0.1
  have hW0 := h.later hb
  have hel : (es ++ [mk]).length = es.length + 1 := by simp
  obtain ⟨v1, D1, e1, o1, gr1⟩ := append_prs (w := W.drew) (base := W.heap.size) (v := .slice none 0 0) (l := []) (Owns.nil _ _) p cp es hnil (hW0.later (below_drew _)) (by simp) (by simp; omega)
  have hb1 : Below W.heap.size W D1 := below_grown (w := W.drew) (below_drew _) (Owns.nil W.drew W.heap.size) (Nat.le_refl _) (by simp) gr1
  rw [List.nil_append] at o1
  obtain ⟨q, c, rfl, _, _, _, _⟩ := o1.form
  have hb1' : Below W.heap.size W (D1.alloc (.cells #[.int .i64 (-7), .int .i64 7] 49)) := hb1.alloc hb1.size _
  have o1' := o1.later (w' := D1.alloc (.cells #[.int .i64 (-7), .int .i64 7] 49)) (by go_grown)
  obtain ⟨v2, D2, e2, o2, gr2⟩ := append_prs o1' (some ⟨D1.heap.size, 0, none⟩) 1 [mk] (fun h => by cases h) (Or.inr ⟨_, _, rfl, mk_lies D1 _ rfl⟩) hb1'.size (by simp; omega)
  have hb2 : Below W.heap.size W D2 := below_grown hb1' o1' (Nat.le_refl _) hb1'.size gr2
  obtain ⟨g2, c2, rfl, hc2, _, _⟩ := owns_block o2 (by simp)
  rw [hel] at o2 e2 hc2
  have hbW : Below W.heap.size W (W.alloc (.cells #[.int .i64 (-7), .int .i64 7] 49)).drew := by go_grown
  obtain ⟨v3, F1, e3, o3, gr3⟩ := append_prs (w := (W.alloc (.cells #[.int .i64 (-7), .int .i64 7] 49)).drew) (base := W.heap.size) (v := .slice none 0 0) (l := []) (Owns.nil _ _) p cp es hnil (hW0.later hbW) hbW.size (by simp; omega)
  have hg3 : Below (W.alloc (.cells #[.int .i64 (-7), .int .i64 7] 49)).drew.heap.size (W.alloc (.cells #[.int .i64 (-7), .int .i64 7] 49)).drew F1 := below_grown (Below.refl _ _) (Owns.nil (W.alloc (.cells #[.int .i64 (-7), .int .i64 7] 49)).drew (W.alloc (.cells #[.int .i64 (-7), .int .i64 7] 49)).drew.heap.size) (Nat.le_refl _) (Nat.le_refl _) gr3
  have hb3 : Below W.heap.size W F1 := Below.trans hbW (hg3.mono hbW.size)
  rw [List.nil_append] at o3
  obtain ⟨q3, c3, rfl, _, _, _, _⟩ := o3.form
  obtain ⟨v4, F2, e4, o4, gr4⟩ := append_prs o3 (some ⟨W.heap.size, 0, none⟩) 1 [mk] (fun h => by cases h) (Or.inr ⟨_, _, rfl, ((mk_lies W _ rfl).later (below_drew _)).later hg3⟩) hb3.size (by simp; omega)
  have hb4 : Below W.heap.size W F2 := below_grown hb3 o3 (Nat.le_refl _) hb3.size gr4
  obtain ⟨g4, c4, rfl, hc4, _, _⟩ := owns_block o4 (by simp)
  rw [hel] at o4 e4 hc4
  simp only [List.length_cons, List.length_nil, Nat.zero_add] at e2 e4
  have HO2 := hide o2
  have HO4 := hide o4
  have HN2 := hide (b0.later hb2)
  have HN4 := hide (b0.later hb4)
  have HA1 := hide (a0.later hb1)
  have HA1' := hide (a0.later hb1')
  have HA2 := hide (a0.later hb2)
  have HAW := hide (a0.later hbW)
  have HA3 := hide (a0.later hb3)
  have HA4 := hide (a0.later hb4)
  have HB2 := hide (below_step hb hb2)
  have HB4 := hide (below_step hb hb4)
  have k1 : (es.length : Int) ≤ c2 := by omega
  have k2 : (es.length : Int) ≤ c4 := by omega
  have k3 : (0 : Int) ≤ es.length := by omega
  have zw : w.heap.size < W.heap.size := by omega
  obtain ⟨q0, q1, _, _⟩ := a0
  obtain ⟨r0, r1, r2, r3⟩ := HN2.out
  obtain ⟨s0, s1, s2, s3⟩ := HN4.out
  clear hb h o1 o1' o2 o3 o4 gr1 gr2 gr3 gr4 hb1 hb1' hb2 hb3 hb4 hbW hg3 hW0 b0 hel
  go_enter Try.func11, Try.ntmps11
  go_wp2_with fail
  rw [← hW]
  clear hW
  go_region_held3 (fun W => W.cell? ⟨w.heap.size, 0, none⟩ = some (.int .i64 n) ∧ W.cell? ⟨w.heap.size, 1, none⟩ = some (.slice p es.length cp))
    (first | exact ⟨HA.out.1, HA.out.2.1⟩ | exact ⟨HA1.out.1, HA1.out.2.1⟩ | exact ⟨HA1'.out.1, HA1'.out.2.1⟩ | exact ⟨HA2.out.1, HA2.out.2.1⟩ | exact ⟨HAW.out.1, HAW.out.2.1⟩ | exact ⟨HA3.out.1, HA3.out.2.1⟩ | exact ⟨HA4.out.1, HA4.out.2.1⟩ | exact ⟨other2 HA2.out.1 (by simp), other2 HA2.out.2.1 (by simp)⟩ | exact ⟨other2 HA4.out.1 (by simp), other2 HA4.out.2.1 (by simp)⟩)
    (first | (refine step_run_append (by rfl) (.const (.slice none 0 0)) (.tmp 6) 22 (by rfl) 22 (by rfl) (.slice none 0 0) (.slice p es.length cp) (.slice q es.length c) D1 (by rfl) (by rfl) ?_ ?_; with_reducible exact e1) | (refine step_run_append (by rfl) (.const (.slice none 0 0)) (.tmp 6) 22 (by rfl) 22 (by rfl) (.slice none 0 0) (.slice p es.length cp) (.slice q3 es.length c3) F1 (by rfl) (by rfl) ?_ ?_; with_reducible exact e3) | (refine step_run_append (by rfl) (.tmp 7) (.tmp 9) 22 (by rfl) 22 (by rfl) (.slice q es.length c) (.slice (some ⟨D1.heap.size, 0, none⟩) 1 1) (.slice (some ⟨g2, 0, none⟩) (es.length + 1) c2) D2 (by rfl) (by rfl) ?_ ?_; with_reducible exact e2) | (refine step_run_append (by rfl) (.tmp 7) (.tmp 9) 22 (by rfl) 22 (by rfl) (.slice q3 es.length c3) (.slice (some ⟨W.heap.size, 0, none⟩) 1 1) (.slice (some ⟨g4, 0, none⟩) (es.length + 1) c4) F2 (by rfl) (by rfl) ?_ ?_; with_reducible exact e4))
  all_goals
    rename_i hHeld
    clear hHeld
  · obtain ⟨V, hV⟩ : ∃ V, V = (D2.setCell ⟨w.heap.size + 1, 0, none⟩ (.int .i64 n)).setCell ⟨w.heap.size + 1, 1, none⟩ (.slice (some ⟨g2, 0, none⟩) es.length c2) := ⟨_, rfl⟩
    have kV : NOwn V (w.heap.size + 1) n (some ⟨g2, 0, none⟩) es.length c2 := by rw [hV]; exact HN2.out.set _ _ _ _
    have bV : Below w.heap.size w V := by rw [hV]; exact (HB2.out.setCell (by simp) _).setCell (by simp) _
    have oV : Owns V w.heap.size (.slice (some ⟨g2, 0, none⟩) (es.length + 1) c2) (es ++ [mk]) := by rw [hV]; exact (owns_other (owns_other HO2.out hws _) hws _).base HB.out.size
    rw [← hV]
    go_wp2_with fail
    exact bodyPost_ret (ret_net1 Try.results11 rfl kV) rfl ⟨g2, c2, rfl, oV, hc2, bV⟩
  · obtain ⟨V, hV⟩ : ∃ V, V = (F2.setCell ⟨w.heap.size + 1, 0, none⟩ (.int .i64 n)).setCell ⟨w.heap.size + 1, 1, none⟩ (.slice (some ⟨g4, 0, none⟩) es.length c4) := ⟨_, rfl⟩
    have kV : NOwn V (w.heap.size + 1) n (some ⟨g4, 0, none⟩) es.length c4 := by rw [hV]; exact HN4.out.set _ _ _ _
    have bV : Below w.heap.size w V := by rw [hV]; exact (HB4.out.setCell (by simp) _).setCell (by simp) _
    have oV : Owns V w.heap.size (.slice (some ⟨g4, 0, none⟩) (es.length + 1) c4) (es ++ [mk]) := by rw [hV]; exact (owns_other (owns_other HO4.out hws _) hws _).base HB.out.size
    rw [← hV]
    go_wp2_with fail
    exact bodyPost_ret (ret_net1 Try.results11 rfl kV) rfl ⟨g4, c4, rfl, oV, hc4, bV⟩
theorem lies_left {w : World} {b off : Nat} {a c : List Pt} (h : Lies w b off (a ++ c)) : Lies w b off a := fun j hj => by
  have := h j (by rw [List.length_append]; omega)
  have e : at' (a ++ c) j = at' a j := by unfold at'; rw [List.getD_eq_getElem?_getD, List.getD_eq_getElem?_getD, List.getElem?_append_left hj]
  rw [e] at this
  exact this
theorem at_last (es : List Pt) (p : Pt) : at' (es ++ [p]) es.length = p := by
  unfold at'; rw [List.getD_eq_getElem?_getD, List.getElem?_append_right (Nat.le_refl _)]; simp
set_option maxRecDepth 100000 in
set_option maxHeartbeats 8000000 in
theorem kept17 (n : Int) (g c : Nat) (p : Option Addr) (es : List Pt) (cp : Nat) (w : World) (hl : es.length ≤ 90000) (hc : es.length + 1 ≤ c) (ht : Lies w g 0 (es ++ [mk])) (h : Has w p es) : Calls Try.prog 19 #[nv n (some ⟨g, 0, none⟩) es.length c, nv n p es.length cp] w fun e w' => e = .returned (.bool true) ∧ Below w.heap.size w w' := by
  obtain ⟨U, hU, hb, a0, b0⟩ := two_args w n n (some ⟨g, 0, none⟩) p es.length es.length c cp
  have hm := ht es.length (by simp)
  rw [at_last, Nat.zero_add] at hm
  have m0 : U.cell? ⟨g, es.length * 2, none⟩ = some (.int .i64 (-7)) := later hb hm.1
  have m1 : U.cell? ⟨g, es.length * 2 + 1, none⟩ = some (.int .i64 7) := later hb hm.2
  have HB := hide hb
  have hT := hide ((lies_left ht).later hb)
  have hH := hide (h.later hb)
  obtain ⟨q0, q1, _, _⟩ := a0
  obtain ⟨r0, r1, _, _⟩ := b0
  clear h ht hb hm
  have CA : ∀ dd os, Calls Try.prog 46 #[nv n (some ⟨g, 0, none⟩) es.length c, nv n p es.length cp] (grow (redrawn U dd) os) fun e w'' => e = .returned (.bool true) ∧ ∃ p : Regrown, w'' = grow (redrawn U p.d) p.os := fun dd os => Calls.regrown_of (by
    have := same22 n n (some ⟨g, 0, none⟩) p es es c cp (grow (redrawn U dd) os) (by omega) (Or.inr ⟨g, 0, rfl, hT.out.later (below_regrown U dd os)⟩) (hH.out.later (below_regrown U dd os))
    rw [show sameB n n es es = true by unfold sameB; simp] at this
    exact this)
  have heq : ∀ w, (Op.equalIn 10000 49 (.agg #[.int .i64 (-7), .int .i64 7]) (.agg #[.int .i64 (-7), .int .i64 7])).run Try.prog w = .ok true w := fun w => by
    have := eq60 mk mk w
    rw [decide_eq_true (rfl : mk = mk)] at this
    exact this
  have k1 : (es.length : Int) + 1 ≤ c := by omega
  have k2 : (0 : Int) ≤ es.length := by omega
  have k3 : (es.length : Int) < (es.length : Int) + 1 := by omega
  have f0 := cell_regrown q0
  have f1 := cell_regrown q1
  have f2 := cell_regrown r0
  have f3 := cell_regrown r1
  have f4 := cell_regrown m0
  have f5 := cell_regrown m1
  go_enter Try.func19, Try.ntmps19
  go_wp2_with fail
  rw [← hU]
  clear hU
  refine wp_region_quiet_below (by kernel_rfl) (by kernel_rfl) ?_
  repeat (go_big_quiet_step (first | with_reducible exact CA _ _))
  refine wpQuiet_nil ?_
  intro x1 hw'
  have hbx1 : Below U.heap.size U x1 := by
    obtain ⟨⟨dq, osq⟩, hw''⟩ := hw'
    rw [hw'']
    exact below_regrown U dq osq
  clear hw' f0 f1 f2 f3 f4 f5 CA
  go_wp2_with fail
  go_ret
  exact ⟨rfl, below_step HB.out hbx1⟩
end Go.Proofs.Ytghffodjffkijaa

namespace Go.Proofs.Ytghffodjffkijaa
open Go.RowKit Go.Sort Go.Shelf
open Go

/-- The tours that are answered. -/
def bSt (n : Int) (es : List Pt) (s : Int) : St := if refI n es s = 0 then bOne es n.toNat s.toNat else ⟨[], [], []⟩
def dSt (n : Int) (es : List Pt) (s : Int) : St := if refI n es s = 0 then dOneSt es n.toNat s.toNat else ⟨[], [], []⟩
def dLw (n : Int) (es : List Pt) (s : Int) : List Int := if refI n es s = 0 then lwN es (dOneSt es n.toNat s.toNat) n.toNat (dOneSt es n.toNat s.toNat).O.length else []
def pLb (n : Int) (es : List Pt) : List Int := if netB n es then plab (everyN es n.toNat n.toNat).O (everyN es n.toNat n.toNat).By n.toNat (everyN es n.toNat n.toNat).O.length else []
def pCt (n : Int) (es : List Pt) : Nat := if netB n es then pcnt (everyN es n.toNat n.toNat).O (everyN es n.toNat n.toNat).By (everyN es n.toNat n.toNat).O.length else 0
/-- Four lists of a tour, each a row of its own. -/
structure TQ (w : World) (B : Nat) (p0 p1 p2 p3 : Option Addr) (c0 c1 c2 c3 : Nat) (A0 A1 A2 A3 : List Int) : Prop where
  o0 : IOwns w B (.slice p0 A0.length c0) A0
  o1 : IOwns w B (.slice p1 A1.length c1) A1
  o2 : IOwns w B (.slice p2 A2.length c2) A2
  o3 : IOwns w B (.slice p3 A3.length c3) A3
  u01 : ∀ b, (Value.slice p0 A0.length c0).ownBlock = some b → (Value.slice p1 A1.length c1).ownBlock ≠ some b
  u02 : ∀ b, (Value.slice p0 A0.length c0).ownBlock = some b → (Value.slice p2 A2.length c2).ownBlock ≠ some b
  u03 : ∀ b, (Value.slice p0 A0.length c0).ownBlock = some b → (Value.slice p3 A3.length c3).ownBlock ≠ some b
  u12 : ∀ b, (Value.slice p1 A1.length c1).ownBlock = some b → (Value.slice p2 A2.length c2).ownBlock ≠ some b
  u13 : ∀ b, (Value.slice p1 A1.length c1).ownBlock = some b → (Value.slice p3 A3.length c3).ownBlock ≠ some b
  u23 : ∀ b, (Value.slice p2 A2.length c2).ownBlock = some b → (Value.slice p3 A3.length c3).ownBlock ≠ some b
variable {w w' : World} {B : Nat} {p0 p1 p2 p3 : Option Addr} {c0 c1 c2 c3 : Nat} {A0 A1 A2 A3 : List Int}
theorem TQ.later (h : TQ w B p0 p1 p2 p3 c0 c1 c2 c3 A0 A1 A2 A3) (hb : Below w.heap.size w w') : TQ w' B p0 p1 p2 p3 c0 c1 c2 c3 A0 A1 A2 A3 :=
  ⟨h.o0.later hb, h.o1.later hb, h.o2.later hb, h.o3.later hb, h.u01, h.u02, h.u03, h.u12, h.u13, h.u23⟩
theorem TQ.kp (h : TQ w B p0 p1 p2 p3 c0 c1 c2 c3 A0 A1 A2 A3) (hk : Kp w w') : TQ w' B p0 p1 p2 p3 c0 c1 c2 c3 A0 A1 A2 A3 :=
  ⟨hk.row h.o0 (by decide) (by decide), hk.row h.o1 (by decide) (by decide), hk.row h.o2 (by decide) (by decide), hk.row h.o3 (by decide) (by decide), h.u01, h.u02, h.u03, h.u12, h.u13, h.u23⟩
theorem TQ.set4 (h : TQ w B p0 p1 p2 p3 c0 c1 c2 c3 A0 A1 A2 A3) {k : Nat} {a b c d : Value} (hx : w.ownsRow 0 35 4 (.slice (some ⟨k, 0, none⟩) 1 1) 1 [a, b, c, d]) (a' b' c' d' : Value) : TQ (set4 w k a' b' c' d') B p0 p1 p2 p3 c0 c1 c2 c3 A0 A1 A2 A3 := by
  obtain ⟨cur, hk⟩ := row_kind hx
  exact ⟨row_set4 h.o0 (row_apart hk h.o0 (by decide)) _ _ _ _, row_set4 h.o1 (row_apart hk h.o1 (by decide)) _ _ _ _, row_set4 h.o2 (row_apart hk h.o2 (by decide)) _ _ _ _, row_set4 h.o3 (row_apart hk h.o3 (by decide)) _ _ _ _, h.u01, h.u02, h.u03, h.u12, h.u13, h.u23⟩
theorem tq_nil (w : World) (B : Nat) : TQ w B none none none none 0 0 0 0 [] [] [] [] :=
  ⟨World.ownsRow_nil _ _ _ _, World.ownsRow_nil _ _ _ _, World.ownsRow_nil _ _ _ _, World.ownsRow_nil _ _ _ _, fun b h => by simp [Value.ownBlock] at h, fun b h => by simp [Value.ownBlock] at h, fun b h => by simp [Value.ownBlock] at h, fun b h => by simp [Value.ownBlock] at h, fun b h => by simp [Value.ownBlock] at h, fun b h => by simp [Value.ownBlock] at h⟩
/-- A tour with no Low. -/
theorem tq_of {m : Nat} {v : Value} {st : St} (h : TR w B m v st nilS) : ∃ p0 p1 p2 c0 c1 c2, v = tv (.slice p0 st.O.length c0) (.slice p1 st.By.length c1) (.slice p2 st.Fa.length c2) (.slice none 0 0) ∧ TQ w B p0 p1 p2 none c0 c1 c2 0 st.O st.By st.Fa [] := by
  obtain ⟨vo, gb, gf, rfl, h0, h1, h2, n1, n2, n3⟩ := h
  obtain ⟨po, co, hvo, _⟩ := h0.form
  subst hvo
  refine ⟨po, some ⟨gb, 0, none⟩, some ⟨gf, 0, none⟩, co, m, m, by rw [h1.1, h2.1], h0, h1.2, h2.2, World.ownsRow_nil _ _ _ _, ?_, ?_, ?_, ?_, ?_, ?_⟩
  · intro b hb e
    simp [Value.ownBlock] at e
    subst e
    exact n2 hb
  · intro b hb e
    simp [Value.ownBlock] at e
    subst e
    exact n3 hb
  · intro b hb e
    simp [Value.ownBlock] at e
  · intro b hb e
    simp [Value.ownBlock] at e hb
    omega
  · intro b hb e
    simp [Value.ownBlock] at e
  · intro b hb e
    simp [Value.ownBlock] at e
/-- A tour with Low. -/
theorem tq_of2 {m gl : Nat} {v : Value} {st : St} {L : List Int} (h : TR w B m v st (.slice (some ⟨gl, 0, none⟩) m m)) (hl : IRow w B gl m L) : ∃ p0 p1 p2 p3 c0 c1 c2 c3, v = tv (.slice p0 st.O.length c0) (.slice p1 st.By.length c1) (.slice p2 st.Fa.length c2) (.slice p3 L.length c3) ∧ IOwns w B (.slice p0 st.O.length c0) st.O ∧ IOwns w B (.slice p1 st.By.length c1) st.By ∧ IOwns w B (.slice p2 st.Fa.length c2) st.Fa ∧ IOwns w B (.slice p3 L.length c3) L := by
  obtain ⟨vo, gb, gf, rfl, h0, h1, h2, n1, n2, n3⟩ := h
  obtain ⟨po, co, hvo, _⟩ := h0.form
  subst hvo
  exact ⟨po, some ⟨gb, 0, none⟩, some ⟨gf, 0, none⟩, some ⟨gl, 0, none⟩, co, m, m, m, by rw [h1.1, h2.1, hl.1], h0, h1.2, h2.2, hl.2⟩
theorem tq_of3 {m gl : Nat} {v : Value} {st : St} {L : List Int} (h : TR w B m v st (.slice (some ⟨gl, 0, none⟩) m m)) (hl : IRow w B gl m L) (hn : ∀ vo b f l, v = tv vo (.slice (some ⟨b, 0, none⟩) m m) (.slice (some ⟨f, 0, none⟩) m m) l → b ≠ gl ∧ f ≠ gl ∧ vo.ownBlock ≠ some gl) : ∃ p0 p1 p2 p3 c0 c1 c2 c3, v = tv (.slice p0 st.O.length c0) (.slice p1 st.By.length c1) (.slice p2 st.Fa.length c2) (.slice p3 L.length c3) ∧ TQ w B p0 p1 p2 p3 c0 c1 c2 c3 st.O st.By st.Fa L := by
  obtain ⟨vo, gb, gf, rfl, h0, h1, h2, n1, n2, n3⟩ := h
  obtain ⟨k1, k2, k3⟩ := hn _ _ _ _ rfl
  obtain ⟨po, co, hvo, _⟩ := h0.form
  subst hvo
  refine ⟨po, some ⟨gb, 0, none⟩, some ⟨gf, 0, none⟩, some ⟨gl, 0, none⟩, co, m, m, m, by rw [h1.1, h2.1, hl.1], h0, h1.2, h2.2, hl.2, ?_, ?_, ?_, ?_, ?_, ?_⟩
  · intro b hb e
    simp [Value.ownBlock] at e
    subst e
    exact n2 hb
  · intro b hb e
    simp [Value.ownBlock] at e
    subst e
    exact n3 hb
  · intro b hb e
    simp [Value.ownBlock] at e
    subst e
    exact k3 hb
  · intro b hb e
    simp [Value.ownBlock] at e hb
    omega
  · intro b hb e
    simp [Value.ownBlock] at e hb
    omega
  · intro b hb e
    simp [Value.ownBlock] at e hb
    omega
theorem ref_is {n : Int} {es : List Pt} {s : Int} (h : refI n es s = 0) : ∃ m t : Nat, n = m ∧ s = t ∧ netB m es = true ∧ t < m := by
  unfold refI at h
  cases hm : netB n es
  · rw [hm] at h; simp at h
  · rw [hm] at h
    simp only [if_true] at h
    by_cases hs : s < 0 ∨ n ≤ s
    · rw [if_pos hs] at h; omega
    · obtain ⟨n0, _⟩ := netB_is hm
      exact ⟨n.toNat, s.toNat, by omega, by omega, by rw [Int.toNat_of_nonneg (by omega)]; exact hm, by omega⟩
theorem breadthU (n : Int) (p : Option Addr) (es : List Pt) (cp : Nat) (s : Int) (w : World) (h : Has w p es) : Calls Try.prog 13 #[nv n p es.length cp, .int .i64 s] w fun e w' => ∃ p0 p1 p2 c0 c1 c2, e = .returned (.tuple #[tv (.slice p0 (bSt n es s).O.length c0) (.slice p1 (bSt n es s).By.length c1) (.slice p2 (bSt n es s).Fa.length c2) (.slice none 0 0), .int .i64 (refI n es s)]) ∧ TQ w' w.heap.size p0 p1 p2 none c0 c1 c2 0 (bSt n es s).O (bSt n es s).By (bSt n es s).Fa [] ∧ Below w.heap.size w w' := by
  by_cases hr : refI n es s = 0
  · obtain ⟨m, t, rfl, rfl, hm, ht⟩ := ref_is hr
    rw [show bSt m es t = bOne es m t from by unfold bSt; rw [if_pos hr]; rfl, hr]
    refine (breadth13 m p es cp t w h hm ht).mono ?_
    rintro e w' ⟨v, rfl, hT, hb⟩
    obtain ⟨p0, p1, p2, c0, c1, c2, rfl, hq⟩ := tq_of hT
    exact ⟨p0, p1, p2, c0, c1, c2, rfl, hq, hb⟩
  · rw [show bSt n es s = ⟨[], [], []⟩ from by unfold bSt; rw [if_neg hr]]
    refine (breadth13no n p es cp s _ w h rfl hr).mono ?_
    rintro e w' ⟨rfl, hb⟩
    exact ⟨none, none, none, 0, 0, 0, rfl, tq_nil _ _, hb⟩
theorem depthU (n : Int) (p : Option Addr) (es : List Pt) (cp : Nat) (s : Int) (w : World) (h : Has w p es) : Calls Try.prog 14 #[nv n p es.length cp, .int .i64 s] w fun e w' => ∃ p0 p1 p2 p3 c0 c1 c2 c3, e = .returned (.tuple #[tv (.slice p0 (dSt n es s).O.length c0) (.slice p1 (dSt n es s).By.length c1) (.slice p2 (dSt n es s).Fa.length c2) (.slice p3 (dLw n es s).length c3), .int .i64 (refI n es s)]) ∧ TQ w' w.heap.size p0 p1 p2 p3 c0 c1 c2 c3 (dSt n es s).O (dSt n es s).By (dSt n es s).Fa (dLw n es s) ∧ Below w.heap.size w w' := by
  by_cases hr : refI n es s = 0
  · obtain ⟨m, t, rfl, rfl, hm, ht⟩ := ref_is hr
    rw [show dSt m es t = dOneSt es m t from by unfold dSt; rw [if_pos hr]; rfl, show dLw m es t = lwN es (dOneSt es m t) m (dOneSt es m t).O.length from by unfold dLw; rw [if_pos hr]; rfl, hr]
    obtain ⟨r, _⟩ := dOneSt_reach hm ht
    refine (depth14u m p es cp t w h hm ht (lows41 m p es cp _ hm r.ok r.tree r.first.1)).mono ?_
    rintro e w' ⟨v, gl, rfl, hT, hl, hb, hn⟩
    obtain ⟨p0, p1, p2, p3, c0, c1, c2, c3, rfl, hq⟩ := tq_of3 hT hl hn
    exact ⟨p0, p1, p2, p3, c0, c1, c2, c3, rfl, hq, hb⟩
  · rw [show dSt n es s = ⟨[], [], []⟩ from by unfold dSt; rw [if_neg hr], show dLw n es s = [] from by unfold dLw; rw [if_neg hr]]
    refine (depth14no n p es cp s _ w h rfl hr).mono ?_
    rintro e w' ⟨rfl, hb⟩
    exact ⟨none, none, none, none, 0, 0, 0, 0, rfl, tq_nil _ _, hb⟩
theorem partsU (n : Int) (p : Option Addr) (es : List Pt) (cp : Nat) (w : World) (h : Has w p es) : Calls Try.prog 15 #[nv n p es.length cp] w fun e w' => ∃ p0 c0, e = .returned (.tuple #[.slice p0 (pLb n es).length c0, .int .i64 (pCt n es : Nat), .int .i64 (if netB n es then 0 else 1)]) ∧ IOwns w' w.heap.size (.slice p0 (pLb n es).length c0) (pLb n es) ∧ Below w.heap.size w w' := by
  cases hm : netB n es
  · rw [show pLb n es = [] from by unfold pLb; rw [hm]; rfl, show pCt n es = 0 from by unfold pCt; rw [hm]; rfl]
    refine (parts15no n p es cp w h hm).mono ?_
    rintro e w' ⟨rfl, hb⟩
    exact ⟨none, 0, rfl, World.ownsRow_nil _ _ _ _, hb⟩
  · obtain ⟨n0, _⟩ := netB_is hm
    obtain ⟨m, rfl⟩ : ∃ m : Nat, n = m := ⟨n.toNat, by omega⟩
    rw [show pLb m es = plab (everyN es m m).O (everyN es m m).By m (everyN es m m).O.length from by unfold pLb; rw [hm]; rfl, show pCt m es = pcnt (everyN es m m).O (everyN es m m).By (everyN es m m).O.length from by unfold pCt; rw [hm]; rfl]
    refine (parts15 m p es cp w h hm).mono ?_
    rintro e w' ⟨g, rfl, hr, hb⟩
    exact ⟨some ⟨g, 0, none⟩, m, by rw [hr.1]; rfl, hr.2, hb⟩
theorem breadthR (n : Int) (p : Option Addr) (es : List Pt) (cp : Nat) (s : Int) (w : World) (h : Has w p es) (hr : refI n es s = 0) : Calls Try.prog 16 #[nv n p es.length cp, .int .i64 s] w fun e w' => ∃ p0 p1 p2 c0 c1 c2, e = .returned (tv (.slice p0 (bSt n es s).O.length c0) (.slice p1 (bSt n es s).By.length c1) (.slice p2 (bSt n es s).Fa.length c2) (.slice none 0 0)) ∧ TQ w' w.heap.size p0 p1 p2 none c0 c1 c2 0 (bSt n es s).O (bSt n es s).By (bSt n es s).Fa [] ∧ Below w.heap.size w w' := by
  obtain ⟨m, t, rfl, rfl, hm, ht⟩ := ref_is hr
  rw [show bSt m es t = bOne es m t from by unfold bSt; rw [if_pos hr]; rfl]
  refine (breadth16 m p es cp t w h hm ht).mono ?_
  rintro e w' ⟨v, rfl, hT, hb⟩
  obtain ⟨p0, p1, p2, c0, c1, c2, rfl, hq⟩ := tq_of hT
  exact ⟨p0, p1, p2, c0, c1, c2, rfl, hq, hb⟩
/-- Four lists of a tour, no matter how they lie to each other. -/
def TP (w : World) (B : Nat) (p0 p1 p2 p3 : Option Addr) (c0 c1 c2 c3 : Nat) (A0 A1 A2 A3 : List Int) : Prop := IOwns w B (.slice p0 A0.length c0) A0 ∧ IOwns w B (.slice p1 A1.length c1) A1 ∧ IOwns w B (.slice p2 A2.length c2) A2 ∧ IOwns w B (.slice p3 A3.length c3) A3
theorem TP.later (h : TP w B p0 p1 p2 p3 c0 c1 c2 c3 A0 A1 A2 A3) (hb : Below w.heap.size w w') : TP w' B p0 p1 p2 p3 c0 c1 c2 c3 A0 A1 A2 A3 := ⟨h.1.later hb, h.2.1.later hb, h.2.2.1.later hb, h.2.2.2.later hb⟩
theorem TP.kp (h : TP w B p0 p1 p2 p3 c0 c1 c2 c3 A0 A1 A2 A3) (hk : Kp w w') : TP w' B p0 p1 p2 p3 c0 c1 c2 c3 A0 A1 A2 A3 :=
  ⟨hk.row h.1 (by decide) (by decide), hk.row h.2.1 (by decide) (by decide), hk.row h.2.2.1 (by decide) (by decide), hk.row h.2.2.2 (by decide) (by decide)⟩
theorem TQ.tp (h : TQ w B p0 p1 p2 p3 c0 c1 c2 c3 A0 A1 A2 A3) : TP w B p0 p1 p2 p3 c0 c1 c2 c3 A0 A1 A2 A3 := ⟨h.o0, h.o1, h.o2, h.o3⟩
theorem TP.set4 (h : TP w B p0 p1 p2 p3 c0 c1 c2 c3 A0 A1 A2 A3) {k : Nat} {a b c d : Value} (hx : w.ownsRow 0 35 4 (.slice (some ⟨k, 0, none⟩) 1 1) 1 [a, b, c, d]) (a' b' c' d' : Value) : TP (set4 w k a' b' c' d') B p0 p1 p2 p3 c0 c1 c2 c3 A0 A1 A2 A3 := by
  obtain ⟨cur, hk⟩ := row_kind hx
  exact ⟨row_set4 h.1 (row_apart hk h.1 (by decide)) _ _ _ _, row_set4 h.2.1 (row_apart hk h.2.1 (by decide)) _ _ _ _, row_set4 h.2.2.1 (row_apart hk h.2.2.1 (by decide)) _ _ _ _, row_set4 h.2.2.2 (row_apart hk h.2.2.2 (by decide)) _ _ _ _⟩
theorem depthR (n : Int) (p : Option Addr) (es : List Pt) (cp : Nat) (s : Int) (w : World) (h : Has w p es) (hr : refI n es s = 0) : Calls Try.prog 17 #[nv n p es.length cp, .int .i64 s] w fun e w' => ∃ p0 p1 p2 p3 c0 c1 c2 c3, e = .returned (tv (.slice p0 (dSt n es s).O.length c0) (.slice p1 (dSt n es s).By.length c1) (.slice p2 (dSt n es s).Fa.length c2) (.slice p3 (dLw n es s).length c3)) ∧ TP w' w.heap.size p0 p1 p2 p3 c0 c1 c2 c3 (dSt n es s).O (dSt n es s).By (dSt n es s).Fa (dLw n es s) ∧ Below w.heap.size w w' := by
  obtain ⟨m, t, rfl, rfl, hm, ht⟩ := ref_is hr
  rw [show dSt m es t = dOneSt es m t from by unfold dSt; rw [if_pos hr]; rfl, show dLw m es t = lwN es (dOneSt es m t) m (dOneSt es m t).O.length from by unfold dLw; rw [if_pos hr]; rfl]
  refine (depth17 m p es cp t w h hm ht).mono ?_
  rintro e w' ⟨v, gl, rfl, hT, hl, hb⟩
  obtain ⟨p0, p1, p2, p3, c0, c1, c2, c3, rfl, hq⟩ := tq_of2 hT hl
  exact ⟨p0, p1, p2, p3, c0, c1, c2, c3, rfl, hq, hb⟩
theorem partsR (n : Int) (p : Option Addr) (es : List Pt) (cp : Nat) (w : World) (h : Has w p es) (hm : netB n es = true) : Calls Try.prog 20 #[nv n p es.length cp, .slice none 0 0, .slice none 0 0] w fun e w' => ∃ p0 c0, e = .returned (.tuple #[.slice p0 (pLb n es).length c0, .int .i64 (pCt n es : Nat)]) ∧ IOwns w' w.heap.size (.slice p0 (pLb n es).length c0) (pLb n es) ∧ Below w.heap.size w w' := by
  obtain ⟨n0, _⟩ := netB_is hm
  obtain ⟨m, rfl⟩ : ∃ m : Nat, n = m := ⟨n.toNat, by omega⟩
  rw [show pLb m es = plab (everyN es m m).O (everyN es m m).By m (everyN es m m).O.length from by unfold pLb; rw [hm]; rfl, show pCt m es = pcnt (everyN es m m).O (everyN es m m).By (everyN es m m).O.length from by unfold pCt; rw [hm]; rfl]
  refine (parts20 m p es cp w h hm).mono ?_
  rintro e w' ⟨g, rfl, hr, hb⟩
  exact ⟨some ⟨g, 0, none⟩, m, by rw [hr.1], hr.2, hb⟩
/-- Each yields what Breadth answers. -/
theorem eachU (n : Int) (p : Option Addr) (es : List Pt) (cp : Nat) (s : Int) (w : World) (h : Has w p es) : EachAt (nv n p es.length cp) s (bSt n es s).O (bSt n es s).Fa n.toNat w := by
  intro W hW
  by_cases hr : refI n es s = 0
  · obtain ⟨m, t, rfl, rfl, hm, ht⟩ := ref_is hr
    rw [show bSt m es t = bOne es m t from by unfold bSt; rw [if_pos hr]; rfl, Int.toNat_natCast]
    have hok : Ok m (bOne es m t) := (bOne_reach hm ht).ok
    obtain ⟨_, n1, _⟩ := netB_is hm
    refine (each35f m p es cp t W (h.later hW) hm ht).mono ?_
    rintro e w' ⟨k1, k2, po, co, gf, rfl, e1, e2, hO, hF, hb⟩
    rcases Nat.eq_zero_or_pos (bOne es m t).O.length with h0 | h0
    · exact ⟨k1, k2, po, co, some ⟨gf, 0, none⟩, m, m, 0, gf, rfl, e1, e2, fun h => by omega, fun j hj => by omega, hb⟩
    · obtain ⟨go, co', hv, _⟩ := iowns_block hO h0
      simp only [Value.slice.injEq] at hv
      obtain ⟨rfl, _, rfl⟩ := hv
      refine ⟨k1, k2, some ⟨go, 0, none⟩, co, some ⟨gf, 0, none⟩, m, m, go, gf, rfl, e1, e2, fun _ => ⟨rfl, rfl, rfl, by omega⟩, fun j hj => ⟨IOwns.at_ hO hj, ?_⟩, hb⟩
      obtain ⟨v0, v1⟩ := hok.mem j hj
      exact (hF.cell (by omega)).1
  · rw [show bSt n es s = ⟨[], [], []⟩ from by unfold bSt; rw [if_neg hr]]
    refine (each35n n p es cp s _ W (h.later hW) rfl hr).mono ?_
    rintro e w' ⟨k1, k2, rfl, e1, e2, hb⟩
    exact ⟨k1, k2, none, 0, none, 0, 0, 0, 0, rfl, e1, e2, fun h => by simp at h, fun j hj => by simp at hj, hb⟩
theorem tour_at {n : Int} {es : List Pt} {s : Int} (h : TQ w B p0 p1 p2 p3 c0 c1 c2 c3 (bSt n es s).O A1 (bSt n es s).Fa A3) (hr : refI n es s = 0 ∨ (bSt n es s).O = []) : TourAt w (.slice p0 (bSt n es s).O.length c0) (.slice p2 (bSt n es s).Fa.length c2) (bSt n es s).O (bSt n es s).Fa n.toNat := by
  refine ⟨p0, c0, rfl, fun h0 => ?_⟩
  rcases hr with hr | hr
  · obtain ⟨m, t, rfl, rfl, hm, ht⟩ := ref_is hr
    have e : bSt m es t = bOne es m t := by unfold bSt; rw [if_pos hr]; rfl
    rw [e] at h h0 ⊢
    have hok : Ok m (bOne es m t) := (bOne_reach hm ht).ok
    have hl := hok.lf
    obtain ⟨g0, c0', hv0, _⟩ := iowns_block h.o0 h0
    obtain ⟨g2, c2', hv2, _⟩ := iowns_block h.o2 (by omega)
    simp only [Value.slice.injEq] at hv0 hv2
    obtain ⟨rfl, _, rfl⟩ := hv0
    obtain ⟨rfl, _, rfl⟩ := hv2
    refine ⟨g0, g2, _, rfl, by rw [hl, Int.toNat_natCast], fun j hj => ⟨IOwns.at_ h.o0 hj, ?_⟩⟩
    obtain ⟨v0, v1⟩ := hok.mem j hj
    exact IOwns.at_ h.o2 (by omega)
  · rw [hr] at h0
    simp at h0
theorem cellS4 {V : World} {k i j : Nat} {v : Value} (h : V.cell? ⟨i, j, none⟩ = some v) (hn : i ≠ k) (a b c d : Value) : (set4 V k a b c d).cell? ⟨i, j, none⟩ = some v := cell_other (cell_other (cell_other (cell_other h hn) hn) hn) hn
theorem iowns_set4 {k : Nat} {v : Value} {l : List Int} {a b c d : Value} (h : IOwns w B v l) (hx : w.ownsRow 0 35 4 (.slice (some ⟨k, 0, none⟩) 1 1) 1 [a, b, c, d]) (a' b' c' d' : Value) : IOwns (set4 w k a' b' c' d') B v l := by
  obtain ⟨cur, hk⟩ := row_kind hx
  exact row_set4 h (row_apart hk h (by decide)) _ _ _ _
theorem bag_set4 {k j n sz : Nat} {lv : Value} {rv : Nat → Value} {L : Nat → List Int} {a b c d : Value} (h : Bag w B j lv n rv L sz) (hx : w.ownsRow 0 35 4 (.slice (some ⟨k, 0, none⟩) 1 1) 1 [a, b, c, d]) (a' b' c' d' : Value) : Bag (set4 w k a' b' c' d') B j lv n rv L sz := by
  obtain ⟨cur, hk⟩ := row_kind hx
  exact ⟨row_set4 h.box (row_apart hk h.box (by decide)) _ _ _ _, h.kB, row_set4 h.lst (row_apart hk h.lst (by decide)) _ _ _ _, h.uniq, fun v hv => iowns_set4 (h.own v hv) hx _ _ _ _, h.len, h.big, h.cnt⟩
end Go.Proofs.Ytghffodjffkijaa
