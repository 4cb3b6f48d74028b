/- A dive's stack is the way back: each node in it was found from the one behind it. -/
import Derived.Test.YtghffodjffkijaaE11
import Derived.Lib.QuietBelow
import Derived.BigQuiet
import Derived.Deep.QuietTactic
/- What is reached at the lowest, from below or handed up: the same in the end. -/
/- What is reached at the lowest: taken from below, as the document does, or handed up, as the program does, it is the same. -/
/- Depth first: the order tells each node once; what is reached at the lowest lies no lower than the node itself; the way up. -/
namespace Go.Proofs.Ytghffodjffkijaa
open Go.RowKit Go.Sort
open Go
variable {es : List Pt} {n : Nat} {st : St}

/-- Each node once, and all but the first by a half-edge. -/
structure Dn (st : St) : Prop where
  nd : ∀ i j, i < j → j < st.O.length → iat st.O i ≠ iat st.O j
  pos : ∀ i, 1 ≤ i → i < st.O.length → 0 < iat st.Fa (oj st i)
theorem Dn.one {u : Nat} {d : Ds} {r : List Nat} (k : Dk es n d) (hm : netB n es = true) (hS : d.S = u :: r) (q : Dn d.st) : Dn (dOne es d u r).st := by
  obtain ⟨hu, hf⟩ := k.sm u (by rw [hS]; simp)
  obtain ⟨g0, g1⟩ := k.gv u hu
  unfold dOne
  by_cases he : iat d.G u = (outL es (2 * es.length) u).length
  · rw [if_pos he]; exact q
  · rw [if_neg he]
    obtain ⟨h, hh, hh2, hh3⟩ := outL_at (es := es) (h := 2 * es.length) (v := u) (j := (iat d.G u).toNat) (by omega)
    rw [hh, Int.toNat_natCast]
    obtain ⟨t1, t2⟩ := toL_in hm h hh2
    obtain ⟨x, hx⟩ : ∃ x : Nat, toL es h = x := ⟨(toL es h).toNat, by omega⟩
    rw [hx, Int.toNat_natCast]
    have hxn : x < n := by omega
    by_cases hneg : iat d.st.Fa x < 0
    · rw [if_pos hneg]
      refine ⟨fun i j hij hj => ?_, fun i hi hj => ?_⟩
      · simp only [List.length_append, List.length_cons, List.length_nil] at hj
        show iat (d.st.O ++ [(x : Int)]) i ≠ iat (d.st.O ++ [(x : Int)]) j
        rw [iat_app, iat_app, if_pos (by omega)]
        by_cases hjl : j < d.st.O.length
        · rw [if_pos hjl]; exact q.nd i j hij hjl
        · rw [if_neg hjl, if_pos (by omega)]
          intro e
          have h1 := k.ok.fnd i (by omega)
          rw [e, Int.toNat_natCast] at h1
          omega
      · simp only [List.length_append, List.length_cons, List.length_nil] at hj
        show 0 < iat (d.st.Fa.set x (iat d.st.Fa u + 1)) (iat (d.st.O ++ [(x : Int)]) i).toNat
        rw [iat_app]
        by_cases hjl : i < d.st.O.length
        · rw [if_pos hjl]
          have h1 := k.ok.fnd i hjl
          rw [iat_put_ne (fun e => by rw [e] at h1; omega)]
          exact q.pos i hi hjl
        · rw [if_neg hjl, if_pos (by omega), Int.toNat_natCast, iat_put (by rw [k.ok.lf]; exact hxn)]
          omega
    · rw [if_neg hneg]; exact q
theorem Dn.all (hm : netB n es = true) : ∀ (k : Nat) (d : Ds), Dk es n d → Dn d.st → Dn (dfs es k d).st
  | 0, _, _, q => q
  | k + 1, d, dk, q => by
    simp only [dfs]
    cases hS : d.S with
    | nil => exact q
    | cons u r => exact Dn.all hm k _ (dk.one hm hS).1 (Dn.one dk hm hS q)
theorem dOneSt_once (hm : netB n es = true) {s : Nat} (hs : s < n) : Dn (dOneSt es n s) := by
  have hneg : iat (st0 n).Fa s < 0 := by show iat (List.replicate n (-1)) s < 0; rw [iat_fill hs]; omega
  refine Dn.all hm _ _ (d0_ok (st0_ok n) hs hneg) ⟨fun i j hij hj => ?_, fun i hi hj => ?_⟩
  · have : (d0 n s (st0 n)).st.O.length = 1 := by simp [d0, begin_, st0]
    omega
  · have : (d0 n s (st0 n)).st.O.length = 1 := by simp [d0, begin_, st0]
    omega
/-- Up the tree, step by step. -/
theorem rtN_succ (es : List Pt) (st : St) : ∀ (k v : Nat), rtN es st (k + 1) v = par es st (rtN es st k v)
  | 0, _ => rfl
  | k + 1, v => by
    show rtN es st (k + 1) (par es st v) = par es st (rtN es st k (par es st v))
    exact rtN_succ es st k (par es st v)
theorem rt_up (t : Tree es n st) : ∀ (k v : Nat), v < n → (k : Int) ≤ iat st.Fa v → rtN es st k v < n ∧ iat st.Fa (rtN es st k v) = iat st.Fa v - k
  | 0, v, hv, _ => ⟨hv, by show iat st.Fa v = _; omega⟩
  | k + 1, v, hv, hk => by
    obtain ⟨h1, h2⟩ := rt_up t k v hv (by omega)
    obtain ⟨_, _, _, _, _, h5, h6, _⟩ := root_par t h1 (by omega)
    rw [rtN_succ]
    exact ⟨h5, by omega⟩
/-- What a node reaches at the lowest lies no lower than its own place. -/
theorem lwRow_le (es : List Pt) (st : St) (P : List Int) (v : Nat) (L : List Int) (hv : v < L.length) (x : Nat) : ∀ j, iat (lwRow es st P v L j) x ≤ iat L x
  | 0 => Int.le_refl _
  | j + 1 => by
    have ih := lwRow_le es st P v L hv x j
    simp only [lwRow]
    split
    · exact ih
    · by_cases e : x = v
      · rw [e, iat_put (by rw [lwRow_len]; exact hv)]
        rw [e] at ih
        omega
      · rw [iat_put_ne e]; exact ih
theorem lwOne_le (es : List Pt) (st : St) (P : List Int) (L : List Int) (v : Nat) (hv : v < L.length) (hp : 0 ≤ iat st.By v → par es st v < L.length) (x : Nat) : iat (lwOne es st P L v) x ≤ iat L x := by
  have h1 := lwRow_le es st P v L hv x (outL es (2 * es.length) v).length
  unfold lwOne
  split
  · rename_i hb
    by_cases e : x = par es st v
    · rw [e, iat_put (by rw [lwRow_len]; exact hp hb)]
      rw [e] at h1
      omega
    · rw [iat_put_ne e]; exact h1
  · exact h1
theorem lwN_le (o : Ok n st) (t : Tree es n st) (x : Nat) : ∀ k, k ≤ st.O.length → iat (lwN es st n k) x ≤ iat (whN st.O n (-1) st.O.length) x
  | 0, _ => Int.le_refl _
  | k + 1, hk => by
    have ih := lwN_le o t x k (by omega)
    simp only [lwN]
    have hm := o.mem (st.O.length - 1 - k) (by omega)
    have hv : (iat st.O (st.O.length - 1 - k)).toNat < n := by omega
    refine Int.le_trans (lwOne_le es st _ _ _ (by rw [lwN_len]; exact hv) (fun hb => ?_) x) ih
    rw [lwN_len]
    by_cases hf : 0 < iat st.Fa (iat st.O (st.O.length - 1 - k)).toNat
    · obtain ⟨_, _, _, _, _, h5, _⟩ := root_par t hv hf
      exact h5
    · exfalso
      by_cases h0 : 0 ≤ iat st.Fa (iat st.O (st.O.length - 1 - k)).toNat
      · rcases t.back _ hv h0 with hh | ⟨h, u, _, _, _, _, _, h6, h7⟩
        · omega
        · omega
      · have := t.none _ hv (by omega)
        omega
theorem whN_at (o : Ok n st) (q : Dn st) {i : Nat} (hi : i < st.O.length) (c : Int) : ∀ j, i < j → j ≤ st.O.length → iat (whN st.O n c j) (oj st i) = i
  | 0, h, _ => by omega
  | j + 1, h, hj => by
    simp only [whN]
    have hm := o.mem i hi
    have hin : oj st i < n := by show (iat st.O i).toNat < n; omega
    by_cases e : i = j
    · rw [← e, show (iat st.O i).toNat = oj st i from rfl, iat_put (by rw [whN_len]; exact hin)]
    · have hne : oj st i ≠ (iat st.O j).toNat := by
        intro h2
        apply q.nd i j (by omega) (by omega)
        have h3 := o.mem j (by omega)
        have h4 : (iat st.O i).toNat = (iat st.O j).toNat := h2
        omega
      rw [iat_put_ne hne]
      exact whN_at o q hi c j (by omega) (by omega)
/-- The places, from one on. -/
def pcL (O : List Int) (n : Nat) : Nat → List Int
  | 0 => List.replicate n 0
  | i + 1 => (pcL O n i).set (iat O i).toNat ((i : Int) + 1)
theorem pcL_len (O : List Int) (n : Nat) : ∀ i, (pcL O n i).length = n
  | 0 => by simp [pcL]
  | i + 1 => by simp only [pcL, List.length_set]; exact pcL_len O n i
theorem pcL_zero (O : List Int) (n v : Nat) (hv : v < n) : ∀ i, iat (pcL O n i) v = 0 ↔ ∀ j, j < i → (iat O j).toNat ≠ v
  | 0 => by simp only [pcL, iat_fill hv]; exact ⟨fun _ j hj => by omega, fun _ => trivial⟩
  | i + 1 => by
    have ih := pcL_zero O n v hv i
    simp only [pcL]
    by_cases e : (iat O i).toNat = v
    · rw [e, iat_put (by rw [pcL_len]; exact hv)]
      exact ⟨fun h => by omega, fun h => absurd e (h i (by omega))⟩
    · rw [iat_put_ne (fun h => e h.symm), ih]
      refine ⟨fun h j hj => ?_, fun h j hj => h j (by omega)⟩
      by_cases ej : j = i
      · rw [ej]; exact e
      · exact h j (by omega)
theorem pcL_found (o : Ok n st) (t : Tree es n st) {v : Nat} (hv : v < n) : iat (pcL st.O n st.O.length) v = 0 ↔ iat st.Fa v < 0 := by
  rw [pcL_zero st.O n v hv]
  constructor
  · intro h
    by_cases h0 : 0 ≤ iat st.Fa v
    · obtain ⟨j, hj, hje⟩ := t.surj v hv h0
      exact absurd (by rw [hje, Int.toNat_natCast]) (h j hj)
    · omega
  · intro h j hj e
    have := o.fnd j hj
    rw [e] at this
    omega
set_option maxRecDepth 100000 in
set_option maxHeartbeats 8000000 in
theorem above27 (m : Nat) (p : Option Addr) (es : List Pt) (cp : Nat) (po : Option Addr) (lo co gb gf B : Nat) (vl : Value) (st : St) (a b : Nat) (w : World) (h : Has w p es) (hm : netB m es = true) (hB : IRow w B gb m st.By) (t : Tree es m st) (hv : ∀ v, v < m → iat st.Fa v ≤ m) (hb : b < m) (h0 : 0 ≤ iat st.Fa b) :
    Calls Try.prog 27 #[nv m p es.length cp, tv (.slice po lo co) (.slice (some ⟨gb, 0, none⟩) m m) (.slice (some ⟨gf, 0, none⟩) m m) vl, .int .i64 a, .int .i64 b] w fun e w' => (∃ r : Bool, e = .returned (.bool r) ∧ (r = true ↔ Anc es st a b)) ∧ Below w.heap.size w w' := by
  obtain ⟨W, hW⟩ : ∃ W, W = (w.alloc (nbx m p es.length cp)).alloc (.cells #[.slice po lo co, .slice (some ⟨gb, 0, none⟩) m m, .slice (some ⟨gf, 0, none⟩) m m, vl] 35) := ⟨_, rfl⟩
  have hbW : Below w.heap.size w W := by rw [hW]; go_grown
  obtain ⟨n0, n1, hes, hE⟩ := netB_is hm
  have HA : Hid (NOwn W w.heap.size m p es.length cp) := by show NOwn _ _ _ _ _ _; rw [hW]; exact ⟨by unfold nbx; go_cell, by unfold nbx; go_cell, by unfold nbx; go_cell, by unfold nbx; go_cell⟩
  have HX : Hid (W.cell? ⟨w.heap.size + 1, 1, none⟩ = some (.slice (some ⟨gb, 0, none⟩) m m)) := by show _ = _; rw [hW]; go_cell
  have HH := hide (h.later hbW)
  have HBY := hide (hB.later hbW)
  have HB := hide hbW
  have HT := hide t
  have HV := hide (hv b hb)
  have HZ := hide h0
  clear h hbW hm hB t hv h0 hE
  go_enter Try.func27, Try.ntmps27
  go_wp2_with fail
  rw [← hW]
  clear hW
  obtain ⟨kt, hkt⟩ : ∃ kt, w.heap.size + 1 = kt := ⟨_, rfl⟩
  rw [hkt] at HX ⊢
  obtain ⟨kb, hkb⟩ : ∃ kb, w.heap.size = kb := ⟨_, rfl⟩
  rw [hkb] at HA ⊢
  have HKB := hide hkb
  clear hkt hkb
  go_loopw [3, 9] (fun t3 t9 wr => ∃ k : Nat, t3 = .int .i64 (rtN es st k b : Nat) ∧ t9 = .int .i64 k ∧ Hid ((k : Int) ≤ iat st.Fa b) ∧ Hid (∀ j, j < k → rtN es st j b ≠ a) ∧ Hid (Below W.heap.size W wr)) (fun _ t9 _ => m + 1 - (intOf t9).toNat)
  case atStart => exact ⟨0, rfl, rfl, HZ.out, fun j hj => by omega, Below.refl _ _⟩
  case round =>
    obtain ⟨k, rfl, rfl, HK, HN, HBr⟩ := hrel
    obtain ⟨u1, u2⟩ := rt_up HT.out k b hb HK.out
    have hkm : k ≤ m := by have := HK.out; have := HV.out; omega
    obtain ⟨q0, q1, _, _⟩ := HA.out.later HBr.out
    have x1 := later HBr.out HX.out
    have f1 := ((HBY.out.later HBr.out).cell u1).1
    have HUP : Hid (rtN es st (k + 1) b = par es st (rtN es st k b)) := rtN_succ es st k b
    have HC : Hid ((iat st.Fa (rtN es st k b) = 0 ∧ iat st.By (rtN es st k b) = -1) ∨ (∃ h : Nat, h < 2 * es.length ∧ iat st.By (rtN es st k b) = h ∧ fromL es h = par es st (rtN es st k b) ∧ 0 < iat st.Fa (rtN es st k b))) := by
      show _ ∨ _
      have hk0 := HK.out
      by_cases hz : iat st.Fa (rtN es st k b) = 0
      · rcases HT.out.back _ u1 (by omega) with hh | ⟨_, _, _, _, _, _, _, h6, h7⟩
        · exact Or.inl hh
        · omega
      · obtain ⟨h, h1, h2, h3, h4, _⟩ := root_par HT.out u1 (by omega)
        exact Or.inr ⟨h, h1, h2, h4, by omega⟩
    obtain ⟨c, hc⟩ : ∃ c, rtN es st k b = c := ⟨_, rfl⟩
    rw [hc] at u1 u2 f1 HUP HC ⊢
    have HCE := hide hc
    have j1 : (k : Int) ≤ m := by omega
    have j2 : (c : Int) < m := by omega
    have j3 : (0 : Int) ≤ c := by omega
    have HU2 := hide u2
    clear hc u2
    by_cases hac : a = c
    · have t1 : ((a : Int) == (c : Int)) = true := by simp [hac]
      have HEQ := hide hac
      clear hac
      go_wp2
      go_ret
      exact ⟨⟨true, rfl, fun _ => ⟨k, HK.out, by rw [HCE.out]; exact HEQ.out.symm⟩, fun _ => rfl⟩, by rw [← HKB.out] at *; exact below_step HB.out HBr.out⟩
    · have t1 : ((a : Int) == (c : Int)) = false := by simp; omega
      rcases HC.out with ⟨z1, z2⟩ | ⟨h, z1, z2, z3, z4⟩
      · rw [z2] at f1
        have HZ1 := hide z1
        have HNE := hide hac
        clear z1 z2 hac
        go_wp2
        go_ret
        refine ⟨⟨false, rfl, fun h => by simp at h, fun ⟨j, h1, h2⟩ => ?_⟩, by rw [← HKB.out] at *; exact below_step HB.out HBr.out⟩
        exfalso
        have hz := HZ1.out
        have hu := HU2.out
        rcases Nat.lt_or_ge j k with hlt | hge
        · exact HN.out j hlt h2
        · have ej : j = k := by omega
          rw [ej, HCE.out] at h2
          exact HNE.out h2.symm
      · rw [z2] at f1
        have z5 : ¬ (h : Int) < 0 := by omega
        have CF : ∀ dd os, Calls Try.prog 26 #[nv m p es.length cp, .int .i64 h] (grow (redrawn wr dd) os) fun e w'' => e = .returned (.int .i64 (par es st c : Nat)) ∧ ∃ p : Regrown, w'' = grow (redrawn wr p.d) p.os := fun dd os => Calls.regrown_of (by rw [← z3]; exact from50 m p es cp h _ ((HH.out.later HBr.out).later (below_regrown wr dd os)) z1 (by omega))
        have F1 := cell_regrown f1
        have X1 := cell_regrown x1
        have Q0 := cell_regrown q0
        have Q1 := cell_regrown q1
        have HN2 : Hid (∀ j, j < k + 1 → rtN es st j b ≠ a) := fun j hj => by
          by_cases e : j = k
          · rw [e, HCE.out]; exact fun h => hac h.symm
          · exact HN.out j (by omega)
        have HK2 : Hid (((k + 1 : Nat) : Int) ≤ iat st.Fa b) := by show _ ≤ _; have := HU2.out; omega
        clear z2 z3 z4 hac HN HK
        go_upto_region 8 with fail
        refine wp_region_quiet_below (by kernel_rfl) (by kernel_rfl) ?_
        repeat (go_big_quiet_step (first | with_reducible exact CF _ _))
        refine wpQuiet_nil ?_
        intro w3 hw'
        have hb3 : Below wr.heap.size wr w3 := by
          obtain ⟨⟨dq, osq⟩, hw''⟩ := hw'
          rw [hw'']
          exact below_regrown wr dq osq
        have HBq := hide (below_step HBr.out hb3)
        clear hw' hb3 f1 x1 q0 q1 F1 X1 Q0 Q1 CF
        go_wp2
        go_roundw
        case rel => exact ⟨k + 1, by rw [HUP.out], by go_num, HK2.out, HN2.out, HBq.out⟩
        case measure => simp [intOf]; omega
end Go.Proofs.Ytghffodjffkijaa

namespace Go.Proofs.Ytghffodjffkijaa
open Go.RowKit Go.Sort
open Go
variable {es : List Pt} {n : Nat} {st : St}

/-- Each node is found behind the one by which it was found. -/
def Pb (es : List Pt) (st : St) : Prop := ∀ j, j < st.O.length → 0 < iat st.Fa (oj st j) → ∃ i, i < j ∧ oj st i = par es st (oj st j)
theorem Pb.one {s u : Nat} {d : Ds} {r : List Nat} (k : Df es n s d) (hm : netB n es = true) (hS : d.S = u :: r) (q : Pb es d.st) : Pb es (dOne es d u r).st := by
  obtain ⟨hu, hf⟩ := k.dk.sm u (by rw [hS]; simp)
  obtain ⟨g0, g1⟩ := k.dk.gv u hu
  unfold dOne
  by_cases he : iat d.G u = (outL es (2 * es.length) u).length
  · rw [if_pos he]; exact q
  · rw [if_neg he]
    obtain ⟨h, hh, hh2, hh3⟩ := outL_at (es := es) (h := 2 * es.length) (v := u) (j := (iat d.G u).toNat) (by omega)
    rw [hh, Int.toNat_natCast]
    obtain ⟨t1, t2⟩ := toL_in hm h hh2
    obtain ⟨x, hx⟩ : ∃ x : Nat, toL es h = x := ⟨(toL es h).toNat, by omega⟩
    rw [hx, Int.toNat_natCast]
    have hxn : x < n := by omega
    by_cases hneg : iat d.st.Fa x < 0
    · rw [if_pos hneg]
      intro j hj hp
      simp only [List.length_append, List.length_cons, List.length_nil] at hj
      by_cases hjl : j < d.st.O.length
      · rw [oj_app hjl] at hp ⊢
        have h1 := k.dk.ok.fnd j hjl
        have hne : oj d.st j ≠ x := fun e => by rw [show (iat d.st.O j).toNat = x from e] at h1; omega
        simp only [iat_put_ne hne] at hp
        obtain ⟨i, hi, hio⟩ := q j hjl hp
        refine ⟨i, hi, ?_⟩
        rw [oj_app (by omega), hio]
        unfold par
        simp only [iat_put_ne hne]
      · have hje : j = d.st.O.length := by omega
        subst hje
        obtain ⟨i, hi, hio⟩ := k.tree.surj u hu hf
        refine ⟨i, hi, ?_⟩
        have e1 : oj ⟨d.st.O ++ [(x : Int)], d.st.By.set x h, d.st.Fa.set x (iat d.st.Fa u + 1)⟩ d.st.O.length = x := by
          show (iat (d.st.O ++ [(x : Int)]) d.st.O.length).toNat = x
          rw [iat_app, if_neg (by omega), if_pos rfl, Int.toNat_natCast]
        rw [e1, oj_app hi]
        unfold par
        simp only [iat_put (show x < d.st.By.length by rw [k.dk.ok.lb]; exact hxn), Int.toNat_natCast, hh3]
        show (iat d.st.O i).toNat = u
        rw [hio, Int.toNat_natCast]
    · rw [if_neg hneg]; exact q
theorem Pb.all (hm : netB n es = true) {s : Nat} : ∀ (k : Nat) (d : Ds), Df es n s d → Pb es d.st → Pb es (dfs es k d).st
  | 0, _, _, q => q
  | k + 1, d, df, q => by
    simp only [dfs]
    cases hS : d.S with
    | nil => exact q
    | cons u r => exact Pb.all hm k _ (df.one hm hS) (Pb.one df hm hS q)
/-- One node, by the half-edges that go out of it, as the document has it. -/
def rlRow (es : List Pt) (st : St) (P : List Int) (v : Nat) (L : List Int) : Nat → List Int
  | 0 => L
  | j + 1 =>
    if 0 ≤ iat st.By v ∧ iat (outL es (2 * es.length) v) j / 2 = iat st.By v / 2 then rlRow es st P v L j
    else if iat st.By (toL es (iat (outL es (2 * es.length) v) j).toNat).toNat = iat (outL es (2 * es.length) v) j then
      (rlRow es st P v L j).set v (min (iat (rlRow es st P v L j) v) (iat (rlRow es st P v L j) (toL es (iat (outL es (2 * es.length) v) j).toNat).toNat))
    else (rlRow es st P v L j).set v (min (iat (rlRow es st P v L j) v) (iat P (toL es (iat (outL es (2 * es.length) v) j).toNat).toNat))
/-- The last k nodes of the order, as the document has it. -/
def rlN (es : List Pt) (st : St) (n : Nat) : Nat → List Int
  | 0 => whN st.O n (-1) st.O.length
  | k + 1 => rlRow es st (whN st.O n (-1) st.O.length) (iat st.O (st.O.length - 1 - k)).toNat (rlN es st n k) (outL es (2 * es.length) (iat st.O (st.O.length - 1 - k)).toNat).length
theorem rlRow_len (es : List Pt) (st : St) (P : List Int) (v : Nat) (L : List Int) : ∀ j, (rlRow es st P v L j).length = L.length
  | 0 => rfl
  | j + 1 => by
    have ih := rlRow_len es st P v L j
    simp only [rlRow]
    split
    · exact ih
    · split <;> rw [List.length_set, ih]
theorem rlN_len (es : List Pt) (st : St) (n : Nat) : ∀ k, (rlN es st n k).length = n
  | 0 => whN_len _ _ _ _
  | k + 1 => by simp only [rlN]; rw [rlRow_len, rlN_len es st n k]
/-- The half-edge number j that goes out of v. -/
abbrev oh (es : List Pt) (v j : Nat) : Int := iat (outL es (2 * es.length) v) j
abbrev ot (es : List Pt) (v j : Nat) : Nat := (toL es (oh es v j).toNat).toNat
theorem lwRow_glb (es : List Pt) (st : St) (P : List Int) (v : Nat) (L : List Int) (hv : v < L.length) : ∀ j, (∀ y, y ≠ v → iat (lwRow es st P v L j) y = iat L y) ∧ iat (lwRow es st P v L j) v ≤ iat L v ∧ (∀ q, q < j → oh es v q ≠ twn (iat st.By v) → iat (lwRow es st P v L j) v ≤ iat P (ot es v q)) ∧
    (iat (lwRow es st P v L j) v = iat L v ∨ ∃ q, q < j ∧ oh es v q ≠ twn (iat st.By v) ∧ iat (lwRow es st P v L j) v = iat P (ot es v q))
  | 0 => ⟨fun _ _ => rfl, Int.le_refl _, fun q hq => by omega, Or.inl rfl⟩
  | j + 1 => by
    obtain ⟨h1, h2, h3, h4⟩ := lwRow_glb es st P v L hv j
    have hl := lwRow_len es st P v L j
    simp only [lwRow]
    by_cases hc : iat (outL es (2 * es.length) v) j = twn (iat st.By v)
    · rw [if_pos hc]
      refine ⟨h1, h2, fun q hq hn => ?_, ?_⟩
      · by_cases e : q = j
        · rw [e] at hn; exact absurd hc hn
        · exact h3 q (by omega) hn
      · rcases h4 with h | ⟨q, hq, h5, h6⟩
        · exact Or.inl h
        · exact Or.inr ⟨q, by omega, h5, h6⟩
    · rw [if_neg hc]
      rw [iat_put (by omega)]
      refine ⟨fun y hy => by rw [iat_put_ne hy]; exact h1 y hy, by omega, fun q hq hn => ?_, ?_⟩
      · by_cases e : q = j
        · rw [e]; exact Int.min_le_right _ _
        · have := h3 q (by omega) hn; omega
      · by_cases hle : iat (lwRow es st P v L j) v ≤ iat P (ot es v j)
        · rw [Int.min_eq_left hle]
          rcases h4 with h | ⟨q, hq, h5, h6⟩
          · exact Or.inl h
          · exact Or.inr ⟨q, by omega, h5, h6⟩
        · rw [Int.min_eq_right (Int.le_of_lt (Int.not_le.1 hle))]
          exact Or.inr ⟨j, by omega, hc, rfl⟩
/-- The half-edge is the one by which v was found, seen from v. -/
abbrev upE (es : List Pt) (st : St) (v q : Nat) : Prop := 0 ≤ iat st.By v ∧ oh es v q / 2 = iat st.By v / 2
theorem rlRow_glb (es : List Pt) (st : St) (P : List Int) (v : Nat) (L : List Int) (hv : v < L.length) (hch : ∀ q, q < (outL es (2 * es.length) v).length → iat st.By (ot es v q) = oh es v q → ot es v q ≠ v) : ∀ j, j ≤ (outL es (2 * es.length) v).length → (∀ y, y ≠ v → iat (rlRow es st P v L j) y = iat L y) ∧ iat (rlRow es st P v L j) v ≤ iat L v ∧
    (∀ q, q < j → ¬ upE es st v q → (iat st.By (ot es v q) = oh es v q → iat (rlRow es st P v L j) v ≤ iat L (ot es v q)) ∧ (iat st.By (ot es v q) ≠ oh es v q → iat (rlRow es st P v L j) v ≤ iat P (ot es v q))) ∧
    (iat (rlRow es st P v L j) v = iat L v ∨ ∃ q, q < j ∧ ¬ upE es st v q ∧ ((iat st.By (ot es v q) = oh es v q ∧ iat (rlRow es st P v L j) v = iat L (ot es v q)) ∨ (iat st.By (ot es v q) ≠ oh es v q ∧ iat (rlRow es st P v L j) v = iat P (ot es v q))))
  | 0, _ => ⟨fun _ _ => rfl, Int.le_refl _, fun q hq => by omega, Or.inl rfl⟩
  | j + 1, hj => by
    obtain ⟨h1, h2, h3, h4⟩ := rlRow_glb es st P v L hv hch j (by omega)
    have hl := rlRow_len es st P v L j
    simp only [rlRow]
    by_cases hc : upE es st v j
    · rw [if_pos hc]
      refine ⟨h1, h2, fun q hq hn => ?_, ?_⟩
      · by_cases e : q = j
        · rw [e] at hn; exact absurd hc hn
        · exact h3 q (by omega) hn
      · rcases h4 with h | ⟨q, hq, h5⟩
        · exact Or.inl h
        · exact Or.inr ⟨q, by omega, h5⟩
    · rw [if_neg hc]
      by_cases hd : iat st.By (ot es v j) = oh es v j
      · rw [if_pos hd, h1 _ (hch j (by omega) hd), iat_put (by omega)]
        refine ⟨fun y hy => by rw [iat_put_ne hy]; exact h1 y hy, by omega, fun q hq hn => ?_, ?_⟩
        · by_cases e : q = j
          · rw [e]; exact ⟨fun _ => Int.min_le_right _ _, fun hx => absurd hd hx⟩
          · have := h3 q (by omega) hn
            exact ⟨fun hx => by have := this.1 hx; omega, fun hx => by have := this.2 hx; omega⟩
        · by_cases hle : iat (rlRow es st P v L j) v ≤ iat L (ot es v j)
          · rw [Int.min_eq_left hle]
            rcases h4 with h | ⟨q, hq, h5⟩
            · exact Or.inl h
            · exact Or.inr ⟨q, by omega, h5⟩
          · rw [Int.min_eq_right (Int.le_of_lt (Int.not_le.1 hle))]
            exact Or.inr ⟨j, by omega, hc, Or.inl ⟨hd, rfl⟩⟩
      · rw [if_neg hd, iat_put (by omega)]
        refine ⟨fun y hy => by rw [iat_put_ne hy]; exact h1 y hy, by omega, fun q hq hn => ?_, ?_⟩
        · by_cases e : q = j
          · rw [e]; exact ⟨fun hx => absurd hx hd, fun _ => Int.min_le_right _ _⟩
          · have := h3 q (by omega) hn
            exact ⟨fun hx => by have := this.1 hx; omega, fun hx => by have := this.2 hx; omega⟩
        · by_cases hle : iat (rlRow es st P v L j) v ≤ iat P (ot es v j)
          · rw [Int.min_eq_left hle]
            rcases h4 with h | ⟨q, hq, h5⟩
            · exact Or.inl h
            · exact Or.inr ⟨q, by omega, h5⟩
          · rw [Int.min_eq_right (Int.le_of_lt (Int.not_le.1 hle))]
            exact Or.inr ⟨j, by omega, hc, Or.inr ⟨hd, rfl⟩⟩
end Go.Proofs.Ytghffodjffkijaa

namespace Go.Proofs.Ytghffodjffkijaa
open Go.RowKit Go.Sort
open Go
variable {es : List Pt} {n : Nat} {st : St}

theorem oj_inj (o : Ok n st) (q : Dn st) {i j : Nat} (hi : i < st.O.length) (hj : j < st.O.length) (e : oj st i = oj st j) : i = j := by
  have h1 := o.mem i hi
  have h2 := o.mem j hj
  have e' : (iat st.O i).toNat = (iat st.O j).toNat := e
  rcases Nat.lt_trichotomy i j with h | h | h
  · exact absurd (by omega) (q.nd i j h hj)
  · exact h
  · exact absurd (by omega) (q.nd j i h hi)
/-- The last k nodes are alike in both; the others wait for those that were found by them. -/
structure Lr (es : List Pt) (n : Nat) (st : St) (k : Nat) : Prop where
  a : ∀ j, st.O.length ≤ j + k → j < st.O.length → iat (lwN es st n k) (oj st j) = iat (rlN es st n k) (oj st j)
  b1 : ∀ j, j + k < st.O.length → iat (rlN es st n k) (oj st j) = j
  b2 : ∀ i j, st.O.length ≤ i + k → i < st.O.length → j + k < st.O.length → 0 < iat st.Fa (oj st i) → par es st (oj st i) = oj st j → iat (lwN es st n k) (oj st j) ≤ iat (lwN es st n k) (oj st i)
  b3 : ∀ j, j + k < st.O.length → iat (lwN es st n k) (oj st j) = j ∨ ∃ i, st.O.length ≤ i + k ∧ i < st.O.length ∧ 0 < iat st.Fa (oj st i) ∧ par es st (oj st i) = oj st j ∧ iat (lwN es st n k) (oj st j) = iat (lwN es st n k) (oj st i)
  c : ∀ x, x < n → iat st.Fa x < 0 → iat (lwN es st n k) x = iat (rlN es st n k) x
theorem Lr.zero (o : Ok n st) (q : Dn st) : Lr es n st 0 where
  a := fun j h1 h2 => by omega
  b1 := fun j hj => by simp only [rlN]; exact whN_at o q (by omega) _ _ (by omega) (by omega)
  b2 := fun i j h1 h2 => by omega
  b3 := fun j hj => Or.inl (by simp only [lwN]; exact whN_at o q (by omega) _ _ (by omega) (by omega))
  c := fun x _ _ => rfl
/-- A half-edge of the same edge is the same or the other one. -/
theorem half_two {a b : Int} (h : a / 2 = b / 2) : a = b ∨ a = twn b := by
  unfold twn
  by_cases h2 : b % 2 = 0
  · rw [if_pos h2]; omega
  · rw [if_neg h2]; omega
theorem twn_half {b : Int} : twn b / 2 = b / 2 := by
  unfold twn
  by_cases h2 : b % 2 = 0
  · rw [if_pos h2]; omega
  · rw [if_neg h2]; omega
theorem Lr.step (hm : netB n es = true) (o : Ok n st) (t : Tree es n st) (q : Dn st) (p : Pb es st) (sh : ∀ h u x : Nat, h < 2 * es.length → fromL es h = u → toL es h = x → 0 ≤ iat st.Fa u → 0 ≤ iat st.Fa x) {k : Nat} (hk : k < st.O.length) (L : Lr es n st k) : Lr es n st (k + 1) := by
  obtain ⟨m0, hm0⟩ : ∃ m0, st.O.length - 1 - k = m0 := ⟨_, rfl⟩
  have hmN : m0 < st.O.length := by omega
  obtain ⟨v, hv⟩ : ∃ v, oj st m0 = v := ⟨_, rfl⟩
  have hv2 : (iat st.O m0).toNat = v := hv
  have hmm := o.mem m0 hmN
  have hvn : v < n := by omega
  have hvF : 0 ≤ iat st.Fa v := by have := o.fnd m0 hmN; rw [hv2] at this; exact this
  have ojn : ∀ {j}, j < st.O.length → oj st j < n := fun {j} hj => by have := o.mem j hj; show (iat st.O j).toNat < n; omega
  obtain ⟨A, hA⟩ : ∃ A, lwN es st n k = A := ⟨_, rfl⟩
  obtain ⟨B, hB⟩ : ∃ B, rlN es st n k = B := ⟨_, rfl⟩
  have lA : A.length = n := by rw [← hA]; exact lwN_len _ _ _ _
  have lB : B.length = n := by rw [← hB]; exact rlN_len _ _ _ _
  obtain ⟨La, Lb1, Lb2, Lb3, Lc⟩ := L
  have hle : ∀ x, iat A x ≤ iat (whN st.O n (-1) st.O.length) x := fun x => by rw [← hA]; exact lwN_le o t x k (by omega)
  rw [hA, hB] at La Lc
  rw [hA] at Lb2 Lb3
  rw [hB] at Lb1
  have pl : ∀ (c : Int) {i : Nat}, i < st.O.length → iat (whN st.O n c st.O.length) (oj st i) = i := fun c {i} hi => whN_at o q hi c _ hi (Nat.le_refl _)
  -- the node's own edge up
  have up : 0 ≤ iat st.By v → 0 < iat st.Fa v := fun hb => by
    rcases t.back v hvn hvF with ⟨_, h2⟩ | ⟨h, u, h1, h2, h3, h4, h5, h6, h7⟩
    · omega
    · omega
  have pix : ∀ _ : Nat, 0 < iat st.Fa v → ∃ i, i < m0 ∧ oj st i = par es st v := fun _ hp => by have := p m0 hmN (by rw [hv]; exact hp); rw [hv] at this; exact this
  have pne : 0 < iat st.Fa v → par es st v ≠ v := fun hp e => by
    obtain ⟨i, hi, hio⟩ := pix 0 hp
    have := oj_inj o q (by omega) hmN (hio.trans (e.trans hv.symm))
    omega
  -- what goes out of v
  have out : ∀ j, j < (outL es (2 * es.length) v).length → ∃ h i : Nat, oh es v j = h ∧ h < 2 * es.length ∧ fromL es h = v ∧ i < st.O.length ∧ ot es v j = oj st i ∧ toL es h = oj st i := fun j hj => by
    obtain ⟨h, hh, hh2, hh3⟩ := outL_at hj
    obtain ⟨t1, t2⟩ := toL_in hm h hh2
    obtain ⟨x, hx⟩ : ∃ x : Nat, toL es h = x := ⟨(toL es h).toNat, by omega⟩
    have hxn : x < n := by omega
    obtain ⟨i, hi, hio⟩ := t.surj x hxn (sh h v x hh2 hh3 hx hvF)
    have e1 : oj st i = x := by show (iat st.O i).toNat = x; rw [hio, Int.toNat_natCast]
    refine ⟨h, i, hh, hh2, hh3, hi, ?_, by rw [hx, e1]⟩
    show (toL es (iat (outL es (2 * es.length) v) j).toNat).toNat = _
    rw [hh, Int.toNat_natCast, hx, e1, Int.toNat_natCast]
  -- a child is found behind
  have chi : ∀ i, i < st.O.length → ∀ h : Nat, h < 2 * es.length → iat st.By (oj st i) = h → fromL es h = v → m0 < i ∧ 0 < iat st.Fa (oj st i) ∧ par es st (oj st i) = v := fun i hi h h1 h2 h3 => by
    have h0 : 0 < iat st.Fa (oj st i) := by
      rcases t.back _ (ojn hi) (o.fnd i hi) with ⟨_, h5⟩ | ⟨h', u, g1, g2, g3, g4, g5, g6, g7⟩
      · omega
      · omega
    have hp : par es st (oj st i) = v := by unfold par; rw [h2, Int.toNat_natCast, h3, Int.toNat_natCast]
    obtain ⟨i', hi', hio⟩ := p i hi h0
    have := oj_inj o q (by omega) hmN (hio.trans (hp.trans hv.symm))
    exact ⟨by omega, h0, hp⟩
  have nup : ∀ j, j < (outL es (2 * es.length) v).length → (upE es st v j ↔ oh es v j = twn (iat st.By v)) := fun j hj => by
    obtain ⟨h, i, g1, g2, g3, g4, g5, g6⟩ := out j hj
    constructor
    · intro ⟨hb, he⟩
      rcases half_two he with e | e
      · exfalso
        have hp := up hb
        obtain ⟨kk, k1, k2, k3, k4, k5, k6, k7, _⟩ := root_par t hvn hp
        have : kk = h := by rw [k2] at e; rw [g1] at e; omega
        subst this
        rw [g3] at k4
        exact pne hp (by omega)
      · exact e
    · intro e
      have hb : 0 ≤ iat st.By v := by
        rcases t.back v hvn hvF with ⟨_, h2⟩ | ⟨h', u, h1, h2, h3, _⟩
        · exfalso
          rw [h2, g1] at e
          have : twn (-1) = -2 := by decide
          omega
        · omega
      exact ⟨hb, by rw [e, twn_half]⟩
  have hBv : iat B v = m0 := by have := Lb1 m0 (by omega); rw [hv] at this; exact this
  have hAm : iat A v ≤ m0 := by have := hle v; rw [← hv, pl (-1) hmN] at this; rw [← hv]; exact this
  have same : ∀ i, m0 < i → i < st.O.length → iat A (oj st i) = iat B (oj st i) := fun i h1 h2 => La i (by omega) h2
  obtain ⟨a1, a2, a3, a4⟩ := lwRow_glb es st (whN st.O n 0 st.O.length) v A (by omega) (outL es (2 * es.length) v).length
  obtain ⟨b1, b2, b3, b4⟩ := rlRow_glb es st (whN st.O n (-1) st.O.length) v B (by omega) (fun j hj hc => by
    obtain ⟨h, i, g1, g2, g3, g4, g5, g6⟩ := out j hj
    rw [g1, g5] at hc
    obtain ⟨c1, _⟩ := chi i g4 h g2 hc g3
    rw [g5]
    intro e
    have := oj_inj o q g4 hmN (e.trans hv.symm)
    omega) (outL es (2 * es.length) v).length (Nat.le_refl _)
  obtain ⟨A', hA'⟩ : ∃ A', lwRow es st (whN st.O n 0 st.O.length) v A (outL es (2 * es.length) v).length = A' := ⟨_, rfl⟩
  obtain ⟨B', hB'⟩ : ∃ B', rlRow es st (whN st.O n (-1) st.O.length) v B (outL es (2 * es.length) v).length = B' := ⟨_, rfl⟩
  rw [hA'] at a1 a2 a3 a4
  rw [hB'] at b1 b2 b3 b4
  have lA' : A'.length = n := by rw [← hA', lwRow_len, lA]
  have eqv : iat A' v = iat B' v := by
    apply Int.le_antisymm
    · clear a4
      rcases b4 with e | ⟨j, hj, hn, hc⟩
      · rw [e, hBv]; omega
      · obtain ⟨h, i, g1, g2, g3, g4, g5, g6⟩ := out j hj
        rcases hc with ⟨c1, c2⟩ | ⟨c1, c2⟩
        · rw [g1, g5] at c1
          obtain ⟨d1, d2, d3⟩ := chi i g4 h g2 c1 g3
          rw [c2, g5, ← same i d1 g4]
          have := Lb2 i m0 (by omega) g4 (by omega) d2 (d3.trans hv.symm)
          rw [hv] at this
          omega
        · have := a3 j hj (fun e => hn ((nup j hj).2 e))
          rw [c2]
          rw [g5, pl _ g4] at this ⊢
          exact this
    · clear b4
      rcases a4 with e | ⟨j, hj, hn, hc⟩
      · rw [e]
        rcases Lb3 m0 (by omega) with e2 | ⟨i, i1, i2, i3, i4, i5⟩
        · rw [hv] at e2
          omega
        · rw [hv] at i4 i5
          obtain ⟨kk, k1, k2, k3, k4, _⟩ := root_par t (ojn i2) i3
          rw [i4] at k4
          obtain ⟨j, hj, hje⟩ := outL_mem k1 k4
          have hot : ot es v j = oj st i := by
            show (toL es (iat (outL es (2 * es.length) v) j).toNat).toNat = _
            rw [hje, Int.toNat_natCast, k3, Int.toNat_natCast]
          obtain ⟨d1, _, _⟩ := chi i i2 kk k1 k2 k4
          have hnu : ¬ upE es st v j := fun hu => by
            have hb := hu.1
            have e3 := (nup j hj).1 hu
            have e3' : (kk : Int) = twn (iat st.By v) := by rw [← hje]; exact e3
            obtain ⟨k', l1, l2, l3, l4, _⟩ := root_par t hvn (up hb)
            rw [l2] at e3'
            have h6 := twn_to es k'
            rw [← e3', Int.toNat_natCast, k3, l4] at h6
            obtain ⟨i', hi', hio⟩ := pix 0 (up hb)
            have := oj_inj o q (by omega) i2 (hio.trans (by omega))
            omega
          have := (b3 j hj hnu).1 (by rw [hot]; exact k2.trans hje.symm)
          rw [hot, ← same i d1 i2] at this
          omega
      · obtain ⟨h, i, g1, g2, g3, g4, g5, g6⟩ := out j hj
        have hnu : ¬ upE es st v j := fun hu => hn ((nup j hj).1 hu)
        rw [hc, g5, pl _ g4]
        by_cases hch : iat st.By (ot es v j) = oh es v j
        · have h7 := (b3 j hj hnu).1 hch
          rw [g1, g5] at hch
          obtain ⟨d1, _, _⟩ := chi i g4 h g2 hch g3
          rw [g5, ← same i d1 g4] at h7
          have := hle (oj st i)
          rw [pl _ g4] at this
          omega
        · have h7 := (b3 j hj hnu).2 hch
          rw [g5, pl _ g4] at h7
          exact h7
  clear a4 b4 a3 b3 a2 b2
  -- what is handed up
  have eA : lwN es st n (k + 1) = if 0 ≤ iat st.By v then A'.set (par es st v) (min (iat A' (par es st v)) (iat A' v)) else A' := by
    simp only [lwN, lwOne, hm0, hv2, hA, hA']
  have eB : rlN es st n (k + 1) = B' := by simp only [rlN, hm0, hv2, hB, hB']
  have keep : ∀ x, (0 ≤ iat st.By v → x ≠ par es st v) → iat (lwN es st n (k + 1)) x = iat A' x := fun x hx => by
    rw [eA]
    split
    · next hb => exact iat_put_ne (hx hb)
    · rfl
  have late : ∀ i, m0 ≤ i → i < st.O.length → iat (lwN es st n (k + 1)) (oj st i) = iat A' (oj st i) := fun i h1 h2 => keep _ (fun hb e => by
    obtain ⟨i', hi', hio⟩ := pix 0 (up hb)
    have := oj_inj o q (by omega) h2 (hio.trans e.symm)
    omega)
  have nev : ∀ i, i < st.O.length → i ≠ m0 → oj st i ≠ v := fun i hi hne e => hne (oj_inj o q hi hmN (e.trans hv.symm))
  have lateA : ∀ i, m0 < i → i < st.O.length → iat (lwN es st n (k + 1)) (oj st i) = iat A (oj st i) := fun i h1 h2 => by rw [late i (by omega) h2, a1 _ (nev i h2 (by omega))]
  have lateV : iat (lwN es st n (k + 1)) v = iat A' v := by have := late m0 (Nat.le_refl _) hmN; rw [hv] at this; exact this
  have early : ∀ j, j < m0 → 0 ≤ iat st.By v → oj st j = par es st v → iat (lwN es st n (k + 1)) (oj st j) = min (iat A (oj st j)) (iat A' v) := fun j hj hb e => by
    rw [eA, if_pos hb, ← e, iat_put (by rw [lA']; exact ojn (by omega)), a1 _ (nev j (by omega) (by omega))]
  have early' : ∀ j, j < m0 → (0 ≤ iat st.By v → oj st j ≠ par es st v) → iat (lwN es st n (k + 1)) (oj st j) = iat A (oj st j) := fun j hj he => by
    rw [keep _ he, a1 _ (nev j (by omega) (by omega))]
  have byv : 0 < iat st.Fa v → 0 ≤ iat st.By v := fun hp => by obtain ⟨kk, _, k2, _⟩ := root_par t hvn hp; omega
  refine ⟨fun j h1 h2 => ?_, fun j h1 => ?_, fun i j h1 h2 h3 h4 h5 => ?_, fun j h1 => ?_, fun x hx hF => ?_⟩
  · by_cases e : j = m0
    · rw [e, hv, lateV, eB, eqv]
    · rw [lateA j (by omega) h2, eB, b1 _ (nev j h2 e)]; exact same j (by omega) h2
  · rw [eB, b1 _ (nev j (by omega) (by omega))]; exact Lb1 j (by omega)
  · by_cases hj : 0 ≤ iat st.By v ∧ oj st j = par es st v
    · rw [early j (by omega) hj.1 hj.2]
      by_cases e : i = m0
      · rw [e, hv, lateV]; exact Int.min_le_right _ _
      · rw [lateA i (by omega) h2]
        exact Int.le_trans (Int.min_le_left _ _) (Lb2 i j (by omega) h2 (by omega) h4 h5)
    · rw [early' j (by omega) (fun hb e => hj ⟨hb, e⟩)]
      by_cases e : i = m0
      · exfalso
        rw [e, hv] at h4 h5
        exact hj ⟨byv h4, h5.symm⟩
      · rw [lateA i (by omega) h2]
        exact Lb2 i j (by omega) h2 (by omega) h4 h5
  · by_cases hj : 0 ≤ iat st.By v ∧ oj st j = par es st v
    · rw [early j (by omega) hj.1 hj.2]
      by_cases hmin : iat A (oj st j) ≤ iat A' v
      · rw [Int.min_eq_left hmin]
        rcases Lb3 j (by omega) with e | ⟨i, i1, i2, i3, i4, i5⟩
        · exact Or.inl e
        · exact Or.inr ⟨i, by omega, i2, i3, i4, by rw [lateA i (by omega) i2]; exact i5⟩
      · rw [Int.min_eq_right (Int.le_of_lt (Int.not_le.1 hmin))]
        exact Or.inr ⟨m0, by omega, hmN, by rw [hv]; exact up hj.1, by rw [hv]; exact hj.2.symm, by rw [hv, lateV]⟩
    · rw [early' j (by omega) (fun hb e => hj ⟨hb, e⟩)]
      rcases Lb3 j (by omega) with e | ⟨i, i1, i2, i3, i4, i5⟩
      · exact Or.inl e
      · exact Or.inr ⟨i, by omega, i2, i3, i4, by rw [lateA i (by omega) i2]; exact i5⟩
  · have hxv : x ≠ v := fun e => by rw [e] at hF; omega
    rw [keep x (fun hb e => by
      obtain ⟨kk, _, _, _, _, _, _, k7, _⟩ := root_par t hvn (up hb)
      rw [← e] at k7; omega), eB, a1 _ hxv, b1 _ hxv]
    exact Lc x hx hF
theorem rl_lw (hm : netB n es = true) (o : Ok n st) (t : Tree es n st) (q : Dn st) (p : Pb es st) (sh : ∀ h u x : Nat, h < 2 * es.length → fromL es h = u → toL es h = x → 0 ≤ iat st.Fa u → 0 ≤ iat st.Fa x) : rlN es st n st.O.length = lwN es st n st.O.length := by
  have all : ∀ k, k ≤ st.O.length → Lr es n st k := fun k => by
    induction k with
    | zero => exact fun _ => Lr.zero o q
    | succ k ih => exact fun hk => (ih (by omega)).step hm o t q p sh (by omega)
  have L := all _ (Nat.le_refl _)
  apply List.ext_getElem (by rw [rlN_len, lwN_len])
  intro x hx1 hx2
  rw [rlN_len] at hx1
  have e : iat (rlN es st n st.O.length) x = iat (lwN es st n st.O.length) x := by
    by_cases hF : iat st.Fa x < 0
    · exact (L.c x hx1 hF).symm
    · obtain ⟨j, hj, hjo⟩ := t.surj x hx1 (by omega)
      have := L.a j (by omega) hj
      rw [show oj st j = x by show (iat st.O j).toNat = x; rw [hjo, Int.toNat_natCast]] at this
      exact this.symm
  simpa [iat, rlN_len, lwN_len, hx1] using e
theorem d0_df {s : Nat} (hs : s < n) : Df es n s (d0 n s (st0 n)) := by
  have hF : iat (begin_ (st0 n) s).Fa s = 0 := iat_put (by rw [(st0_ok n).lf]; exact hs)
  have hneg : iat (st0 n).Fa s < 0 := by show iat (List.replicate n (-1)) s < 0; rw [iat_fill hs]; omega
  refine ⟨d0_ok (st0_ok n) hs hneg, (tree0 es n _ _ (fun v hv => iat_fill hv) (fun v hv => iat_fill hv)).begin_ (st0_ok n) hs hneg, by show [s].Pairwise _; simp, ?_, ?_, ?_, ?_⟩
  · intro u hu i hi
    have : iat (List.replicate n (0 : Int)) u = 0 := iat_fill hu
    have hi' : (i : Int) < iat (List.replicate n (0 : Int)) u := hi
    omega
  · intro u hu h0 hns
    have hne : u ≠ s := fun e => hns (by rw [e]; show s ∈ [s]; simp)
    have h0' : 0 ≤ iat ((List.replicate n (-1 : Int)).set s 0) u := h0
    rw [iat_put_ne hne, iat_fill hu] at h0'
    omega
  · intro v hv h0
    by_cases e : v = s
    · exact e
    · have h0' : iat ((List.replicate n (-1 : Int)).set s 0) v = 0 := h0
      rw [iat_put_ne e, iat_fill hv] at h0'
      omega
  · exact ⟨by simp [d0, begin_], by simp [d0, begin_, st0, iat], hF⟩
/-- A dive from one node: the document's way and the program's. -/
theorem dOneSt_behind (hm : netB n es = true) {s : Nat} (hs : s < n) : Pb es (dOneSt es n s) := by
  have hF : iat (begin_ (st0 n) s).Fa s = 0 := iat_put (by rw [(st0_ok n).lf]; exact hs)
  refine Pb.all hm _ _ (d0_df hs) (fun j hj hp => ?_)
  have : (d0 n s (st0 n)).st.O.length = 1 := by simp [d0, begin_, st0]
  have hj0 : j = 0 := by omega
  subst hj0
  exfalso
  have e : oj (d0 n s (st0 n)).st 0 = s := by simp [d0, begin_, st0, iat, oj]
  rw [e] at hp
  have : iat (d0 n s (st0 n)).st.Fa s = 0 := hF
  omega
theorem dOneSt_low (hm : netB n es = true) {s : Nat} (hs : s < n) : rlN es (dOneSt es n s) n (dOneSt es n s).O.length = lwN es (dOneSt es n s) n (dOneSt es n s).O.length := by
  obtain ⟨r, _⟩ := dOneSt_reach hm hs
  exact rl_lw hm r.ok r.tree (dOneSt_once hm hs) (dOneSt_behind hm hs) r.shut
end Go.Proofs.Ytghffodjffkijaa

namespace Go.Proofs.Ytghffodjffkijaa
open Go.RowKit Go.Sort
open Go
variable {es : List Pt} {n : Nat} {st : St}

def Ch (es : List Pt) (By : List Int) : List Nat → Prop
  | [] => True
  | [u] => iat By u < 0
  | u :: v :: r => (∃ h : Nat, iat By u = h ∧ h < 2 * es.length ∧ fromL es h = v) ∧ Ch es By (v :: r)
theorem Ch.tail {By : List Int} {u : Nat} : ∀ {r : List Nat}, Ch es By (u :: r) → Ch es By r
  | [], _ => trivial
  | _ :: _, h => h.2
theorem Ch.put {By : List Int} {x : Nat} {y : Int} : ∀ {S : List Nat}, Ch es By S → x ∉ S → Ch es (By.set x y) S
  | [], _, _ => trivial
  | [u], h, hx => by
    have hne : u ≠ x := fun e => hx (by simp [e])
    show iat (By.set x y) u < 0
    rw [iat_put_ne hne]; exact h
  | u :: v :: r, h, hx => by
    have hne : u ≠ x := fun e => hx (by simp [e])
    obtain ⟨⟨k, h1, h2, h3⟩, h4⟩ := h
    exact ⟨⟨k, by rw [iat_put_ne hne]; exact h1, h2, h3⟩, h4.put (fun e => hx (List.mem_cons_of_mem _ e))⟩
theorem Ch.one {u : Nat} {d : Ds} {r : List Nat} (k : Dk es n d) (hm : netB n es = true) (hS : d.S = u :: r) (c : Ch es d.st.By d.S) : Ch es (dOne es d u r).st.By (dOne es d u r).S := by
  obtain ⟨hu, hf⟩ := k.sm u (by rw [hS]; simp)
  obtain ⟨g0, g1⟩ := k.gv u hu
  unfold dOne
  by_cases he : iat d.G u = (outL es (2 * es.length) u).length
  · rw [if_pos he]; rw [hS] at c; exact c.tail
  · rw [if_neg he]
    obtain ⟨h, hh, hh2, hh3⟩ := outL_at (es := es) (h := 2 * es.length) (v := u) (j := (iat d.G u).toNat) (by omega)
    rw [hh, Int.toNat_natCast]
    obtain ⟨t1, t2⟩ := toL_in hm h hh2
    obtain ⟨x, hx⟩ : ∃ x : Nat, toL es h = x := ⟨(toL es h).toNat, by omega⟩
    rw [hx, Int.toNat_natCast]
    have hxn : x < n := by omega
    by_cases hneg : iat d.st.Fa x < 0
    · rw [if_pos hneg]
      have hns : x ∉ d.S := fun e => by have := (k.sm x e).2; omega
      have := c.put (x := x) (y := (h : Int)) hns
      rw [hS] at this
      exact ⟨⟨h, iat_put (by rw [k.ok.lb]; exact hxn), hh2, hh3⟩, this⟩
    · rw [if_neg hneg]; rw [hS] at c; exact c
theorem Ch.d0 {s : Nat} (hs : s < n) : Ch es (d0 n s (st0 n)).st.By (d0 n s (st0 n)).S := by
  show iat ((List.replicate n (-1 : Int)).set s (-1)) s < 0
  rw [iat_put (by simpa using hs)]
  omega
end Go.Proofs.Ytghffodjffkijaa
