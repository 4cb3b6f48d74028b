/- Depth first: the order tells each node once; what is reached at the lowest lies no lower than the node itself; the way up. -/
import Derived.Test.YtghffodjffkijaaE11
import Derived.Lib.QuietBelow
import Derived.BigQuiet
import Derived.Deep.QuietTactic
namespace Go.Proofs.Ytghffodjffkijaa
open Go.RowKit Go.Sort
open Go
variable {es : List Pt} {n : Nat} {st : St}

/-- Each node once, and all but the first by a half-edge. -/
structure Dn (st : St) : Prop where
  nd : ∀ i j, i < j → j < st.O.length → iat st.O i ≠ iat st.O j
  pos : ∀ i, 1 ≤ i → i < st.O.length → 0 < iat st.Fa (oj st i)
theorem Dn.one {u : Nat} {d : Ds} {r : List Nat} (k : Dk es n d) (hm : netB n es = true) (hS : d.S = u :: r) (q : Dn d.st) : Dn (dOne es d u r).st := by
  obtain ⟨hu, hf⟩ := k.sm u (by rw [hS]; simp)
  obtain ⟨g0, g1⟩ := k.gv u hu
  unfold dOne
  by_cases he : iat d.G u = (outL es (2 * es.length) u).length
  · rw [if_pos he]; exact q
  · rw [if_neg he]
    obtain ⟨h, hh, hh2, hh3⟩ := outL_at (es := es) (h := 2 * es.length) (v := u) (j := (iat d.G u).toNat) (by omega)
    rw [hh, Int.toNat_natCast]
    obtain ⟨t1, t2⟩ := toL_in hm h hh2
    obtain ⟨x, hx⟩ : ∃ x : Nat, toL es h = x := ⟨(toL es h).toNat, by omega⟩
    rw [hx, Int.toNat_natCast]
    have hxn : x < n := by omega
    by_cases hneg : iat d.st.Fa x < 0
    · rw [if_pos hneg]
      refine ⟨fun i j hij hj => ?_, fun i hi hj => ?_⟩
      · simp only [List.length_append, List.length_cons, List.length_nil] at hj
        show iat (d.st.O ++ [(x : Int)]) i ≠ iat (d.st.O ++ [(x : Int)]) j
        rw [iat_app, iat_app, if_pos (by omega)]
        by_cases hjl : j < d.st.O.length
        · rw [if_pos hjl]; exact q.nd i j hij hjl
        · rw [if_neg hjl, if_pos (by omega)]
          intro e
          have h1 := k.ok.fnd i (by omega)
          rw [e, Int.toNat_natCast] at h1
          omega
      · simp only [List.length_append, List.length_cons, List.length_nil] at hj
        show 0 < iat (d.st.Fa.set x (iat d.st.Fa u + 1)) (iat (d.st.O ++ [(x : Int)]) i).toNat
        rw [iat_app]
        by_cases hjl : i < d.st.O.length
        · rw [if_pos hjl]
          have h1 := k.ok.fnd i hjl
          rw [iat_put_ne (fun e => by rw [e] at h1; omega)]
          exact q.pos i hi hjl
        · rw [if_neg hjl, if_pos (by omega), Int.toNat_natCast, iat_put (by rw [k.ok.lf]; exact hxn)]
          omega
    · rw [if_neg hneg]; exact q
theorem Dn.all (hm : netB n es = true) : ∀ (k : Nat) (d : Ds), Dk es n d → Dn d.st → Dn (dfs es k d).st
  | 0, _, _, q => q
  | k + 1, d, dk, q => by
    simp only [dfs]
    cases hS : d.S with
    | nil => exact q
    | cons u r => exact Dn.all hm k _ (dk.one hm hS).1 (Dn.one dk hm hS q)
theorem dOneSt_once (hm : netB n es = true) {s : Nat} (hs : s < n) : Dn (dOneSt es n s) := by
  have hneg : iat (st0 n).Fa s < 0 := by show iat (List.replicate n (-1)) s < 0; rw [iat_fill hs]; omega
  refine Dn.all hm _ _ (d0_ok (st0_ok n) hs hneg) ⟨fun i j hij hj => ?_, fun i hi hj => ?_⟩
  · have : (d0 n s (st0 n)).st.O.length = 1 := by simp [d0, begin_, st0]
    omega
  · have : (d0 n s (st0 n)).st.O.length = 1 := by simp [d0, begin_, st0]
    omega
/-- Up the tree, step by step. -/
theorem rtN_succ (es : List Pt) (st : St) : ∀ (k v : Nat), rtN es st (k + 1) v = par es st (rtN es st k v)
  | 0, _ => rfl
  | k + 1, v => by
    show rtN es st (k + 1) (par es st v) = par es st (rtN es st k (par es st v))
    exact rtN_succ es st k (par es st v)
theorem rt_up (t : Tree es n st) : ∀ (k v : Nat), v < n → (k : Int) ≤ iat st.Fa v → rtN es st k v < n ∧ iat st.Fa (rtN es st k v) = iat st.Fa v - k
  | 0, v, hv, _ => ⟨hv, by show iat st.Fa v = _; omega⟩
  | k + 1, v, hv, hk => by
    obtain ⟨h1, h2⟩ := rt_up t k v hv (by omega)
    obtain ⟨_, _, _, _, _, h5, h6, _⟩ := root_par t h1 (by omega)
    rw [rtN_succ]
    exact ⟨h5, by omega⟩
/-- What a node reaches at the lowest lies no lower than its own place. -/
theorem lwRow_le (es : List Pt) (st : St) (P : List Int) (v : Nat) (L : List Int) (hv : v < L.length) (x : Nat) : ∀ j, iat (lwRow es st P v L j) x ≤ iat L x
  | 0 => Int.le_refl _
  | j + 1 => by
    have ih := lwRow_le es st P v L hv x j
    simp only [lwRow]
    split
    · exact ih
    · by_cases e : x = v
      · rw [e, iat_put (by rw [lwRow_len]; exact hv)]
        rw [e] at ih
        omega
      · rw [iat_put_ne e]; exact ih
theorem lwOne_le (es : List Pt) (st : St) (P : List Int) (L : List Int) (v : Nat) (hv : v < L.length) (hp : 0 ≤ iat st.By v → par es st v < L.length) (x : Nat) : iat (lwOne es st P L v) x ≤ iat L x := by
  have h1 := lwRow_le es st P v L hv x (outL es (2 * es.length) v).length
  unfold lwOne
  split
  · rename_i hb
    by_cases e : x = par es st v
    · rw [e, iat_put (by rw [lwRow_len]; exact hp hb)]
      rw [e] at h1
      omega
    · rw [iat_put_ne e]; exact h1
  · exact h1
theorem lwN_le (o : Ok n st) (t : Tree es n st) (x : Nat) : ∀ k, k ≤ st.O.length → iat (lwN es st n k) x ≤ iat (whN st.O n (-1) st.O.length) x
  | 0, _ => Int.le_refl _
  | k + 1, hk => by
    have ih := lwN_le o t x k (by omega)
    simp only [lwN]
    have hm := o.mem (st.O.length - 1 - k) (by omega)
    have hv : (iat st.O (st.O.length - 1 - k)).toNat < n := by omega
    refine Int.le_trans (lwOne_le es st _ _ _ (by rw [lwN_len]; exact hv) (fun hb => ?_) x) ih
    rw [lwN_len]
    by_cases hf : 0 < iat st.Fa (iat st.O (st.O.length - 1 - k)).toNat
    · obtain ⟨_, _, _, _, _, h5, _⟩ := root_par t hv hf
      exact h5
    · exfalso
      by_cases h0 : 0 ≤ iat st.Fa (iat st.O (st.O.length - 1 - k)).toNat
      · rcases t.back _ hv h0 with hh | ⟨h, u, _, _, _, _, _, h6, h7⟩
        · omega
        · omega
      · have := t.none _ hv (by omega)
        omega
theorem whN_at (o : Ok n st) (q : Dn st) {i : Nat} (hi : i < st.O.length) (c : Int) : ∀ j, i < j → j ≤ st.O.length → iat (whN st.O n c j) (oj st i) = i
  | 0, h, _ => by omega
  | j + 1, h, hj => by
    simp only [whN]
    have hm := o.mem i hi
    have hin : oj st i < n := by show (iat st.O i).toNat < n; omega
    by_cases e : i = j
    · rw [← e, show (iat st.O i).toNat = oj st i from rfl, iat_put (by rw [whN_len]; exact hin)]
    · have hne : oj st i ≠ (iat st.O j).toNat := by
        intro h2
        apply q.nd i j (by omega) (by omega)
        have h3 := o.mem j (by omega)
        have h4 : (iat st.O i).toNat = (iat st.O j).toNat := h2
        omega
      rw [iat_put_ne hne]
      exact whN_at o q hi c j (by omega) (by omega)
/-- The places, from one on. -/
def pcL (O : List Int) (n : Nat) : Nat → List Int
  | 0 => List.replicate n 0
  | i + 1 => (pcL O n i).set (iat O i).toNat ((i : Int) + 1)
theorem pcL_len (O : List Int) (n : Nat) : ∀ i, (pcL O n i).length = n
  | 0 => by simp [pcL]
  | i + 1 => by simp only [pcL, List.length_set]; exact pcL_len O n i
theorem pcL_zero (O : List Int) (n v : Nat) (hv : v < n) : ∀ i, iat (pcL O n i) v = 0 ↔ ∀ j, j < i → (iat O j).toNat ≠ v
  | 0 => by simp only [pcL, iat_fill hv]; exact ⟨fun _ j hj => by omega, fun _ => trivial⟩
  | i + 1 => by
    have ih := pcL_zero O n v hv i
    simp only [pcL]
    by_cases e : (iat O i).toNat = v
    · rw [e, iat_put (by rw [pcL_len]; exact hv)]
      exact ⟨fun h => by omega, fun h => absurd e (h i (by omega))⟩
    · rw [iat_put_ne (fun h => e h.symm), ih]
      refine ⟨fun h j hj => ?_, fun h j hj => h j (by omega)⟩
      by_cases ej : j = i
      · rw [ej]; exact e
      · exact h j (by omega)
theorem pcL_found (o : Ok n st) (t : Tree es n st) {v : Nat} (hv : v < n) : iat (pcL st.O n st.O.length) v = 0 ↔ iat st.Fa v < 0 := by
  rw [pcL_zero st.O n v hv]
  constructor
  · intro h
    by_cases h0 : 0 ≤ iat st.Fa v
    · obtain ⟨j, hj, hje⟩ := t.surj v hv h0
      exact absurd (by rw [hje, Int.toNat_natCast]) (h j hj)
    · omega
  · intro h j hj e
    have := o.fnd j hj
    rw [e] at this
    omega
set_option maxRecDepth 100000 in
set_option maxHeartbeats 8000000 in
theorem above27 (m : Nat) (p : Option Addr) (es : List Pt) (cp : Nat) (po : Option Addr) (lo co gb gf B : Nat) (vl : Value) (st : St) (a b : Nat) (w : World) (h : Has w p es) (hm : netB m es = true) (hB : IRow w B gb m st.By) (t : Tree es m st) (hv : ∀ v, v < m → iat st.Fa v ≤ m) (hb : b < m) (h0 : 0 ≤ iat st.Fa b) :
    Calls Try.prog 27 #[nv m p es.length cp, tv (.slice po lo co) (.slice (some ⟨gb, 0, none⟩) m m) (.slice (some ⟨gf, 0, none⟩) m m) vl, .int .i64 a, .int .i64 b] w fun e w' => (∃ r : Bool, e = .returned (.bool r) ∧ (r = true ↔ Anc es st a b)) ∧ Below w.heap.size w w' := by
  obtain ⟨W, hW⟩ : ∃ W, W = (w.alloc (nbx m p es.length cp)).alloc (.cells #[.slice po lo co, .slice (some ⟨gb, 0, none⟩) m m, .slice (some ⟨gf, 0, none⟩) m m, vl] 35) := ⟨_, rfl⟩
  have hbW : Below w.heap.size w W := by rw [hW]; go_grown
  obtain ⟨n0, n1, hes, hE⟩ := netB_is hm
  have HA : Hid (NOwn W w.heap.size m p es.length cp) := by show NOwn _ _ _ _ _ _; rw [hW]; exact ⟨by unfold nbx; go_cell, by unfold nbx; go_cell, by unfold nbx; go_cell, by unfold nbx; go_cell⟩
  have HX : Hid (W.cell? ⟨w.heap.size + 1, 1, none⟩ = some (.slice (some ⟨gb, 0, none⟩) m m)) := by show _ = _; rw [hW]; go_cell
  have HH := hide (h.later hbW)
  have HBY := hide (hB.later hbW)
  have HB := hide hbW
  have HT := hide t
  have HV := hide (hv b hb)
  have HZ := hide h0
  clear h hbW hm hB t hv h0 hE
  go_enter Try.func27, Try.ntmps27
  go_wp2_with fail
  rw [← hW]
  clear hW
  obtain ⟨kt, hkt⟩ : ∃ kt, w.heap.size + 1 = kt := ⟨_, rfl⟩
  rw [hkt] at HX ⊢
  obtain ⟨kb, hkb⟩ : ∃ kb, w.heap.size = kb := ⟨_, rfl⟩
  rw [hkb] at HA ⊢
  have HKB := hide hkb
  clear hkt hkb
  go_loopw [3, 9] (fun t3 t9 wr => ∃ k : Nat, t3 = .int .i64 (rtN es st k b : Nat) ∧ t9 = .int .i64 k ∧ Hid ((k : Int) ≤ iat st.Fa b) ∧ Hid (∀ j, j < k → rtN es st j b ≠ a) ∧ Hid (Below W.heap.size W wr)) (fun _ t9 _ => m + 1 - (intOf t9).toNat)
  case atStart => exact ⟨0, rfl, rfl, HZ.out, fun j hj => by omega, Below.refl _ _⟩
  case round =>
    obtain ⟨k, rfl, rfl, HK, HN, HBr⟩ := hrel
    obtain ⟨u1, u2⟩ := rt_up HT.out k b hb HK.out
    have hkm : k ≤ m := by have := HK.out; have := HV.out; omega
    obtain ⟨q0, q1, _, _⟩ := HA.out.later HBr.out
    have x1 := later HBr.out HX.out
    have f1 := ((HBY.out.later HBr.out).cell u1).1
    have HUP : Hid (rtN es st (k + 1) b = par es st (rtN es st k b)) := rtN_succ es st k b
    have HC : Hid ((iat st.Fa (rtN es st k b) = 0 ∧ iat st.By (rtN es st k b) = -1) ∨ (∃ h : Nat, h < 2 * es.length ∧ iat st.By (rtN es st k b) = h ∧ fromL es h = par es st (rtN es st k b) ∧ 0 < iat st.Fa (rtN es st k b))) := by
      show _ ∨ _
      have hk0 := HK.out
      by_cases hz : iat st.Fa (rtN es st k b) = 0
      · rcases HT.out.back _ u1 (by omega) with hh | ⟨_, _, _, _, _, _, _, h6, h7⟩
        · exact Or.inl hh
        · omega
      · obtain ⟨h, h1, h2, h3, h4, _⟩ := root_par HT.out u1 (by omega)
        exact Or.inr ⟨h, h1, h2, h4, by omega⟩
    obtain ⟨c, hc⟩ : ∃ c, rtN es st k b = c := ⟨_, rfl⟩
    rw [hc] at u1 u2 f1 HUP HC ⊢
    have HCE := hide hc
    have j1 : (k : Int) ≤ m := by omega
    have j2 : (c : Int) < m := by omega
    have j3 : (0 : Int) ≤ c := by omega
    have HU2 := hide u2
    clear hc u2
    by_cases hac : a = c
    · have t1 : ((a : Int) == (c : Int)) = true := by simp [hac]
      have HEQ := hide hac
      clear hac
      go_wp2
      go_ret
      exact ⟨⟨true, rfl, fun _ => ⟨k, HK.out, by rw [HCE.out]; exact HEQ.out.symm⟩, fun _ => rfl⟩, by rw [← HKB.out] at *; exact below_step HB.out HBr.out⟩
    · have t1 : ((a : Int) == (c : Int)) = false := by simp; omega
      rcases HC.out with ⟨z1, z2⟩ | ⟨h, z1, z2, z3, z4⟩
      · rw [z2] at f1
        have HZ1 := hide z1
        have HNE := hide hac
        clear z1 z2 hac
        go_wp2
        go_ret
        refine ⟨⟨false, rfl, fun h => by simp at h, fun ⟨j, h1, h2⟩ => ?_⟩, by rw [← HKB.out] at *; exact below_step HB.out HBr.out⟩
        exfalso
        have hz := HZ1.out
        have hu := HU2.out
        rcases Nat.lt_or_ge j k with hlt | hge
        · exact HN.out j hlt h2
        · have ej : j = k := by omega
          rw [ej, HCE.out] at h2
          exact HNE.out h2.symm
      · rw [z2] at f1
        have z5 : ¬ (h : Int) < 0 := by omega
        have CF : ∀ dd os, Calls Try.prog 26 #[nv m p es.length cp, .int .i64 h] (grow (redrawn wr dd) os) fun e w'' => e = .returned (.int .i64 (par es st c : Nat)) ∧ ∃ p : Regrown, w'' = grow (redrawn wr p.d) p.os := fun dd os => Calls.regrown_of (by rw [← z3]; exact from50 m p es cp h _ ((HH.out.later HBr.out).later (below_regrown wr dd os)) z1 (by omega))
        have F1 := cell_regrown f1
        have X1 := cell_regrown x1
        have Q0 := cell_regrown q0
        have Q1 := cell_regrown q1
        have HN2 : Hid (∀ j, j < k + 1 → rtN es st j b ≠ a) := fun j hj => by
          by_cases e : j = k
          · rw [e, HCE.out]; exact fun h => hac h.symm
          · exact HN.out j (by omega)
        have HK2 : Hid (((k + 1 : Nat) : Int) ≤ iat st.Fa b) := by show _ ≤ _; have := HU2.out; omega
        clear z2 z3 z4 hac HN HK
        go_upto_region 8 with fail
        refine wp_region_quiet_below (by kernel_rfl) (by kernel_rfl) ?_
        repeat (go_big_quiet_step (first | with_reducible exact CF _ _))
        refine wpQuiet_nil ?_
        intro w3 hw'
        have hb3 : Below wr.heap.size wr w3 := by
          obtain ⟨⟨dq, osq⟩, hw''⟩ := hw'
          rw [hw'']
          exact below_regrown wr dq osq
        have HBq := hide (below_step HBr.out hb3)
        clear hw' hb3 f1 x1 q0 q1 F1 X1 Q0 Q1 CF
        go_wp2
        go_roundw
        case rel => exact ⟨k + 1, by rw [HUP.out], by go_num, HK2.out, HN2.out, HBq.out⟩
        case measure => simp [intOf]; omega
end Go.Proofs.Ytghffodjffkijaa
