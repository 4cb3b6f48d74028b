/- WalkSides: its walk. -/
import Derived.Test.YtghffodjffkijaaX5
import Derived.Lib.QuietBelow
import Derived.BigQuiet
import Derived.Deep.QuietTactic
import Derived.Test.YtghffodjffkijaaE11
import Derived.Test.YtghffodjffkijaaE12
/- The document's Walk and Once, at lists that go round. -/
namespace Go.Proofs.Ytghffodjffkijaa
open Go.RowKit Go.Sort
open Go

/-- The place behind. -/
def nx (len i : Nat) : Nat := if i + 1 = len then 0 else i + 1
set_option maxRecDepth 100000 in
set_option maxHeartbeats 8000000 in
theorem walk29 (m : Nat) (p : Option Addr) (es : List Pt) (cp g c B : Nat) (l : List Int) (w : World) (h : Has w p es) (hb : es.length ≤ 100000) (hl : IOwns w B (.slice (some ⟨g, 0, none⟩) l.length c) l) (hln : l.length ≤ 100000)
    (hr : ∀ i, i < l.length → ∃ k : Nat, iat l i = k ∧ k < 2 * es.length) (hc : ∀ i, i < l.length → toL es (iat l i).toNat = fromL es (iat l (nx l.length i)).toNat) :
    Calls Try.prog 29 #[nv m p es.length cp, .slice (some ⟨g, 0, none⟩) l.length c, .bool true] w fun e w' => e = .returned (.bool true) ∧ Below w.heap.size w w' := by
  obtain ⟨W, hW, hbW, a0⟩ := one_net w m p es.length cp
  have HH := hide (h.later hbW)
  have HL := hide (IOwns.later hl hbW)
  have HB := hide hbW
  have HA := hide a0
  have HR := hide hr
  have HC := hide hc
  clear h hl hbW a0 hr hc
  go_enter Try.func29, Try.ntmps29
  go_wp2_with fail
  rw [← hW]
  clear hW
  obtain ⟨kb, hkb⟩ : ∃ kb, w.heap.size = kb := ⟨_, rfl⟩
  rw [hkb] at HA ⊢
  have HKB := hide hkb
  clear hkb
  go_loopw [7] (fun t wr => ∃ i : Nat, i ≤ l.length ∧ t = .int .i64 i ∧ Hid (Below W.heap.size W wr)) (fun t _ => l.length - (intOf t).toNat)
  case atStart => exact ⟨0, by omega, rfl, Below.refl _ _⟩
  case round =>
    obtain ⟨i, hi, rfl, HBr⟩ := hrel
    by_cases hlt : i < l.length
    · obtain ⟨q0, q1, _, _⟩ := HA.out.later HBr.out
      have c0 := IOwns.at_ (IOwns.later HL.out HBr.out) hlt
      obtain ⟨k, hk, hk2⟩ := HR.out i hlt
      have hnx : nx l.length i < l.length := by unfold nx; split <;> omega
      have c1 := IOwns.at_ (IOwns.later HL.out HBr.out) hnx
      obtain ⟨k', hk', hk'2⟩ := HR.out _ hnx
      have hcc := HC.out i hlt
      rw [hk, hk', Int.toNat_natCast, Int.toNat_natCast] at hcc
      rw [hk] at c0
      rw [hk'] at c1
      have j1 : (i : Int) < l.length := by omega
      have j2 : (0 : Int) ≤ i := by omega
      have t1 : ¬ (k : Int) < 0 := by omega
      have t2 : ¬ (2 * es.length : Int) ≤ k := by omega
      have t3 : ¬ (k' : Int) < 0 := by omega
      have t4 : ¬ (2 * es.length : Int) ≤ k' := by omega
      have t5 : wrap64 (2 * (es.length : Int)) = 2 * es.length := by unfold wrap64; omega
      have d1 : decide ((k : Int) < 0) = false := by simp
      have d2 : decide ((2 * es.length : Int) ≤ k) = false := by simp; omega
      have d3 : decide ((k' : Int) < 0) = false := by simp
      have d4 : decide ((2 * es.length : Int) ≤ k') = false := by simp; omega
      have C0 := cell_regrown c0
      have Q0 := cell_regrown q0
      have Q1 := cell_regrown q1
      have HT := hide (fun (U : World) (hU : Below W.heap.size W U) => to43 m p es cp k U (HH.out.later hU) hk2 hb)
      have HF := hide (fun (U : World) (hU : Below W.heap.size W U) => from50 m p es cp k' U (HH.out.later hU) hk'2 hb)
      obtain ⟨z, hz⟩ : ∃ z, toL es k = z := ⟨_, rfl⟩
      rw [hz] at hcc HT
      rw [← hcc] at HF
      obtain ⟨j, hj⟩ : ∃ j, nx l.length i = j := ⟨_, rfl⟩
      have HJ := hide hj
      rw [hj] at c1 hnx
      have C1 := cell_regrown c1
      have j3 : (j : Int) < l.length := by omega
      have j4 : (0 : Int) ≤ j := by omega
      clear hk hk' hcc hz hj
      go_upto_region 4 with fail
      go_quiet (fail)
      obtain ⟨V, hV⟩ : ∃ V, V = wr.drewN nq := ⟨_, rfl⟩
      have hbV : Below wr.heap.size wr V := by rw [hV]; exact below_drewN (Below.refl _ _)
      have HBV := hide (below_step HBr.out hbV)
      have c0' := later hbV c0
      have c1' := later hbV c1
      have q0' := later hbV q0
      have q1' := later hbV q1
      rw [← hV]
      clear hV hbV c0 c1 q0 q1 C0 C1 Q0 Q1
      have CT : ∀ dd os, Calls Try.prog 25 #[nv m p es.length cp, .int .i64 k] (grow (redrawn V dd) os) fun e w'' => e = .returned (.int .i64 z) ∧ ∃ p : Regrown, w'' = grow (redrawn V p.d) p.os := fun dd os => Calls.regrown_of (HT.out _ (below_step HBV.out (below_regrown V dd os)))
      have CF : ∀ dd os, Calls Try.prog 26 #[nv m p es.length cp, .int .i64 k'] (grow (redrawn V dd) os) fun e w'' => e = .returned (.int .i64 z) ∧ ∃ p : Regrown, w'' = grow (redrawn V p.d) p.os := fun dd os => Calls.regrown_of (HF.out _ (below_step HBV.out (below_regrown V dd os)))
      have C0 := cell_regrown c0'
      have C1 := cell_regrown c1'
      have Q0 := cell_regrown q0'
      have Q1 := cell_regrown q1'
      have HJE : Hid (j = if i + 1 = l.length then 0 else i + 1) := HJ.out.symm
      by_cases hend : i + 1 = l.length
      · rw [if_pos hend] at HJE
        have e1 : ((i : Int) + 1 == l.length) = true := by simp; omega
        have hj0 : j = 0 := HJE.out
        subst hj0
        clear hend
        go_upto_region 10 with fail
        refine wp_region_quiet_below (by kernel_rfl) (by kernel_rfl) ?_
        repeat (go_big_quiet_step (first | with_reducible exact CT _ _ | with_reducible exact CF _ _))
        refine wpQuiet_nil ?_
        intro w3 hw'
        have hb3 : Below V.heap.size V w3 := by
          obtain ⟨⟨dq, osq⟩, hw''⟩ := hw'
          rw [hw'']
          exact below_regrown V dq osq
        have HBq := hide (below_step HBV.out hb3)
        clear hw' hb3 c0' c1' q0' q1' C0 C1 Q0 Q1 CT CF
        go_wp2
        go_roundw
        case rel => exact ⟨i + 1, by omega, by go_num, HBq.out⟩
        case measure => simp [intOf]; omega
      · rw [if_neg hend] at HJE
        have e1 : ((i : Int) + 1 == l.length) = false := by simp; omega
        have hj0 : j = i + 1 := HJE.out
        subst hj0
        have e2 : ((i + 1 : Nat) : Int) = (i : Int) + 1 := by omega
        clear hend
        go_upto_region 10 with fail
        refine wp_region_quiet_below (by kernel_rfl) (by kernel_rfl) ?_
        repeat (go_big_quiet_step (first | with_reducible exact CT _ _ | with_reducible exact CF _ _))
        refine wpQuiet_nil ?_
        intro w3 hw'
        have hb3 : Below V.heap.size V w3 := by
          obtain ⟨⟨dq, osq⟩, hw''⟩ := hw'
          rw [hw'']
          exact below_regrown V dq osq
        have HBq := hide (below_step HBV.out hb3)
        clear hw' hb3 c0' c1' q0' q1' C0 C1 Q0 Q1 CT CF
        go_wp2
        go_roundw
        case rel => exact ⟨i + 1, by omega, by go_num, HBq.out⟩
        case measure => simp [intOf]; omega
    · have j1 : ¬ (i : Int) < l.length := by omega
      go_wp2
      go_ret
      exact ⟨rfl, below_step HB.out HBr.out⟩
set_option maxRecDepth 100000 in
set_option maxHeartbeats 8000000 in
theorem once30 (nodes : Bool) (m : Nat) (p : Option Addr) (es : List Pt) (cp g c B : Nat) (l : List Int) (w : World) (h : Has w p es) (hb : es.length ≤ 100000) (hl : IOwns w B (.slice (some ⟨g, 0, none⟩) l.length c) l) (hln : l.length ≤ 100000)
    (hr : ∀ i, i < l.length → ∃ k : Nat, iat l i = k ∧ k < 2 * es.length) (he : ∀ i j, i < j → j < l.length → (iat l i).toNat / 2 ≠ (iat l j).toNat / 2) (hf : nodes = true → ∀ i j, i < j → j < l.length → fromL es (iat l i).toNat ≠ fromL es (iat l j).toNat) :
    Calls Try.prog 30 #[nv m p es.length cp, .slice (some ⟨g, 0, none⟩) l.length c, .bool nodes] w fun e w' => e = .returned (.bool true) ∧ Below w.heap.size w w' := by
  obtain ⟨W, hW, hbW, a0⟩ := one_net w m p es.length cp
  have HH := hide (h.later hbW)
  have HL := hide (IOwns.later hl hbW)
  have HB := hide hbW
  have HA := hide a0
  have HR := hide hr
  have HE := hide he
  have HFF := hide hf
  clear h hl hbW a0 hr he hf
  go_enter Try.func30, Try.ntmps30
  go_wp2_with fail
  rw [← hW]
  clear hW
  obtain ⟨kb, hkb⟩ : ∃ kb, w.heap.size = kb := ⟨_, rfl⟩
  rw [hkb] at HA ⊢
  have HKB := hide hkb
  clear hkb
  go_loopw [7] (fun t wr => ∃ i : Nat, i ≤ l.length ∧ t = .int .i64 i ∧ Hid (Below W.heap.size W wr)) (fun t _ => l.length - (intOf t).toNat)
  case atStart => exact ⟨0, by omega, rfl, Below.refl _ _⟩
  case round =>
    obtain ⟨i, hi, rfl, HBr⟩ := hrel
    by_cases hlt : i < l.length
    · have j1 : (i : Int) < l.length := by omega
      have j2 : (0 : Int) ≤ i := by omega
      go_wp2_with fail
      obtain ⟨Z, hZ⟩ : ∃ Z, Z = wr := ⟨_, rfl⟩
      rw [← hZ] at HBr ⊢
      clear hZ
      go_loopw [8] (fun t wz => ∃ q : Nat, q ≤ i ∧ t = .int .i64 q ∧ Hid (Below W.heap.size W wz)) (fun t _ => i - (intOf t).toNat)
      case atStart => exact ⟨0, by omega, rfl, HBr.out⟩
      case round =>
        obtain ⟨q, hq, rfl, HBz⟩ := hrel
        by_cases hqi : q < i
        · obtain ⟨q0, q1, _, _⟩ := HA.out.later HBz.out
          have c0 := IOwns.at_ (IOwns.later HL.out HBz.out) hlt
          have c1 := IOwns.at_ (IOwns.later HL.out HBz.out) (j := q) (by omega)
          obtain ⟨k, hk, hk2⟩ := HR.out i hlt
          obtain ⟨k', hk', hk'2⟩ := HR.out q (by omega)
          have hne := HE.out q i hqi hlt
          have HNF : Hid (nodes = true → fromL es k' ≠ fromL es k) := fun hn => by have := HFF.out hn q i hqi hlt; rw [hk, hk', Int.toNat_natCast, Int.toNat_natCast] at this; exact this
          rw [hk, hk', Int.toNat_natCast, Int.toNat_natCast] at hne
          rw [hk] at c0
          rw [hk'] at c1
          have e1 : Int.tdiv (k : Int) 2 = ((k / 2 : Nat) : Int) := by rw [Int.tdiv_eq_ediv_of_nonneg (by omega)]; exact (Int.natCast_ediv k 2).symm
          have e2 : Int.tdiv (k' : Int) 2 = ((k' / 2 : Nat) : Int) := by rw [Int.tdiv_eq_ediv_of_nonneg (by omega)]; exact (Int.natCast_ediv k' 2).symm
          obtain ⟨d, hd⟩ : ∃ d, k / 2 = d := ⟨_, rfl⟩
          obtain ⟨d', hd'⟩ : ∃ d', k' / 2 = d' := ⟨_, rfl⟩
          rw [hd] at e1 hne
          rw [hd'] at e2 hne
          have e3 : ((d' : Int) == (d : Int)) = false := by simp; omega
          have e4 : d' ≤ 1000000 := by omega
          have e5 : d ≤ 1000000 := by omega
          have j3 : (q : Int) < l.length := by omega
          have j4 : (0 : Int) ≤ q := by omega
          have j5 : (q : Int) < i := by omega
          have C0 := cell_regrown c0
          have C1 := cell_regrown c1
          have Q0 := cell_regrown q0
          have Q1 := cell_regrown q1
          have CT : ∀ dd os, Calls Try.prog 26 #[nv m p es.length cp, .int .i64 k'] (grow (redrawn wr dd) os) fun e w'' => e = .returned (.int .i64 (fromL es k')) ∧ ∃ p : Regrown, w'' = grow (redrawn wr p.d) p.os := fun dd os => Calls.regrown_of (from50 m p es cp k' _ (HH.out.later (below_step HBz.out (below_regrown wr dd os))) hk'2 hb)
          have CF : ∀ dd os, Calls Try.prog 26 #[nv m p es.length cp, .int .i64 k] (grow (redrawn wr dd) os) fun e w'' => e = .returned (.int .i64 (fromL es k)) ∧ ∃ p : Regrown, w'' = grow (redrawn wr p.d) p.os := fun dd os => Calls.regrown_of (from50 m p es cp k _ (HH.out.later (below_step HBz.out (below_regrown wr dd os))) hk2 hb)
          obtain ⟨z, hz⟩ : ∃ z, fromL es k = z := ⟨_, rfl⟩
          obtain ⟨z', hz'⟩ : ∃ z', fromL es k' = z' := ⟨_, rfl⟩
          rw [hz] at CF HNF
          rw [hz'] at CT HNF
          clear hk hk' hne hz hz' hd hd'
          cases nodes
          · go_upto_region 7 with fail
            refine wp_region_quiet_below (by kernel_rfl) (by kernel_rfl) ?_
            repeat (go_big_quiet_step (first | with_reducible exact CT _ _ | with_reducible exact CF _ _))
            refine wpQuiet_nil ?_
            intro w3 hw'
            have hb3 : Below wr.heap.size wr w3 := by
              obtain ⟨⟨dq, osq⟩, hw''⟩ := hw'
              rw [hw'']
              exact below_regrown wr dq osq
            have HBq := hide (below_step HBz.out hb3)
            clear hw' hb3 c0 c1 q0 q1 C0 C1 Q0 Q1 CT CF
            go_wp2
            go_roundw
            case rel => exact ⟨q + 1, by omega, by go_num, HBq.out⟩
            case measure => simp [intOf]; omega
          · have hzz : ¬ z' = z := HNF.out rfl
            have e6 : (z' == z) = false := by simp [hzz]
            clear hzz
            go_upto_region 7 with fail
            refine wp_region_quiet_below (by kernel_rfl) (by kernel_rfl) ?_
            repeat (go_big_quiet_step (first | with_reducible exact CT _ _ | with_reducible exact CF _ _))
            refine wpQuiet_nil ?_
            intro w3 hw'
            have hb3 : Below wr.heap.size wr w3 := by
              obtain ⟨⟨dq, osq⟩, hw''⟩ := hw'
              rw [hw'']
              exact below_regrown wr dq osq
            have HBq := hide (below_step HBz.out hb3)
            clear hw' hb3 c0 c1 q0 q1 C0 C1 Q0 Q1 CT CF
            go_wp2
            go_roundw
            case rel => exact ⟨q + 1, by omega, by go_num, HBq.out⟩
            case measure => simp [intOf]; omega
        · have j5 : ¬ (q : Int) < i := by omega
          go_wp2
          go_roundw
          case rel => exact ⟨i + 1, by omega, by go_num, HBz.out⟩
          case measure => simp [intOf]; omega
    · have j1 : ¬ (i : Int) < l.length := by omega
      go_wp2
      go_ret
      exact ⟨rfl, below_step HB.out HBr.out⟩
end Go.Proofs.Ytghffodjffkijaa

/- The way round that a half-edge beside a tree closes with it: it goes round, each edge once; how long it is. -/
namespace Go.Proofs.Ytghffodjffkijaa
open Go.RowKit Go.Sort
open Go
variable {es : List Pt} {n : Nat} {st : St}

/-- Half-edges, one behind the other, from a node to a node. -/
def Way (es : List Pt) : List Int → Nat → Nat → Prop
  | [], a, b => a = b
  | h :: l, a, b => ∃ (k c : Nat), h = k ∧ k < 2 * es.length ∧ fromL es k = a ∧ toL es k = c ∧ Way es l c b
theorem Way.app {l : List Int} : ∀ {r : List Int} {a b c : Nat}, Way es l a b → Way es r b c → Way es (l ++ r) a c := by
  induction l with
  | nil => intro r a b c h k; cases h; exact k
  | cons h l ih =>
    intro r a b c hw k
    obtain ⟨q, d, e1, e2, e3, e4, e5⟩ := hw
    exact ⟨q, d, e1, e2, e3, e4, ih e5 k⟩
theorem Way.one {k a b : Nat} (h1 : k < 2 * es.length) (h2 : fromL es k = a) (h3 : toL es k = b) : Way es [(k : Int)] a b := ⟨k, b, rfl, h1, h2, h3, rfl⟩
theorem Way.at_ {l : List Int} : ∀ {a b : Nat}, Way es l a b → ∀ i, i < l.length → ∃ k : Nat, iat l i = k ∧ k < 2 * es.length := by
  induction l with
  | nil => intro a b _ i hi; simp at hi
  | cons h l ih =>
    intro a b hw i hi
    obtain ⟨q, d, e1, e2, _, _, e5⟩ := hw
    cases i with
    | zero => exact ⟨q, by simp [iat, e1], e2⟩
    | succ i => exact ih e5 i (by simpa using hi)
theorem Way.next {l : List Int} : ∀ {a b : Nat}, Way es l a b → ∀ i, i + 1 < l.length → toL es (iat l i).toNat = fromL es (iat l (i + 1)).toNat := by
  induction l with
  | nil => intro a b _ i hi; simp at hi
  | cons h l ih =>
    intro a b hw i hi
    obtain ⟨q, d, e1, e2, e3, e4, e5⟩ := hw
    cases i with
    | zero =>
      cases l with
      | nil => simp at hi
      | cons h2 l2 =>
        obtain ⟨q2, d2, f1, f2, f3, f4, f5⟩ := e5
        simp only [iat, List.getD_cons_zero, List.getD_cons_succ, Nat.zero_add]
        rw [e1, f1, Int.toNat_natCast, Int.toNat_natCast, e4, f3]
    | succ i => exact ih e5 i (by simpa using hi)
theorem Way.first {l : List Int} {a b : Nat} (h : Way es l a b) (hl : 0 < l.length) : fromL es (iat l 0).toNat = a := by
  cases l with
  | nil => simp at hl
  | cons h2 l2 =>
    obtain ⟨q, d, e1, e2, e3, e4, e5⟩ := h
    simp only [iat, List.getD_cons_zero]
    rw [e1, Int.toNat_natCast, e3]
theorem Way.last {l : List Int} : ∀ {a b : Nat}, Way es l a b → 0 < l.length → toL es (iat l (l.length - 1)).toNat = b := by
  induction l with
  | nil => intro a b _ hl; simp at hl
  | cons h l ih =>
    intro a b hw _
    obtain ⟨q, d, e1, e2, e3, e4, e5⟩ := hw
    cases l with
    | nil => cases e5; simp only [iat, List.length_cons, List.length_nil, Nat.zero_add, Nat.sub_self, List.getD_cons_zero]; rw [e1, Int.toNat_natCast, e4]
    | cons h2 l2 => exact ih e5 (by simp)
/-- What clo makes: the nodes gone up from on either side, and where they meet. -/
theorem clo_spec (t : Tree es n st) : ∀ (k en sa : Nat) (cy dn : List Int), en < n → sa < n → 0 ≤ iat st.Fa en → 0 ≤ iat st.Fa sa → root es st en = root es st sa → iat st.Fa en + iat st.Fa sa ≤ k →
    ∃ (U D : List Nat) (z : Nat), clo es st k en sa cy dn = (cy ++ U.map (fun x => twn (iat st.By x)), dn ++ D.map (fun x => iat st.By x)) ∧ (U ++ D).Nodup ∧ (∀ x, x ∈ U → x < n ∧ 0 < iat st.Fa x ∧ iat st.Fa x ≤ iat st.Fa en) ∧ (∀ y, y ∈ D → y < n ∧ 0 < iat st.Fa y ∧ (y = sa ∨ iat st.Fa y < iat st.Fa sa)) ∧
      Way es (U.map (fun x => twn (iat st.By x))) en z ∧ Way es (D.map (fun x => iat st.By x)).reverse z sa ∧ (U.length : Int) + iat st.Fa z = iat st.Fa en ∧ (D.length : Int) + iat st.Fa z = iat st.Fa sa
  | 0, en, sa, cy, dn, h1, h2, h3, h4, h5, h6 => by
    have he : en = sa := by
      have r1 := root_zero (es := es) (st := st) (v := en) (by omega)
      have r2 := root_zero (es := es) (st := st) (v := sa) (by omega)
      rw [r1, r2] at h5
      exact h5
    subst he
    exact ⟨[], [], en, by simp [clo], by simp, fun x hx => by simp at hx, fun x hx => by simp at hx, rfl, rfl, by simp, by simp⟩
  | k + 1, en, sa, cy, dn, h1, h2, h3, h4, h5, h6 => by
    by_cases he : en = sa
    · subst he
      exact ⟨[], [], en, by simp [clo], by simp, fun x hx => by simp at hx, fun x hx => by simp at hx, rfl, rfl, by simp, by simp⟩
    · by_cases hf : iat st.Fa sa ≤ iat st.Fa en
      · have hup := has_up h3 h4 h5 he hf
        obtain ⟨q, q1, q2, q3, q4, q5, q6, q7, q8⟩ := root_par t h1 hup
        obtain ⟨U, D, z, e1, e2, e3, e4, e5, e6, e7, e8⟩ := clo_spec t k (par es st en) sa (cy ++ [twn (iat st.By en)]) dn q5 h2 q7 h4 (by rw [q8]; exact h5) (by omega)
        obtain ⟨j, hj, hj2⟩ := twn_in q1
        have f1 := twn_from es q
        have f2 := twn_to es q
        rw [hj, Int.toNat_natCast] at f1 f2
        refine ⟨en :: U, D, z, ?_, ?_, ?_, e4, ?_, e6, ?_, e8⟩
        · rw [clo_up he hf, e1]; simp
        · rw [List.cons_append, List.nodup_cons]
          refine ⟨fun hm => ?_, e2⟩
          rcases List.mem_append.1 hm with hm | hm
          · have := (e3 en hm).2.2; omega
          · rcases (e4 en hm).2.2 with hh | hh
            · exact he hh
            · omega
        · intro x hx
          rcases List.mem_cons.1 hx with hx | hx
          · rw [hx]; exact ⟨h1, hup, Int.le_refl _⟩
          · have := e3 x hx; exact ⟨this.1, this.2.1, by omega⟩
        · refine ⟨j, par es st en, by show twn (iat st.By en) = j; rw [q2]; exact hj, hj2, by rw [f1, q3], by rw [f2, q4], e5⟩
        · rw [List.length_cons]; omega
      · have hup : 0 < iat st.Fa sa := by omega
        obtain ⟨q, q1, q2, q3, q4, q5, q6, q7, q8⟩ := root_par t h2 hup
        obtain ⟨U, D, z, e1, e2, e3, e4, e5, e6, e7, e8⟩ := clo_spec t k en (par es st sa) cy (dn ++ [iat st.By sa]) h1 q5 h3 q7 (by rw [q8]; exact h5) (by omega)
        have e4' : ∀ y, y ∈ D → iat st.Fa y < iat st.Fa sa := fun y hy => by
          rcases (e4 y hy).2.2 with hh | hh
          · rw [hh]; omega
          · omega
        refine ⟨U, sa :: D, z, ?_, ?_, e3, ?_, e5, ?_, e7, ?_⟩
        · rw [clo_down he hf, e1]; simp
        · rw [List.nodup_append] at e2 ⊢
          refine ⟨e2.1, ?_, ?_⟩
          · rw [List.nodup_cons]; exact ⟨fun hm => by have := e4' sa hm; omega, e2.2.1⟩
          · intro a ha b hb
            rcases List.mem_cons.1 hb with hb | hb
            · rw [hb]; intro e; rw [e] at ha; have := (e3 sa ha).2.2; omega
            · exact e2.2.2 a ha b hb
        · intro y hy
          rcases List.mem_cons.1 hy with hy | hy
          · rw [hy]; exact ⟨h2, hup, Or.inl rfl⟩
          · exact ⟨(e4 y hy).1, (e4 y hy).2.1, Or.inr (e4' y hy)⟩
        · rw [List.map_cons, List.reverse_cons]
          refine Way.app e6 ?_
          rw [q2]
          exact Way.one q1 q4 q3
        · rw [List.length_cons]; omega
/-- A way round: closed, each edge once. -/
structure Loop (es : List Pt) (l : List Int) : Prop where
  pos : 0 < l.length
  way : ∃ a, Way es l a a
  once : ∀ i j, i < j → j < l.length → (iat l i).toNat / 2 ≠ (iat l j).toNat / 2
/-- The edges by which unlike nodes were found are unlike. -/
theorem by_unlike (t : Tree es n st) {x y : Nat} (hx : x < n) (hy : y < n) (fx : 0 < iat st.Fa x) (fy : 0 < iat st.Fa y) (hne : x ≠ y) : (iat st.By x).toNat / 2 ≠ (iat st.By y).toNat / 2 := by
  obtain ⟨q, q1, q2, q3, q4, q5, q6, _⟩ := root_par t hx fx
  obtain ⟨r, r1, r2, r3, r4, r5, r6, _⟩ := root_par t hy fy
  rw [q2, r2, Int.toNat_natCast, Int.toNat_natCast]
  intro e
  by_cases eq : q = r
  · rw [eq] at q3
    rw [q3] at r3
    exact hne (by omega)
  · -- one is the other's twin: each is the other's parent
    have htw : (q % 2 = 0 ∧ r % 2 = 1) ∨ (q % 2 = 1 ∧ r % 2 = 0) := by omega
    have f1 : fromL es q = toL es r := by
      unfold fromL toL
      rw [e]
      rcases htw with ⟨a, b⟩ | ⟨a, b⟩
      · rw [if_pos a, if_neg (by omega)]
      · rw [if_neg (by omega), if_pos b]
    have f2 : fromL es r = toL es q := by
      unfold fromL toL
      rw [e]
      rcases htw with ⟨a, b⟩ | ⟨a, b⟩
      · rw [if_neg (by omega), if_pos a]
      · rw [if_pos b, if_neg (by omega)]
    rw [q4, r3] at f1
    rw [r4, q3] at f2
    have e1 : par es st x = y := by omega
    have e2 : par es st y = x := by omega
    rw [e1] at q6
    rw [e2] at r6
    omega
theorem twn_half (k : Nat) : (twn (k : Int)).toNat / 2 = k / 2 := by
  unfold twn
  split <;> omega
theorem pairwise_at {l : List Int} {R : Int → Int → Prop} (h : l.Pairwise R) : ∀ i j, i < j → j < l.length → R (iat l i) (iat l j) := by
  intro i j hij hj
  rw [List.pairwise_iff_getElem] at h
  have := h i j (by omega) hj hij
  unfold iat
  rw [List.getD_eq_getElem?_getD, List.getElem?_eq_getElem (by omega), List.getD_eq_getElem?_getD, List.getElem?_eq_getElem hj]
  exact this
/-- What closes with the tree: a way round, so long. -/
theorem cloL_loop (t : Tree es n st) {h a b : Nat} (hh : h < 2 * es.length) (hto : toL es h = a) (hfr : fromL es h = b) (ha : a < n) (hb : b < n) (fa : 0 ≤ iat st.Fa a) (fb : 0 ≤ iat st.Fa b) (hr : root es st a = root es st b) (hn : ∀ x, x < n → 0 < iat st.Fa x → (iat st.By x).toNat / 2 ≠ h / 2) :
    Loop es (cloL es st h) ∧ ∃ z : Int, 0 ≤ z ∧ ((cloL es st h).length : Int) = 1 + iat st.Fa a + iat st.Fa b - 2 * z := by
  obtain ⟨U, D, z, e1, e2, e3, e4, e5, e6, e7, e8⟩ := clo_spec t ((iat st.Fa a).toNat + (iat st.Fa b).toNat) a b [(h : Int)] [] ha hb fa fb hr (by omega)
  have ec : cloL es st h = ([(h : Int)] ++ U.map (fun x => twn (iat st.By x))) ++ (D.map (fun x => iat st.By x)).reverse := by
    unfold cloL
    rw [hto, hfr, Int.toNat_natCast, Int.toNat_natCast, e1]
    simp
  have len : ((cloL es st h).length : Int) = 1 + U.length + D.length := by rw [ec]; simp; omega
  have fz : 0 ≤ iat st.Fa z := by
    cases D with
    | nil => have : (0 : Int) + iat st.Fa z = iat st.Fa b := by simpa using e8
             omega
    | cons d D' =>
      -- z is found: it lies above b
      rcases Int.lt_or_le (iat st.Fa z) 0 with hz | hz
      · exfalso
        have hlast := e4
        have hw := e6
        rw [List.map_cons, List.reverse_cons] at hw
        have : ∀ (l : List Nat) (c : Nat), (∀ y, y ∈ l → y < n ∧ 0 < iat st.Fa y) → Way es (l.map (fun x => iat st.By x)).reverse z c → l ≠ [] → 0 ≤ iat st.Fa z := by
          intro l
          induction l with
          | nil => intro c _ _ hne; exact absurd rfl hne
          | cons y l ih =>
            intro c hy hw _
            rw [List.map_cons, List.reverse_cons] at hw
            cases l with
            | nil =>
              obtain ⟨q, c', g1, g2, g3, g4, g5⟩ := hw
              obtain ⟨y1, y2⟩ := hy y (by simp)
              obtain ⟨q', q1, q2, q3, q4, q5, q6, q7, _⟩ := root_par t y1 y2
              have g1' : iat st.By y = q := g1
              rw [q2] at g1'
              have eq : q' = q := by omega
              rw [← eq, q4] at g3
              have : par es st y = z := by omega
              rw [← this]; exact q7
            | cons y2 l2 =>
              have : ∃ c2, Way es ((y2 :: l2).map (fun x => iat st.By x)).reverse z c2 := by
                have split : ∀ (p r : List Int) (a c : Nat), Way es (p ++ r) a c → ∃ b, Way es p a b := by
                  intro p
                  induction p with
                  | nil => intro r a c _; exact ⟨a, rfl⟩
                  | cons h p ih2 =>
                    intro r a c hw2
                    obtain ⟨q, d, g1, g2, g3, g4, g5⟩ := hw2
                    obtain ⟨b, hb2⟩ := ih2 r d c g5
                    exact ⟨b, q, d, g1, g2, g3, g4, hb2⟩
                exact split _ _ _ _ hw
              obtain ⟨c2, hc2⟩ := this
              exact ih c2 (fun y' hy' => hy y' (List.mem_cons_of_mem _ hy')) hc2 (by simp)
        have := this (d :: D') b (fun y hy => ⟨(e4 y hy).1, (e4 y hy).2.1⟩) e6 (by simp)
        omega
      · exact hz
  refine ⟨⟨by omega, ⟨b, ?_⟩, ?_⟩, iat st.Fa z, fz, by omega⟩
  · rw [ec]
    exact ((Way.one hh hfr hto).app e5).app e6
  · -- each edge once
    have key : ((cloL es st h).map (fun x => x.toNat / 2)).Nodup := by
      rw [ec]
      have m1 : ([(h : Int)] ++ U.map (fun x => twn (iat st.By x)) ++ (D.map (fun x => iat st.By x)).reverse).map (fun x => x.toNat / 2) = (h / 2) :: ((U.map (fun x => (iat st.By x).toNat / 2)) ++ (D.map (fun x => (iat st.By x).toNat / 2)).reverse) := by
        simp only [List.map_append, List.map_cons, List.map_reverse, List.map_map, List.cons_append, List.nil_append, Int.toNat_natCast]
        congr 2
        apply List.map_congr_left
        intro x hx
        obtain ⟨x1, x2, _⟩ := e3 x hx
        obtain ⟨q, _, q2, _⟩ := root_par t x1 x2
        show (twn (iat st.By x)).toNat / 2 = _
        rw [q2, twn_half, Int.toNat_natCast]
      rw [m1, List.nodup_cons]
      refine ⟨fun hm => ?_, ?_⟩
      · rcases List.mem_append.1 hm with hm | hm
        · obtain ⟨x, hx, hxe⟩ := List.mem_map.1 hm
          exact hn x (e3 x hx).1 (e3 x hx).2.1 hxe
        · obtain ⟨x, hx, hxe⟩ := List.mem_map.1 (List.mem_reverse.1 hm)
          exact hn x (e4 x hx).1 (e4 x hx).2.1 hxe
      · have inj : ((U ++ D).map (fun x => (iat st.By x).toNat / 2)).Nodup := by
          rw [List.nodup_iff_pairwise_ne, List.pairwise_map]
          refine List.Pairwise.imp_of_mem ?_ e2
          intro x y hx hy hxy
          have ok : ∀ v, v ∈ U ++ D → v < n ∧ 0 < iat st.Fa v := fun v hv => by
            rcases List.mem_append.1 hv with hv | hv
            · exact ⟨(e3 v hv).1, (e3 v hv).2.1⟩
            · exact ⟨(e4 v hv).1, (e4 v hv).2.1⟩
          exact by_unlike t (ok x hx).1 (ok y hy).1 (ok x hx).2 (ok y hy).2 hxy
        rw [List.map_append, List.nodup_append] at inj
        rw [List.nodup_append]
        exact ⟨inj.1, by rw [List.nodup_iff_pairwise_ne, List.pairwise_reverse]; exact (List.nodup_iff_pairwise_ne.1 inj.2.1).imp (fun h => h.symm), fun a ha b hb => inj.2.2 a ha b (List.mem_reverse.1 hb)⟩
    rw [List.nodup_iff_pairwise_ne, List.pairwise_map] at key
    exact pairwise_at key
end Go.Proofs.Ytghffodjffkijaa

namespace Go.Proofs.Ytghffodjffkijaa
open Go.RowKit Go.Sort
open Go
variable {es : List Pt} {n : Nat} {st : St}

/-- The least node of a component begins its tree. -/
theorem every_zero (hm : netB n es = true) : ∀ s, s ≤ n → ∀ v, v < n → 0 ≤ iat (everyN es n s).Fa v → (∀ u, u < v → ¬ Conn es u v) → iat (everyN es n s).Fa v = 0
  | 0, _, v, hv, h0, _ => by
    have h0' : 0 ≤ iat (List.replicate n (-1 : Int)) v := h0
    rw [iat_fill hv] at h0'
    omega
  | s + 1, hs, v, hv, h0, hl => by
    have ih := every_zero hm s (by omega) v hv
    obtain ⟨c, hall⟩ := everyN_shut (es := es) hm s (by omega)
    revert h0
    simp only [everyN]
    split
    · rename_i hneg
      obtain ⟨st, hst⟩ : ∃ st, everyN es n s = st := ⟨_, rfl⟩
      rw [hst] at ih c hall hneg ⊢
      obtain ⟨c1, c2, c3⟩ := c.walk hm (by omega) hneg
      obtain ⟨x1, x2⟩ := c.walkR hm (by omega) hneg
      obtain ⟨T, hT⟩ : ∃ T, bfs es n st.O.length (begin_ st s) = T := ⟨_, rfl⟩
      rw [hT] at c1 c2 c3 x1 x2 ⊢
      have hsn : s < n := by omega
      intro h0
      by_cases e : v = s
      · have hF : iat (begin_ st s).Fa s = 0 := iat_put (by rw [c.ok.lf]; exact hsn)
        rw [e, (x1.old s (by rw [hF]; omega)).1, hF]
      · by_cases ho : 0 ≤ iat st.Fa v
        · have hb : iat (begin_ st s).Fa v = iat st.Fa v := by show iat (st.Fa.set s 0) v = _; rw [iat_put_ne e]
          rw [(x1.old v (by rw [hb]; exact ho)).1, hb]
          exact ih ho hl
        · exfalso
          have hr := (x2 v hv h0).resolve_left ho
          obtain ⟨k, hk⟩ : ∃ k : Nat, iat T.Fa v = k := ⟨(iat T.Fa v).toNat, by omega⟩
          have h1 := conn_root c1.tree k v hv hk
          rw [hr] at h1
          rcases Nat.lt_or_ge v s with hlt | hge
          · exact ho (hall v hlt)
          · exact hl s (by omega) h1
    · intro h0
      exact ih h0 hl
/-- A row of bools. -/
def BRow (w : World) (base g n : Nat) (l : List Bool) : Prop := l.length = n ∧ w.ownsRow base 4 1 (.slice (some ⟨g, 0, none⟩) n n) n (l.map Value.bool)
theorem BRow.later {w w' : World} {base g n : Nat} {l : List Bool} (h : BRow w base g n l) (hb : Below w.heap.size w w') : BRow w' base g n l := ⟨h.1, World.ownsRow.kept h.2 (grown_below hb) (Or.inr (by simp [Value.ownBlock]))⟩
theorem BRow.cell {w : World} {base g n : Nat} {l : List Bool} (h : BRow w base g n l) {j : Nat} (hj : j < n) : w.cell? ⟨g, j, none⟩ = some (.bool (l.getD j false)) ∧ w.frozen? ⟨g, j, none⟩ = false := by
  refine ⟨?_, World.ownsRow.frozenAt h.2 j⟩
  rw [World.ownsRow.cellAt h.2 j (by omega), List.getElem?_map, List.getD_eq_getElem?_getD, List.getElem?_eq_getElem (by rw [h.1]; exact hj)]
  rfl
theorem BRow.set {w : World} {base g n : Nat} {l : List Bool} (h : BRow w base g n l) (j : Nat) (x : Bool) : BRow (w.setCell ⟨g, j, none⟩ (.bool x)) base g n (l.set j x) := by
  refine ⟨by rw [List.length_set]; exact h.1, ?_⟩
  have := (World.ownsRow.stored h.2 j (.bool x)).1
  rw [List.map_set]
  exact this
theorem brow_made {w : World} {base g n : Nat} (h : w.ownsRow base 4 1 (.slice (some ⟨g, 0, none⟩) n n) n (madeCells #[.bool false] n).toList) : BRow w base g n (List.replicate n false) := by
  rw [toList_madeCells_one] at h
  refine ⟨List.length_replicate, ?_⟩
  rw [List.map_replicate]
  exact h
/-- Which labels have come. -/
def snL (C : List Int) (k : Nat) : Nat → List Bool
  | 0 => List.replicate k false
  | v + 1 => (snL C k v).set (iat C v).toNat true
theorem snL_len (C : List Int) (k : Nat) : ∀ v, (snL C k v).length = k
  | 0 => by simp [snL]
  | v + 1 => by simp only [snL, List.length_set]; exact snL_len C k v
theorem snL_no (C : List Int) (k j : Nat) (hj : j < k) : ∀ v, (snL C k v).getD j false = false → ∀ u, u < v → (iat C u).toNat ≠ j
  | 0, _ => fun u hu => by omega
  | v + 1, h => by
    intro u hu e
    simp only [snL] at h
    by_cases ev : (iat C v).toNat = j
    · rw [ev, List.getD_eq_getElem?_getD, List.getElem?_set_self (by rw [snL_len]; exact hj)] at h
      simp at h
    · rw [List.getD_eq_getElem?_getD, List.getElem?_set_ne ev, ← List.getD_eq_getElem?_getD] at h
      have ih := snL_no C k j hj v h
      by_cases eu : u = v
      · rw [eu] at e; exact ev e
      · exact ih u (by omega) e
set_option maxRecDepth 100000 in
set_option maxHeartbeats 8000000 in
theorem sides_no (n : Int) (p : Option Addr) (es : List Pt) (cp : Nat) (w : World) (h : Has w p es) (hm : netB n es = false) : Calls Try.prog 6 #[nv n p es.length cp] w fun e w' => e = .returned (.bool true) ∧ Below w.heap.size w w' := by
  obtain ⟨W, hW, hb, a0⟩ := one_net w n p es.length cp
  have SD : Hid (∀ V, Has V p es → Calls Try.prog 28 #[nv n p es.length cp] V fun e w' => e = .returned (.tuple #[nilS, nilS, .int .i64 1]) ∧ Below V.heap.size V w') := fun V hV => sides28no n p es cp V hV hm
  have MY : Hid (∀ V, Has V p es → Calls Try.prog 12 #[nv n p es.length cp] V fun e w' => e = .returned (.bool false) ∧ Below V.heap.size V w') := fun V hV => by have := may12 n p es cp V hV; rw [hm] at this; exact this
  have BG := hide (begun9 W)
  have HH := hide (h.later hb)
  have HB := hide hb
  have HA := hide a0
  clear h hb a0 hm
  go_enter Try.func6, Try.ntmps6
  go_wp2_with fail
  rw [← hW]
  clear hW
  refine BG.out.mono ?_
  rintro e w1 ⟨rfl, hb1⟩
  have C1 := hide (SD.out w1 (HH.out.later hb1))
  have HH1 := hide (HH.out.later hb1)
  have HB1 := hide (below_step HB.out hb1)
  have HA1 := hide (HA.out.later hb1)
  obtain ⟨q0, q1, _, _⟩ := HA1.out
  clear hb1 BG
  go_wp2_with fail
  refine C1.out.mono ?_
  rintro e w2 ⟨rfl, hb2⟩
  have C2 := hide (MY.out w2 (HH1.out.later hb2))
  have HB2 := hide (below_step HB1.out hb2)
  have HA2 := hide (HA1.out.later hb2)
  clear q0 q1 C1 hb2
  obtain ⟨q0, q1, _, _⟩ := HA2.out
  go_wp2_with fail
  refine C2.out.mono ?_
  rintro e w3 ⟨rfl, hb3⟩
  have HB3 := hide (below_step HB2.out hb3)
  clear hb3 C2 q0 q1
  go_wp2
  go_ret
  exact ⟨rfl, HB3.out⟩
/-- What is told of the sides. -/
structure SideOk (es : List Pt) (m : Nat) (Fa C : List Int) (k : Nat) : Prop where
  lab : ∀ v, v < m → 0 ≤ iat C v ∧ iat C v < k
  first : ∀ v, v < m → (∀ u, u < v → iat C u ≠ iat C v) → iat Fa v = 0
  pos : ∀ v, v < m → 0 ≤ iat Fa v
theorem side_ok {m : Nat} (hm : netB m es = true) {k : Nat} {C : List Int} {r : Nat → Nat} (L : Lab es m k m C r NoDue) : SideOk es m (everyN es m m).Fa C k where
  lab v hv := by have := L.done v hv hv; have := L.val v hv; omega
  first v hv h := every_zero hm m (Nat.le_refl _) v hv ((everyN_shut (es := es) hm m (Nat.le_refl _)).2 v hv) (fun u hu hc => h u hu ((L.conn hm (by omega) hv).2 hc))
  pos v hv := (everyN_shut (es := es) hm m (Nat.le_refl _)).2 v hv
/-- The way round that Sides tells: closed, each edge once, and odd. -/
theorem odd_loop {m e : Nat} (hm : netB m es = true) (he : e < es.length) (ha : alike es (everyN es m m).Fa e) : Loop es (cloL es (everyN es m m) (2 * e)) ∧ (cloL es (everyN es m m) (2 * e)).length % 2 = 1 ∧ (cloL es (everyN es m m) (2 * e)).length ≤ 4096 := by
  obtain ⟨n0, n1, hes, hE⟩ := netB_is hm
  obtain ⟨c, hall⟩ := everyN_shut (es := es) hm m (Nat.le_refl _)
  obtain ⟨x0, x1, y0, y1⟩ := hE e he
  obtain ⟨x, hx⟩ : ∃ x : Nat, (at' es e).x = x := ⟨(at' es e).x.toNat, by omega⟩
  obtain ⟨y, hy⟩ : ∃ y : Nat, (at' es e).y = y := ⟨(at' es e).y.toNat, by omega⟩
  unfold alike at ha
  rw [hx, hy, Int.toNat_natCast, Int.toNat_natCast] at ha
  generalize everyN es m m = T at *
  have f1 : fromL es (2 * e) = x := by unfold fromL; rw [if_pos (by omega), show 2 * e / 2 = e by omega, hx]
  have t1 : toL es (2 * e) = y := by unfold toL; rw [if_pos (by omega), show 2 * e / 2 = e by omega, hy]
  have fx := hall x (by omega)
  have fy := hall y (by omega)
  have hr := (c.all (2 * e) x y (by omega) f1 t1 fx).2
  obtain ⟨L, z, hz, hlen⟩ := cloL_loop c.tree (by omega : 2 * e < 2 * es.length) t1 f1 (by omega) (by omega) fy fx hr.symm (fun v hv h0 heq => by
    obtain ⟨q, q1, q2, q3, q4, q5, q6, _⟩ := root_par c.tree hv h0
    rw [q2, Int.toNat_natCast] at heq
    have hqe : q / 2 = e := by omega
    unfold toL at q3
    unfold fromL at q4
    rw [hqe] at q3 q4
    by_cases h2 : q % 2 = 0
    · rw [if_pos h2, hy] at q3
      rw [if_pos h2, hx] at q4
      have e1 : y = v := by omega
      have e2 : x = par es T v := by omega
      rw [e1, e2] at ha
      omega
    · rw [if_neg h2, hx] at q3
      rw [if_neg h2, hy] at q4
      have e1 : x = v := by omega
      have e2 : y = par es T v := by omega
      rw [e1, e2] at ha
      omega)
  have v1 := c.ok.val x (by omega)
  have v2 := c.ok.val y (by omega)
  have hc := c.ok.cnt
  exact ⟨L, by omega, by omega⟩
theorem loop_next {l : List Int} (h : Loop es l) : ∀ i, i < l.length → toL es (iat l i).toNat = fromL es (iat l (nx l.length i)).toNat := by
  intro i hi
  obtain ⟨a, hw⟩ := h.way
  unfold nx
  by_cases e : i + 1 = l.length
  · rw [if_pos e, hw.first h.pos]
    have := hw.last h.pos
    rw [show l.length - 1 = i by omega] at this
    exact this
  · rw [if_neg e]
    exact hw.next i (by omega)
theorem loop_in {l : List Int} (h : Loop es l) : ∀ i, i < l.length → ∃ k : Nat, iat l i = k ∧ k < 2 * es.length := by
  obtain ⟨a, hw⟩ := h.way
  exact hw.at_
set_option maxRecDepth 100000 in
set_option maxHeartbeats 8000000 in
theorem sides_yes (m : Nat) (p : Option Addr) (es : List Pt) (cp : Nat) (w : World) (h : Has w p es) (hm : netB m es = true) : Calls Try.prog 6 #[nv m p es.length cp] w fun e w' => e = .returned (.bool true) ∧ Below w.heap.size w w' := by
  obtain ⟨W, hW, hb, a0⟩ := one_net w m p es.length cp
  obtain ⟨i0, hi0, hz0, hz1, hz2⟩ := info_parts info4
  obtain ⟨n0, n1, hes, hE⟩ := netB_is hm
  have SD : Hid (∀ V, Has V p es → Calls Try.prog 28 #[nv m p es.length cp] V fun e w' => ∃ a b, e = .returned (.tuple #[a, b, .int .i64 0]) ∧ SidesPost w' V.heap.size m es (everyN es m m) a b ∧ Below V.heap.size V w') := fun V hV => sides28 m p es cp V hV hm
  have MY : Hid (∀ V, Has V p es → Calls Try.prog 12 #[nv m p es.length cp] V fun e w' => e = .returned (.bool true) ∧ Below V.heap.size V w') := fun V hV => by have := may12 m p es cp V hV; rw [hm] at this; exact this
  have PA : Hid (∀ V, Has V p es → Calls Try.prog 20 #[nv m p es.length cp, .slice none 0 0, .slice none 0 0] V fun e w' => PartsPost es m V e w') := fun V hV => parts19 m p es cp V hV hm
  have BG := hide (begun9 W)
  have HH := hide (h.later hb)
  have HB := hide hb
  have HA := hide a0
  have HM := hide hm
  have HE := hide hE
  clear h hb a0 hm hE
  go_enter Try.func6, Try.ntmps6
  go_wp2_with fail
  rw [← hW]
  clear hW
  refine BG.out.mono ?_
  rintro e w1 ⟨rfl, hb1⟩
  have C1 := hide (SD.out w1 (HH.out.later hb1))
  have HH1 := hide (HH.out.later hb1)
  have HB1 := hide (below_step HB.out hb1)
  have HA1 := hide (HA.out.later hb1)
  obtain ⟨q0, q1, _, _⟩ := HA1.out
  clear hb1 BG
  go_wp2_with fail
  refine C1.out.mono ?_
  rintro e w2 ⟨sa, sb, rfl, hpost, hb2⟩
  have C2 := hide (MY.out w2 (HH1.out.later hb2))
  have HH2 := hide (HH1.out.later hb2)
  have HB2 := hide (below_step HB1.out hb2)
  have HA2 := hide (HA1.out.later hb2)
  clear q0 q1 C1 hb2
  obtain ⟨q0, q1, _, _⟩ := HA2.out
  rcases hpost with ⟨hno, rfl, ga, rfl, hga⟩ | ⟨ed, hed, _, hal, rfl, hob⟩
  · -- the sides
    go_wp2_with fail
    refine C2.out.mono ?_
    rintro e w3 ⟨rfl, hb3⟩
    have HH3 := hide (HH2.out.later hb3)
    have HB3 := hide (below_step HB2.out hb3)
    have HA3 := hide (HA2.out.later hb3)
    have HG3 := hide (hga.later hb3)
    have HNO := hide hno
    have C3 := hide (PA.out w3 HH3.out)
    clear hb3 C2 q0 q1 hga hno
    obtain ⟨q0, q1, _, _⟩ := HA3.out
    go_wp2_with fail
    refine C3.out.mono ?_
    rintro e X ⟨gc, k, C, r, rfl, hC, hL, hbX⟩
    have SO := hide (side_ok HM.out hL)
    have HHX := hide (HH3.out.later hbX)
    have HBX := hide (below_step HB3.out hbX)
    have HAX := hide (HA3.out.later hbX)
    have HGX := hide (HG3.out.later hbX)
    have HCX := hide hC
    have hkm : k ≤ m := by
      rcases Nat.eq_zero_or_pos k with h | h
      · omega
      · have := (hL.root (k - 1) (by omega)).2
        have r1 := (hL.root (k - 1) (by omega)).1
        have : ∀ j, j < k → j ≤ r j := by
          intro j
          induction j with
          | zero => intro _; omega
          | succ j ih => intro hj; have := hL.inc j (j + 1) (by omega) hj; have := ih (by omega); omega
        have := this (k - 1) (by omega)
        omega
    generalize everyN es m m = T at *
    clear C3 hC hL hbX q0 q1 HH3 HB3 HA3 HG3
    go_wp2_with (refine wpList_make_full _ rfl (.tmp 73) (.tmp 73) 55 rfl X.heap.size 4 i0 (.bool false) 1 Try.underlying55 hi0 hz0 hz1 .i64 .i64 _ _ k rfl rfl rfl rfl ?c1 ?c2 ?c3 ?_)
    case c1 => rw [hz2]; omega
    case c2 => unfold maxLen; omega
    case c3 => exact Nat.le_refl _
    intro Y hown hgrow
    have HS := hide (brow_made hown)
    have HBXY := hide (below_made hgrow)
    clear hown hgrow
    go_wp2_with fail
    obtain ⟨gs, hgs⟩ : ∃ g, X.heap.size = g := ⟨_, rfl⟩
    have HGS := hide hgs
    have HSS : Hid (BRow Y X.heap.size gs k (List.replicate k false)) := by show BRow _ _ _ _ _; rw [← hgs]; exact HS.out
    rw [hgs]
    obtain ⟨kb, hkb⟩ : ∃ kb, w.heap.size = kb := ⟨_, rfl⟩
    rw [hkb] at HAX ⊢
    have n2 : gs ≠ ga := by have := HGX.out.lt.2; have := HGS.out; omega
    have n3 : gs ≠ gc := by have := HCX.out.lt.2; have := HGS.out; omega
    clear hkb hgs HS
    go_loopw [9] (fun t wr => ∃ v : Nat, v ≤ m ∧ t = .int .i64 v ∧ Hid (Below X.heap.size X wr) ∧ Hid (BRow wr X.heap.size gs k (snL C k v))) (fun t _ => m - (intOf t).toNat)
    case atStart => exact ⟨0, by omega, rfl, HBXY.out, HSS.out⟩
    case round =>
      obtain ⟨v, hv, rfl, HBr, HSr⟩ := hrel
      obtain ⟨q0, q1, _, _⟩ := HAX.out.later HBr.out
      by_cases hlt : v < m
      · have s0 := ((HGX.out.later HBr.out).cell hlt).1
        rw [sdL_at T.Fa m v hlt m (Nat.le_refl _), if_pos hlt] at s0
        have c0 := ((HCX.out.later HBr.out).cell hlt).1
        obtain ⟨l0, l1⟩ := SO.out.lab v hlt
        have hpos := SO.out.pos v hlt
        have HST : Hid (snL C k (v + 1) = (snL C k v).set (iat C v).toNat true) := rfl
        have HFI : Hid ((snL C k v).getD (iat C v).toNat false = false → iat T.Fa v = 0) := fun hh => SO.out.first v hlt (fun u hu e => by
          have := snL_no C k (iat C v).toNat (by omega) v hh u hu
          rw [e] at this
          exact this rfl)
        obtain ⟨cv, hcv⟩ : ∃ c : Nat, iat C v = c := ⟨(iat C v).toNat, by omega⟩
        rw [hcv] at c0 l0 l1 HST HFI
        rw [Int.toNat_natCast] at HST HFI
        have hck : cv < k := by omega
        obtain ⟨b0, f0⟩ := HSr.out.cell hck
        obtain ⟨sv, hsv⟩ : ∃ z, iat T.Fa v % 2 = z := ⟨_, rfl⟩
        have hs01 : sv = 0 ∨ sv = 1 := by omega
        have HF2 : Hid ((snL C k v).getD cv false = false → sv = 0) := fun hh => by have := HFI.out hh; omega
        rw [hsv] at s0
        obtain ⟨bb, hbb⟩ : ∃ b, (snL C k v).getD cv false = b := ⟨_, rfl⟩
        rw [hbb] at b0 HF2
        have j1 : (v : Int) < m := by omega
        have j2 : (0 : Int) ≤ v := by omega
        have j3 : (cv : Int) < k := by omega
        have j4 : (0 : Int) ≤ cv := by omega
        clear hcv hsv hbb HFI hpos
        rcases hs01 with rfl | rfl
        · cases bb
          · go_wp2
            go_roundw
            case rel => exact ⟨v + 1, by omega, by go_num, HBr.out.setCell (p := ⟨gs, cv, none⟩) (Nat.le_of_eq HGS.out) _, by show BRow _ _ _ _ _; rw [HST.out]; exact HSr.out.set cv true⟩
            case measure => simp [intOf]; omega
          · go_wp2
            go_roundw
            case rel => exact ⟨v + 1, by omega, by go_num, HBr.out.setCell (p := ⟨gs, cv, none⟩) (Nat.le_of_eq HGS.out) _, by show BRow _ _ _ _ _; rw [HST.out]; exact HSr.out.set cv true⟩
            case measure => simp [intOf]; omega
        · cases bb
          · exact absurd (HF2.out rfl) (by omega)
          · go_wp2
            go_roundw
            case rel => exact ⟨v + 1, by omega, by go_num, HBr.out.setCell (p := ⟨gs, cv, none⟩) (Nat.le_of_eq HGS.out) _, by show BRow _ _ _ _ _; rw [HST.out]; exact HSr.out.set cv true⟩
            case measure => simp [intOf]; omega
      · have j1 : ¬ (v : Int) < m := by omega
        go_wp2_with fail
        obtain ⟨Z, hZ⟩ : ∃ Z, Z = wr := ⟨_, rfl⟩
        rw [← hZ] at HBr ⊢
        clear hZ q0 q1 j1 hlt hv
        go_loopw [10] (fun t wz => ∃ i : Nat, i ≤ es.length ∧ t = .int .i64 i ∧ Hid (Below X.heap.size X wz)) (fun t _ => es.length - (intOf t).toNat)
        case atStart => exact ⟨0, by omega, rfl, HBr.out⟩
        case round =>
          obtain ⟨i, hi, rfl, HBz⟩ := hrel
          obtain ⟨q0, q1, _, _⟩ := HAX.out.later HBz.out
          by_cases hlt : i < es.length
          · have hq : ∃ b off, p = some ⟨b, off, none⟩ ∧ Lies X b off es := by
              rcases HHX.out with h0 | h0
              · subst h0; simp at hlt
              · exact h0
            obtain ⟨b, off, rfl, hLW⟩ := hq
            obtain ⟨c0, c1⟩ := hLW.later HBz.out i hlt
            obtain ⟨e0, e1, e2, e3⟩ := HE.out i hlt
            have hal := HNO.out i hlt
            unfold alike at hal
            obtain ⟨x, hx⟩ : ∃ x : Nat, (at' es i).x = x := ⟨(at' es i).x.toNat, by omega⟩
            obtain ⟨y, hy⟩ : ∃ y : Nat, (at' es i).y = y := ⟨(at' es i).y.toNat, by omega⟩
            rw [hx] at c0 e0 e1 hal
            rw [hy] at c1 e2 e3 hal
            rw [Int.toNat_natCast, Int.toNat_natCast] at hal
            have hxm : x < m := by omega
            have hym : y < m := by omega
            have s0 := ((HGX.out.later HBz.out).cell hxm).1
            have s1 := ((HGX.out.later HBz.out).cell hym).1
            rw [sdL_at T.Fa m x hxm m (Nat.le_refl _), if_pos hxm] at s0
            rw [sdL_at T.Fa m y hym m (Nat.le_refl _), if_pos hym] at s1
            obtain ⟨fx, hfx⟩ : ∃ z, iat T.Fa x % 2 = z := ⟨_, rfl⟩
            obtain ⟨fy, hfy⟩ : ∃ z, iat T.Fa y % 2 = z := ⟨_, rfl⟩
            rw [hfx] at s0 hal
            rw [hfy] at s1 hal
            have t1 : (fx == fy) = false := by simp [hal]
            have j1 : (i : Int) < es.length := by omega
            have j2 : (0 : Int) ≤ i := by omega
            have j3 : (x : Int) < m := by omega
            have j4 : (0 : Int) ≤ x := by omega
            have j5 : (y : Int) < m := by omega
            have j6 : (0 : Int) ≤ y := by omega
            clear hx hy hLW hfx hfy hal
            go_upto_region 23 with fail
            go_quiet (fail)
            have HBq := hide (below_drewN (n := nq) HBz.out)
            clear q0 q1 c0 c1 s0 s1
            go_wp2
            go_roundw
            case rel => exact ⟨i + 1, by omega, by go_num, HBq.out⟩
            case measure => simp [intOf]; omega
          · have j1 : ¬ (i : Int) < es.length := by omega
            go_wp2
            go_ret
            exact ⟨rfl, below_step HBX.out HBz.out⟩
  · -- a way round
    obtain ⟨LP, hodd, hlen⟩ := odd_loop HM.out hed hal
    obtain ⟨gl, cl, hvb, _, _, _⟩ := iowns_block hob LP.pos
    subst hvb
    have HOB := hide hob
    have HLP := hide LP
    generalize cloL es (everyN es m m) (2 * ed) = l at *
    have hpos : 0 < l.length := LP.pos
    have j1 : (0 : Int) < l.length := by omega
    have j2 : Int.tmod (l.length : Int) 2 = 1 := by rw [Int.tmod_eq_emod_of_nonneg (by omega)]; omega
    clear LP hob hodd hal
    go_wp2_with fail
    refine C2.out.mono ?_
    rintro e w3 ⟨rfl, hb3⟩
    have HH3 := hide (HH2.out.later hb3)
    have HB3 := hide (below_step HB2.out hb3)
    have HA3 := hide (HA2.out.later hb3)
    have HO3 := hide (IOwns.later HOB.out hb3)
    have WK := hide (walk29 m p es cp gl cl _ l w3 HH3.out (by omega) HO3.out (by omega) (loop_in HLP.out) (loop_next HLP.out))
    clear hb3 C2 q0 q1
    obtain ⟨q0, q1, _, _⟩ := HA3.out
    go_wp2_with fail
    refine WK.out.mono ?_
    rintro e w4 ⟨rfl, hb4⟩
    have HH4 := hide (HH3.out.later hb4)
    have HB4 := hide (below_step HB3.out hb4)
    have HA4 := hide (HA3.out.later hb4)
    have HO4 := hide (IOwns.later HO3.out hb4)
    have ON := hide (once30 false m p es cp gl cl _ l w4 HH4.out (by omega) HO4.out (by omega) (loop_in HLP.out) HLP.out.once (fun h => by simp at h))
    clear hb4 WK q0 q1
    obtain ⟨q0, q1, _, _⟩ := HA4.out
    by_cases h400 : (l.length : Int) > 400
    · go_wp2
      go_ret
      exact ⟨rfl, HB4.out⟩
    · go_wp2_with fail
      refine ON.out.mono ?_
      rintro e w5 ⟨rfl, hb5⟩
      have HB5 := hide (below_step HB4.out hb5)
      clear hb5 ON q0 q1
      go_wp2
      go_ret
      exact ⟨rfl, HB5.out⟩
theorem sides_walk (n : Int) (p : Option Addr) (es : List Pt) (cp : Nat) (w : World) (h : Has w p es) : Calls Try.prog 6 #[nv n p es.length cp] w fun e w' => e = .returned (.bool true) ∧ Below w.heap.size w w' := by
  cases hm : netB n es
  · exact sides_no n p es cp w h hm
  · obtain ⟨n0, _⟩ := netB_is hm
    obtain ⟨m, rfl⟩ : ∃ m : Nat, n = m := ⟨n.toNat, by omega⟩
    exact sides_yes m p es cp w h hm
end Go.Proofs.Ytghffodjffkijaa
