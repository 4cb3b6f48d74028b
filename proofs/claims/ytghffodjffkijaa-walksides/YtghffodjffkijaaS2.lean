/- The document's Walk and Once, at lists that go round. -/
import Derived.Test.YtghffodjffkijaaX5
import Derived.Lib.QuietBelow
import Derived.BigQuiet
import Derived.Deep.QuietTactic
namespace Go.Proofs.Ytghffodjffkijaa
open Go.RowKit Go.Sort
open Go

/-- The place behind. -/
def nx (len i : Nat) : Nat := if i + 1 = len then 0 else i + 1
set_option maxRecDepth 100000 in
set_option maxHeartbeats 8000000 in
theorem walk29 (m : Nat) (p : Option Addr) (es : List Pt) (cp g c B : Nat) (l : List Int) (w : World) (h : Has w p es) (hb : es.length ≤ 100000) (hl : IOwns w B (.slice (some ⟨g, 0, none⟩) l.length c) l) (hln : l.length ≤ 100000)
    (hr : ∀ i, i < l.length → ∃ k : Nat, iat l i = k ∧ k < 2 * es.length) (hc : ∀ i, i < l.length → toL es (iat l i).toNat = fromL es (iat l (nx l.length i)).toNat) :
    Calls Try.prog 29 #[nv m p es.length cp, .slice (some ⟨g, 0, none⟩) l.length c, .bool true] w fun e w' => e = .returned (.bool true) ∧ Below w.heap.size w w' := by
  obtain ⟨W, hW, hbW, a0⟩ := one_net w m p es.length cp
  have HH := hide (h.later hbW)
  have HL := hide (IOwns.later hl hbW)
  have HB := hide hbW
  have HA := hide a0
  have HR := hide hr
  have HC := hide hc
  clear h hl hbW a0 hr hc
  go_enter Try.func29, Try.ntmps29
  go_wp2_with fail
  rw [← hW]
  clear hW
  obtain ⟨kb, hkb⟩ : ∃ kb, w.heap.size = kb := ⟨_, rfl⟩
  rw [hkb] at HA ⊢
  have HKB := hide hkb
  clear hkb
  go_loopw [7] (fun t wr => ∃ i : Nat, i ≤ l.length ∧ t = .int .i64 i ∧ Hid (Below W.heap.size W wr)) (fun t _ => l.length - (intOf t).toNat)
  case atStart => exact ⟨0, by omega, rfl, Below.refl _ _⟩
  case round =>
    obtain ⟨i, hi, rfl, HBr⟩ := hrel
    by_cases hlt : i < l.length
    · obtain ⟨q0, q1, _, _⟩ := HA.out.later HBr.out
      have c0 := IOwns.at_ (IOwns.later HL.out HBr.out) hlt
      obtain ⟨k, hk, hk2⟩ := HR.out i hlt
      have hnx : nx l.length i < l.length := by unfold nx; split <;> omega
      have c1 := IOwns.at_ (IOwns.later HL.out HBr.out) hnx
      obtain ⟨k', hk', hk'2⟩ := HR.out _ hnx
      have hcc := HC.out i hlt
      rw [hk, hk', Int.toNat_natCast, Int.toNat_natCast] at hcc
      rw [hk] at c0
      rw [hk'] at c1
      have j1 : (i : Int) < l.length := by omega
      have j2 : (0 : Int) ≤ i := by omega
      have t1 : ¬ (k : Int) < 0 := by omega
      have t2 : ¬ (2 * es.length : Int) ≤ k := by omega
      have t3 : ¬ (k' : Int) < 0 := by omega
      have t4 : ¬ (2 * es.length : Int) ≤ k' := by omega
      have t5 : wrap64 (2 * (es.length : Int)) = 2 * es.length := by unfold wrap64; omega
      have d1 : decide ((k : Int) < 0) = false := by simp
      have d2 : decide ((2 * es.length : Int) ≤ k) = false := by simp; omega
      have d3 : decide ((k' : Int) < 0) = false := by simp
      have d4 : decide ((2 * es.length : Int) ≤ k') = false := by simp; omega
      have C0 := cell_regrown c0
      have Q0 := cell_regrown q0
      have Q1 := cell_regrown q1
      have HT := hide (fun (U : World) (hU : Below W.heap.size W U) => to43 m p es cp k U (HH.out.later hU) hk2 hb)
      have HF := hide (fun (U : World) (hU : Below W.heap.size W U) => from50 m p es cp k' U (HH.out.later hU) hk'2 hb)
      obtain ⟨z, hz⟩ : ∃ z, toL es k = z := ⟨_, rfl⟩
      rw [hz] at hcc HT
      rw [← hcc] at HF
      obtain ⟨j, hj⟩ : ∃ j, nx l.length i = j := ⟨_, rfl⟩
      have HJ := hide hj
      rw [hj] at c1 hnx
      have C1 := cell_regrown c1
      have j3 : (j : Int) < l.length := by omega
      have j4 : (0 : Int) ≤ j := by omega
      clear hk hk' hcc hz hj
      go_upto_region 4 with fail
      go_quiet (fail)
      obtain ⟨V, hV⟩ : ∃ V, V = wr.drewN nq := ⟨_, rfl⟩
      have hbV : Below wr.heap.size wr V := by rw [hV]; exact below_drewN (Below.refl _ _)
      have HBV := hide (below_step HBr.out hbV)
      have c0' := later hbV c0
      have c1' := later hbV c1
      have q0' := later hbV q0
      have q1' := later hbV q1
      rw [← hV]
      clear hV hbV c0 c1 q0 q1 C0 C1 Q0 Q1
      have CT : ∀ dd os, Calls Try.prog 25 #[nv m p es.length cp, .int .i64 k] (grow (redrawn V dd) os) fun e w'' => e = .returned (.int .i64 z) ∧ ∃ p : Regrown, w'' = grow (redrawn V p.d) p.os := fun dd os => Calls.regrown_of (HT.out _ (below_step HBV.out (below_regrown V dd os)))
      have CF : ∀ dd os, Calls Try.prog 26 #[nv m p es.length cp, .int .i64 k'] (grow (redrawn V dd) os) fun e w'' => e = .returned (.int .i64 z) ∧ ∃ p : Regrown, w'' = grow (redrawn V p.d) p.os := fun dd os => Calls.regrown_of (HF.out _ (below_step HBV.out (below_regrown V dd os)))
      have C0 := cell_regrown c0'
      have C1 := cell_regrown c1'
      have Q0 := cell_regrown q0'
      have Q1 := cell_regrown q1'
      have HJE : Hid (j = if i + 1 = l.length then 0 else i + 1) := HJ.out.symm
      by_cases hend : i + 1 = l.length
      · rw [if_pos hend] at HJE
        have e1 : ((i : Int) + 1 == l.length) = true := by simp; omega
        have hj0 : j = 0 := HJE.out
        subst hj0
        clear hend
        go_upto_region 10 with fail
        refine wp_region_quiet_below (by kernel_rfl) (by kernel_rfl) ?_
        repeat (go_big_quiet_step (first | with_reducible exact CT _ _ | with_reducible exact CF _ _))
        refine wpQuiet_nil ?_
        intro w3 hw'
        have hb3 : Below V.heap.size V w3 := by
          obtain ⟨⟨dq, osq⟩, hw''⟩ := hw'
          rw [hw'']
          exact below_regrown V dq osq
        have HBq := hide (below_step HBV.out hb3)
        clear hw' hb3 c0' c1' q0' q1' C0 C1 Q0 Q1 CT CF
        go_wp2
        go_roundw
        case rel => exact ⟨i + 1, by omega, by go_num, HBq.out⟩
        case measure => simp [intOf]; omega
      · rw [if_neg hend] at HJE
        have e1 : ((i : Int) + 1 == l.length) = false := by simp; omega
        have hj0 : j = i + 1 := HJE.out
        subst hj0
        have e2 : ((i + 1 : Nat) : Int) = (i : Int) + 1 := by omega
        clear hend
        go_upto_region 10 with fail
        refine wp_region_quiet_below (by kernel_rfl) (by kernel_rfl) ?_
        repeat (go_big_quiet_step (first | with_reducible exact CT _ _ | with_reducible exact CF _ _))
        refine wpQuiet_nil ?_
        intro w3 hw'
        have hb3 : Below V.heap.size V w3 := by
          obtain ⟨⟨dq, osq⟩, hw''⟩ := hw'
          rw [hw'']
          exact below_regrown V dq osq
        have HBq := hide (below_step HBV.out hb3)
        clear hw' hb3 c0' c1' q0' q1' C0 C1 Q0 Q1 CT CF
        go_wp2
        go_roundw
        case rel => exact ⟨i + 1, by omega, by go_num, HBq.out⟩
        case measure => simp [intOf]; omega
    · have j1 : ¬ (i : Int) < l.length := by omega
      go_wp2
      go_ret
      exact ⟨rfl, below_step HB.out HBr.out⟩
set_option maxRecDepth 100000 in
set_option maxHeartbeats 8000000 in
theorem once30 (nodes : Bool) (m : Nat) (p : Option Addr) (es : List Pt) (cp g c B : Nat) (l : List Int) (w : World) (h : Has w p es) (hb : es.length ≤ 100000) (hl : IOwns w B (.slice (some ⟨g, 0, none⟩) l.length c) l) (hln : l.length ≤ 100000)
    (hr : ∀ i, i < l.length → ∃ k : Nat, iat l i = k ∧ k < 2 * es.length) (he : ∀ i j, i < j → j < l.length → (iat l i).toNat / 2 ≠ (iat l j).toNat / 2) (hf : nodes = true → ∀ i j, i < j → j < l.length → fromL es (iat l i).toNat ≠ fromL es (iat l j).toNat) :
    Calls Try.prog 30 #[nv m p es.length cp, .slice (some ⟨g, 0, none⟩) l.length c, .bool nodes] w fun e w' => e = .returned (.bool true) ∧ Below w.heap.size w w' := by
  obtain ⟨W, hW, hbW, a0⟩ := one_net w m p es.length cp
  have HH := hide (h.later hbW)
  have HL := hide (IOwns.later hl hbW)
  have HB := hide hbW
  have HA := hide a0
  have HR := hide hr
  have HE := hide he
  have HFF := hide hf
  clear h hl hbW a0 hr he hf
  go_enter Try.func30, Try.ntmps30
  go_wp2_with fail
  rw [← hW]
  clear hW
  obtain ⟨kb, hkb⟩ : ∃ kb, w.heap.size = kb := ⟨_, rfl⟩
  rw [hkb] at HA ⊢
  have HKB := hide hkb
  clear hkb
  go_loopw [7] (fun t wr => ∃ i : Nat, i ≤ l.length ∧ t = .int .i64 i ∧ Hid (Below W.heap.size W wr)) (fun t _ => l.length - (intOf t).toNat)
  case atStart => exact ⟨0, by omega, rfl, Below.refl _ _⟩
  case round =>
    obtain ⟨i, hi, rfl, HBr⟩ := hrel
    by_cases hlt : i < l.length
    · have j1 : (i : Int) < l.length := by omega
      have j2 : (0 : Int) ≤ i := by omega
      go_wp2_with fail
      obtain ⟨Z, hZ⟩ : ∃ Z, Z = wr := ⟨_, rfl⟩
      rw [← hZ] at HBr ⊢
      clear hZ
      go_loopw [8] (fun t wz => ∃ q : Nat, q ≤ i ∧ t = .int .i64 q ∧ Hid (Below W.heap.size W wz)) (fun t _ => i - (intOf t).toNat)
      case atStart => exact ⟨0, by omega, rfl, HBr.out⟩
      case round =>
        obtain ⟨q, hq, rfl, HBz⟩ := hrel
        by_cases hqi : q < i
        · obtain ⟨q0, q1, _, _⟩ := HA.out.later HBz.out
          have c0 := IOwns.at_ (IOwns.later HL.out HBz.out) hlt
          have c1 := IOwns.at_ (IOwns.later HL.out HBz.out) (j := q) (by omega)
          obtain ⟨k, hk, hk2⟩ := HR.out i hlt
          obtain ⟨k', hk', hk'2⟩ := HR.out q (by omega)
          have hne := HE.out q i hqi hlt
          have HNF : Hid (nodes = true → fromL es k' ≠ fromL es k) := fun hn => by have := HFF.out hn q i hqi hlt; rw [hk, hk', Int.toNat_natCast, Int.toNat_natCast] at this; exact this
          rw [hk, hk', Int.toNat_natCast, Int.toNat_natCast] at hne
          rw [hk] at c0
          rw [hk'] at c1
          have e1 : Int.tdiv (k : Int) 2 = ((k / 2 : Nat) : Int) := by rw [Int.tdiv_eq_ediv_of_nonneg (by omega)]; exact (Int.natCast_ediv k 2).symm
          have e2 : Int.tdiv (k' : Int) 2 = ((k' / 2 : Nat) : Int) := by rw [Int.tdiv_eq_ediv_of_nonneg (by omega)]; exact (Int.natCast_ediv k' 2).symm
          obtain ⟨d, hd⟩ : ∃ d, k / 2 = d := ⟨_, rfl⟩
          obtain ⟨d', hd'⟩ : ∃ d', k' / 2 = d' := ⟨_, rfl⟩
          rw [hd] at e1 hne
          rw [hd'] at e2 hne
          have e3 : ((d' : Int) == (d : Int)) = false := by simp; omega
          have e4 : d' ≤ 1000000 := by omega
          have e5 : d ≤ 1000000 := by omega
          have j3 : (q : Int) < l.length := by omega
          have j4 : (0 : Int) ≤ q := by omega
          have j5 : (q : Int) < i := by omega
          have C0 := cell_regrown c0
          have C1 := cell_regrown c1
          have Q0 := cell_regrown q0
          have Q1 := cell_regrown q1
          have CT : ∀ dd os, Calls Try.prog 26 #[nv m p es.length cp, .int .i64 k'] (grow (redrawn wr dd) os) fun e w'' => e = .returned (.int .i64 (fromL es k')) ∧ ∃ p : Regrown, w'' = grow (redrawn wr p.d) p.os := fun dd os => Calls.regrown_of (from50 m p es cp k' _ (HH.out.later (below_step HBz.out (below_regrown wr dd os))) hk'2 hb)
          have CF : ∀ dd os, Calls Try.prog 26 #[nv m p es.length cp, .int .i64 k] (grow (redrawn wr dd) os) fun e w'' => e = .returned (.int .i64 (fromL es k)) ∧ ∃ p : Regrown, w'' = grow (redrawn wr p.d) p.os := fun dd os => Calls.regrown_of (from50 m p es cp k _ (HH.out.later (below_step HBz.out (below_regrown wr dd os))) hk2 hb)
          obtain ⟨z, hz⟩ : ∃ z, fromL es k = z := ⟨_, rfl⟩
          obtain ⟨z', hz'⟩ : ∃ z', fromL es k' = z' := ⟨_, rfl⟩
          rw [hz] at CF HNF
          rw [hz'] at CT HNF
          clear hk hk' hne hz hz' hd hd'
          cases nodes
          · go_upto_region 7 with fail
            refine wp_region_quiet_below (by kernel_rfl) (by kernel_rfl) ?_
            repeat (go_big_quiet_step (first | with_reducible exact CT _ _ | with_reducible exact CF _ _))
            refine wpQuiet_nil ?_
            intro w3 hw'
            have hb3 : Below wr.heap.size wr w3 := by
              obtain ⟨⟨dq, osq⟩, hw''⟩ := hw'
              rw [hw'']
              exact below_regrown wr dq osq
            have HBq := hide (below_step HBz.out hb3)
            clear hw' hb3 c0 c1 q0 q1 C0 C1 Q0 Q1 CT CF
            go_wp2
            go_roundw
            case rel => exact ⟨q + 1, by omega, by go_num, HBq.out⟩
            case measure => simp [intOf]; omega
          · have hzz : ¬ z' = z := HNF.out rfl
            have e6 : (z' == z) = false := by simp [hzz]
            clear hzz
            go_upto_region 7 with fail
            refine wp_region_quiet_below (by kernel_rfl) (by kernel_rfl) ?_
            repeat (go_big_quiet_step (first | with_reducible exact CT _ _ | with_reducible exact CF _ _))
            refine wpQuiet_nil ?_
            intro w3 hw'
            have hb3 : Below wr.heap.size wr w3 := by
              obtain ⟨⟨dq, osq⟩, hw''⟩ := hw'
              rw [hw'']
              exact below_regrown wr dq osq
            have HBq := hide (below_step HBz.out hb3)
            clear hw' hb3 c0 c1 q0 q1 C0 C1 Q0 Q1 CT CF
            go_wp2
            go_roundw
            case rel => exact ⟨q + 1, by omega, by go_num, HBq.out⟩
            case measure => simp [intOf]; omega
        · have j5 : ¬ (q : Int) < i := by omega
          go_wp2
          go_roundw
          case rel => exact ⟨i + 1, by omega, by go_num, HBz.out⟩
          case measure => simp [intOf]; omega
    · have j1 : ¬ (i : Int) < l.length := by omega
      go_wp2
      go_ret
      exact ⟨rfl, below_step HB.out HBr.out⟩
end Go.Proofs.Ytghffodjffkijaa
