/- dual.Take, in every world. -/
import Derived.Test.YtcgdmonejogbaaaU3
import Derived.Deep.RegionHeld3
/- The document's Genus: as the program's. -/
namespace Go.Proofs.Ytcgdmonejogbaaa
open Go.RowKit Go.Sort
open Go
/-- The document's components, counted and numbered. -/
theorem parts26 (N : Nat) (p : Option Addr) (es : List Pt) (cp : Nat) (w : World) (h : Has w p es) (hm : netB N es = true) : Calls Try.prog 35 #[nv N p es.length cp, .slice none 0 0, .slice none 0 0] w fun e w' => ∃ g C r, e = .returned (.tuple #[.slice (some ⟨g, 0, none⟩) N N, .int .i64 (compN N es : Nat)]) ∧ IRow w' w.heap.size g N C ∧ Lab es N (compN N es) N C r NoDue ∧ Below w.heap.size w w' := by
  refine (parts19 N p es cp w h hm).mono ?_
  rintro e w' ⟨gc, kc, C, rc, rfl, hi, hlab, hb⟩
  have hkc : kc = compN N es := by
    obtain ⟨r0, L0⟩ := parts_lab (n := N) (es := es) hm
    have := (hlab.uniq hm L0).1
    rw [this]
    unfold compN
    rw [Int.toNat_natCast]
  rw [hkc] at hlab ⊢
  exact ⟨gc, C, rc, rfl, hi, hlab, hb⟩
end Go.Proofs.Ytcgdmonejogbaaa
namespace Go.Proofs.Ytcgdmonejogbaaa
open Go.RowKit Go.Sort
open Go
/-- All numbers below j but e. -/
def kpE (e : Nat) : Nat → List Int
  | 0 => []
  | j + 1 => if j = e then kpE e j else kpE e j ++ [(j : Int)]
theorem kpE_len (e : Nat) : ∀ j, (kpE e j).length = if e < j then j - 1 else j
  | 0 => by simp [kpE]
  | j + 1 => by
    have ih := kpE_len e j
    unfold kpE
    by_cases h : j = e
    · rw [if_pos h, ih, if_neg (by omega), if_pos (by omega)]; omega
    · rw [if_neg h, List.length_append, List.length_singleton, ih]
      by_cases h1 : e < j
      · rw [if_pos h1, if_pos (by omega)]; omega
      · rw [if_neg h1, if_neg (by omega)]
theorem kpE_le (e j : Nat) : (kpE e j).length ≤ j := by
  rw [kpE_len]
  split <;> omega
theorem kpE_mem (e : Nat) : ∀ j x, x ∈ kpE e j ↔ (0 ≤ x ∧ x < j ∧ x ≠ e)
  | 0, x => by simp [kpE]; omega
  | j + 1, x => by
    have ih := kpE_mem e j x
    unfold kpE
    by_cases h : j = e
    · rw [if_pos h, ih]
      omega
    · rw [if_neg h, List.mem_append, ih]
      simp
      omega
theorem kpE_nodup (e : Nat) : ∀ j, (kpE e j).Nodup
  | 0 => by simp [kpE]
  | j + 1 => by
    have ih := kpE_nodup e j
    unfold kpE
    by_cases h : j = e
    · rw [if_pos h]; exact ih
    · rw [if_neg h, List.nodup_append]
      refine ⟨ih, by simp, fun a ha b hb => ?_⟩
      have := (kpE_mem e j a).1 ha
      simp at hb
      omega
theorem kpE_err (e m : Nat) : errL (kpE e m) m = 0 := by
  unfold errL
  refine errN_zero _ fun j hj => chk_of ?_ fun k hk ek => ?_
  · have := (kpE_mem e m _).1 (iat_mem hj)
    omega
  · have := iat_inj (kpE_nodup e m) (by omega) hj ek
    omega
theorem kpE_sub {n : Int} {es : List Pt} (hm : netB n es = true) (e : Nat) : subE n es (kpE e es.length) = 0 := by
  unfold subE
  rw [if_pos hm]
  exact kpE_err e _
set_option maxRecDepth 100000 in
set_option maxHeartbeats 16000000 in
theorem take17no (n : Int) (p : Option Addr) (es : List Pt) (cp : Nat) (q : Option Addr) (rs : List (List Int)) (cq : Nat) (e : Int) (w : World) (h : Has w p es) (hr : RHas w q rs) (h0 : ¬ rotI n es rs = 0) : Calls Try.prog 17 #[nv n p es.length cp, .slice q rs.length cq, .int .i64 e] w fun r w' => r = .returned (.tuple #[nv 0 none 0 0, .slice none 0 0, .int .i64 (rotI n es rs)]) ∧ Below w.heap.size w w' := by
  obtain ⟨W, hW, hb0, a0, b0⟩ := two_nets w n p es.length cp
  have M := hide (mayR13 n p es cp q rs cq W (h.later hb0) (hr.later hb0))
  have HB := hide hb0
  have HN := hide b0
  obtain ⟨q0, q1, _, _⟩ := a0
  obtain ⟨x, hx⟩ : ∃ x, rotI n es rs = x := ⟨_, rfl⟩
  rw [hx] at M h0 ⊢
  have t1 : (x == 0) = false := by simp [h0]
  clear h hr hb0 b0 hx
  go_enter Try.func17, Try.ntmps17
  go_wp2_with fail
  rw [← hW]
  clear hW
  go_wp2_with fail
  refine M.out.mono ?_
  rintro e w1 ⟨rfl, hb1⟩
  have HB1 := hide (below_step HB.out hb1)
  have HN1 := hide (HN.out.later hb1)
  obtain ⟨r0, r1, r2, r3⟩ := HN1.out
  clear hb1 q0 q1 M
  go_wp2
  obtain ⟨V, hV⟩ : ∃ V, V = (w1.setCell ⟨w.heap.size + 1, 0, none⟩ (.int .i64 0)).setCell ⟨w.heap.size + 1, 1, none⟩ (.slice none 0 0) := ⟨_, rfl⟩
  have kV : NOwn V (w.heap.size + 1) 0 none 0 0 := by rw [hV]; exact HN1.out.set 0 none 0 0
  have bV : Below w.heap.size w V := by rw [hV]; exact (HB1.out.setCell (by simp) _).setCell (by simp) _
  rw [← hV]
  exact bodyPost_ret (ret_net3 Try.results17 rfl rfl rfl kV) rfl ⟨rfl, bV⟩
set_option maxRecDepth 100000 in
set_option maxHeartbeats 16000000 in
theorem take17off (n : Int) (p : Option Addr) (es : List Pt) (cp : Nat) (q : Option Addr) (rs : List (List Int)) (cq : Nat) (e : Int) (w : World) (h : Has w p es) (hr : RHas w q rs) (h0 : rotI n es rs = 0) (he : ¬ (0 ≤ e ∧ e < es.length)) : Calls Try.prog 17 #[nv n p es.length cp, .slice q rs.length cq, .int .i64 e] w fun r w' => r = .returned (.tuple #[nv 0 none 0 0, .slice none 0 0, .int .i64 2]) ∧ Below w.heap.size w w' := by
  obtain ⟨W, hW, hb0, a0, b0⟩ := two_nets w n p es.length cp
  have M := hide (mayR13 n p es cp q rs cq W (h.later hb0) (hr.later hb0))
  rw [h0] at M
  have HB := hide hb0
  have HN := hide b0
  have HA := hide a0
  obtain ⟨q0, q1, _, _⟩ := a0
  clear h hr hb0 b0
  go_enter Try.func17, Try.ntmps17
  go_wp2_with fail
  rw [← hW]
  clear hW
  go_wp2_with fail
  refine M.out.mono ?_
  rintro e w1 ⟨rfl, hb1⟩
  have HB1 := hide (below_step HB.out hb1)
  have HN1 := hide (HN.out.later hb1)
  obtain ⟨r0, r1, r2, r3⟩ := HN1.out
  clear q0 q1 M
  obtain ⟨q0, q1, _, _⟩ := HA.out.later hb1
  clear hb1
  by_cases h1 : e < 0
  · go_wp2
    obtain ⟨V, hV⟩ : ∃ V, V = (w1.setCell ⟨w.heap.size + 1, 0, none⟩ (.int .i64 0)).setCell ⟨w.heap.size + 1, 1, none⟩ (.slice none 0 0) := ⟨_, rfl⟩
    have kV : NOwn V (w.heap.size + 1) 0 none 0 0 := by rw [hV]; exact HN1.out.set 0 none 0 0
    have bV : Below w.heap.size w V := by rw [hV]; exact (HB1.out.setCell (by simp) _).setCell (by simp) _
    rw [← hV]
    exact bodyPost_ret (ret_net3 Try.results17 rfl rfl rfl kV) rfl ⟨rfl, bV⟩
  · have h2 : (es.length : Int) ≤ e := by omega
    have h3 : e ≥ (es.length : Int) := h2
    go_wp2
    obtain ⟨V, hV⟩ : ∃ V, V = (w1.setCell ⟨w.heap.size + 1, 0, none⟩ (.int .i64 0)).setCell ⟨w.heap.size + 1, 1, none⟩ (.slice none 0 0) := ⟨_, rfl⟩
    have kV : NOwn V (w.heap.size + 1) 0 none 0 0 := by rw [hV]; exact HN1.out.set 0 none 0 0
    have bV : Below w.heap.size w V := by rw [hV]; exact (HB1.out.setCell (by simp) _).setCell (by simp) _
    rw [← hV]
    exact bodyPost_ret (ret_net3 Try.results17 rfl rfl rfl kV) rfl ⟨rfl, bV⟩
set_option maxRecDepth 100000 in
set_option maxHeartbeats 16000000 in
theorem take17 (n : Int) (p : Option Addr) (es : List Pt) (cp : Nat) (q : Option Addr) (rs : List (List Int)) (cq : Nat) (e : Nat) (w : World) (h : Has w p es) (hr : RHas w q rs) (h0 : rotI n es rs = 0) (he : e < es.length) : Calls Try.prog 17 #[nv n p es.length cp, .slice q rs.length cq, .int .i64 e] w fun r w' => ∃ g g5 rv, r = .returned (.tuple #[nv n (some ⟨g, 0, none⟩) (kpE e es.length).length (kpE e es.length).length, .slice (some ⟨g5, 0, none⟩) rs.length rs.length, .int .i64 0]) ∧ PRow w' w.heap.size g (kpE e es.length).length (pick es (kpE e es.length)) ∧ Rows w' w.heap.size g5 rs.length rv (fun v => lat (canonL (subL es rs (kpE e es.length))) v) ∧ Below w.heap.size w w' := by
  obtain ⟨W, hW, hb0, a0, b0⟩ := two_nets w n p es.length cp
  have M := hide (mayR13 n p es cp q rs cq W (h.later hb0) (hr.later hb0))
  rw [h0] at M
  obtain ⟨n0, n1, hes, _⟩ := netB_is (rot_is h0).1
  have HRT := hide h0
  have HH := hide (h.later hb0)
  have HR := hide (hr.later hb0)
  have HB := hide hb0
  have HN := hide b0
  have HA := hide a0
  have hle := kpE_le e es.length
  obtain ⟨q0, q1, _, _⟩ := a0
  have HAT : Hid (∀ v, v < rs.length → turnL (rnL (plN (kpE e es.length) es.length (kpE e es.length).length) (lat rs v)) = lat (canonL (subL es rs (kpE e es.length))) v) := fun v hv => by
    rw [lat_canon (by rw [subL_length]; exact hv), subL_at hv]
    rfl
  have hWs : W.heap.size = w.heap.size + 2 := by rw [hW]; simp
  have HKS := hide (kpE_sub (rot_is h0).1 e)
  obtain ⟨K, hK⟩ : ∃ K, kpE e es.length = K := ⟨_, rfl⟩
  rw [hK] at hle HAT HKS ⊢
  have HKK := hide hK
  obtain ⟨ei, hei⟩ : ∃ x : Int, x = (e : Int) := ⟨_, rfl⟩
  rw [← hei]
  have e1 : ¬ ei < 0 := by omega
  have e2 : ¬ ei ≥ (es.length : Int) := by omega
  have HEI := hide hei
  clear h hr hb0 b0 h0 hK hei
  go_enter Try.func17, Try.ntmps17
  go_wp2_with fail
  rw [← hW]
  clear hW
  go_wp2_with fail
  refine M.out.mono ?_
  rintro r w1 ⟨rfl, hb1⟩
  have HB1 := hide hb1
  clear q0 q1 M
  obtain ⟨q0, q1, _, _⟩ := HA.out.later hb1
  clear hb1
  have O0 : Hid (IOwns w1 W.heap.size (.slice none (kpE e 0).length 0) (kpE e 0)) := IOwns.nil _ _
  have hWS := hide hWs
  clear hWs
  go_wp2_with fail
  clear q0 q1
  go_loopw [10, 32] (fun t10 t32 wr => ∃ (j : Nat) (p7 : Option Addr) (c7 : Nat), j ≤ es.length ∧ t10 = .slice p7 (kpE e j).length c7 ∧ t32 = .int .i64 j ∧ Hid (Below W.heap.size W wr) ∧ Hid (IOwns wr W.heap.size (.slice p7 (kpE e j).length c7) (kpE e j))) (fun _ t32 _ => es.length - (intOf t32).toNat)
  case atStart => exact ⟨0, none, 0, by omega, rfl, rfl, HB1.out, O0.out⟩
  case round =>
    obtain ⟨j, p7, c7, hj, rfl, rfl, HBr, HOr⟩ := hrel
    clear HB1 O0
    by_cases hlt : j < es.length
    · have j1 : (j : Int) < es.length := by omega
      have HST : Hid (kpE e (j + 1) = if j = e then kpE e j else kpE e j ++ [(j : Int)]) := rfl
      have hlj := kpE_le e j
      by_cases hje : j = e
      · rw [if_pos hje] at HST
        have t1 : ((j : Int) != ei) = false := by rw [HEI.out]; simp [hje]
        clear hje
        go_wp2
        go_roundw
        case rel => exact ⟨j + 1, p7, c7, by omega, by rw [HST.out], by go_num, HBr.out, by show IOwns _ _ _ _; rw [HST.out]; exact HOr.out⟩
        case measure => simp [intOf]; omega
      · rw [if_neg hje] at HST
        have t1 : ((j : Int) != ei) = true := by rw [HEI.out]; simp; omega
        obtain ⟨U, hU⟩ : ∃ U, U = wr.alloc (.cells #[.int .i64 j] 3) := ⟨_, rfl⟩
        have hbU : Below wr.heap.size wr U := by rw [hU]; go_grown
        have hlit : U.cell? ⟨wr.heap.size, 0, none⟩ = some (.int .i64 j) := by rw [hU]; exact one_int _ _
        obtain ⟨v1, D, ea, o1, gr, at1⟩ := append_int (HOr.out.later hbU) hlit (by have := HBr.out.size; have := hbU.size; omega) (by omega)
        have HBD : Hid (Below W.heap.size W D) := below_grown (below_step HBr.out hbU) (HOr.out.later hbU) (Nat.le_refl _) (by have := HBr.out.size; have := hbU.size; omega) gr
        obtain ⟨p8, c8, h8, _⟩ := o1.form
        subst h8
        have HOD := hide o1
        rw [← HST.out] at HOD ea
        rw [hU] at ea
        clear hU hbU hlit o1 gr at1 hje
        go_wp2_with (at_builtin; refine wpList_run_append rfl (.tmp 38) (.tmp 40) 44 rfl 44 rfl _ _ _ D rfl rfl ea ?_)
        go_roundw
        case rel => exact ⟨j + 1, p8, c8, by omega, rfl, by go_num, HBD.out, HOD.out⟩
        case measure => simp [intOf]; omega
    · have hje : j = es.length := by omega
      have j1 : ¬ (j : Int) < es.length := by omega
      rw [hje, HKK.out] at HOr ⊢
      obtain ⟨pa, ca, ea, ma, _⟩ := HOr.out.form
      injection ea with ea1 _ ea3
      rw [← ea1] at ma
      have SB := hide (sub30 n p es cp q rs cq p7 K c7 wr (HH.out.later HBr.out) (HR.out.later HBr.out) (by unfold maxLen; omega) ma HRT.out HKS.out)
      obtain ⟨q0, q1, _, _⟩ := HA.out.later HBr.out
      clear hje hlt ea1 ea3 ma HOr
      go_wp2_with fail
      refine SB.out.mono ?_
      rintro r w2 ⟨g, g5, rv, rfl, hp2, hr2, hb2⟩
      have HB2 := hide (below_step HBr.out hb2)
      have HN2 := hide (HN.out.later HB2.out)
      have HP2 : Hid (PRow w2 W.heap.size g K.length (pick es K)) := hp2.base HBr.out.size
      have HR2 : Hid (Rows w2 W.heap.size g5 rs.length rv (fun v => lat (canonL (subL es rs K)) v)) := (hr2.base HBr.out.size).congr fun v hv => HAT.out v hv
      obtain ⟨r0, r1, r2, r3⟩ := HN2.out
      clear q0 q1 SB hb2 hp2 hr2 HBr
      go_wp2
      obtain ⟨V, hV⟩ : ∃ V, V = (w2.setCell ⟨w.heap.size + 1, 0, none⟩ (.int .i64 n)).setCell ⟨w.heap.size + 1, 1, none⟩ (.slice (some ⟨g, 0, none⟩) K.length K.length) := ⟨_, rfl⟩
      have kV : NOwn V (w.heap.size + 1) n (some ⟨g, 0, none⟩) K.length K.length := by rw [hV]; exact HN2.out.set n _ _ _
      have hs := hWS.out
      have hgl := HP2.out.lt
      have bV : Below w.heap.size w V := by rw [hV]; exact ((below_step HB.out HB2.out).setCell (by simp) _).setCell (by simp) _
      have pV : PRow V w.heap.size g K.length (pick es K) := by rw [hV]; exact (prow_other (prow_other HP2.out (by omega) _) (by omega) _).base (by omega)
      have rV : Rows V w.heap.size g5 rs.length rv (fun v => lat (canonL (subL es rs K)) v) := by rw [hV]; exact ((HR2.out.other (by omega) _).other (by omega) _).base (by omega)
      rw [← hV]
      exact bodyPost_ret (ret_net3 Try.results17 rfl rfl rfl kV) rfl ⟨g, g5, rv, rfl, pV, rV, bV⟩
end Go.Proofs.Ytcgdmonejogbaaa
