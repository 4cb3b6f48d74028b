/- The document's Face, where it refuses. -/
import Derived.Test.YtcgdmonejogbaaaWB
import Derived.Test.YtcgdmonejogbaaaWA
import Derived.Test.YtcgdmonejogbaaaW1
import Derived.Test.YtcgdmonejogbaaaWD
import Derived.Deep.DeepCutAuto
import Derived.Deep.QuietTactic
/- dual.Lay where it refuses. -/
namespace Go.Proofs.Ytcgdmonejogbaaa
open Go.RowKit Go.Sort
open Go
set_option maxRecDepth 100000 in
set_option maxHeartbeats 16000000 in
theorem lay16no (n : Int) (p : Option Addr) (es : List Pt) (cp : Nat) (q : Option Addr) (rs : List (List Int)) (cq : Nat) (va aa vb ab : Int) (w : World) (h : Has w p es) (hr : RHas w q rs) (h0 : ¬ rotI n es rs = 0) : Calls Try.prog 16 #[nv n p es.length cp, .slice q rs.length cq, cv va aa, cv vb ab] w fun r w' => r = .returned (.tuple #[nv 0 none 0 0, .slice none 0 0, .int .i64 (rotI n es rs)]) ∧ Below w.heap.size w w' := by
  obtain ⟨W, hW, hb0, a0, ⟨s2, s2'⟩, ⟨s3, s3'⟩, z0⟩ := lay_boxes w n p es.length cp va aa vb ab
  have OF := hide (of40no n p es cp q rs cq W (h.later hb0) (hr.later hb0) h0)
  have HB := hide hb0
  have HZ := hide z0
  obtain ⟨x, hx⟩ : ∃ x, rotI n es rs = x := ⟨_, rfl⟩
  rw [hx] at OF h0 ⊢
  have t1 : (x == 0) = false := by simp [h0]
  obtain ⟨g0, g1, _, _⟩ := a0
  clear h hr hb0 z0 hx
  go_enter Try.func16, Try.ntmps16
  go_wp2_with fail
  rw [← hW]
  clear hW
  go_wp2_with fail
  refine OF.out.mono ?_
  rintro r w1 ⟨rfl, hb1⟩
  have HB1 := hide hb1
  have HZ1 := hide (HZ.out.later hb1)
  clear OF hb1 g0 g1 s2 s2' s3 s3'
  obtain ⟨r0, r1, r2, r3⟩ := HZ1.out
  go_wp2
  obtain ⟨V, hV⟩ : ∃ V, V = (w1.setCell ⟨w.heap.size + 3, 0, none⟩ (.int .i64 0)).setCell ⟨w.heap.size + 3, 1, none⟩ (.slice none 0 0) := ⟨_, rfl⟩
  have kV : NOwn V (w.heap.size + 3) 0 none 0 0 := by rw [hV]; exact HZ1.out.set 0 none 0 0
  have bV : Below w.heap.size w V := by rw [hV]; exact ((below_step HB.out HB1.out).setCell (by simp) _).setCell (by simp) _
  rw [← hV]
  exact bodyPost_ret (ret_net3 Try.results16 rfl rfl rfl kV) rfl ⟨rfl, bV⟩
set_option maxRecDepth 100000 in
set_option maxHeartbeats 16000000 in
theorem lay16off (n : Int) (p : Option Addr) (es : List Pt) (cp : Nat) (q : Option Addr) (rs : List (List Int)) (cq : Nat) (va aa vb ab : Int) (w : World) (h : Has w p es) (hr : RHas w q rs) (h0 : rotI n es rs = 0) (hc : ¬ (corB rs va aa = true ∧ corB rs vb ab = true)) : Calls Try.prog 16 #[nv n p es.length cp, .slice q rs.length cq, cv va aa, cv vb ab] w fun r w' => r = .returned (.tuple #[nv 0 none 0 0, .slice none 0 0, .int .i64 2]) ∧ Below w.heap.size w w' := by
  obtain ⟨W, hW, hb0, a0, ⟨s2, s2'⟩, ⟨s3, s3'⟩, z0⟩ := lay_boxes w n p es.length cp va aa vb ab
  obtain ⟨_, z2⟩ := rot_bounds h0
  have OF := hide (of40 n p es cp q rs cq W (h.later hb0) (hr.later hb0) h0)
  have HR := hide (hr.later hb0)
  have HB := hide hb0
  have HZ := hide z0
  have HZ2 := hide z2
  have HSA := hide (And.intro s2 s2')
  have HSB := hide (And.intro s3 s3')
  obtain ⟨g0, g1, _, _⟩ := a0
  clear h hr hb0 z0 h0 z2
  go_enter Try.func16, Try.ntmps16
  go_wp2_with fail
  rw [← hW]
  clear hW
  go_wp2_with fail
  refine OF.out.mono ?_
  rintro r w1 ⟨go, rfl, _, hb1⟩
  have HB1 := hide hb1
  have C1 := hide (corner48 q rs cq va aa w1 (HR.out.later hb1) (fun u hu => by have := HZ2.out u hu; omega))
  clear OF hb1 g0 g1 s2 s2' s3 s3'
  obtain ⟨s2, s2'⟩ := HSA.out
  have s2 := later HB1.out s2
  have s2' := later HB1.out s2'
  by_cases hca : corB rs va aa = true
  · rw [hca] at C1
    have hcb : corB rs vb ab = false := by
      cases e : corB rs vb ab
      · rfl
      · exact absurd ⟨hca, e⟩ hc
    go_wp2_with fail
    refine C1.out.mono ?_
    rintro r w2 ⟨rfl, hb2⟩
    have HB2 := hide (below_step HB1.out hb2)
    have C2 := corner48 q rs cq vb ab w2 (HR.out.later HB2.out) (fun u hu => by have := HZ2.out u hu; omega)
    rw [hcb] at C2
    have C2 := hide C2
    clear C1 hb2 s2 s2'
    obtain ⟨s3, s3'⟩ := HSB.out
    have s3 := later HB2.out s3
    have s3' := later HB2.out s3'
    go_wp2_with fail
    refine C2.out.mono ?_
    rintro r w3 ⟨rfl, hb3⟩
    have HB3 := hide (below_step HB2.out hb3)
    have HZ1 := hide (HZ.out.later HB3.out)
    clear C2 hb3 s3 s3'
    obtain ⟨r0, r1, r2, r3⟩ := HZ1.out
    go_wp2
    obtain ⟨V, hV⟩ : ∃ V, V = (w3.setCell ⟨w.heap.size + 3, 0, none⟩ (.int .i64 0)).setCell ⟨w.heap.size + 3, 1, none⟩ (.slice none 0 0) := ⟨_, rfl⟩
    have kV : NOwn V (w.heap.size + 3) 0 none 0 0 := by rw [hV]; exact HZ1.out.set 0 none 0 0
    have bV : Below w.heap.size w V := by rw [hV]; exact ((below_step HB.out HB3.out).setCell (by simp) _).setCell (by simp) _
    rw [← hV]
    exact bodyPost_ret (ret_net3 Try.results16 rfl rfl rfl kV) rfl ⟨rfl, bV⟩
  · rw [Bool.eq_false_iff.2 hca] at C1
    go_wp2_with fail
    refine C1.out.mono ?_
    rintro r w3 ⟨rfl, hb2⟩
    have HB3 := hide (below_step HB1.out hb2)
    have HZ1 := hide (HZ.out.later HB3.out)
    clear C1 hb2 s2 s2'
    obtain ⟨r0, r1, r2, r3⟩ := HZ1.out
    go_wp2
    obtain ⟨V, hV⟩ : ∃ V, V = (w3.setCell ⟨w.heap.size + 3, 0, none⟩ (.int .i64 0)).setCell ⟨w.heap.size + 3, 1, none⟩ (.slice none 0 0) := ⟨_, rfl⟩
    have kV : NOwn V (w.heap.size + 3) 0 none 0 0 := by rw [hV]; exact HZ1.out.set 0 none 0 0
    have bV : Below w.heap.size w V := by rw [hV]; exact ((below_step HB.out HB3.out).setCell (by simp) _).setCell (by simp) _
    rw [← hV]
    exact bodyPost_ret (ret_net3 Try.results16 rfl rfl rfl kV) rfl ⟨rfl, bV⟩
end Go.Proofs.Ytcgdmonejogbaaa
namespace Go.Proofs.Ytcgdmonejogbaaa
open Go.RowKit Go.Sort
open Go
theorem corB_lt {rs : List (List Int)} {v a : Int} (h : corB rs v a = true) : 0 ≤ v ∧ v < rs.length := by
  unfold corB at h
  rw [Bool.and_eq_true] at h
  exact of_decide_eq_true h.1
end Go.Proofs.Ytcgdmonejogbaaa
namespace Go.Proofs.Ytcgdmonejogbaaa
open Go.RowKit Go.Sort
open Go
theorem face_boxes (w : World) (n : Int) (p : Option Addr) (l c : Nat) (v a : Int) : ∃ W, W = (w.alloc (nbx n p l c)).alloc (cbx v a) ∧ Below w.heap.size w W ∧ NOwn W w.heap.size n p l c ∧ (W.cell? ⟨w.heap.size + 1, 0, none⟩ = some (.int .i64 v) ∧ W.cell? ⟨w.heap.size + 1, 1, none⟩ = some (.int .i64 a)) :=
  ⟨_, rfl, by go_grown, ⟨by go_cell, by go_cell, by simp [go_sem], by simp [go_sem]⟩, by go_cell, by go_cell⟩
set_option maxRecDepth 100000 in
set_option maxHeartbeats 16000000 in
theorem face15no (n : Int) (p : Option Addr) (es : List Pt) (cp : Nat) (q : Option Addr) (rs : List (List Int)) (cq : Nat) (v a : Int) (w : World) (h : Has w p es) (hr : RHas w q rs) (h0 : ¬ rotI n es rs = 0) : Calls Try.prog 15 #[nv n p es.length cp, .slice q rs.length cq, cv v a] w fun r w' => r = .returned (.tuple #[.int .i64 0, .int .i64 (rotI n es rs)]) ∧ Below w.heap.size w w' := by
  obtain ⟨W, hW, hb0, a0, s2, s2'⟩ := face_boxes w n p es.length cp v a
  have OF := hide (of40no n p es cp q rs cq W (h.later hb0) (hr.later hb0) h0)
  have HB := hide hb0
  obtain ⟨x, hx⟩ : ∃ x, rotI n es rs = x := ⟨_, rfl⟩
  rw [hx] at OF h0 ⊢
  have t1 : (x == 0) = false := by simp [h0]
  obtain ⟨g0, g1, _, _⟩ := a0
  clear h hr hb0 hx
  go_enter Try.func15, Try.ntmps15
  go_wp2_with fail
  rw [← hW]
  clear hW
  go_wp2_with fail
  refine OF.out.mono ?_
  rintro r w1 ⟨rfl, hb1⟩
  have HB1 := hide (below_step HB.out hb1)
  clear OF hb1 g0 g1 s2 s2'
  go_wp2
  go_ret2
  exact ⟨rfl, HB1.out⟩
set_option maxRecDepth 100000 in
set_option maxHeartbeats 16000000 in
theorem face15off (n : Int) (p : Option Addr) (es : List Pt) (cp : Nat) (q : Option Addr) (rs : List (List Int)) (cq : Nat) (v a : Int) (w : World) (h : Has w p es) (hr : RHas w q rs) (h0 : rotI n es rs = 0) (hc : ¬ corB rs v a = true) : Calls Try.prog 15 #[nv n p es.length cp, .slice q rs.length cq, cv v a] w fun r w' => r = .returned (.tuple #[.int .i64 0, .int .i64 2]) ∧ Below w.heap.size w w' := by
  obtain ⟨W, hW, hb0, a0, s2, s2'⟩ := face_boxes w n p es.length cp v a
  obtain ⟨_, z2⟩ := rot_bounds h0
  have OF := hide (of40 n p es cp q rs cq W (h.later hb0) (hr.later hb0) h0)
  have HR := hide (hr.later hb0)
  have HB := hide hb0
  have HZ2 := hide z2
  have HSA := hide (And.intro s2 s2')
  obtain ⟨g0, g1, _, _⟩ := a0
  clear h hr hb0 h0 z2
  go_enter Try.func15, Try.ntmps15
  go_wp2_with fail
  rw [← hW]
  clear hW
  go_wp2_with fail
  refine OF.out.mono ?_
  rintro r w1 ⟨go, rfl, _, hb1⟩
  have HB1 := hide hb1
  have C1 := corner48 q rs cq v a w1 (HR.out.later hb1) (fun u hu => by have := HZ2.out u hu; omega)
  rw [Bool.eq_false_iff.2 hc] at C1
  have C1 := hide C1
  clear OF hb1 g0 g1 s2 s2'
  obtain ⟨s2, s2'⟩ := HSA.out
  have s2 := later HB1.out s2
  have s2' := later HB1.out s2'
  go_wp2_with fail
  refine C1.out.mono ?_
  rintro r w3 ⟨rfl, hb2⟩
  have HB3 := hide (below_step (below_step HB.out HB1.out) hb2)
  clear C1 hb2 s2 s2'
  go_wp2
  go_ret2
  exact ⟨rfl, HB3.out⟩
set_option maxRecDepth 100000 in
set_option maxHeartbeats 16000000 in
theorem face15 (n : Int) (p : Option Addr) (es : List Pt) (cp : Nat) (q : Option Addr) (rs : List (List Int)) (cq : Nat) (v : Nat) (a : Int) (w : World) (h : Has w p es) (hr : RHas w q rs) (hcap : rs.length ≤ cq) (h0 : rotI n es rs = 0) (hc : corB rs v a = true) : Calls Try.prog 15 #[nv n p es.length cp, .slice q rs.length cq, cv v a] w fun r w' => r = .returned (.tuple #[.int .i64 (faceI rs (ofL es rs) v a), .int .i64 0]) ∧ Below w.heap.size w w' := by
  obtain ⟨W, hW, hb0, a0, s2, s2'⟩ := face_boxes w n p es.length cp v a
  obtain ⟨n0, n1, hes, _⟩ := netB_is (rot_is h0).1
  obtain ⟨_, z2⟩ := rot_bounds h0
  have hrn := (rot_is h0).2.1
  have OF := hide (of40 n p es cp q rs cq W (h.later hb0) (hr.later hb0) h0)
  have HR := hide (hr.later hb0)
  have HB := hide hb0
  have HZ2 := hide z2
  have HSA := hide (And.intro s2 s2')
  have HRT := hide h0
  obtain ⟨g0, g1, _, _⟩ := a0
  clear h hr hb0 h0 z2
  go_enter Try.func15, Try.ntmps15
  go_wp2_with fail
  rw [← hW]
  clear hW
  go_wp2_with fail
  refine OF.out.mono ?_
  rintro r w1 ⟨go, rfl, ho, hb1⟩
  have HB1 := hide hb1
  have HO := hide ho
  have C1 := corner48 q rs cq v a w1 (HR.out.later hb1) (fun u hu => by have := HZ2.out u hu; omega)
  rw [hc] at C1
  have C1 := hide C1
  clear OF hb1 g0 g1 s2 s2' ho
  obtain ⟨s2, s2'⟩ := HSA.out
  have s2 := later HB1.out s2
  have s2' := later HB1.out s2'
  go_wp2_with fail
  refine C1.out.mono ?_
  rintro r w2 ⟨rfl, hb2⟩
  have HB2 := hide (below_step HB1.out hb2)
  have hv := corB_lt hc
  have hol : (ofL es rs).length = 2 * es.length := (edge_ok (rot_is HRT.out).2.2).len
  have HOB : ∀ j, j < (ofL es rs).length → 0 ≤ iat (ofL es rs) j ∧ iat (ofL es rs) j < 100000 := fun j hj => by
    obtain ⟨f, k, hf, _, _, e⟩ := (fc_of (rot_is HRT.out).2.2).on j hj
    have := facesL_le HRT.out
    omega
  have F := face49 q (some ⟨go, 0, none⟩) rs cq (ofL es rs) (2 * es.length) v a w2 (HR.out.later HB2.out) ((HO.out.later hb2).has) (by rw [hol]; omega) HOB (by omega) (by omega) (fun u hu => by have := HZ2.out u hu; omega) (fun j hj => by have := rot_in HRT.out v (by omega) j hj; rw [hol]; omega) hc hcap
  rw [hol] at F
  have F := hide F
  clear C1 hb2 s2 s2' hol HOB hv
  obtain ⟨s2, s2'⟩ := HSA.out
  have s2 := later HB2.out s2
  have s2' := later HB2.out s2'
  go_wp2_with fail
  refine F.out.mono ?_
  rintro r w3 ⟨rfl, hb3⟩
  have HB3 := hide (below_step HB.out (below_step HB2.out hb3))
  clear F hb3 s2 s2'
  go_wp2
  go_ret2
  exact ⟨rfl, HB3.out⟩
end Go.Proofs.Ytcgdmonejogbaaa
namespace Go.Proofs.Ytcgdmonejogbaaa
open Go.RowKit Go.Sort
open Go
/-- Where a corner stands, or -1. -/
def plI (rs : List (List Int)) (v a : Int) : Int := if 0 ≤ v ∧ v < rs.length then (if (lat rs v.toNat).length = 0 then (if a = -1 then 0 else -1) else idxI (lat rs v.toNat) a) else -1
theorem plI_neg (rs : List (List Int)) (v a : Int) : plI rs v a < 0 ↔ ¬ corB rs v a = true := by
  unfold plI corB
  by_cases hv : 0 ≤ v ∧ v < rs.length
  · rw [if_pos hv, decide_eq_true hv, Bool.true_and]
    by_cases h0 : (lat rs v.toNat).length = 0
    · rw [if_pos h0, decide_eq_true h0, Bool.true_and]
      have hm : a ∉ lat rs v.toNat := by rw [List.eq_nil_of_length_eq_zero h0]; simp
      rw [decide_eq_false hm, Bool.false_or]
      by_cases ha : a = -1
      · simp [ha]
      · simp [ha]
    · rw [if_neg h0, decide_eq_false h0, Bool.false_and, Bool.or_false]
      by_cases hm : a ∈ lat rs v.toNat
      · rw [idxI_in hm]; simp [hm]
      · rw [idxI_out hm]; simp [hm]
  · rw [if_neg hv, decide_eq_false hv]; simp
set_option maxRecDepth 100000 in
set_option maxHeartbeats 16000000 in
theorem place64 (n : Int) (p : Option Addr) (l : Nat) (cp : Nat) (q : Option Addr) (rs : List (List Int)) (cq : Nat) (v a : Int) (w : World) (hr : RHas w q rs) (hn : (rs.length : Int) = n) (hl : ∀ u, u < rs.length → (lat rs u).length ≤ 1000000) : Calls Try.prog 64 #[nv n p l cp, .slice q rs.length cq, cv v a] w fun r w' => r = .returned (.int .i64 (plI rs v a)) ∧ Below w.heap.size w w' := by
  obtain ⟨W, hW, hb0, a0, s2, s2'⟩ := face_boxes w n p l cp v a
  have HR := hide (hr.later hb0)
  have HB := hide hb0
  obtain ⟨g0, g1, _, _⟩ := a0
  by_cases hv : 0 ≤ v ∧ v < rs.length
  · have e1 : ¬ v < 0 := by omega
    have e2 : ¬ v ≥ n := by omega
    obtain ⟨V, rfl⟩ : ∃ V : Nat, v = V := ⟨v.toNat, by omega⟩
    have hV : V < rs.length := by omega
    obtain ⟨b1, o1, a1, k1, rfl, c0, m1, z1, _⟩ := HR.out.at_ hV
    have e3 : (V : Int) < rs.length := by omega
    have hlv := hl V hV
    have HP : Hid (plI rs V a = if (lat rs V).length = 0 then (if a = -1 then 0 else -1) else idxI (lat rs V) a) := by show _ = _; unfold plI; rw [if_pos hv, Int.toNat_natCast]
    clear hr hb0 hv hl
    by_cases h0 : (lat rs V).length = 0
    · rw [if_pos h0] at HP
      rw [h0] at c0
      clear h0 m1 z1
      by_cases ha : a = -1
      · rw [if_pos ha] at HP
        rw [HP.out]
        subst ha
        clear HP
        go_enter Try.func64, Try.ntmps64
        go_upto_region 1 with fail
        rw [← hW]
        clear hW
        go_wp2
        go_ret
        exact ⟨rfl, HB.out⟩
      · rw [if_neg ha] at HP
        rw [HP.out]
        have t1 : (a == -1) = false := beq_eq_false_iff_ne.2 ha
        clear HP ha
        go_enter Try.func64, Try.ntmps64
        go_upto_region 1 with fail
        rw [← hW]
        clear hW
        go_wp2
        go_ret
        exact ⟨rfl, HB.out⟩
    · rw [if_neg h0] at HP
      rw [HP.out]
      have t0 : (((lat rs V).length : Int) == 0) = false := beq_eq_false_iff_ne.2 (by omega)
      obtain ⟨L, hL⟩ : ∃ L, lat rs V = L := ⟨_, rfl⟩
      rw [hL] at c0 m1 z1 t0 hlv ⊢
      clear HP h0 hL
      go_enter Try.func64, Try.ntmps64
      go_upto_region 1 with fail
      rw [← hW]
      clear hW
      go_wp2_with fail
      go_loopw [7] (fun t7 wr => ∃ k : Nat, k ≤ L.length ∧ t7 = .int .i64 k ∧ (∀ j, j < k → iat L j ≠ a) ∧ Hid (Below W.heap.size W wr)) (fun t7 _ => L.length - (intOf t7).toNat)
      case atStart => exact ⟨0, by omega, rfl, fun j hj => absurd hj (by omega), Below.refl _ _⟩
      case round =>
        obtain ⟨k, hk, rfl, hne, HBr⟩ := hrel
        have HNE := hide hne
        clear hne
        have s3 := later HBr.out s2
        have s3' := later HBr.out s2'
        have c3 := later HBr.out c0
        by_cases hkl : k < L.length
        · rcases m1 with hn | ⟨b2, o2, rfl, l2⟩
          · rw [hn] at hkl; simp at hkl
          have d0 := later HBr.out (l2 k hkl)
          have k1 : (k : Int) < L.length := by omega
          obtain ⟨y, hy⟩ : ∃ y, iat L k = y := ⟨_, rfl⟩
          rw [hy] at d0
          by_cases hya : y = a
          · have HID : Hid (idxI L a = k) := by
              show _ = _
              have hm : a ∈ L := by rw [← hya, ← hy]; exact iat_mem hkl
              rw [idxI_in hm]
              obtain ⟨i1, i2, i3⟩ := idxOf_at hm
              rcases Nat.lt_trichotomy (L.idxOf a) k with h1 | h1 | h1
              · exact absurd i2 (HNE.out _ h1)
              · rw [h1]
              · exact absurd (by rw [hy, hya]) (i3 k h1)
            subst hya
            clear hy l2
            go_wp2_with fail
            go_quiet (fail)
            go_wp2
            go_ret
            exact ⟨by rw [HID.out]; rfl, below_step HB.out (below_drewN HBr.out)⟩
          · have t1 : (y == a) = false := beq_eq_false_iff_ne.2 hya
            have HN1 : Hid (∀ j, j < k + 1 → iat L j ≠ a) := fun j hj => by
              rcases Nat.lt_or_eq_of_le (Nat.le_of_lt_succ hj) with h1 | h1
              · exact HNE.out j h1
              · rw [h1, hy]; exact hya
            clear hy l2 hya
            go_wp2_with fail
            go_quiet (fail)
            go_wp2
            go_roundw
            case rel => exact ⟨k + 1, by omega, by go_num, HN1.out, below_drewN HBr.out⟩
            case measure => simp [intOf]; omega
        · have k1 : ¬ (k : Int) < L.length := by omega
          have HID : Hid (idxI L a = -1) := by
            show _ = _
            refine idxI_out fun hm => ?_
            obtain ⟨i1, i2, _⟩ := idxOf_at hm
            exact HNE.out _ (by omega) i2
          go_wp2
          go_ret
          exact ⟨by rw [HID.out]; rfl, below_step HB.out HBr.out⟩
  · have HP : plI rs v a = -1 := by unfold plI; rw [if_neg hv]
    rw [HP]
    clear hr hb0 hl HP
    by_cases e1 : v < 0
    · go_enter Try.func64, Try.ntmps64
      go_upto_region 1 with fail
      rw [← hW]
      clear hW
      go_wp2
      go_ret
      exact ⟨rfl, HB.out⟩
    · have e2 : v ≥ n := by omega
      go_enter Try.func64, Try.ntmps64
      go_upto_region 1 with fail
      rw [← hW]
      clear hW
      go_wp2
      go_ret
      exact ⟨rfl, HB.out⟩
end Go.Proofs.Ytcgdmonejogbaaa
namespace Go.Proofs.Ytcgdmonejogbaaa
open Go.RowKit Go.Sort
open Go
set_option maxRecDepth 100000 in
set_option maxHeartbeats 16000000 in
theorem face25off (n : Int) (p : Option Addr) (es : List Pt) (cp : Nat) (q : Option Addr) (rs : List (List Int)) (cq : Nat) (v a : Int) (w : World) (hr : RHas w q rs) (h0 : rotI n es rs = 0) (hc : ¬ corB rs v a = true) : Calls Try.prog 25 #[nv n p es.length cp, .slice q rs.length cq, cv v a] w fun r w' => r = .returned (.tuple #[.int .i64 0, .int .i64 2]) ∧ Below w.heap.size w w' := by
  obtain ⟨W, hW, hb0, a0, s2, s2'⟩ := face_boxes w n p es.length cp v a
  obtain ⟨_, z2⟩ := rot_bounds h0
  have PL := hide (place64 n p es.length cp q rs cq v a W (hr.later hb0) (rot_is h0).2.1 (fun u hu => by have := z2 u hu; omega))
  have HB := hide hb0
  have e1 := (plI_neg rs v a).2 hc
  obtain ⟨k, hk⟩ : ∃ k, plI rs v a = k := ⟨_, rfl⟩
  rw [hk] at PL e1
  obtain ⟨g0, g1, _, _⟩ := a0
  clear hr hb0 h0 z2 hk
  go_enter Try.func25, Try.ntmps25
  go_upto_region 1 with fail
  rw [← hW]
  clear hW
  go_wp2_with fail
  refine PL.out.mono ?_
  rintro r w1 ⟨rfl, hb1⟩
  have HB1 := hide (below_step HB.out hb1)
  clear PL hb1 g0 g1 s2 s2'
  go_wp2
  go_ret2
  exact ⟨rfl, HB1.out⟩
end Go.Proofs.Ytcgdmonejogbaaa
