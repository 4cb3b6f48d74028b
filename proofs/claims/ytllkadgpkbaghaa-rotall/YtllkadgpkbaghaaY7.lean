/- rot.Same and the document's Same, in every world. -/
import Derived.Test.YtllkadgpkbaghaaY6
namespace Go.Proofs.Ytllkadgpkbaghaa
open Go.RowKit Go.Sort
open Go

/-- A rotation, each list from its least number on. -/
def canonL (rs : List (List Int)) : List (List Int) := rs.map turnL
theorem canonL_length (rs : List (List Int)) : (canonL rs).length = rs.length := by simp [canonL]
theorem lat_canon {rs : List (List Int)} {v : Nat} (hv : v < rs.length) : lat (canonL rs) v = turnL (lat rs v) := lat_map turnL hv
/-- What a rotation's lists hold is bounded. -/
theorem rot_is {n : Int} {es : List Pt} {rs : List (List Int)} (h : rotI n es rs = 0) : netB n es = true ∧ (rs.length : Int) = n ∧ holdsP es rs := by
  unfold rotI at h
  by_cases hm : netB n es = true
  · rw [if_pos hm] at h
    by_cases hn : (rs.length : Int) = n
    · rw [if_pos hn] at h
      by_cases hh : holdsB es rs = true
      · exact ⟨hm, hn, of_decide_eq_true hh⟩
      · rw [if_neg hh] at h; omega
    · rw [if_neg hn] at h; omega
  · rw [if_neg hm] at h; omega
theorem lat_le_flat {rs : List (List Int)} {v : Nat} (hv : v < rs.length) : (lat rs v).length ≤ rs.flatten.length := by
  have : lat rs v ∈ rs := by
    unfold lat
    rw [List.getD_eq_getElem?_getD, List.getElem?_eq_getElem hv]
    exact List.getElem_mem hv
  exact (List.sublist_flatten_of_mem this).length_le
theorem rot_bounds {n : Int} {es : List Pt} {rs : List (List Int)} (h : rotI n es rs = 0) : rs.length ≤ 1024 ∧ ∀ v, v < rs.length → (lat rs v).length ≤ 6144 := by
  obtain ⟨h1, h2, h3⟩ := rot_is h
  obtain ⟨n0, n1, hes, _⟩ := netB_is h1
  refine ⟨by omega, fun v hv => ?_⟩
  have := lat_le_flat hv
  have := h3.2
  omega
/-- What Same answers. -/
def sameE (n : Int) (es : List Pt) (a b : List (List Int)) : Int := if rotI n es a = 0 then rotI n es b else rotI n es a
def sameR (n : Int) (es : List Pt) (a b : List (List Int)) : Bool := if sameE n es a b = 0 then decide (canonL a = canonL b) else false
set_option maxRecDepth 100000 in
set_option maxHeartbeats 8000000 in
theorem same19 (n : Int) (p : Option Addr) (es : List Pt) (cp : Nat) (q1 q2 : Option Addr) (a b : List (List Int)) (k1 k2 : Nat) (w : World) (h : Has w p es) (ha : RHas w q1 a) (hb : RHas w q2 b) : Calls Try.prog 19 #[nv n p es.length cp, .slice q1 a.length k1, .slice q2 b.length k2] w fun e w' => e = .returned (.tuple #[.bool (sameR n es a b), .int .i64 (sameE n es a b)]) ∧ Below w.heap.size w w' := by
  obtain ⟨W, hW, hb0, a0⟩ := one_net w n p es.length cp
  have M := hide (mayR13 n p es cp q1 a k1 W (h.later hb0) (ha.later hb0))
  have HH := hide (h.later hb0)
  have HRa := hide (ha.later hb0)
  have HRb := hide (hb.later hb0)
  have HB := hide hb0
  have HA := hide a0
  clear h ha hb hb0 a0
  go_enter Try.func19, Try.ntmps19
  go_wp2_with fail
  rw [← hW]
  clear hW
  refine M.out.mono ?_
  rintro e w1 ⟨rfl, hb1⟩
  have HB1 := hide hb1
  clear hb1 M
  by_cases ra : rotI n es a = 0
  · have HSE : Hid (sameE n es a b = rotI n es b) := by show _ = _; unfold sameE; rw [if_pos ra]
    obtain ⟨z1, z2⟩ := rot_bounds ra
    have M := hide (mayR13 n p es cp q2 b k2 w1 (HH.out.later HB1.out) (HRb.out.later HB1.out))
    obtain ⟨q0, q1', _, _⟩ := HA.out.later HB1.out
    rw [ra]
    clear ra
    go_wp2_with fail
    refine M.out.mono ?_
    rintro e w2 ⟨rfl, hb2⟩
    have HB2 := hide (below_step HB1.out hb2)
    clear hb2 M q0 q1'
    by_cases rb : rotI n es b = 0
    · obtain ⟨y1, y2⟩ := rot_bounds rb
      have HSR : Hid (sameR n es a b = decide (canonL a = canonL b)) := by show _ = _; unfold sameR; rw [HSE.out, if_pos rb]
      rw [rb] at HSE ⊢
      have T1 := hide (turned54 q1 a k1 w2 (HRa.out.later HB2.out) (by omega) (fun v hv => by have := z2 v hv; omega))
      have HZ := hide z2
      have HY := hide y2
      clear z2 y2 rb
      go_wp2_with fail
      refine T1.out.mono ?_
      rintro e w3 ⟨g1, rv1, rfl, hr1, hb3⟩
      have HB3 := hide (below_step HB2.out hb3)
      have HR1 := hide hr1
      have T2 := hide (turned54 q2 b k2 w3 (HRb.out.later HB3.out) (by omega) (fun v hv => by have := HY.out v hv; omega))
      clear hr1 hb3 T1
      go_wp2_with fail
      refine T2.out.mono ?_
      rintro e w4 ⟨g2, rv2, rfl, hr2, hb4⟩
      have HB4 := hide (below_step HB3.out hb4)
      have HF1 : Hid (RHas w4 (some ⟨g1, 0, none⟩) (canonL a)) := (HR1.out.later hb4).has (canonL_length a) (fun v hv => (lat_canon hv).symm) (fun v hv => by rw [lat_canon hv, turnL_length]; have := HZ.out v hv; unfold maxLen; omega)
      have HF2 : Hid (RHas w4 (some ⟨g2, 0, none⟩) (canonL b)) := hr2.has (canonL_length b) (fun v hv => (lat_canon hv).symm) (fun v hv => by rw [lat_canon hv, turnL_length]; have := HY.out v hv; unfold maxLen; omega)
      have EQ := hide (equal53 (some ⟨g1, 0, none⟩) (some ⟨g2, 0, none⟩) (canonL a) (canonL b) a.length b.length w4 (by rw [canonL_length]; unfold maxLen; omega) HF1.out HF2.out)
      rw [canonL_length, canonL_length] at EQ
      clear hr2 hb4 T2
      go_wp2_with fail
      refine EQ.out.mono ?_
      rintro e w5 ⟨rfl, hb5⟩
      have HB5 := hide (below_step (below_step HB.out HB4.out) hb5)
      clear hb5 EQ
      go_wp2
      go_ret2
      exact ⟨by rw [HSR.out, HSE.out]; rfl, HB5.out⟩
    · have HSR : Hid (sameR n es a b = false) := by show _ = _; unfold sameR; rw [HSE.out, if_neg rb]
      obtain ⟨x, hx⟩ : ∃ x, rotI n es b = x := ⟨_, rfl⟩
      rw [hx] at HSE rb ⊢
      have t1 : (x == 0) = false := by simp [rb]
      clear hx
      go_wp2
      go_ret2
      exact ⟨by rw [HSR.out, HSE.out]; rfl, below_step HB.out HB2.out⟩
  · have HSE : Hid (sameE n es a b = rotI n es a) := by show _ = _; unfold sameE; rw [if_neg ra]
    have HSR : Hid (sameR n es a b = false) := by show _ = _; unfold sameR; rw [HSE.out, if_neg ra]
    obtain ⟨x, hx⟩ : ∃ x, rotI n es a = x := ⟨_, rfl⟩
    rw [hx] at HSE ra ⊢
    have t1 : (x == 0) = false := by simp [ra]
    clear hx
    go_wp2
    go_ret2
    exact ⟨by rw [HSR.out, HSE.out]; rfl, below_step HB.out HB1.out⟩
end Go.Proofs.Ytllkadgpkbaghaa
