/- rot.Faces and Genus, in every world. -/
import Derived.Test.YtllkadgpkbaghaaY12
import Derived.Test.YtllkadgpkbaghaaC6
namespace Go.Proofs.Ytllkadgpkbaghaa
open Go.RowKit Go.Sort
open Go

/-- An empty face for each empty list. -/
def emptyN (rs : List (List Int)) : Nat → List (List Int)
  | 0 => []
  | v + 1 => if (lat rs v).length = 0 then emptyN rs v ++ [[]] else emptyN rs v
theorem emptyN_le (rs : List (List Int)) : ∀ v, (emptyN rs v).length ≤ v
  | 0 => by simp [emptyN]
  | v + 1 => by
    have := emptyN_le rs v
    unfold emptyN
    split
    · simp; exact this
    · omega
/-- The faces that have half-edges. -/
def edgeF (es : List Pt) (rs : List (List Int)) : List (List Int) := (trN (nxN rs (2 * es.length) rs.length) (2 * es.length) (2 * es.length)).2
def facesL (es : List Pt) (rs : List (List Int)) : List (List Int) := edgeF es rs ++ emptyN rs rs.length
theorem edgeF_le (es : List Pt) (rs : List (List Int)) : (edgeF es rs).length ≤ 2 * es.length := trN_faces _ _ _
theorem nxRow_in {l N : List Int} {m : Nat} (hl : ∀ j, j < l.length → 0 ≤ iat l j ∧ iat l j < m) (hN : ∀ x ∈ N, 0 ≤ x ∧ x < (m : Int)) : ∀ j, j ≤ l.length → ∀ x ∈ nxRow l N j, 0 ≤ x ∧ x < (m : Int)
  | 0, _ => hN
  | j + 1, hj => fun x hx => by
    unfold nxRow at hx
    rcases List.mem_or_eq_of_mem_set hx with h | h
    · exact nxRow_in hl hN j (by omega) x h
    · rw [h]
      exact hl _ (Nat.mod_lt _ (by omega))
theorem nxN_in {rs : List (List Int)} {m : Nat} (hm : 0 < m) (hl : ∀ v, v < rs.length → ∀ j, j < (lat rs v).length → 0 ≤ iat (lat rs v) j ∧ iat (lat rs v) j < m) : ∀ v, v ≤ rs.length → ∀ x ∈ nxN rs m v, 0 ≤ x ∧ x < (m : Int)
  | 0, _ => fun x hx => by
    unfold nxN at hx
    rw [List.eq_of_mem_replicate hx]
    omega
  | v + 1, hv => by
    unfold nxN
    exact nxRow_in (hl v (by omega)) (nxN_in hm hl v (by omega)) _ (Nat.le_refl _)
theorem rot_in {n : Int} {es : List Pt} {rs : List (List Int)} (h : rotI n es rs = 0) : ∀ v, v < rs.length → ∀ j, j < (lat rs v).length → 0 ≤ iat (lat rs v) j ∧ iat (lat rs v) j < 2 * es.length := fun v hv j hj => by
  have := (rot_is h).2.2.1 v hv j hj
  exact ⟨this.1, this.2.1⟩
theorem FB.base {w : World} {B B' : Nat} {fv : Value} {F : List (List Int)} {rv : Nat → Value} (h : FB w B fv F rv) (hb : B' ≤ B) : FB w B' fv F rv := ⟨owns_base h.lst hb, h.uniq, fun v hv => (h.own v hv).base hb⟩
set_option maxRecDepth 100000 in
set_option maxHeartbeats 16000000 in
theorem faces21no (n : Int) (p : Option Addr) (es : List Pt) (cp : Nat) (q : Option Addr) (rs : List (List Int)) (cq : Nat) (w : World) (h : Has w p es) (hr : RHas w q rs) (h0 : ¬ rotI n es rs = 0) : Calls Try.prog 21 #[nv n p es.length cp, .slice q rs.length cq] w fun e w' => e = .returned (.tuple #[.slice none 0 0, .int .i64 (rotI n es rs)]) ∧ Below w.heap.size w w' := by
  obtain ⟨W, hW, hb0, a0⟩ := one_net w n p es.length cp
  have M := hide (mayR13 n p es cp q rs cq W (h.later hb0) (hr.later hb0))
  have HB := hide hb0
  obtain ⟨x, hx⟩ : ∃ x, rotI n es rs = x := ⟨_, rfl⟩
  rw [hx] at M h0 ⊢
  have t1 : (x == 0) = false := by simp [h0]
  clear h hr hb0 hx
  go_enter Try.func21, Try.ntmps21
  go_wp2_with fail
  rw [← hW]
  clear hW
  refine M.out.mono ?_
  rintro e w1 ⟨rfl, hb1⟩
  have HB1 := hide (below_step HB.out hb1)
  clear hb1 M
  go_wp2
  go_ret2
  exact ⟨rfl, HB1.out⟩
set_option maxRecDepth 100000 in
set_option maxHeartbeats 16000000 in
theorem faces21 (n : Int) (p : Option Addr) (es : List Pt) (cp : Nat) (q : Option Addr) (rs : List (List Int)) (cq : Nat) (w : World) (h : Has w p es) (hr : RHas w q rs) (h0 : rotI n es rs = 0) : Calls Try.prog 21 #[nv n p es.length cp, .slice q rs.length cq] w fun e w' => ∃ p1 c1 rv, e = .returned (.tuple #[.slice p1 (facesL es rs).length c1, .int .i64 0]) ∧ FB w' w.heap.size (.slice p1 (facesL es rs).length c1) (facesL es rs) rv ∧ Below w.heap.size w w' := by
  obtain ⟨W, hW, hb0, a0⟩ := one_net w n p es.length cp
  have M := hide (mayR13 n p es cp q rs cq W (h.later hb0) (hr.later hb0))
  obtain ⟨z1, z2⟩ := rot_bounds h0
  obtain ⟨n0, n1, hes, _⟩ := netB_is (rot_is h0).1
  have HIN := hide (rot_in h0)
  rw [h0] at M
  have HR := hide (hr.later hb0)
  have HB := hide hb0
  have HA := hide a0
  have HZ := hide z2
  clear h hr hb0 a0 h0 z2
  go_enter Try.func21, Try.ntmps21
  go_wp2_with fail
  rw [← hW]
  clear hW
  refine M.out.mono ?_
  rintro e w1 ⟨rfl, hb1⟩
  have HB1 := hide hb1
  obtain ⟨q0, q1, _, _⟩ := HA.out.later hb1
  have NX := hide (nexts57 q rs cq es.length w1 (HR.out.later hb1) (by omega) (by omega) (fun v hv => by have := HZ.out v hv; omega) HIN.out)
  clear hb1 M
  rw [show ((2 * es.length : Nat) : Int) = 2 * es.length by omega] at NX
  go_wp2_with fail
  refine NX.out.mono ?_
  rintro e w2 ⟨g2, rfl, hrow, hb2⟩
  have HB2 := hide (below_step HB1.out hb2)
  have HLN : Hid ((nxN rs (2 * es.length) rs.length).length = 2 * es.length) := nxN_length _ _ _
  have TR := hide (traced56 (some ⟨g2, 0, none⟩) (nxN rs (2 * es.length) rs.length) (2 * es.length) (2 * es.length) w2 (Or.inr ⟨g2, 0, rfl, hrow.2.lies⟩) HLN.out (by omega) (fun j hj => nxN_in (m := 2 * es.length) (by omega) (fun v hv i hi => by have := HIN.out v hv i hi; omega) _ (Nat.le_refl _) _ (iat_mem (by rw [HLN.out]; exact hj))))
  clear hrow hb2 NX q0 q1
  go_wp2_with fail
  refine TR.out.mono ?_
  rintro e w3 ⟨p1, c1, g3, rv, rfl, hfb, _, hb3⟩
  have HB3 := hide (below_step HB2.out hb3)
  have HF3 : Hid (∃ rv, FB w3 W.heap.size (.slice p1 (edgeF es rs).length c1) (edgeF es rs) rv) := ⟨rv, hfb.base HB2.out.size⟩
  have hel := edgeF_le es rs
  rw [show (trN (nxN rs (2 * es.length) rs.length) (2 * es.length) (2 * es.length)).2 = edgeF es rs from rfl]
  clear hfb hb3 TR
  have HFL : Hid (facesL es rs = edgeF es rs ++ emptyN rs rs.length) := rfl
  obtain ⟨EF, hEF⟩ : ∃ EF, edgeF es rs = EF := ⟨_, rfl⟩
  rw [hEF] at HF3 hel HFL ⊢
  clear hEF
  go_wp2_with fail
  go_loopw [7, 29] (fun t7 t29 wr => ∃ (v : Nat) (p7 : Option Addr) (c7 : Nat), v ≤ rs.length ∧ t7 = .slice p7 (EF ++ emptyN rs v).length c7 ∧ t29 = .int .i64 v ∧ Hid (Below W.heap.size W wr) ∧ Hid (∃ rv, FB wr W.heap.size (.slice p7 (EF ++ emptyN rs v).length c7) (EF ++ emptyN rs v) rv)) (fun _ t29 _ => rs.length - (intOf t29).toNat)
  case atStart => exact ⟨0, p1, c1, by omega, by simp [emptyN], rfl, HB3.out, by show ∃ rv, _; simp only [emptyN, List.append_nil]; exact HF3.out⟩
  case round =>
    obtain ⟨v, p7, c7, hv, rfl, rfl, HBr, HFr⟩ := hrel
    clear HB3 HF3
    by_cases hlt : v < rs.length
    · obtain ⟨b1, o1, a1, k1, rfl, c0W, m1, z3⟩ := HR.out.at_ hlt
      have c0 := later HBr.out c0W
      have e1 : (v : Int) < rs.length := by omega
      have HEN : Hid (emptyN rs (v + 1) = if (lat rs v).length = 0 then emptyN rs v ++ [[]] else emptyN rs v) := rfl
      have hev := emptyN_le rs v
      clear m1 z3 c0W
      by_cases hl0 : (lat rs v).length = 0
      · rw [if_pos hl0] at HEN
        rw [hl0] at c0
        obtain ⟨rv', hfb⟩ := HFr.out
        have hlen : (EF ++ emptyN rs v).length ≤ 1000000 := by rw [List.length_append]; omega
        have hws : W.heap.size ≤ wr.heap.size := HBr.out.size
        obtain ⟨p9, l9, c9, D, ea, hl9, fbD, bd, _⟩ := hfb.push (L := []) (a := none) (b := 0) (c := 0) hws (IOwns.nil _ _) (fun u j _ hj => by simp [Value.ownBlock] at hj) hlen
        have bd2 : Below W.heap.size W D := HBr.out.trans bd
        have HBD := hide bd2
        have HFL2 : Hid ((EF ++ emptyN rs (v + 1)).length = l9) := by show _ = _; rw [HEN.out, hl9, ← List.append_assoc]; simp; omega
        have HFD : Hid (∃ rv, FB D W.heap.size (.slice p9 l9 c9) (EF ++ emptyN rs (v + 1)) rv) := ⟨_, by rw [HEN.out, ← List.append_assoc]; exact fbD⟩
        clear hfb fbD bd bd2 hl9 hl0 hlen hws
        go_wp2_with (at_builtin; refine wpList_run_append rfl (.tmp 36) (.tmp 37) 25 rfl 25 rfl _ _ _ D rfl rfl ea ?_)
        go_roundw
        case rel => exact ⟨v + 1, p9, c9, by omega, by rw [HFL2.out], by go_num, HBD.out, by show ∃ rv, _; rw [HFL2.out]; exact HFD.out⟩
        case measure => simp [intOf]; omega
      · rw [if_neg hl0] at HEN
        have t1 : (((lat rs v).length : Int) == 0) = false := beq_eq_false_iff_ne.2 (by omega)
        clear hl0
        go_wp2
        go_roundw
        case rel => exact ⟨v + 1, p7, c7, by omega, by rw [HEN.out], by go_num, HBr.out, by show ∃ rv, _; rw [HEN.out]; exact HFr.out⟩
        case measure => simp [intOf]; omega
    · have hve : v = rs.length := by omega
      have e1 : ¬ (v : Int) < rs.length := by omega
      rw [hve] at HFr ⊢
      rw [← HFL.out] at HFr ⊢
      have HFE : Hid (∃ rv, FB wr w.heap.size (.slice p7 (facesL es rs).length c7) (facesL es rs) rv) := by obtain ⟨r, hr⟩ := HFr.out; exact ⟨r, hr.base HB.out.size⟩
      clear hve
      have e2 : ¬ (rs.length : Int) < rs.length := by omega
      go_wp2
      go_ret2
      exact ⟨p7, c7, rfl, HFE.out, below_step HB.out HBr.out⟩
theorem facesL_le {n : Int} {es : List Pt} {rs : List (List Int)} (h : rotI n es rs = 0) : (facesL es rs).length ≤ 10000 := by
  obtain ⟨z1, _⟩ := rot_bounds h
  obtain ⟨n0, n1, hes, _⟩ := netB_is (rot_is h).1
  have h1 := edgeF_le es rs
  have h2 := emptyN_le rs rs.length
  unfold facesL
  rw [List.length_append]
  omega
theorem tdiv_in {x : Int} (h1 : -100000 ≤ x) (h2 : x ≤ 100000) : -100000 ≤ Int.tdiv x 2 ∧ Int.tdiv x 2 ≤ 100000 := by
  rcases Int.le_total 0 x with h | h
  · rw [Int.tdiv_eq_ediv_of_nonneg h]; omega
  · obtain ⟨y, rfl⟩ : ∃ y, x = -y := ⟨-x, by omega⟩
    rw [Int.neg_tdiv, Int.tdiv_eq_ediv_of_nonneg (by omega)]
    omega
/-- How many components there are. -/
def compN (n : Int) (es : List Pt) : Nat := pcnt (everyN es n.toNat n.toNat).O (everyN es n.toNat n.toNat).By (everyN es n.toNat n.toNat).O.length
def genusI (n : Int) (es : List Pt) (rs : List (List Int)) : Int := Int.tdiv (2 * (compN n es : Nat) - n + es.length - (facesL es rs).length) 2
set_option maxRecDepth 100000 in
set_option maxHeartbeats 16000000 in
theorem genus22no (n : Int) (p : Option Addr) (es : List Pt) (cp : Nat) (q : Option Addr) (rs : List (List Int)) (cq : Nat) (w : World) (h : Has w p es) (hr : RHas w q rs) (h0 : ¬ rotI n es rs = 0) : Calls Try.prog 22 #[nv n p es.length cp, .slice q rs.length cq] w fun e w' => e = .returned (.tuple #[.int .i64 0, .int .i64 (rotI n es rs)]) ∧ Below w.heap.size w w' := by
  obtain ⟨W, hW, hb0, a0⟩ := one_net w n p es.length cp
  have M := hide (faces21no n p es cp q rs cq W (h.later hb0) (hr.later hb0) h0)
  have HB := hide hb0
  obtain ⟨x, hx⟩ : ∃ x, rotI n es rs = x := ⟨_, rfl⟩
  rw [hx] at M h0 ⊢
  have t1 : (x == 0) = false := by simp [h0]
  clear h hr hb0 hx
  go_enter Try.func22, Try.ntmps22
  go_wp2_with fail
  rw [← hW]
  clear hW
  refine M.out.mono ?_
  rintro e w1 ⟨rfl, hb1⟩
  have HB1 := hide (below_step HB.out hb1)
  clear hb1 M
  go_wp2
  go_ret2
  exact ⟨rfl, HB1.out⟩
set_option maxRecDepth 100000 in
set_option maxHeartbeats 16000000 in
theorem genus22 (n : Int) (p : Option Addr) (es : List Pt) (cp : Nat) (q : Option Addr) (rs : List (List Int)) (cq : Nat) (w : World) (h : Has w p es) (hr : RHas w q rs) (h0 : rotI n es rs = 0) (hc : compN n es ≤ 10000) : Calls Try.prog 22 #[nv n p es.length cp, .slice q rs.length cq] w fun e w' => e = .returned (.tuple #[.int .i64 (genusI n es rs), .int .i64 0]) ∧ Below w.heap.size w w' := by
  obtain ⟨W, hW, hb0, a0⟩ := one_net w n p es.length cp
  have M := hide (faces21 n p es cp q rs cq W (h.later hb0) (hr.later hb0) h0)
  have hfl := facesL_le h0
  have hm := (rot_is h0).1
  obtain ⟨n0, n1, hes, _⟩ := netB_is hm
  obtain ⟨k, rfl⟩ : ∃ k : Nat, n = k := ⟨n.toNat, by omega⟩
  have HH := hide (h.later hb0)
  have HB := hide hb0
  have HA := hide a0
  have HM := hide hm
  have HGE : Hid (genusI k es rs = Int.tdiv (2 * (compN k es : Nat) - k + es.length - (facesL es rs).length) 2) := rfl
  have HCE : Hid (compN (k : Int) es = pcnt (everyN es k k).O (everyN es k k).By (everyN es k k).O.length) := rfl
  obtain ⟨fl, hflE⟩ : ∃ fl, (facesL es rs).length = fl := ⟨_, rfl⟩
  rw [hflE] at M hfl HGE
  obtain ⟨c, hcE⟩ : ∃ c, compN (k : Int) es = c := ⟨_, rfl⟩
  rw [hcE] at hc HGE HCE
  clear h hr hb0 a0 h0 hm hcE
  go_enter Try.func22, Try.ntmps22
  go_wp2_with fail
  rw [← hW]
  clear hW
  refine M.out.mono ?_
  rintro e w1 ⟨p1, c1, rv, rfl, _, hb1⟩
  have HB1 := hide hb1
  have PT := hide (parts15 k p es cp w1 (HH.out.later hb1) HM.out)
  rw [← HCE.out] at PT
  obtain ⟨q0, q1, _, _⟩ := HA.out.later hb1
  clear hb1 M hflE
  go_wp2_with fail
  refine PT.out.mono ?_
  rintro e w2 ⟨g2, rfl, _, hb2⟩
  have HB2 := hide (below_step HB1.out hb2)
  obtain ⟨q2, q3, _, _⟩ := HA.out.later HB2.out
  have d1 : -100000 ≤ Int.tdiv (2 * (c : Int) - k + es.length - fl) 2 ∧ Int.tdiv (2 * (c : Int) - k + es.length - fl) 2 ≤ 100000 := tdiv_in (by omega) (by omega)
  clear hb2 PT q0 q1
  go_wp2
  go_ret2
  exact ⟨by rw [HGE.out]; rfl, below_step HB.out HB2.out⟩
end Go.Proofs.Ytllkadgpkbaghaa
