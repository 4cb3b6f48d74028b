/- slices.Clone and rot.Mirror, in every world. -/
import Derived.Test.YtcgdmonejogbaaaC5
import Derived.Test.YtcgdmonejogbaaaY12
import Derived.Test.YtcgdmonejogbaaaA4
namespace Go.Proofs.Ytcgdmonejogbaaa
open Go.RowKit Go.Sort
open Go
/-- How many components have begun among the first nodes of a tour. -/
def pcnt (O By : List Int) : Nat → Nat
  | 0 => 0
  | j + 1 => if iat By (iat O j).toNat < 0 then pcnt O By j + 1 else pcnt O By j
/-- The components that they are told to be in. -/
def plab (O By : List Int) (n : Nat) : Nat → List Int
  | 0 => List.replicate n 0
  | j + 1 => (plab O By n j).set (iat O j).toNat ((pcnt O By (j + 1) : Int) - 1)
theorem pcnt_le (O By : List Int) : ∀ j, pcnt O By j ≤ j
  | 0 => Nat.le_refl _
  | j + 1 => by
    have := pcnt_le O By j
    simp only [pcnt]
    split <;> omega
set_option maxRecDepth 100000 in
set_option maxHeartbeats 8000000 in
theorem parts15 (m : Nat) (p : Option Addr) (es : List Pt) (cp : Nat) (w : World) (h : Has w p es) (hm : netB m es = true) : Calls Try.prog 51 #[nv m p es.length cp] w fun e w' => ∃ g, e = .returned (.tuple #[.slice (some ⟨g, 0, none⟩) m m, .int .i64 (pcnt (everyN es m m).O (everyN es m m).By (everyN es m m).O.length : Nat), .int .i64 0]) ∧ IRow w' w.heap.size g m (plab (everyN es m m).O (everyN es m m).By m (everyN es m m).O.length) ∧ Below w.heap.size w w' := by
  obtain ⟨W, hW, hb, a0⟩ := one_net w m p es.length cp
  obtain ⟨n0, n1, hes, _⟩ := netB_is hm
  have M := hide (may13 m p es cp W (h.later hb))
  rw [hm] at M
  have HOK := hide (everyN_ok hm m (Nat.le_refl _))
  have HM := hide hm
  have HH := hide (h.later hb)
  have HB := hide hb
  have HA := hide a0
  have hws : w.heap.size < W.heap.size := block_lt_of_cell a0.1
  obtain ⟨S, hS⟩ : ∃ S, everyN es m m = S := ⟨_, rfl⟩
  have HEV := hide (fun V hV => everywhere43 m p es cp V hV hm)
  rw [hS] at HOK HEV ⊢
  obtain ⟨i0, hi0, hz0, hz1, hz2⟩ := info_parts info3
  clear h hb a0 hm hS
  go_enter Try.func51, Try.ntmps51
  go_wp2_with fail
  rw [← hW]
  clear hW
  refine M.out.mono ?_
  rintro e w1 ⟨rfl, hb1⟩
  have EV := hide (HEV.out w1 (HH.out.later hb1))
  have HA1 := hide (HA.out.later hb1)
  obtain ⟨q0, q1, _, _⟩ := HA1.out
  have HB1 := hide hb1
  clear hb1 M HEV
  go_wp2_with fail
  refine EV.out.mono ?_
  rintro e w2 ⟨v, rfl, ⟨vo, gb, gf, rfl, ho, hby, hfa, _, _, _⟩, hb2⟩
  obtain ⟨po, co, hvo, _⟩ := ho.form
  subst hvo
  obtain ⟨X, hX⟩ : ∃ X, X = w2.alloc (.cells #[.slice po S.O.length co, .slice (some ⟨gb, 0, none⟩) m m, .slice (some ⟨gf, 0, none⟩) m m, nilS] 101) := ⟨_, rfl⟩
  have hbX : Below w2.heap.size w2 X := by rw [hX]; go_grown
  have HXX : Hid (X.ownsRow 0 101 4 (.slice (some ⟨w2.heap.size, 0, none⟩) 1 1) 1 [.slice po S.O.length co, .slice (some ⟨gb, 0, none⟩) m m, .slice (some ⟨gf, 0, none⟩) m m, nilS]) := by show World.ownsRow _ _ _ _ _ _ _; rw [hX]; exact box35 _ _ _ _ _
  have HO := hide (ho.later hbX)
  have HBY := hide (hby.later hbX)
  have hbWX := below_step HB1.out (below_step hb2 hbX)
  have HAX := hide (HA.out.later hbWX)
  have HBX := hide (below_step HB.out hbWX)
  have HA2 := hide (HA.out.later (below_step HB1.out hb2))
  clear q0 q1 EV ho hby hfa hb2
  obtain ⟨q0, q1, _, _⟩ := HA2.out
  have z1 : w.heap.size < w2.heap.size := block_lt_of_cell q0
  have z2 : w.heap.size ≠ w2.heap.size := by omega
  go_wp2_with (refine wpList_make_full _ rfl (.tmp 16) (.tmp 16) 44 rfl (w2.alloc (.cells #[.slice po S.O.length co, .slice (some ⟨gb, 0, none⟩) m m, .slice (some ⟨gf, 0, none⟩) m m, nilS] 101)).heap.size 3 i0 (.int .i64 0) 1 Try.underlying44 hi0 hz0 hz1 .i64 .i64 _ _ m rfl rfl rfl rfl ?c1 ?c2 ?c3 ?_)
  case c1 => rw [hz2]; omega
  case c2 => unfold maxLen; omega
  case c3 => exact Nat.le_refl _
  intro w3 hown hgrow
  have sX : X.heap.size = w2.heap.size + 1 := by rw [hX]; simp
  rw [← hX] at hgrow
  rw [show w2.heap.size + 1 = X.heap.size from sX.symm] at hown ⊢
  have HR3 := hide (irow_made hown)
  have HB3 := hide (below_made hgrow)
  clear hown hgrow hX hbX hbWX q0 q1 z1 z2
  obtain ⟨x0, x1, _, _, _, _, _, _⟩ := box_cells (box_later HXX.out HB3.out)
  have sw : w.heap.size ≤ X.heap.size := HBX.out.size
  obtain ⟨kt, hkt⟩ : ∃ kt, w2.heap.size = kt := ⟨_, rfl⟩
  rw [hkt] at HXX x0 x1 ⊢
  obtain ⟨g, hg⟩ : ∃ g, X.heap.size = g := ⟨_, rfl⟩
  rw [hg] at HR3 ⊢
  have HG := hide hg
  clear hkt hg sX
  have hcn := HOK.out.cnt
  go_wp2_with fail
  clear x0 x1
  go_loopw [7, 21] (fun t7 t21 wr => ∃ j : Nat, j ≤ S.O.length ∧ t7 = .int .i64 (pcnt S.O S.By j : Nat) ∧ t21 = .int .i64 j ∧ Hid (Below X.heap.size X wr) ∧ Hid (IRow wr g g m (plab S.O S.By m j))) (fun _ t21 _ => S.O.length - (intOf t21).toNat)
  case atStart => exact ⟨0, by omega, rfl, rfl, HB3.out, HR3.out⟩
  case round =>
    obtain ⟨j, hj, rfl, rfl, HBr, HR⟩ := hrel
    by_cases hlt : j < S.O.length
    · have i1 : (j : Int) < S.O.length := by omega
      have i2 : (0 : Int) ≤ j := by omega
      obtain ⟨u0, u1⟩ := HOK.out.mem j hlt
      have ho := HO.out.later HBr.out
      obtain ⟨bo, cc, hbo, _, _, _⟩ := iowns_block ho (by omega)
      simp only [Value.slice.injEq, true_and] at hbo
      obtain ⟨rfl, rfl⟩ := hbo
      have o1 := ho.at_ hlt
      have hpl := pcnt_le S.O S.By j
      have HPC : Hid (pcnt S.O S.By (j + 1) = if iat S.By (iat S.O j).toNat < 0 then pcnt S.O S.By j + 1 else pcnt S.O S.By j) := rfl
      have HPL : Hid (plab S.O S.By m (j + 1) = (plab S.O S.By m j).set (iat S.O j).toNat ((pcnt S.O S.By (j + 1) : Int) - 1)) := rfl
      obtain ⟨v, hv⟩ : ∃ v : Nat, iat S.O j = v := ⟨(iat S.O j).toNat, by omega⟩
      rw [hv] at o1 u0 u1 HPC HPL
      rw [Int.toNat_natCast] at HPC HPL
      have hvm : v < m := by omega
      obtain ⟨_, x1, _, _, _, _, _, _⟩ := box_cells (box_later HXX.out HBr.out)
      obtain ⟨y0, _⟩ := (HBY.out.later HBr.out).cell hvm
      obtain ⟨r0, r1⟩ := HR.out.cell hvm
      have k1 : (v : Int) < m := by omega
      have k2 : (0 : Int) ≤ v := by omega
      have hgB : X.heap.size ≤ g := by rw [HG.out]; exact Nat.le_refl _
      obtain ⟨c, hc⟩ : ∃ c, pcnt S.O S.By j = c := ⟨_, rfl⟩
      rw [hc] at hpl HPC ⊢
      clear ho hv hc
      by_cases hneg : iat S.By v < 0
      · rw [if_pos hneg] at HPC
        rw [HPC.out] at HPL
        obtain ⟨b, hb⟩ : ∃ b, iat S.By v = b := ⟨_, rfl⟩
        rw [hb] at y0 hneg
        clear hb
        go_wp2
        go_roundw
        case rel => exact ⟨j + 1, by omega, by rw [HPC.out]; go_num, by go_num, HBr.out.setCell hgB _, by show IRow _ _ _ _ _; rw [HPL.out, show ((c + 1 : Nat) : Int) - 1 = c by omega]; first | exact HR.out.set v _ | (have := HR.out.set v (c : Int); simpa using this)⟩
        case measure => simp [intOf]; omega
      · rw [if_neg hneg] at HPC
        rw [HPC.out] at HPL
        obtain ⟨b, hb⟩ : ∃ b, iat S.By v = b := ⟨_, rfl⟩
        rw [hb] at y0 hneg
        clear hb
        go_wp2
        go_roundw
        case rel => exact ⟨j + 1, by omega, by rw [HPC.out], by go_num, HBr.out.setCell hgB _, by show IRow _ _ _ _ _; rw [HPL.out]; exact HR.out.set v _⟩
        case measure => simp [intOf]; omega
    · have hjn : j = S.O.length := by omega
      have i1 : ¬ (j : Int) < S.O.length := by omega
      rw [hjn] at HR ⊢
      clear hjn
      go_wp2
      go_ret3
      exact ⟨g, rfl, HR.out.base (by rw [← HG.out]; exact sw), below_step HBX.out HBr.out⟩
end Go.Proofs.Ytcgdmonejogbaaa
namespace Go.Proofs.Ytcgdmonejogbaaa
open Go.RowKit Go.Sort
open Go
/-- An empty face for each empty list. -/
def emptyN (rs : List (List Int)) : Nat → List (List Int)
  | 0 => []
  | v + 1 => if (lat rs v).length = 0 then emptyN rs v ++ [[]] else emptyN rs v
theorem emptyN_le (rs : List (List Int)) : ∀ v, (emptyN rs v).length ≤ v
  | 0 => by simp [emptyN]
  | v + 1 => by
    have := emptyN_le rs v
    unfold emptyN
    split
    · simp; exact this
    · omega
/-- The faces that have half-edges. -/
def edgeF (es : List Pt) (rs : List (List Int)) : List (List Int) := (trN (nxN rs (2 * es.length) rs.length) (2 * es.length) (2 * es.length)).2
def facesL (es : List Pt) (rs : List (List Int)) : List (List Int) := edgeF es rs ++ emptyN rs rs.length
theorem edgeF_le (es : List Pt) (rs : List (List Int)) : (edgeF es rs).length ≤ 2 * es.length := trN_faces _ _ _
theorem nxRow_in {l N : List Int} {m : Nat} (hl : ∀ j, j < l.length → 0 ≤ iat l j ∧ iat l j < m) (hN : ∀ x ∈ N, 0 ≤ x ∧ x < (m : Int)) : ∀ j, j ≤ l.length → ∀ x ∈ nxRow l N j, 0 ≤ x ∧ x < (m : Int)
  | 0, _ => hN
  | j + 1, hj => fun x hx => by
    unfold nxRow at hx
    rcases List.mem_or_eq_of_mem_set hx with h | h
    · exact nxRow_in hl hN j (by omega) x h
    · rw [h]
      exact hl _ (Nat.mod_lt _ (by omega))
theorem nxN_in {rs : List (List Int)} {m : Nat} (hm : 0 < m) (hl : ∀ v, v < rs.length → ∀ j, j < (lat rs v).length → 0 ≤ iat (lat rs v) j ∧ iat (lat rs v) j < m) : ∀ v, v ≤ rs.length → ∀ x ∈ nxN rs m v, 0 ≤ x ∧ x < (m : Int)
  | 0, _ => fun x hx => by
    unfold nxN at hx
    rw [List.eq_of_mem_replicate hx]
    omega
  | v + 1, hv => by
    unfold nxN
    exact nxRow_in (hl v (by omega)) (nxN_in hm hl v (by omega)) _ (Nat.le_refl _)
theorem rot_in {n : Int} {es : List Pt} {rs : List (List Int)} (h : rotI n es rs = 0) : ∀ v, v < rs.length → ∀ j, j < (lat rs v).length → 0 ≤ iat (lat rs v) j ∧ iat (lat rs v) j < 2 * es.length := fun v hv j hj => by
  have := (rot_is h).2.2.1 v hv j hj
  exact ⟨this.1, this.2.1⟩
theorem FB.base {w : World} {B B' : Nat} {fv : Value} {F : List (List Int)} {rv : Nat → Value} (h : FB w B fv F rv) (hb : B' ≤ B) : FB w B' fv F rv := ⟨owns_base h.lst hb, h.uniq, fun v hv => (h.own v hv).base hb⟩
set_option maxRecDepth 100000 in
set_option maxHeartbeats 16000000 in
theorem faces21no (n : Int) (p : Option Addr) (es : List Pt) (cp : Nat) (q : Option Addr) (rs : List (List Int)) (cq : Nat) (w : World) (h : Has w p es) (hr : RHas w q rs) (h0 : ¬ rotI n es rs = 0) : Calls Try.prog 45 #[nv n p es.length cp, .slice q rs.length cq] w fun e w' => e = .returned (.tuple #[.slice none 0 0, .int .i64 (rotI n es rs)]) ∧ Below w.heap.size w w' := by
  obtain ⟨W, hW, hb0, a0⟩ := one_net w n p es.length cp
  have M := hide (mayR13 n p es cp q rs cq W (h.later hb0) (hr.later hb0))
  have HB := hide hb0
  obtain ⟨x, hx⟩ : ∃ x, rotI n es rs = x := ⟨_, rfl⟩
  rw [hx] at M h0 ⊢
  have t1 : (x == 0) = false := by simp [h0]
  clear h hr hb0 hx
  go_enter Try.func45, Try.ntmps45
  go_wp2_with fail
  rw [← hW]
  clear hW
  refine M.out.mono ?_
  rintro e w1 ⟨rfl, hb1⟩
  have HB1 := hide (below_step HB.out hb1)
  clear hb1 M
  go_wp2
  go_ret2
  exact ⟨rfl, HB1.out⟩
set_option maxRecDepth 100000 in
set_option maxHeartbeats 16000000 in
theorem faces21 (n : Int) (p : Option Addr) (es : List Pt) (cp : Nat) (q : Option Addr) (rs : List (List Int)) (cq : Nat) (w : World) (h : Has w p es) (hr : RHas w q rs) (h0 : rotI n es rs = 0) : Calls Try.prog 45 #[nv n p es.length cp, .slice q rs.length cq] w fun e w' => ∃ p1 c1 rv, e = .returned (.tuple #[.slice p1 (facesL es rs).length c1, .int .i64 0]) ∧ FB w' w.heap.size (.slice p1 (facesL es rs).length c1) (facesL es rs) rv ∧ Below w.heap.size w w' := by
  obtain ⟨W, hW, hb0, a0⟩ := one_net w n p es.length cp
  have M := hide (mayR13 n p es cp q rs cq W (h.later hb0) (hr.later hb0))
  obtain ⟨z1, z2⟩ := rot_bounds h0
  obtain ⟨n0, n1, hes, _⟩ := netB_is (rot_is h0).1
  have HIN := hide (rot_in h0)
  rw [h0] at M
  have HR := hide (hr.later hb0)
  have HB := hide hb0
  have HA := hide a0
  have HZ := hide z2
  clear h hr hb0 a0 h0 z2
  go_enter Try.func45, Try.ntmps45
  go_wp2_with fail
  rw [← hW]
  clear hW
  refine M.out.mono ?_
  rintro e w1 ⟨rfl, hb1⟩
  have HB1 := hide hb1
  obtain ⟨q0, q1, _, _⟩ := HA.out.later hb1
  have NX := hide (nexts57 q rs cq es.length w1 (HR.out.later hb1) (by omega) (by omega) (fun v hv => by have := HZ.out v hv; omega) HIN.out)
  clear hb1 M
  rw [show ((2 * es.length : Nat) : Int) = 2 * es.length by omega] at NX
  go_wp2_with fail
  refine NX.out.mono ?_
  rintro e w2 ⟨g2, rfl, hrow, hb2⟩
  have HB2 := hide (below_step HB1.out hb2)
  have HLN : Hid ((nxN rs (2 * es.length) rs.length).length = 2 * es.length) := nxN_length _ _ _
  have TR := hide (traced56 (some ⟨g2, 0, none⟩) (nxN rs (2 * es.length) rs.length) (2 * es.length) (2 * es.length) w2 (Or.inr ⟨g2, 0, rfl, hrow.2.lies⟩) HLN.out (by omega) (fun j hj => nxN_in (m := 2 * es.length) (by omega) (fun v hv i hi => by have := HIN.out v hv i hi; omega) _ (Nat.le_refl _) _ (iat_mem (by rw [HLN.out]; exact hj))))
  clear hrow hb2 NX q0 q1
  go_wp2_with fail
  refine TR.out.mono ?_
  rintro e w3 ⟨p1, c1, g3, rv, rfl, hfb, _, hb3⟩
  have HB3 := hide (below_step HB2.out hb3)
  have HF3 : Hid (∃ rv, FB w3 W.heap.size (.slice p1 (edgeF es rs).length c1) (edgeF es rs) rv) := ⟨rv, hfb.base HB2.out.size⟩
  have hel := edgeF_le es rs
  rw [show (trN (nxN rs (2 * es.length) rs.length) (2 * es.length) (2 * es.length)).2 = edgeF es rs from rfl]
  clear hfb hb3 TR
  have HFL : Hid (facesL es rs = edgeF es rs ++ emptyN rs rs.length) := rfl
  obtain ⟨EF, hEF⟩ : ∃ EF, edgeF es rs = EF := ⟨_, rfl⟩
  rw [hEF] at HF3 hel HFL ⊢
  clear hEF
  go_wp2_with fail
  go_loopw [7, 29] (fun t7 t29 wr => ∃ (v : Nat) (p7 : Option Addr) (c7 : Nat), v ≤ rs.length ∧ t7 = .slice p7 (EF ++ emptyN rs v).length c7 ∧ t29 = .int .i64 v ∧ Hid (Below W.heap.size W wr) ∧ Hid (∃ rv, FB wr W.heap.size (.slice p7 (EF ++ emptyN rs v).length c7) (EF ++ emptyN rs v) rv)) (fun _ t29 _ => rs.length - (intOf t29).toNat)
  case atStart => exact ⟨0, p1, c1, by omega, by simp [emptyN], rfl, HB3.out, by show ∃ rv, _; simp only [emptyN, List.append_nil]; exact HF3.out⟩
  case round =>
    obtain ⟨v, p7, c7, hv, rfl, rfl, HBr, HFr⟩ := hrel
    clear HB3 HF3
    by_cases hlt : v < rs.length
    · obtain ⟨b1, o1, a1, k1, rfl, c0W, m1, z3⟩ := HR.out.at_ hlt
      have c0 := later HBr.out c0W
      have e1 : (v : Int) < rs.length := by omega
      have HEN : Hid (emptyN rs (v + 1) = if (lat rs v).length = 0 then emptyN rs v ++ [[]] else emptyN rs v) := rfl
      have hev := emptyN_le rs v
      clear m1 z3 c0W
      by_cases hl0 : (lat rs v).length = 0
      · rw [if_pos hl0] at HEN
        rw [hl0] at c0
        obtain ⟨rv', hfb⟩ := HFr.out
        have hlen : (EF ++ emptyN rs v).length ≤ 1000000 := by rw [List.length_append]; omega
        have hws : W.heap.size ≤ wr.heap.size := HBr.out.size
        obtain ⟨p9, l9, c9, D, ea, hl9, fbD, bd, _⟩ := hfb.push (L := []) (a := none) (b := 0) (c := 0) hws (IOwns.nil _ _) (fun u j _ hj => by simp [Value.ownBlock] at hj) hlen
        have bd2 : Below W.heap.size W D := HBr.out.trans bd
        have HBD := hide bd2
        have HFL2 : Hid ((EF ++ emptyN rs (v + 1)).length = l9) := by show _ = _; rw [HEN.out, hl9, ← List.append_assoc]; simp; omega
        have HFD : Hid (∃ rv, FB D W.heap.size (.slice p9 l9 c9) (EF ++ emptyN rs (v + 1)) rv) := ⟨_, by rw [HEN.out, ← List.append_assoc]; exact fbD⟩
        clear hfb fbD bd bd2 hl9 hl0 hlen hws
        go_wp2_with (at_builtin; refine wpList_run_append rfl (.tmp 36) (.tmp 37) 25 rfl 25 rfl _ _ _ D rfl rfl ea ?_)
        go_roundw
        case rel => exact ⟨v + 1, p9, c9, by omega, by rw [HFL2.out], by go_num, HBD.out, by show ∃ rv, _; rw [HFL2.out]; exact HFD.out⟩
        case measure => simp [intOf]; omega
      · rw [if_neg hl0] at HEN
        have t1 : (((lat rs v).length : Int) == 0) = false := beq_eq_false_iff_ne.2 (by omega)
        clear hl0
        go_wp2
        go_roundw
        case rel => exact ⟨v + 1, p7, c7, by omega, by rw [HEN.out], by go_num, HBr.out, by show ∃ rv, _; rw [HEN.out]; exact HFr.out⟩
        case measure => simp [intOf]; omega
    · have hve : v = rs.length := by omega
      have e1 : ¬ (v : Int) < rs.length := by omega
      rw [hve] at HFr ⊢
      rw [← HFL.out] at HFr ⊢
      have HFE : Hid (∃ rv, FB wr w.heap.size (.slice p7 (facesL es rs).length c7) (facesL es rs) rv) := by obtain ⟨r, hr⟩ := HFr.out; exact ⟨r, hr.base HB.out.size⟩
      clear hve
      have e2 : ¬ (rs.length : Int) < rs.length := by omega
      go_wp2
      go_ret2
      exact ⟨p7, c7, rfl, HFE.out, below_step HB.out HBr.out⟩
theorem facesL_le {n : Int} {es : List Pt} {rs : List (List Int)} (h : rotI n es rs = 0) : (facesL es rs).length ≤ 10000 := by
  obtain ⟨z1, _⟩ := rot_bounds h
  obtain ⟨n0, n1, hes, _⟩ := netB_is (rot_is h).1
  have h1 := edgeF_le es rs
  have h2 := emptyN_le rs rs.length
  unfold facesL
  rw [List.length_append]
  omega
/-- How many components there are. -/
def compN (n : Int) (es : List Pt) : Nat := pcnt (everyN es n.toNat n.toNat).O (everyN es n.toNat n.toNat).By (everyN es n.toNat n.toNat).O.length
end Go.Proofs.Ytcgdmonejogbaaa
namespace Go.Proofs.Ytcgdmonejogbaaa
open Go.RowKit Go.Sort
open Go
set_option maxRecDepth 100000 in
set_option maxHeartbeats 8000000 in
theorem clone61 (p : Option Addr) (l : List Int) (c : Nat) (w : World) (m : IHas w p l) (hnil : p = none → c = 0) (hl : l.length ≤ 90000) : Calls Try.prog 87 #[.slice p l.length c] w fun e w' => ∃ v, e = .returned v ∧ IOwns w' w.heap.size v l ∧ Below w.heap.size w w' := by
  have hq := Lib.run_eql_slice_nil (P := Try.prog) w 44 3 p l.length c 0 0 Try.underlying44
  cases p with
  | none =>
    have hl0 : l = [] := by
      rcases m with h | ⟨b, off, h, _⟩
      · exact h
      · cases h
    subst hl0
    clear m hnil
    simp only [List.length_nil] at hq ⊢
    go_enter Try.func87, Try.ntmps87
    go_wp2
    go_ret
    exact ⟨_, rfl, IOwns.nil _ _, Below.refl _ _⟩
  | some ad =>
    have hb0 : Below w.heap.size w (w.alloc (.cells #[] 3)) := by go_grown
    have o0 : IOwns (w.alloc (.cells #[] 3)) w.heap.size (.slice (some ⟨w.heap.size, 0, none⟩) 0 0) [] := ⟨rfl, Or.inr ⟨w.heap.size, 0, #[], rfl, Nat.le_refl _, (by show (w.heap.push _)[w.heap.size]? = _; rw [Array.getElem?_push, if_pos rfl]), Nat.le_refl _, Nat.zero_le _, rfl, rfl⟩⟩
    obtain ⟨v1, D, ea, o1, g1⟩ := append_ints o0 (some ad) c l hnil (m.later hb0) hb0.size (by simp; omega)
    rw [List.nil_append] at o1
    have HB : Hid (Below w.heap.size w D) := below_grown hb0 o0 (Nat.le_refl _) hb0.size g1
    have HO := hide o1
    clear m hnil o0 o1 g1 hb0
    go_enter Try.func87, Try.ntmps87
    go_wp2_with (at_builtin; refine wpList_run_append rfl (.tmp 5) (.tmp 6) 44 rfl 44 rfl _ _ _ D rfl rfl ea ?_)
    go_ret
    exact ⟨_, rfl, HO.out, HB.out⟩
/-- A row is written anew, the others stay. -/
theorem Rows.turn {w w' : World} {B g n a : Nat} {rv : Nat → Value} {L : Nat → List Int} {l' : List Int} (h : Rows w B g n rv L) (ha : a < n) (o : IOwns w' B (rv a) l') (fr : Frame w w' (fun i => (rv a).ownBlock = some i)) : Rows w' B g n rv (upd L a l') := by
  obtain ⟨h1, h2, h3⟩ := h
  obtain ⟨cur, hg⟩ := row_kind h1
  refine ⟨fr.row h1 (fun i hi e => ?_), h2, fun v hv => ?_⟩
  · simp only [Value.ownBlock, Option.some.injEq] at hi
    subst hi
    exact row_apart hg (h3 a ha) (by decide) e
  · by_cases hva : v = a
    · rw [hva, upd_same]; exact o
    · rw [upd_other _ _ hva]
      exact fr.iowns (h3 v hv) (fun i hi e => hva (h2 v a i hv ha hi e))
end Go.Proofs.Ytcgdmonejogbaaa
