/- The document's follow, in every world. -/
import Derived.Test.YtaebbfilgfkckaaA5
namespace Go.Proofs.Ytaebbfilgfkckaa
open Go.RowKit Go.Sort
open Go
set_option maxRecDepth 100000 in
set_option maxHeartbeats 4000000 in
theorem twin56 (h : Nat) (w : World) (hh : h ≤ 1000000) : Calls Try.prog 56 #[.int .i64 h] w fun e w' => e = .returned (.int .i64 (tw h : Nat)) ∧ Below w.heap.size w w' := by
  have hq : Int.tmod (h : Int) 2 = ((h % 2 : Nat) : Int) := by
    rw [Int.tmod_eq_emod_of_nonneg (by omega)]
    omega
  unfold tw
  by_cases h2 : h % 2 = 0
  · rw [if_pos h2]
    have t1 : (Int.tmod (h : Int) 2 == 0) = true := by rw [hq, h2]; rfl
    have t2 : Int.tmod (h : Int) 2 = 0 := by rw [hq, h2]; rfl
    clear hq
    go_enter Try.func56, Try.ntmps56
    go_wp2
    go_ret
    exact ⟨by go_num, Below.refl _ _⟩
  · rw [if_neg h2]
    have t1 : (Int.tmod (h : Int) 2 == 0) = false := by rw [hq]; simp; omega
    have t2 : ¬ Int.tmod (h : Int) 2 = 0 := by rw [hq]; omega
    have t3 : 1 ≤ h := by omega
    clear hq
    go_enter Try.func56, Try.ntmps56
    go_wp2
    go_ret
    exact ⟨by go_num, Below.refl _ _⟩
/-- The document's rows of half-edges. -/
def eosL (es : List Pt) (l : List Int) (n : Nat) : List (List Int) := (List.range n).map (eo es l)
theorem eosL_length (es : List Pt) (l : List Int) (n : Nat) : (eosL es l n).length = n := by simp [eosL]
theorem eosL_at (es : List Pt) (l : List Int) {n v : Nat} (hv : v < n) : lat (eosL es l n) v = eo es l v := by
  unfold lat eosL
  rw [List.getD_eq_getElem?_getD, List.getElem?_map, List.getElem?_range hv]
  rfl
/-- A path told by all edges' half-edges, as far as it has come. -/
def ptE (l : List Int) (pk : List Pt) (q i : Nat) : List Int := (pthN pk q i).map fun k => ((rnN l k : Nat) : Int)
theorem ptE_length (l : List Int) (pk : List Pt) (q i : Nat) : (ptE l pk q i).length = i + 1 := by simp [ptE, pthN]
theorem ptE_more (l : List Int) (pk : List Pt) (q i : Nat) : ptE l pk q (i + 1) = ptE l pk q i ++ [((rnN l (itN pk q (i + 1)) : Nat) : Int)] := by
  unfold ptE pthN
  rw [List.range_succ, List.map_append, List.map_append]
  rfl
/-- The path, told so. -/
def foE (es : List Pt) (l : List Int) (q : Nat) : List Int := (folL (pick es l) q).map (rnI l)
theorem foE_length (es : List Pt) (l : List Int) (q : Nat) : (foE es l q).length = (folL (pick es l) q).length := List.length_map ..
theorem foE_is {n : Int} {es : List Pt} {l : List Int} (hs : subE n es l = 0) {q : Nat} (hq : q < 2 * l.length) : foE es l q = ptE l (pick es l) q (fin (pick es l) (2 * (pick es l).length) q) := by
  have hs' : subE ((n.toNat : Nat) : Int) es l = 0 := by
    obtain ⟨hm, _, _⟩ := sub_ok hs
    obtain ⟨n0, _⟩ := netB_is hm
    rw [Int.toNat_of_nonneg n0]; exact hs
  unfold foE folL ptE
  rw [List.map_map]
  refine List.map_congr_left fun k hk => ?_
  obtain ⟨j, hj, rfl⟩ := List.mem_map.1 hk
  have hj' := List.mem_range.1 hj
  have hp : (pick es l).length = l.length := pick_length _ _
  have hlt := it_lt (net_pick hs') (h := q) (by rw [hp]; exact hq) (i := j) (fun x hx => fin_runs (pick es l) (2 * (pick es l).length) q x (by omega))
  rw [hp] at hlt
  exact (rn_is hs' hlt).1
set_option maxRecDepth 100000 in
set_option maxHeartbeats 16000000 in
theorem follow35 (n : Nat) (p : Option Addr) (cp : Nat) (po : Option Addr) (co gd B q : Nat) (es : List Pt) (l : List Int) (w : World) (hh : Has w p es) (hr : RHas w po (eosL es l n)) (hd : IRow w B gd n (degN (pick es l) n l.length)) (hs : subE n es l = 0) (hq : q < 2 * l.length) (hb : (ow (pick es l) (fromL (pick es l) q).toNat).length ≠ 2) : Calls Try.prog 35 #[nv n p es.length cp, .slice po n co, .slice (some ⟨gd, 0, none⟩) n n, .int .i64 (rnN l q : Nat)] w fun e w' => ∃ p' c, e = .returned (.slice p' (foE es l q).length c) ∧ IOwns w' w.heap.size (.slice p' (foE es l q).length c) (foE es l q) ∧ 0 < (foE es l q).length ∧ Below w.heap.size w w' := by
  obtain ⟨W, hW, hb0, a0⟩ := one_net w n p es.length cp
  have hp : (pick es l).length = l.length := pick_length _ _
  have hm := net_pick hs
  have hll := sub_len hs
  obtain ⟨n0, n1, hes, _⟩ := netB_is (sub_ok hs).1
  have HFE := hide (foE_is hs hq)
  rw [hp] at HFE
  obtain ⟨pk, hpk⟩ : ∃ x, pick es l = x := ⟨_, rfl⟩
  rw [hpk] at HFE
  have HRL : Hid (∀ i, Runs pk q i → i < l.length) := fun i hi => by
    have := runs_few hm (h := q) (by rw [hp]; exact hq) hb (i := i) (by rw [hpk]; exact hi)
    omega
  have HIT : Hid (∀ i, Runs pk q i → itN pk q i < 2 * l.length) := fun i hi => by
    have := it_lt hm (h := q) (by rw [hp]; exact hq) (i := i) (by rw [hpk]; exact hi)
    rw [hp, hpk] at this
    exact this
  have HTO : Hid (∀ k, k < 2 * l.length → toL es (rnN l k) = tN pk k ∧ tN pk k < n ∧ rnN l k < 2 * es.length ∧ tw (rnN l k) = rnN l (tw k)) := fun k hk => by
    obtain ⟨_, r2, _, r4, r5, _⟩ := rn_is hs hk
    have := toL_in hm k (by rw [hp]; exact hk)
    rw [hpk] at this r4
    unfold tN
    exact ⟨by omega, by omega, r2, r5⟩
  have HNX : Hid (∀ k, k < 2 * l.length → Goes pk k → (eo es l (tN pk k)).length = 2 ∧ besI (eo es l (tN pk k)) (tw (rnN l k) : Nat) = (rnN l (nx pk k) : Nat)) := fun k hk hg => by
    rw [← hpk] at hg ⊢
    exact ⟨by rw [eo_length hs]; exact hg, eo_next hs hk hg⟩
  have HROW : Hid (∀ V, Below W.heap.size W V → ∀ v, v < n → ∃ b off a c, po = some ⟨b, off, none⟩ ∧ V.cell? ⟨b, off + v, none⟩ = some (.slice a (eo es l v).length c) ∧ IHas V a (eo es l v)) := fun V hV v hv => by
    obtain ⟨b, off, a, c, h1, h2, h3, _⟩ := ((hr.later hb0).later hV).at_ (v := v) (by rw [eosL_length]; exact hv)
    rw [eosL_at es l hv] at h2 h3
    exact ⟨b, off, a, c, h1, h2, h3⟩
  have HDG : Hid (∀ V, Below W.heap.size W V → ∀ v, v < n → V.cell? ⟨gd, v, none⟩ = some (.int .i64 ((ow pk v).length : Nat))) := fun V hV v hv => by
    have := (((hd.later hb0).later hV).cell hv).1
    have e := deg_all hm hv
    rw [hp] at e
    rw [e, hpk] at this
    exact this
  have HC : Hid (∀ V k, Below W.heap.size W V → k < 2 * l.length → Calls Try.prog 36 #[nv n p es.length cp, .int .i64 (rnN l k : Nat)] V fun e w' => e = .returned (.int .i64 (tN pk k)) ∧ Below V.heap.size V w') := fun V k hV hk => by
    obtain ⟨t1, _, t3, _⟩ := HTO.out k hk
    have := to43 n p es cp (rnN l k) V ((hh.later hb0).later hV) t3 (by omega)
    rw [t1] at this
    exact this
  have HB := hide hb0
  have HA := hide a0
  have HWS : Hid (w.heap.size ≤ W.heap.size) := hb0.size
  have hpo : ∃ bo oo, po = some ⟨bo, oo, none⟩ := by
    obtain ⟨b, off, _, _, h1, _⟩ := HROW.out W (Below.refl _ _) (tN pk q) (HTO.out q hq).2.1
    exact ⟨b, off, h1⟩
  obtain ⟨bo, oo, rfl⟩ := hpo
  have HRO : Hid (∀ V, Below W.heap.size W V → ∀ v, v < n → ∃ a c, V.cell? ⟨bo, oo + v, none⟩ = some (.slice a (eo es l v).length c) ∧ IHas V a (eo es l v)) := fun V hV v hv => by
    obtain ⟨b, off, a, c, h1, h2, h3⟩ := HROW.out V hV v hv
    cases h1
    exact ⟨a, c, h2, h3⟩
  clear hh hr hm hb0 a0 hb hd hs HROW hp
  go_enter Try.func35, Try.ntmps35
  go_upto_region 1 with fail
  rw [← hW]
  clear hW
  obtain ⟨U, hU⟩ : ∃ U, U = W.alloc (.cells #[.int .i64 (rnN l q : Nat)] 3) := ⟨_, rfl⟩
  have hbU : Below W.heap.size W U := by rw [hU]; go_grown
  have HO1 : Hid (IOwns U W.heap.size (.slice (some ⟨W.heap.size, 0, none⟩) 1 1) (ptE l pk q 0)) := by
    show IOwns _ _ _ _
    rw [hU]
    exact World.ownsRow_lit W #[.int .i64 (rnN l q : Nat)] 1 (Nat.le_refl _) (by unfold maxLen; omega) rfl
  go_upto_region 2 with fail
  rw [← hU]
  have HBU := hide hbU
  clear hU hbU
  obtain ⟨gp, hgp⟩ : ∃ g, W.heap.size = g := ⟨_, rfl⟩
  have HGP := hide hgp
  try rw [hgp]
  rw [hgp] at HO1
  clear hgp
  go_loopw [3, 9, 10, 11] (fun t3 t9 _ _ wr => ∃ (i : Nat) (p' : Option Addr) (c : Nat), Hid (Runs pk q i) ∧ t3 = .int .i64 (rnN l (itN pk q i) : Nat) ∧ t9 = .slice p' (i + 1) c ∧ Hid (Below W.heap.size W wr) ∧ Hid (IOwns wr gp (.slice p' (i + 1) c) (ptE l pk q i))) (fun _ t9 _ _ _ => 2 * l.length + 1 - lenV t9)
  case atStart => exact ⟨0, _, _, fun j hj => by omega, rfl, rfl, HBU.out, HO1.out⟩
  case round =>
    obtain ⟨i, p', c, HRi, rfl, rfl, HBr, HOr⟩ := hrel
    clear HO1
    have hil := HRL.out i HRi.out
    have hit := HIT.out i HRi.out
    obtain ⟨_, htn, hrn, htw⟩ := HTO.out _ hit
    have C1 := hide (HC.out wr _ HBr.out hit)
    have HD1 := hide (fun V (hV : Below wr.heap.size wr V) => HDG.out V (below_step HBr.out hV) _ htn)
    obtain ⟨q0, q1, _, _⟩ := HA.out.later HBr.out
    have htn' : (tN pk (itN pk q i) : Int) < n := by omega
    by_cases hg : Goes pk (itN pk q i)
    · have HR2 : Hid (Runs pk q (i + 1)) := fun j hj => by
        by_cases e : j = i
        · rw [e]; exact hg
        · exact HRi.out j (by omega)
      obtain ⟨hE2, hbes⟩ := HNX.out _ hit hg
      have hil2 := HRL.out (i + 1) HR2.out
      have hit2 := HIT.out (i + 1) HR2.out
      have hrn2 := (HTO.out _ hit2).2.2.1
      have HST : Hid (itN pk q (i + 1) = nx pk (itN pk q i)) := rfl
      rw [← HST.out] at hbes
      have HPM := hide (ptE_more l pk q i)
      have hdeg : (ow pk (tN pk (itN pk q i))).length = 2 := hg
      rw [hdeg] at HD1
      have TWC := hide (fun V => twin56 (rnN l (itN pk q i)) V (by omega))
      have HROW := hide (fun V (hV : Below wr.heap.size wr V) => HRO.out V (below_step HBr.out hV) _ htn)
      rw [hE2] at HROW
      have HCC := hide (fun V (hV : Below wr.heap.size wr V) => HC.out V _ (below_step HBr.out hV) hit)
      obtain ⟨E, hE⟩ : ∃ E, eo es l (tN pk (itN pk q i)) = E := ⟨_, rfl⟩
      rw [hE] at HROW hE2 hbes
      obtain ⟨v, hv⟩ : ∃ v, tN pk (itN pk q i) = v := ⟨_, rfl⟩
      rw [hv] at C1 HD1 htn htn' HROW HCC
      obtain ⟨t, ht⟩ : ∃ t, tw (rnN l (itN pk q i)) = t := ⟨_, rfl⟩
      rw [ht] at TWC hbes
      obtain ⟨k2, hk2⟩ : ∃ k, itN pk q (i + 1) = k := ⟨_, rfl⟩
      have HK2 := hide hk2
      rw [hk2] at hbes HPM hit2 hrn2
      obtain ⟨r2, hr2⟩ : ∃ k, rnN l k2 = k := ⟨_, rfl⟩
      have HR2' := hide hr2
      rw [hr2] at hbes HPM hrn2
      obtain ⟨r1, hr1⟩ : ∃ k, rnN l (itN pk q i) = k := ⟨_, rfl⟩
      rw [hr1] at C1 TWC hrn HCC ⊢
      obtain ⟨x0, hx0⟩ : ∃ x, iat E 0 = x := ⟨_, rfl⟩
      obtain ⟨x1, hx1⟩ : ∃ x, iat E 1 = x := ⟨_, rfl⟩
      have HB0 : Hid (if x0 = (t : Int) then x1 = (r2 : Int) else x0 = (r2 : Int)) := by
        show ite _ _ _
        unfold besI at hbes
        rw [hx0, hx1] at hbes
        by_cases e : x0 = (t : Int)
        · rw [if_pos e] at hbes ⊢; exact hbes
        · rw [if_neg e] at hbes ⊢; exact hbes
      have hle : (i : Int) + 1 ≤ es.length := by omega
      clear hg hE hv ht hk2 hr2 hr1 hdeg hbes htw hit
      go_wp2_with fail
      refine C1.out.mono ?_
      rintro r w2 ⟨rfl, hb2⟩
      have HB2 := hide (below_step HBr.out hb2)
      have HO2 := hide (HOr.out.later hb2)
      have g1 := HD1.out w2 hb2
      have C2 := hide (HCC.out w2 hb2)
      have HBB := hide hb2
      obtain ⟨q0, q1, _, _⟩ := HA.out.later HB2.out
      clear C1 hb2
      go_wp2_with fail
      refine C2.out.mono ?_
      rintro r w3 ⟨rfl, hb3⟩
      have HB3 := hide (below_step HB2.out hb3)
      have HO3 := hide (HO2.out.later hb3)
      have HBB3 := hide (below_step HBB.out hb3)
      obtain ⟨a, ca, y0, yi⟩ := HROW.out w3 HBB3.out
      obtain ⟨b1, o1, rfl, hL⟩ : ∃ b1 off, a = some ⟨b1, off, none⟩ ∧ ILies w3 b1 off E := by
        rcases yi with e | e
        · rw [e] at hE2; simp at hE2
        · exact e
      have z0 := hL 0 (by omega)
      have z1 := hL 1 (by omega)
      rw [hx0, Nat.add_zero] at z0
      rw [hx1] at z1
      have C3 := hide (TWC.out w3)
      have HZ := hide (And.intro y0 z1)
      clear C2 hb3 q0 q1 hL hx0 hx1 g1
      go_upto_region 5 with fail
      go_wp2_with fail
      refine C3.out.mono ?_
      rintro r w4 ⟨rfl, hb4⟩
      have HB4 := hide (below_step HB3.out hb4)
      have HO4 := hide (HO3.out.later hb4)
      have y0 := later hb4 HZ.out.1
      have z1 := later hb4 HZ.out.2
      have hgs : gp ≤ w4.heap.size := by have h1 := HB4.out.size; have h2 := HGP.out; omega
      obtain ⟨v1, X, ea, o1', hbE⟩ := push_int HO4.out (r2 : Int) hgs (by rw [ptE_length]; omega)
      have HBE : Hid (Below W.heap.size W X) := HB4.out.trans (by rw [HGP.out]; exact hbE)
      rw [← HPM.out] at o1'
      obtain ⟨p8, c8, h8, _⟩ := o1'.form
      rw [ptE_length] at h8
      subst h8
      have HOE := hide o1'
      clear C3 hb4 o1' hbE hgs HZ
      by_cases hx : x0 = (t : Int)
      · have hx1 : x1 = (r2 : Int) := by have := HB0.out; rw [if_pos hx] at this; exact this
        subst hx hx1
        go_wp2_with (at_builtin; refine wpList_run_append rfl (.tmp 49) (.tmp 51) 25 rfl 25 rfl _ _ _ X rfl rfl ea ?_)
        go_roundw
        case rel => exact ⟨i + 1, p8, c8, HR2.out, by rw [HK2.out, HR2'.out], rfl, HBE.out, HOE.out⟩
        case measure => simp [lenV]; omega
      · have hx1 : x0 = (r2 : Int) := by have := HB0.out; rw [if_neg hx] at this; exact this
        subst hx1
        have hxx : ((r2 : Int) == (t : Int)) = false := by rw [beq_eq_false_iff_ne]; exact hx
        go_wp2_with (at_builtin; refine wpList_run_append rfl (.tmp 49) (.tmp 51) 25 rfl 25 rfl _ _ _ X rfl rfl ea ?_)
        go_roundw
        case rel => exact ⟨i + 1, p8, c8, HR2.out, by rw [HK2.out, HR2'.out], rfl, HBE.out, HOE.out⟩
        case measure => simp [lenV]; omega
    · have HNG : Hid (¬ Goes pk (itN pk q i)) := hg
      have t1 : (((ow pk (tN pk (itN pk q i))).length : Int) == 2) = false := by rw [beq_eq_false_iff_ne]; intro e; exact HNG.out (by unfold Goes; omega)
      have HFI : Hid (foE es l q = ptE l pk q i) := by
        show _ = _
        rw [HFE.out, fin_is i (2 * l.length) q HRi.out HNG.out (by omega)]
      have HFL : Hid ((foE es l q).length = i + 1) := by show _ = _; rw [HFI.out, ptE_length]
      obtain ⟨v, hv⟩ : ∃ v, tN pk (itN pk q i) = v := ⟨_, rfl⟩
      rw [hv] at C1 HD1 htn htn' t1
      obtain ⟨d, hd⟩ : ∃ d, (ow pk v).length = d := ⟨_, rfl⟩
      rw [hd] at HD1 t1
      obtain ⟨r1, hr1⟩ : ∃ k, rnN l (itN pk q i) = k := ⟨_, rfl⟩
      rw [hr1] at C1 ⊢
      clear hg hv hd hr1
      go_wp2_with fail
      refine C1.out.mono ?_
      rintro r w2 ⟨rfl, hb2⟩
      have g1 := HD1.out w2 hb2
      have HE := hide (below_step HB.out (below_step HBr.out hb2))
      have HOW : Hid (IOwns w2 w.heap.size (.slice p' (i + 1) c) (ptE l pk q i)) := (HOr.out.later hb2).base (by have := HWS.out; have := HGP.out; omega)
      clear C1 hb2 q0 q1
      go_wp2
      go_ret
      exact ⟨p', c, by rw [HFL.out]; rfl, by rw [HFL.out, HFI.out]; exact HOW.out, by rw [HFL.out]; omega, HE.out⟩
end Go.Proofs.Ytaebbfilgfkckaa
