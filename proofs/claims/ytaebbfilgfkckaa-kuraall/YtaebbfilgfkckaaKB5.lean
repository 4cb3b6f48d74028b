/- kura's follow, in every world. -/
import Derived.Test.YtaebbfilgfkckaaKB4
namespace Go.Proofs.Ytaebbfilgfkckaa
open Go.RowKit Go.Sort
open Go
variable {es : List Pt}
theorem tw_twn (k : Nat) : twn (k : Int) = (tw k : Nat) := by unfold twn tw; split <;> split <;> omega
theorem it_next (es : List Pt) (h : Nat) : ∀ j, itN es (nx es h) j = itN es h (j + 1)
  | 0 => rfl
  | j + 1 => by
    show nx es (itN es (nx es h) j) = nx es (itN es h (j + 1))
    rw [it_next es h j]
/-- How often a path goes on. -/
def fin (es : List Pt) : Nat → Nat → Nat
  | 0, _ => 0
  | k + 1, h => if Goes es h then fin es k (nx es h) + 1 else 0
theorem fin_is : ∀ (i k h : Nat), Runs es h i → ¬ Goes es (itN es h i) → i ≤ k → fin es k h = i
  | 0, 0, _, _, _, _ => rfl
  | 0, k + 1, h, _, hn, _ => by unfold fin; rw [if_neg (show ¬ Goes es h from hn)]
  | i + 1, k + 1, h, hr, hn, hk => by
    unfold fin
    rw [if_pos (show Goes es h from hr 0 (by omega)), fin_is i k (nx es h) (fun j hj => by rw [it_next]; exact hr (j + 1) (by omega)) (by rw [it_next]; exact hn) (by omega)]
  | i + 1, 0, _, _, _, hk => by omega
/-- The path from a half-edge on. -/
def folL (es : List Pt) (h : Nat) : List Int := (pthN es h (fin es (2 * es.length) h)).map fun (k : Nat) => (k : Int)
def pthI (es : List Pt) (h i : Nat) : List Int := (pthN es h i).map fun (k : Nat) => (k : Int)
theorem pthI_length (h i : Nat) : (pthI es h i).length = i + 1 := by simp [pthI, pthN]
theorem pthI_more (h i : Nat) : pthI es h (i + 1) = pthI es h i ++ [((itN es h (i + 1) : Nat) : Int)] := by
  unfold pthI pthN
  rw [List.range_succ, List.map_append, List.map_append]
  rfl
def owsL (es : List Pt) (n : Nat) : List (List Int) := (List.range n).map (ow es)
theorem owsL_length (n : Nat) : (owsL es n).length = n := by simp [owsL]
theorem owsL_at {n v : Nat} (hv : v < n) : lat (owsL es n) v = ow es v := by
  unfold lat owsL
  rw [List.getD_eq_getElem?_getD, List.getElem?_map, List.getElem?_range hv]
  rfl
def lenV : Value → Nat
  | .slice _ l _ => l
  | _ => 0
set_option maxRecDepth 100000 in
set_option maxHeartbeats 16000000 in
theorem follow70 (n : Nat) (p : Option Addr) (cp : Nat) (q : Option Addr) (cq h : Nat) (w : World) (hh : Has w p es) (hr : RHas w q (owsL es n)) (hm : netB n es = true) (hl : h < 2 * es.length) (hb : (ow es (fromL es h).toNat).length ≠ 2) : Calls Try.prog 70 #[nv n p es.length cp, .slice q n cq, .int .i64 h] w fun e w' => ∃ p' c, e = .returned (.slice p' (folL es h).length c) ∧ IOwns w' w.heap.size (.slice p' (folL es h).length c) (folL es h) ∧ 0 < (folL es h).length ∧ Below w.heap.size w w' := by
  obtain ⟨W, hW, hb0, a0⟩ := one_net w n p es.length cp
  obtain ⟨n0, n1, hes, _⟩ := netB_is hm
  have HRL : Hid (∀ i, Runs es h i → i < 2 * es.length) := fun i hi => runs_lt hm hl hb hi
  have HIT : Hid (∀ i, Runs es h i → itN es h i < 2 * es.length) := fun i hi => it_lt hm hl hi
  have HTO : Hid (∀ k, k < 2 * es.length → toL es k = tN es k ∧ tN es k < n) := fun k hk => by
    have := toL_in hm k hk
    unfold tN
    omega
  have HNX : Hid (∀ k, k < 2 * es.length → Goes es k → besI (ow es (tN es k)) (tw k : Nat) = (nx es k : Nat)) := fun k hk hg => (nx_is hm hk hg).1
  have HROW : Hid (∀ V, Below W.heap.size W V → ∀ v, v < n → ∃ b off a c, q = some ⟨b, off, none⟩ ∧ V.cell? ⟨b, off + v, none⟩ = some (.slice a (ow es v).length c) ∧ IHas V a (ow es v)) := fun V hV v hv => by
    obtain ⟨b, off, a, c, h1, h2, h3, _⟩ := ((hr.later hb0).later hV).at_ (v := v) (by rw [owsL_length]; exact hv)
    rw [owsL_at hv] at h2 h3
    exact ⟨b, off, a, c, h1, h2, h3⟩
  have HC : Hid (∀ V k, Below W.heap.size W V → k < 2 * es.length → Calls Try.prog 71 #[nv n p es.length cp, .int .i64 k] V fun e w' => e = .returned (.int .i64 (tN es k)) ∧ Below V.heap.size V w') := fun V k hV hk => by
    have := comes54 n p es cp k V ((hh.later hb0).later hV) hk (by omega)
    rw [(HTO.out k hk).1] at this
    exact this
  have HB := hide hb0
  have HA := hide a0
  have HWS : Hid (w.heap.size ≤ W.heap.size) := hb0.size
  have HHL := hide hl
  clear hh hr hm hb0 a0 hb
  go_enter Try.func70, Try.ntmps70
  go_upto_region 1 with fail
  rw [← hW]
  clear hW
  go_upto_region 2 with fail
  obtain ⟨U, hU⟩ : ∃ U, U = W.alloc (.cells #[.int .i64 h] 3) := ⟨_, rfl⟩
  have hbU : Below W.heap.size W U := by rw [hU]; go_grown
  have HO1 : Hid (IOwns U W.heap.size (.slice (some ⟨W.heap.size, 0, none⟩) 1 1) (pthI es h 0)) := by
    show IOwns _ _ _ _
    rw [hU]
    exact World.ownsRow_lit W #[.int .i64 h] 1 (Nat.le_refl _) (by unfold maxLen; omega) rfl
  rw [← hU]
  have HBU := hide hbU
  clear hU hbU
  obtain ⟨gp, hgp⟩ : ∃ g, W.heap.size = g := ⟨_, rfl⟩
  have HGP := hide hgp
  try rw [hgp]
  rw [hgp] at HO1
  clear hgp
  obtain ⟨q0, q1, _, _⟩ := HA.out.later HBU.out
  have C1 := hide (HC.out U h HBU.out hl)
  go_wp2_with fail
  refine C1.out.mono ?_
  rintro r w2 ⟨rfl, hb2⟩
  have HB2 := hide (below_step HBU.out hb2)
  have HO2 := hide (HO1.out.later hb2)
  have htn := (HTO.out h hl).2
  obtain ⟨b1, o1, a1, c1, rfl, k0, hi1⟩ := HROW.out w2 HB2.out _ htn
  have HI1 := hide hi1
  have htn' : (tN es h : Int) < n := by omega
  clear C1 hb2 hi1 q0 q1
  go_wp2_with fail
  clear k0
  go_loopw [2, 7, 8] (fun t2 t7 t8 wr => ∃ (i : Nat) (p' : Option Addr) (c : Nat) (a : Option Addr) (ca : Nat), Hid (Runs es h i) ∧ t2 = .int .i64 (itN es h i : Nat) ∧ t7 = .slice p' (i + 1) c ∧ t8 = .slice a (ow es (tN es (itN es h i))).length ca ∧ Hid (Below W.heap.size W wr) ∧ Hid (IOwns wr gp (.slice p' (i + 1) c) (pthI es h i)) ∧ Hid (IHas wr a (ow es (tN es (itN es h i))))) (fun _ t7 _ _ => 2 * es.length + 1 - lenV t7)
  case atStart => exact ⟨0, _, _, a1, c1, fun j hj => by omega, rfl, rfl, rfl, HB2.out, HO2.out, HI1.out⟩
  case round =>
    obtain ⟨i, p', c, a, ca, HRi, rfl, rfl, rfl, HBr, HOr, HIr⟩ := hrel
    clear HO1 HO2 HI1
    have hil := HRL.out i HRi.out
    have hit := HIT.out i HRi.out
    by_cases hg : Goes es (itN es h i)
    · have HG : Hid ((ow es (tN es (itN es h i))).length = 2) := hg
      have HR2 : Hid (Runs es h (i + 1)) := fun j hj => by
        by_cases e : j = i
        · rw [e]; exact hg
        · exact HRi.out j (by omega)
      have BS := beside74 a (ow es (tN es (itN es h i))) ca (tw (itN es h i) : Nat) wr HIr.out HG.out
      rw [HNX.out _ hit hg] at BS
      have BS := hide BS
      have HST : Hid (itN es h (i + 1) = nx es (itN es h i)) := rfl
      rw [← HST.out] at BS
      have HPM := hide (pthI_more (es := es) h i)
      have hx := xor_one (itN es h i) (by omega)
      rw [tw_twn] at hx
      rw [HG.out]
      have hil2 := HRL.out (i + 1) HR2.out
      have hit2 := HIT.out (i + 1) HR2.out
      obtain ⟨k, hk⟩ : ∃ k, itN es h i = k := ⟨_, rfl⟩
      obtain ⟨k2, hk2⟩ : ∃ k, itN es h (i + 1) = k := ⟨_, rfl⟩
      have HK2 := hide hk2
      rw [hk] at BS hx hit ⊢
      rw [hk2] at BS HPM hit2
      clear hg hk hk2
      go_wp2_with fail
      refine BS.out.mono ?_
      rintro r w3 ⟨rfl, hb3⟩
      have HB3 := hide (below_step HBr.out hb3)
      have HO3 := hide (HOr.out.later hb3)
      clear BS hb3
      have hgs : gp ≤ w3.heap.size := by have h1 := HB3.out.size; have h2 := HGP.out; omega
      obtain ⟨v1, E, ea, o1', hbE⟩ := push_int HO3.out (k2 : Int) hgs (by rw [pthI_length]; omega)
      have HBE : Hid (Below W.heap.size W E) := HB3.out.trans (by rw [HGP.out]; exact hbE)
      rw [← HPM.out] at o1'
      obtain ⟨p8, c8, h8, _⟩ := o1'.form
      rw [pthI_length] at h8
      subst h8
      have HOE := hide o1'
      obtain ⟨g0, g1, _, _⟩ := HA.out.later HBE.out
      have C2 := hide (HC.out E k2 HBE.out hit2)
      clear o1' hbE hgs HO3
      go_upto_region 4 with (at_builtin; refine wpList_run_append rfl (.tmp 30) (.tmp 32) 25 rfl 25 rfl _ _ _ E rfl rfl ea ?_)
      clear ea
      go_wp2_with fail
      refine C2.out.mono ?_
      rintro r w4 ⟨rfl, hb4⟩
      have HB4 := hide (below_step HBE.out hb4)
      have HO4 := hide (HOE.out.later hb4)
      have ht2 := (HTO.out k2 hit2).2
      obtain ⟨b2, o2, a2, c2, hq2, k0, hi2⟩ := HROW.out w4 HB4.out _ ht2
      cases hq2
      have HI2 := hide hi2
      have ht2' : (tN es k2 : Int) < n := by omega
      clear C2 hb4 hi2 g0 g1
      go_wp2_with fail
      go_roundw
      case rel => exact ⟨i + 1, p8, c8, a2, c2, HR2.out, by rw [HK2.out], rfl, by rw [HK2.out], HB4.out, HO4.out, by show IHas _ _ _; rw [HK2.out]; exact HI2.out⟩
      case measure => simp [lenV]; omega
    · have HNG : Hid (¬ Goes es (itN es h i)) := hg
      have t1 : (((ow es (tN es (itN es h i))).length : Int) == 2) = false := by rw [beq_eq_false_iff_ne]; intro e; exact HNG.out (by unfold Goes; omega)
      have HFI : Hid (folL es h = pthI es h i) := by
        show _ = _
        unfold folL pthI
        rw [fin_is i (2 * es.length) h HRi.out HNG.out (by omega)]
      have HFL : Hid ((folL es h).length = i + 1) := by show _ = _; rw [HFI.out, pthI_length]
      have HE := hide (below_step HB.out HBr.out)
      have HOW : Hid (IOwns wr w.heap.size (.slice p' (i + 1) c) (pthI es h i)) := HOr.out.base (by have := HWS.out; have := HGP.out; omega)
      clear hg
      go_wp2
      go_ret
      exact ⟨p', c, by rw [HFL.out]; rfl, by rw [HFL.out, HFI.out]; exact HOW.out, by rw [HFL.out]; omega, HE.out⟩
end Go.Proofs.Ytaebbfilgfkckaa
