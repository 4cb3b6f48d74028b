/- The faces begin with their least half-edges. -/
import Derived.Test.YtcgdmonejogbaaaG4
import Derived.Test.YtcgdmonejogbaaaY15
import Derived.Test.YtcgdmonejogbaaaWB
import Derived.Test.YtcgdmonejogbaaaF7
namespace Go.Proofs.Ytcgdmonejogbaaa
open Go.RowKit Go.Sort
open Go
def spK (rs : List (List Int)) (m e v k : Nat) : Nat → List Int := fun x => if x < v then (lat rs x).map (spZ m e) else if x = v then ((lat rs v).take k).map (spZ m e) else []
theorem spK_at (rs : List (List Int)) (m e v k : Nat) : spK rs m e v k v = ((lat rs v).take k).map (spZ m e) := by unfold spK; rw [if_neg (by omega), if_pos rfl]
theorem spK_other (rs : List (List Int)) (m e v k k' : Nat) {u : Nat} (h : u ≠ v) : spK rs m e v k u = spK rs m e v k' u := by unfold spK; rw [if_neg h, if_neg h]
theorem spK_next (rs : List (List Int)) (m e v : Nat) (u : Nat) : spK rs m e v (lat rs v).length u = spK rs m e (v + 1) 0 u := by
  unfold spK
  by_cases h1 : u < v
  · rw [if_pos h1, if_pos (by omega)]
  · by_cases h2 : u = v
    · subst h2; rw [if_neg h1, if_pos rfl, if_pos (by omega), List.take_length]
    · rw [if_neg h1, if_neg h2, if_neg (by omega)]
      split
      · simp
      · rfl
theorem spK_step (rs : List (List Int)) (m e v : Nat) {k : Nat} (hk : k < (lat rs v).length) : spK rs m e v (k + 1) v = spK rs m e v k v ++ [spZ m e (iat (lat rs v) k)] := by
  rw [spK_at, spK_at, List.take_succ_eq_append_getElem hk, List.map_append]
  congr 1
  unfold iat
  rw [List.getD_eq_getElem?_getD, List.getElem?_eq_getElem hk]
  rfl
theorem spK_zero (rs : List (List Int)) (m e : Nat) (u : Nat) : spK rs m e 0 0 u = [] := by
  unfold spK
  rw [if_neg (by omega)]
  split
  · simp
  · rfl
theorem spK_all (es : List Pt) (rs : List (List Int)) (e : Nat) {u : Nat} (hu : u < rs.length + 1) : upd (spK rs es.length e rs.length 0) rs.length [((2 * e + 1 : Nat) : Int), ((2 * es.length : Nat) : Int)] u = lat (spR es rs e) u := by
  by_cases h : u = rs.length
  · subst h; rw [upd_same, spR_top]
  · rw [upd_other _ _ h, spR_at (by omega)]
    unfold spK
    rw [if_pos (by omega)]
set_option maxRecDepth 100000 in
set_option maxHeartbeats 16000000 in
theorem split28off (n : Nat) (p : Option Addr) (es : List Pt) (cp : Nat) (q : Option Addr) (lr cq : Nat) (e : Int) (w : World) (he : ¬ (0 ≤ e ∧ e < es.length)) : Calls Try.prog 28 #[nv n p es.length cp, .slice q lr cq, .int .i64 e] w fun r w' => r = .returned (.tuple #[nv 0 none 0 0, .slice none 0 0, .int .i64 2]) ∧ Below w.heap.size w w' := by
  obtain ⟨W, hW, hb0, a0, b0⟩ := two_nets w n p es.length cp
  have SP := hide (rsplit68no n p es cp e W he)
  have HB := hide hb0
  have HN := hide b0
  obtain ⟨q0, q1, _, _⟩ := a0
  clear hb0 b0 he
  go_enter Try.func28, Try.ntmps28
  go_upto_region 1 with fail
  rw [← hW]
  clear hW
  go_wp2_with fail
  refine SP.out.mono ?_
  rintro r w1 ⟨rfl, hb1⟩
  have HB1 := hide hb1
  clear SP hb1 q0 q1
  go_upto_region 2 with fail
  obtain ⟨U, hU⟩ : ∃ U, U = w1.alloc (nbx 0 none 0 0) := ⟨_, rfl⟩
  have hbU : Below w1.heap.size w1 U := by rw [hU]; go_grown
  rw [← hU]
  have HNU := hide (HN.out.later (below_step HB1.out hbU))
  have HBU := hide (below_step HB.out (below_step HB1.out hbU))
  clear hU hbU
  obtain ⟨r0, r1, r2, r3⟩ := HNU.out
  go_wp2
  obtain ⟨V, hV⟩ : ∃ V, V = (U.setCell ⟨w.heap.size + 1, 0, none⟩ (.int .i64 0)).setCell ⟨w.heap.size + 1, 1, none⟩ (.slice none 0 0) := ⟨_, rfl⟩
  have kV : NOwn V (w.heap.size + 1) 0 none 0 0 := by rw [hV]; exact HNU.out.set 0 none 0 0
  have bV : Below w.heap.size w V := by rw [hV]; exact (HBU.out.setCell (by simp) _).setCell (by simp) _
  rw [← hV]
  exact bodyPost_ret (ret_net3 Try.results28 rfl rfl rfl kV) rfl ⟨rfl, bV⟩
set_option maxRecDepth 100000 in
set_option maxHeartbeats 32000000 in
theorem split28 (n : Nat) (p : Option Addr) (es : List Pt) (cp : Nat) (q : Option Addr) (rs : List (List Int)) (cq : Nat) (e : Nat) (w : World) (h : Has w p es) (hnil : p = none → cp = 0) (hr : RHas w q rs) (h0 : rotI n es rs = 0) (he : splitE n es e = 0) : Calls Try.prog 28 #[nv n p es.length cp, .slice q rs.length cq, .int .i64 e] w fun r w' => ∃ q' c g5 rv, r = .returned (.tuple #[nv ((n : Int) + 1) q' (es.length + 1) c, .slice (some ⟨g5, 0, none⟩) (rs.length + 1) (rs.length + 1), .int .i64 0]) ∧ Has w' q' (splitL n es e) ∧ Rows w' w.heap.size g5 (rs.length + 1) rv (fun v => lat (canonL (spR es rs e)) v) ∧ Below w.heap.size w w' := by
  obtain ⟨W, hW, hb0, a0, b0⟩ := two_nets w n p es.length cp
  obtain ⟨n0, n1, hes, _⟩ := netB_is (rot_is h0).1
  obtain ⟨_, z2⟩ := rot_bounds h0
  obtain ⟨hm, ⟨he0, he1⟩, hn1, he3⟩ := splitE_is he
  have hrn0 : rs.length = n := by have := (rot_is h0).2.1; omega
  subst hrn0
  have HWS : Hid (W.heap.size = w.heap.size + 2) := by show _ = _; rw [hW]; simp
  have SP := hide (rsplit68 rs.length p es cp e W (h.later hb0) hnil hm (by omega) (by omega) (by omega))
  have HRS := hide (split_rot h0 he).2
  have HR := hide (hr.later hb0)
  have HB := hide hb0
  have HA := hide a0
  have HN := hide b0
  have HZ2 := hide z2
  have HIN : Hid (∀ v, v < rs.length → ∀ j, j < (lat rs v).length → 0 ≤ iat (lat rs v) j ∧ iat (lat rs v) j < 2 * es.length) := fun v hv j hj => by
    have := (holds_iff.1 (rot_is h0).2.2).1 v hv _ (iat_mem hj)
    exact ⟨this.1, this.2.1⟩
  obtain ⟨q0, q1, _, _⟩ := a0
  have d1 : IntKind.i64.wrap (2 * (e : Int)) = 2 * e := by rw [IntKind.wrap_i64]; omega
  have d2 : IntKind.i64.wrap (2 * (e : Int) + 1) = 2 * e + 1 := by rw [IntKind.wrap_i64]; omega
  have d3 : IntKind.i64.wrap (2 * (es.length : Int)) = 2 * es.length := by rw [IntKind.wrap_i64]; omega
  have d4 : IntKind.i64.wrap (2 * (es.length : Int) + 1) = 2 * es.length + 1 := by rw [IntKind.wrap_i64]; omega
  have d5 : IntKind.i64.wrap ((rs.length : Int) + 1) = rs.length + 1 := by rw [IntKind.wrap_i64]; omega
  clear h hr hb0 b0 h0 z2 he hm
  go_enter Try.func28, Try.ntmps28
  go_upto_region 1 with fail
  rw [← hW]
  clear hW
  go_wp2_with fail
  refine SP.out.mono ?_
  rintro r w1 ⟨qe, ce, rfl, hoe, hb1⟩
  have HB1 := hide hb1
  have HPE : Hid (Has w1 qe (splitL rs.length es e)) := by
    obtain ⟨p', c', e', hh, _⟩ := hoe.form
    injection e' with e1 _ _
    subst e1
    exact hh
  have HPB : Hid (∀ a, qe = some a → W.heap.size ≤ a.block) := fun a ha => by
    subst ha
    exact (World.ownsRow.lt hoe a.block rfl).1
  clear SP hb1 hoe q0 q1
  go_upto_region 2 with fail
  obtain ⟨kc, hkc⟩ : ∃ k, w1.heap.size = k := ⟨_, rfl⟩
  obtain ⟨U, hU⟩ : ∃ U, U = w1.alloc (nbx ((rs.length : Int) + 1) qe (es.length + 1) ce) := ⟨_, rfl⟩
  have hbU : Below w1.heap.size w1 U := by rw [hU]; go_grown
  have HKC : Hid (NOwn U kc ((rs.length : Int) + 1) qe (es.length + 1) ce) := by show NOwn _ _ _ _ _ _; rw [hU, ← hkc]; exact ⟨by go_cell, by go_cell, by simp [go_sem], by simp [go_sem]⟩
  rw [← hU]
  try rw [hkc]
  have HKN : Hid (kc ≠ w.heap.size + 1) := by show _ ≠ _; have h1 := HB1.out.size; have h2 := HWS.out; omega
  have HBU := hide (below_step HB1.out hbU)
  have HPU := hide (HPE.out.later hbU)
  clear hU hbU hkc HPE
  obtain ⟨g0, g1, _, _⟩ := HA.out.later HBU.out
  obtain ⟨i0, hi0, hz0, hz1, hz2⟩ := info_parts info41
  obtain ⟨N1, hN1⟩ : ∃ N, rs.length + 1 = N := ⟨_, rfl⟩
  have hmi : ((rs.length : Int) + 1) = (N1 : Int) := by omega
  have hN2 : N1 ≤ 1025 := by omega
  go_wp2_with (refine wpList_make_full _ rfl (.tmp 31) (.tmp 31) 26 rfl U.heap.size 44 i0 (.slice none 0 0) 1 Try.underlying26 hi0 hz0 hz1 .i64 .i64 _ _ N1 rfl (by first | exact congrArg (fun z => some (Value.int .i64 z)) hmi | rfl) rfl (by first | exact congrArg (fun z => some (Value.int .i64 z)) hmi | rfl) ?c1 ?c2 ?c3 ?_)
  all_goals first | (intro w3 hown hgrow) | omega | (unfold maxLen; omega) | exact Nat.le_refl _ | (rw [hz2]; omega)
  have hb3 := below_made hgrow
  obtain ⟨gw, hgw⟩ : ∃ gw, U.heap.size = gw := ⟨_, rfl⟩
  have hr2 := (rows_made [] hown).congr (L' := spK rs es.length e 0 0) (fun v _ => by rw [spK_zero]; simp [outL])
  rw [hgw] at hr2
  have HR2 := hide hr2
  have HB3 := hide hb3
  have HGW := hide hgw
  have HRU := hide (HR.out.later HBU.out)
  have HHN := hide hN1
  have HCE : Hid (∀ V, Below U.heap.size U V → V.cell? ⟨w.heap.size, 0, none⟩ = some (.int .i64 rs.length) ∧ V.cell? ⟨w.heap.size, 1, none⟩ = some (.slice p es.length cp)) := fun V hV => by
    obtain ⟨x0, x1, _, _⟩ := HA.out.later (below_step HBU.out hV)
    exact ⟨x0, x1⟩
  try rw [hgw]
  clear hown hgrow hb3 hr2 hi0 hz0 hz1 hz2 i0 hgw g0 g1 hN1
  go_wp2_with fail
  go_loopw [13] (fun t13 wr => ∃ (v : Nat) (rv : Nat → Value), v ≤ rs.length ∧ t13 = .int .i64 v ∧ Hid (Below U.heap.size U wr) ∧ Hid (Rows wr gw gw N1 rv (spK rs es.length e v 0))) (fun t13 _ => rs.length - (intOf t13).toNat)
  case atStart => exact ⟨0, _, by omega, rfl, HB3.out, HR2.out⟩
  case round =>
    obtain ⟨v, rv0, hv, rfl, HBr, HRr⟩ := hrel
    clear HB3 HR2
    obtain ⟨g0, g1⟩ := HCE.out _ HBr.out
    by_cases hlt : v < rs.length
    · obtain ⟨b1, o1, a1, k1, rfl, c0W, m1, _, _, _⟩ := HRU.out.at_ hlt
      have e1 : (v : Int) < rs.length := by omega
      have hlb := HZ2.out v hlt
      obtain ⟨la, hla⟩ : ∃ l, (lat rs v).length = l := ⟨_, rfl⟩
      rw [hla] at c0W hlb
      have HLA := hide hla
      have HC0 : Hid (∀ V, Below U.heap.size U V → V.cell? ⟨b1, o1 + v, none⟩ = some (.slice a1 la k1)) := fun V hV => later hV c0W
      have HM1 : Hid (∀ V, Below U.heap.size U V → IHas V a1 (lat rs v)) := fun V hV => m1.later hV
      have hvN : v < N1 := by have := HHN.out; omega
      have HVN : Hid ((v : Int) < N1) := by show _ < _; omega
      clear m1 c0W hla
      go_wp2_with fail
      clear g0 g1
      go_loopw [14] (fun t14 wj => ∃ (j : Nat) (rv : Nat → Value), j ≤ la ∧ t14 = .int .i64 j ∧ Hid (Below U.heap.size U wj) ∧ Hid (Rows wj gw gw N1 rv (spK rs es.length e v j))) (fun t14 _ => la - (intOf t14).toNat)
      case atStart => exact ⟨0, _, by omega, rfl, HBr.out, HRr.out⟩
      case round =>
        obtain ⟨j, rv, hj, rfl, HBj, HRj⟩ := hrel
        clear HBr HRr
        have c0 := HC0.out _ HBj.out
        by_cases hjl : j < la
        · rcases HM1.out _ HBj.out with hn2 | ⟨b2, o2, rfl, l2⟩
          · have := HLA.out; rw [hn2] at this; simp at this; omega
          have hjl' : j < (lat rs v).length := by rw [HLA.out]; exact hjl
          have c1 := l2 j hjl'
          obtain ⟨x0, x1⟩ := HIN.out v hlt j hjl'
          have HST := hide (spK_step rs es.length e v hjl')
          obtain ⟨x, hx⟩ : ∃ x, iat (lat rs v) j = x := ⟨_, rfl⟩
          rw [hx] at c1 HST x0 x1
          obtain ⟨y, hy⟩ : ∃ y, spZ es.length e x = y := ⟨_, rfl⟩
          rw [hy] at HST
          obtain ⟨X, hX⟩ : ∃ X, X = wr.alloc (.cells #[.int .i64 y] 3) := ⟨_, rfl⟩
          have hbX : Below wr.heap.size wr X := by rw [hX]; go_grown
          have hlit : X.cell? ⟨wr.heap.size, 0, none⟩ = some (.int .i64 y) := by rw [hX]; exact one_int _ _
          have hRX := HRj.out.later hbX
          have hgB : gw ≤ X.heap.size := Nat.le_of_lt hRX.size.2
          have hlen : (spK rs es.length e v j v).length ≤ 90000 := by rw [spK_at, List.length_map, List.length_take]; omega
          obtain ⟨v1, D, ea, oa, gr, at1⟩ := append_int (hRX.2.2 v hvN) hlit hgB hlen
          obtain ⟨_, sl2, sl3⟩ := hRX.slot hvN gr
          have RN := hRX.put hvN oa gr at1
          have hrow := (HRj.out.cell hvN).1
          have HBD : Hid (Below U.heap.size U (D.setCell ⟨gw, v, none⟩ v1)) := by
            have hGE := HGW.out
            exact (below_grown (below_step HBj.out hbX) (hRX.2.2 v hvN) (by omega) (by have := HBj.out.size; have := hbX.size; omega) gr).setCell (p := ⟨gw, v, none⟩) (by show _ ≤ gw; omega) _
          have HRN : Hid (Rows (D.setCell ⟨gw, v, none⟩ v1) gw gw N1 (upd rv v v1) (spK rs es.length e v (j + 1))) := RN.congr fun u _ => by
            by_cases hu : u = v
            · rw [hu, upd_same, HST.out]
            · rw [upd_other _ _ hu]; exact spK_other _ _ _ _ _ _ hu
          obtain ⟨p8, c8, h8, _⟩ := oa.form
          obtain ⟨ll, hll⟩ : ∃ l, (spK rs es.length e v j v ++ [y]).length = l := ⟨_, rfl⟩
          rw [hll] at h8
          subst h8
          rw [hX] at ea
          have j1 : (j : Int) < la := by omega
          have hVN := HVN.out
          clear l2 hx hlit hRX hgB hlen RN oa gr at1 hX hbX HRj hll
          by_cases hxe : x = 2 * (e : Int) + 1
          · have hyv : y = 2 * (es.length : Int) + 1 := by rw [← hy]; unfold spZ; rw [if_pos (by omega)]; omega
            subst hxe
            subst hyv
            clear hy
            go_wp2_with (at_builtin; refine wpList_run_append rfl (.tmp 68) (.tmp 70) 44 rfl 44 rfl _ _ _ D rfl rfl ea ?_)
            go_roundw
            case rel => exact ⟨j + 1, _, by omega, by go_num, HBD.out, HRN.out⟩
            case measure => simp [intOf]; omega
          · have hyv : y = x := by rw [← hy]; unfold spZ; rw [if_neg (by omega)]
            have t1 : (x == 2 * (e : Int) + 1) = false := by rw [beq_eq_false_iff_ne]; exact hxe
            subst hyv
            clear hy hxe
            go_wp2_with (at_builtin; refine wpList_run_append rfl (.tmp 68) (.tmp 70) 44 rfl 44 rfl _ _ _ D rfl rfl ea ?_)
            go_roundw
            case rel => exact ⟨j + 1, _, by omega, by go_num, HBD.out, HRN.out⟩
            case measure => simp [intOf]; omega
        · have hje : j = la := by omega
          have j1 : ¬ (j : Int) < la := by omega
          have HRN : Hid (Rows wr gw gw N1 rv (spK rs es.length e (v + 1) 0)) := HRj.out.congr fun u _ => by rw [hje, ← HLA.out]; exact spK_next _ _ _ _ u
          clear hje HRj
          go_wp2
          go_roundw
          case rel => exact ⟨v + 1, rv, by omega, by go_num, HBj.out, HRN.out⟩
          case measure => simp [intOf]; omega
    · have e1 : ¬ (v : Int) < rs.length := by omega
      have hve : v = rs.length := by omega
      rw [hve] at HRr e1 ⊢
      have hnN : rs.length < N1 := by have := HHN.out; omega
      have hnN' : (rs.length : Int) < N1 := by omega
      obtain ⟨X, hX⟩ : ∃ X, X = wr.alloc (.cells #[.int .i64 (2 * (e : Int) + 1), .int .i64 (2 * (es.length : Int))] 3) := ⟨_, rfl⟩
      have hbX : Below wr.heap.size wr X := by rw [hX]; go_grown
      have hoX : IOwns X wr.heap.size (.slice (some ⟨wr.heap.size, 0, none⟩) 2 2) [((2 * e + 1 : Nat) : Int), ((2 * es.length : Nat) : Int)] := by rw [hX]; exact lit_two wr e es.length
      have hgB : gw ≤ wr.heap.size := Nat.le_of_lt HRr.out.size.2
      obtain ⟨Y, hY⟩ : ∃ Y, Y = X.setCell ⟨gw, rs.length, none⟩ (.slice (some ⟨wr.heap.size, 0, none⟩) 2 2) := ⟨_, rfl⟩
      have HRY : Hid (RHas Y (some ⟨gw, 0, none⟩) (spR es rs e)) := by
        have := HRr.out.lay hnN hbX hgB hoX
        rw [← hY] at this
        refine this.has (by rw [spR_length]; exact HHN.out) (fun u hu => spK_all es rs e (by have := HHN.out; omega)) (fun u hu => ?_)
        have := (rot_bounds HRS.out).2 u (by rw [spR_length]; have := HHN.out; omega)
        unfold maxLen
        omega
      have HBY : Hid (Below U.heap.size U Y) := by show Below _ _ _; rw [hY]; exact (below_step HBr.out hbX).setCell (p := ⟨gw, rs.length, none⟩) (by show _ ≤ gw; have := HGW.out; omega) _
      obtain ⟨d0', f0'⟩ := (HRr.out.later hbX).cell hnN
      rw [hX] at d0' f0'
      have hX2 := hX
      clear hve hlt hv hoX hgB hbX HRr
      go_upto_region 17 with fail
      rw [← hX, ← hY]
      clear hX hY hX2 d0' f0' hmi g0 g1
      have HHN2 := HHN.out
      subst HHN2
      have CN : Hid (∀ V, Below Y.heap.size Y V → Calls Try.prog 63 #[.slice (some ⟨gw, 0, none⟩) (rs.length + 1) (rs.length + 1)] V fun e' w' => ∃ g9 rv9, e' = .returned (.slice (some ⟨g9, 0, none⟩) (rs.length + 1) (rs.length + 1)) ∧ Rows w' V.heap.size g9 (rs.length + 1) rv9 (fun v => lat (canonL (spR es rs e)) v) ∧ Below V.heap.size V w') := fun V hV => by
        have := canon49 (some ⟨gw, 0, none⟩) (spR es rs e) (rs.length + 1) V (HRY.out.later hV) (by rw [spR_length]; omega) (fun u hu => by have := (rot_bounds HRS.out).2 u hu; omega)
        rw [spR_length] at this
        refine this.mono ?_
        rintro e' w' ⟨g9, rv9, he', hr9, hb9⟩
        exact ⟨g9, rv9, he', hr9.congr fun v hv => (lat_canon (by rw [spR_length]; exact hv)).symm, hb9⟩
      have HSK : Hid (∀ V, Below Y.heap.size Y V → V.cell? ⟨kc, 0, none⟩ = some (.int .i64 ((rs.length : Int) + 1)) ∧ V.cell? ⟨kc, 1, none⟩ = some (.slice qe (es.length + 1) ce)) := fun V hV => by obtain ⟨x0, x1, _, _⟩ := HKC.out.later (below_step HBY.out hV); exact ⟨x0, x1⟩
      have HV3 := hide (below_step HBU.out HBY.out)
      obtain ⟨k0, k1⟩ := HSK.out _ (Below.refl _ _)
      go_region_held3 (fun V => V.cell? ⟨kc, 0, none⟩ = some (.int .i64 ((rs.length : Int) + 1)) ∧ V.cell? ⟨kc, 1, none⟩ = some (.slice qe (es.length + 1) ce))
        (first | exact HSK.out _ (below_drew Y) | exact HSK.out _ (Below.refl _ _) | exact HSK.out _ HV9.out | exact ⟨other2 (HSK.out _ HV9.out).1 HKN.out, other2 (HSK.out _ HV9.out).2 HKN.out⟩)
        (first | (go_at_call 63; refine (CN.out _ (below_drew Y)).mono ?_; rintro e9 w9 ⟨g9, rv9, rfl, hr9, hb9⟩; have HV9 := hide (below_step (below_drew Y) hb9); have HR9 := hide hr9; clear hb9 hr9 k0 k1; obtain ⟨k0, k1⟩ := HSK.out _ HV9.out; obtain ⟨r0, r1, r2, r3⟩ := HN.out.later (below_step HV3.out HV9.out)))
      rename_i hHeld
      clear hHeld
      obtain ⟨Z, hZ⟩ : ∃ Z, Z = (w9.setCell ⟨w.heap.size + 1, 0, none⟩ (.int .i64 ((rs.length : Int) + 1))).setCell ⟨w.heap.size + 1, 1, none⟩ (.slice qe (es.length + 1) ce) := ⟨_, rfl⟩
      have kZ : NOwn Z (w.heap.size + 1) ((rs.length : Int) + 1) qe (es.length + 1) ce := by rw [hZ]; exact (HN.out.later (below_step HV3.out HV9.out)).set _ _ _ _
      have bZ : Below w.heap.size w Z := by rw [hZ]; exact ((below_step HB.out (below_step HV3.out HV9.out)).setCell (by simp) _).setCell (by simp) _
      have hsz : w.heap.size + 1 < W.heap.size := by have h2 := HWS.out; omega
      have hs9 : W.heap.size ≤ Y.heap.size := HV3.out.size
      have hH : Has Z qe (splitL rs.length es e) := by
        rw [hZ]
        exact ((HPU.out.later (below_step HBY.out HV9.out)).other (fun a ha => by have := HPB.out a ha; omega) _).other (fun a ha => by have := HPB.out a ha; omega) _
      have rZ : Rows Z w.heap.size g9 (rs.length + 1) rv9 (fun v => lat (canonL (spR es rs e)) v) := by
        rw [hZ]
        have hd : Y.drew.heap.size = Y.heap.size := rfl
        exact ((HR9.out.other (by rw [hd]; omega) _).other (by rw [hd]; omega) _).base (by rw [hd]; omega)
      go_wp2_with fail
      rw [← hZ]
      exact bodyPost_ret (ret_net3 Try.results28 rfl rfl rfl kZ) rfl ⟨qe, ce, g9, rv9, rfl, hH, rZ, bZ⟩
end Go.Proofs.Ytcgdmonejogbaaa
namespace Go.Proofs.Ytcgdmonejogbaaa
open Go.RowKit Go.Sort
open Go
theorem turnL_id {l : List Int} (h : ∀ j, j < l.length → iat l 0 ≤ iat l j) : turnL l = l := by
  have e : lowAt l = 0 := by
    rcases Nat.eq_zero_or_pos (lowAt l) with h0 | h0
    · exact h0
    · have hl : 0 < l.length := by
        rcases Nat.eq_zero_or_pos l.length with h1 | h1
        · have : l = [] := List.eq_nil_of_length_eq_zero h1
          subst this
          exact absurd h0 (by decide)
        · exact h1
      have h1 : iat l (lowAt l) < iat l 0 := loN_first l (l.length - 1) 0 h0
      have := h (lowAt l) (lowAt_lt hl)
      omega
  unfold turnL
  rw [e]
  simp
theorem canon_faces {es : List Pt} {rs : List (List Int)} (h : holdsP es rs) : canonL (facesL es rs) = facesL es rs := by
  have k := edge_ok h
  unfold canonL facesL
  rw [List.map_append]
  congr 1
  · refine (List.map_congr_left fun l hl => ?_).trans (List.map_id _)
    obtain ⟨i, hi, rfl⟩ := List.getElem_of_mem hl
    obtain ⟨a, p, _, _, hp, hf, _, h1, _⟩ := k.fc i hi
    rw [lat_get hi] at hf
    rw [hf]
    refine turnL_id fun j hj => ?_
    rw [rd_len] at hj
    rw [rd_at hj, rd_at hp]
    have h2 := (h1 j hj).2
    have h3 : it (fn (nxN rs (2 * es.length) rs.length)) 0 a = a := rfl
    rw [h3]
    omega
  · refine (List.map_congr_left fun l hl => ?_).trans (List.map_id _)
    rw [emptyN_mem rs _ l hl]
    rfl
end Go.Proofs.Ytcgdmonejogbaaa
