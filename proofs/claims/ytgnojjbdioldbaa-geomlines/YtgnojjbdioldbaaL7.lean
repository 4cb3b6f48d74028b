/- The document's Apart, in every world. -/
import Derived.Test.YtgnojjbdioldbaaL6
import Derived.Test.YtgnojjbdioldbaaJ5
import Derived.Test.YtgnojjbdioldbaaI4
namespace Go.Proofs.Ytgnojjbdioldbaa
open Go.RowKit Go.Sort
open Go

theorem apt_bey (p q : List Pt) : Apt p q ↔ ¬ ∃ i j, i < segN p ∧ j < segN q ∧ BeyAt p q (endL p q) i j := by
  unfold Apt BeyAt
  constructor
  · rintro h ⟨i, j, hi, hj, hb⟩
    exact (apart_bey _ _ _ _ _).1 (h i hi j hj) hb
  · intro h i hi j hj
    exact (apart_bey _ _ _ _ _).2 fun hb => h ⟨i, j, hi, hj, hb⟩
theorem two_lie (w : World) (y z : Pt) : Lies (w.alloc (.cells #[.int .i64 y.x, .int .i64 y.y, .int .i64 z.x, .int .i64 z.y] 23)).drew w.heap.size 0 [y, z] := by
  intro x hx
  simp only [List.length_cons, List.length_nil] at hx
  rcases (by omega : x = 0 ∨ x = 1) with rfl | rfl
  all_goals exact ⟨by simp only [at', List.getD_cons_zero, List.getD_cons_succ]; go_cell, by simp only [at', List.getD_cons_zero, List.getD_cons_succ]; go_cell⟩
theorem one_lieJ (w : World) (y : Pt) : Lies (w.alloc (.cells #[.int .i64 y.x, .int .i64 y.y] 23)) w.heap.size 0 [y] := by
  intro x hx
  simp only [List.length_cons, List.length_nil] at hx
  rcases (by omega : x = 0) with rfl
  exact ⟨by simp only [at', List.getD_cons_zero]; go_cell, by simp only [at', List.getD_cons_zero]; go_cell⟩
theorem two_at (y z : Pt) {i : Nat} (h : i < 2) : at' [y, z] i = two y z i := by
  rcases (by omega : i = 0 ∨ i = 1) with rfl | rfl <;> rfl
set_option maxRecDepth 100000 in
set_option maxHeartbeats 8000000 in
theorem apart30 (b off cap b' off' cap' : Nat) (p q : List Pt) (w : World) (hp : 0 < p.length) (hq : 0 < q.length) (hmp : mayB p = true) (hmq : mayB q = true) (h : Lies w b off p) (k : Lies w b' off' q) :
    Calls Try.prog 30 #[.slice (some ⟨b, off, none⟩) p.length cap, .slice (some ⟨b', off', none⟩) q.length cap'] w fun e w' => (∃ r : Bool, e = .returned (.bool r) ∧ (r = true ↔ Apt p q)) ∧ Below w.heap.size w w' := by
  have hlp := mayB_len hmp
  have hlq := mayB_len hmq
  have HBY := hide (fun pj cj V (h1 : Lies V b off p) (h2 : Lies V b' off' q) (h3 : Has V pj (endL p q)) => beyond51 b off cap b' off' cap' p q (endL p q) pj cj V hp hq hmp hmq h1 h2 h3 (ends_pt (fun j hj => mayB_at hmp hj) hp) (by unfold endL; have := endsN_length (at' p 0) (at' p (p.length - 1)) (at' q 0) (at' q (q.length - 1)) 2; omega))
  have HAB := hide (apt_bey p q)
  obtain ⟨c0, c1⟩ := h 0 hp
  obtain ⟨d0, d1⟩ := h (p.length - 1) (by omega)
  have HP := hide h
  have HK := hide k
  have HE : Hid (endL p q = endsN (at' p 0) (at' p (p.length - 1)) (at' q 0) (at' q (q.length - 1)) 2) := rfl
  obtain ⟨R, hR⟩ : ∃ R, endL p q = R := ⟨_, rfl⟩
  rw [hR] at HE HBY HAB
  obtain ⟨y, hy⟩ : ∃ y, at' p 0 = y := ⟨_, rfl⟩
  obtain ⟨z, hz⟩ : ∃ z, at' p (p.length - 1) = z := ⟨_, rfl⟩
  rw [hy] at c0 c1 HE
  rw [hz] at d0 d1 HE
  obtain ⟨n, hn⟩ : ∃ n, p.length = n + 1 := ⟨p.length - 1, by omega⟩
  rw [hn] at d0 d1 hlp HBY ⊢
  rw [show n + 1 - 1 = n by omega] at d0 d1
  rw [Nat.zero_mul, Nat.add_zero] at c0 c1
  obtain ⟨u, hu⟩ : ∃ u, at' q 0 = u := ⟨_, rfl⟩
  obtain ⟨v, hv⟩ : ∃ v, at' q (q.length - 1) = v := ⟨_, rfl⟩
  have HU := hide (And.intro hu hv)
  rw [hu, hv] at HE
  obtain ⟨m, hm⟩ : ∃ m, q.length = m + 1 := ⟨q.length - 1, by omega⟩
  have HQ := hide hm
  rw [hm] at hlq HBY ⊢
  clear h k hR hy hz hn hu hv hm hp hq hmp hmq
  have k1 : (0 : Int) < (n : Int) + 1 := by omega
  have k2 : (n : Int) < (n : Int) + 1 := by omega
  have k3 : (0 : Int) ≤ n := by omega
  have k4 : IntKind.i64.wrap (n : Int) = n := by rw [IntKind.wrap_i64]; omega
  have k5 : IntKind.i64.wrap ((n : Int) + 1 - 1) = n := by rw [IntKind.wrap_i64]; omega
  have CS : Hid (w.cell? ⟨b, off, none⟩ = some (.int .i64 y.x) ∧ w.cell? ⟨b, off + 1, none⟩ = some (.int .i64 y.y) ∧ w.cell? ⟨b, off + n * 2, none⟩ = some (.int .i64 z.x) ∧ w.cell? ⟨b, off + n * 2 + 1, none⟩ = some (.int .i64 z.y)) := ⟨c0, c1, d0, d1⟩
  have CS1 : Hid (∀ V, Below w.heap.size w V → V.cell? ⟨b, off, none⟩ = some (.int .i64 y.x) ∧ V.cell? ⟨b, off + 1, none⟩ = some (.int .i64 y.y) ∧ V.cell? ⟨b, off + n * 2, none⟩ = some (.int .i64 z.x) ∧ V.cell? ⟨b, off + n * 2 + 1, none⟩ = some (.int .i64 z.y)) := fun V hB => ⟨later hB CS.out.1, later hB CS.out.2.1, later hB CS.out.2.2.1, later hB CS.out.2.2.2⟩
  clear CS c0 c1 d0 d1
  go_enter Try.func30, Try.ntmps30
  go_upto_region 1 with fail
  go_region_held3 (fun V => V.cell? ⟨b, off, none⟩ = some (.int .i64 y.x) ∧ V.cell? ⟨b, off + 1, none⟩ = some (.int .i64 y.y) ∧ V.cell? ⟨b, off + n * 2, none⟩ = some (.int .i64 z.x) ∧ V.cell? ⟨b, off + n * 2 + 1, none⟩ = some (.int .i64 z.y))
    (first | exact CS1.out _ (below_drewJ _) | exact CS1.out _ (by go_grown))
    (fail)
  rename_i hHeld
  clear hHeld CS1
  obtain ⟨X, hX⟩ : ∃ X, X = (w.alloc (.cells #[.int .i64 y.x, .int .i64 y.y, .int .i64 z.x, .int .i64 z.y] 23)).drew := ⟨_, rfl⟩
  have hbX : Below w.heap.size w X := by rw [hX]; go_grown
  have HEN : Hid (Lies X w.heap.size 0 [y, z]) := by show Lies _ _ _ _; rw [hX]; exact two_lie w y z
  have HB1 := hide hbX
  have CS1 : Hid (∀ V, Below X.heap.size X V → V.cell? ⟨b', off', none⟩ = some (.int .i64 u.x) ∧ V.cell? ⟨b', off' + 1, none⟩ = some (.int .i64 u.y) ∧ V.cell? ⟨b', off' + m * 2, none⟩ = some (.int .i64 v.x) ∧ V.cell? ⟨b', off' + m * 2 + 1, none⟩ = some (.int .i64 v.y)) := by
    intro V hB
    have hL := (HK.out.later hbX).later hB
    obtain ⟨e0, e1⟩ := hL 0 (by rw [HQ.out]; omega)
    obtain ⟨g0, g1⟩ := hL (q.length - 1) (by rw [HQ.out]; omega)
    rw [HU.out.1, Nat.zero_mul, Nat.add_zero] at e0 e1
    rw [HU.out.2, HQ.out, show m + 1 - 1 = m by omega] at g0 g1
    exact ⟨e0, e1, g0, g1⟩
  rw [← hX]
  clear hX hbX k1 k2 k3 k4 k5
  have k1 : (0 : Int) < (m : Int) + 1 := by omega
  have k2 : (m : Int) < (m : Int) + 1 := by omega
  have k3 : (0 : Int) ≤ m := by omega
  have k4 : IntKind.i64.wrap (m : Int) = m := by rw [IntKind.wrap_i64]; omega
  have k5 : IntKind.i64.wrap ((m : Int) + 1 - 1) = m := by rw [IntKind.wrap_i64]; omega
  obtain ⟨ke, hke⟩ : ∃ ke, w.heap.size = ke := ⟨_, rfl⟩
  rw [hke] at HEN ⊢
  have HKE := hide hke
  clear hke
  go_upto_region 2 with fail
  go_region_held3 (fun V => V.cell? ⟨b', off', none⟩ = some (.int .i64 u.x) ∧ V.cell? ⟨b', off' + 1, none⟩ = some (.int .i64 u.y) ∧ V.cell? ⟨b', off' + m * 2, none⟩ = some (.int .i64 v.x) ∧ V.cell? ⟨b', off' + m * 2 + 1, none⟩ = some (.int .i64 v.y))
    (first | exact CS1.out _ (below_drewJ _) | exact CS1.out _ (by go_grown))
    (fail)
  rename_i hHeld
  clear hHeld CS1
  obtain ⟨Y, hY⟩ : ∃ Y, Y = (X.alloc (.cells #[.int .i64 u.x, .int .i64 u.y, .int .i64 v.x, .int .i64 v.y] 23)).drew := ⟨_, rfl⟩
  have hbY : Below X.heap.size X Y := by rw [hY]; go_grown
  have HON : Hid (Lies Y X.heap.size 0 [u, v]) := by show Lies _ _ _ _; rw [hY]; exact two_lie X u v
  have HB2 := hide (below_stepJ HB1.out hbY)
  have HEN2 := hide (HEN.out.later hbY)
  rw [← hY]
  clear hY hbY k1 k2 k3 k4 k5 HB1 HEN
  obtain ⟨ko, hko⟩ : ∃ ko, X.heap.size = ko := ⟨_, rfl⟩
  rw [hko] at HON ⊢
  clear hko
  go_wp2_with fail
  go_loopw [7, 8] (fun s t wr => ∃ i : Nat, i ≤ 2 ∧ t = .int .i64 i ∧ Hid (Below Y.heap.size Y wr) ∧ Hid (Owns wr Y.heap.size s (endsN y z u v i))) (fun _ t _ => 2 - (intOf t).toNat)
  case atStart => exact ⟨0, by omega, rfl, Below.refl _ _, Owns.nil _ _⟩
  case round =>
    obtain ⟨i, hi, rfl, HBr, HO⟩ := hrel
    obtain ⟨p0, c, hv0, hHas, _, hnil, _⟩ := HO.out.form
    subst hv0
    by_cases hlt : i < 2
    · have HT : Hid (endsN y z u v (i + 1) = endsN y z u v i ++ if two y z i = u ∨ two y z i = v then [two y z i] else []) := rfl
      have hlen := endsN_length y z u v i
      obtain ⟨e0, e1⟩ := HEN2.out.later HBr.out i hlt
      rw [two_at y z hlt, Nat.zero_add] at e0 e1
      obtain ⟨e, he⟩ : ∃ e, two y z i = e := ⟨_, rfl⟩
      rw [he] at HT e0 e1
      obtain ⟨T, hTT⟩ : ∃ T, endsN y z u v i = T := ⟨_, rfl⟩
      rw [hTT] at HT HO hlen hHas ⊢
      have i1 : (i : Int) < 2 := by omega
      have i2 : (0 : Int) ≤ i := by omega
      have H5 := hide (has50 (some ⟨ko, 0, none⟩) [u, v] 2 e wr (by simp) (Or.inr ⟨ko, 0, rfl, HON.out.later HBr.out⟩))
      clear he hTT hHas hnil
      by_cases hin : e ∈ [u, v]
      · rw [decide_eq_true hin] at H5
        have hor : e = u ∨ e = v := by simpa using hin
        rw [if_pos hor] at HT
        clear hin hor
        go_wp2_with fail
        refine H5.out.mono ?_
        rintro e' w5 ⟨rfl, hb5⟩
        have HB5 := hide (below_stepJ HBr.out hb5)
        have HO5 := hide (HO.out.later hb5)
        have e0' := later hb5 e0
        have e1' := later hb5 e1
        obtain ⟨U, hU⟩ : ∃ U, U = w5.alloc (.cells #[.int .i64 e.x, .int .i64 e.y] 23) := ⟨_, rfl⟩
        have hbU : Below w5.heap.size w5 U := by rw [hU]; go_grown
        obtain ⟨v1, D, ea, oD, gr⟩ := append_prs (HO5.out.later hbU) (some ⟨w5.heap.size, 0, none⟩) 1 [e] (fun h => by cases h) (Or.inr ⟨_, _, rfl, by rw [hU]; exact one_lieJ w5 e⟩) (Nat.le_trans HB5.out.size hbU.size) (by simp; omega)
        have HOD := hide oD
        have HBD : Hid (Below Y.heap.size Y D) := below_grown (below_stepJ HB5.out hbU) (HO5.out.later hbU) (Nat.le_refl _) (Nat.le_trans HB5.out.size hbU.size) gr
        rw [hU] at ea
        simp only [List.length_cons, List.length_nil, Nat.zero_add] at ea
        clear hb5 H5 HBr HO HO5 HB5 e0 e1 hU hbU oD gr
        go_wp2_with (at_builtin; refine wpList_run_append rfl (.tmp 39) (.tmp 44) 27 rfl 27 rfl _ _ _ D rfl rfl ea ?_)
        clear ea e0' e1'
        go_wp2
        go_roundw
        case rel => exact ⟨i + 1, by omega, by go_num, HBD.out, by show Owns _ _ _ _; rw [HT.out]; exact HOD.out⟩
        case measure => simp [intOf]; omega
      · rw [decide_eq_false hin] at H5
        have hor : ¬ (e = u ∨ e = v) := by simpa using hin
        rw [if_neg hor, List.append_nil] at HT
        clear hin hor
        go_wp2_with fail
        refine H5.out.mono ?_
        rintro e' w5 ⟨rfl, hb5⟩
        have HB5 := hide (below_stepJ HBr.out hb5)
        have HO5 := hide (HO.out.later hb5)
        clear hb5 H5 HBr HO e0 e1
        go_wp2
        go_roundw
        case rel => exact ⟨i + 1, by omega, by go_num, HB5.out, by show Owns _ _ _ _; rw [HT.out]; exact HO5.out⟩
        case measure => simp [intOf]; omega
    · have hin : i = 2 := by omega
      subst hin
      rw [← HE.out] at HO hHas ⊢
      have hbw := below_stepJ HB2.out HBr.out
      have BY := hide (HBY.out p0 c wr (HP.out.later hbw) (HK.out.later hbw) hHas)
      have HBW := hide hbw
      clear hHas hnil hbw HO
      go_wp2_with fail
      refine BY.out.mono ?_
      rintro e' w5 ⟨⟨r, rfl, hr⟩, hb5⟩
      have HB5 := hide (below_stepJ HBW.out hb5)
      have HR := hide hr
      clear hb5 hr BY
      go_wp2
      go_ret
      refine ⟨⟨!r, rfl, ?_⟩, HB5.out⟩
      rw [HAB.out]
      have := HR.out
      cases r
      · simp only [Bool.not_false, true_iff]
        exact fun hx => by have := this.2 hx; cases this
      · simp only [Bool.not_true, Bool.false_eq_true, false_iff, Classical.not_not]
        exact this.1 rfl
end Go.Proofs.Ytgnojjbdioldbaa
