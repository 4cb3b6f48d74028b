/- The ends that two polylines have in common, in every world. -/
import Derived.Test.YtgnojjbdioldbaaJ4
namespace Go.Proofs.Ytgnojjbdioldbaa
open Go.RowKit Go.Sort
open Go

theorem owns_baseJ {w : World} {b b' : Nat} {v : Value} {l : List Pt} (h : Owns w b v l) (hb : b' ≤ b) : Owns w b' v l := by
  obtain ⟨h1, h2 | ⟨g, cap, cur, rfl, h3, h4⟩⟩ := h
  · exact ⟨h1, Or.inl h2⟩
  · exact ⟨h1, Or.inr ⟨g, cap, cur, rfl, Nat.le_trans hb h3, h4⟩⟩
set_option maxRecDepth 100000 in
set_option maxHeartbeats 8000000 in
theorem common48 (b off cap b' off' cap' : Nat) (p q : List Pt) (w : World) (hp : 0 < p.length) (hq : 0 < q.length) (hlp : p.length ≤ 4096) (hlq : q.length ≤ 4096) (h : Lies w b off p) (k : Lies w b' off' q) :
    Calls Try.prog 48 #[.slice (some ⟨b, off, none⟩) p.length cap, .slice (some ⟨b', off', none⟩) q.length cap'] w fun e w' => ∃ v, e = .returned v ∧ Owns w' w.heap.size v (endL p q) ∧ Below w.heap.size w w' := by
  obtain ⟨c0, c1⟩ := h 0 hp
  obtain ⟨d0, d1⟩ := h (p.length - 1) (by omega)
  have HK := hide k
  have HE : Hid (endL p q = endsN (at' p 0) (at' p (p.length - 1)) (at' q 0) (at' q (q.length - 1)) 2) := rfl
  obtain ⟨R, hR⟩ : ∃ R, endL p q = R := ⟨_, rfl⟩
  rw [hR] at HE ⊢
  obtain ⟨y, hy⟩ : ∃ y, at' p 0 = y := ⟨_, rfl⟩
  obtain ⟨z, hz⟩ : ∃ z, at' p (p.length - 1) = z := ⟨_, rfl⟩
  rw [hy] at c0 c1 HE
  rw [hz] at d0 d1 HE
  obtain ⟨n, hn⟩ : ∃ n, p.length = n + 1 := ⟨p.length - 1, by omega⟩
  rw [hn] at d0 d1 hlp ⊢
  rw [show n + 1 - 1 = n by omega] at d0 d1
  rw [Nat.zero_mul, Nat.add_zero] at c0 c1
  obtain ⟨u, hu⟩ : ∃ u, at' q 0 = u := ⟨_, rfl⟩
  obtain ⟨v, hv⟩ : ∃ v, at' q (q.length - 1) = v := ⟨_, rfl⟩
  have HU := hide (And.intro hu hv)
  rw [hu, hv] at HE
  obtain ⟨m, hm⟩ : ∃ m, q.length = m + 1 := ⟨q.length - 1, by omega⟩
  have HQ := hide hm
  rw [hm] at hlq ⊢
  clear h k hR hy hz hn hu hv hm hp hq
  have f0 := cell_regrown c0
  have f1 := cell_regrown c1
  have f2 := cell_regrown d0
  have f3 := cell_regrown d1
  have k1 : (0 : Int) < (n : Int) + 1 := by omega
  have k2 : (n : Int) < (n : Int) + 1 := by omega
  have k3 : (0 : Int) ≤ n := by omega
  obtain ⟨i0, hi0, hz0, hz1, hz2⟩ := info_parts info23
  go_enter Try.func48, Try.ntmps48
  go_upto_region 2 with fail
  refine wp_region_quiet_below (by kernel_rfl) (by kernel_rfl) ?_
  repeat (go_big_quiet_step (fail))
  refine wpQuiet_nil ?_
  intro x1 hw'
  have hb1 : Below w.heap.size w x1 := by
    obtain ⟨⟨dq, osq⟩, hw''⟩ := hw'
    rw [hw'']
    exact below_regrown w dq osq
  have HB1 := hide hb1
  have HK1 := hide (HK.out.later hb1)
  clear hw' hb1 f0 f1 f2 f3 c0 c1 d0 d1 HK
  go_wp2_with fail
  go_loopw [5, 18] (fun s t wr => ∃ i : Nat, i ≤ 2 ∧ t = .int .i64 i ∧ Hid (Below x1.heap.size x1 wr) ∧ Hid (Owns wr x1.heap.size s (endsN y z u v i))) (fun _ t _ => 2 - (intOf t).toNat)
  case atStart => exact ⟨0, by omega, rfl, Below.refl _ _, Owns.nil _ _⟩
  case round =>
    obtain ⟨i, hi, rfl, HBr, HO⟩ := hrel
    by_cases hlt : i < 2
    · have HT : Hid (endsN y z u v (i + 1) = endsN y z u v i ++ if two y z i = u ∨ two y z i = v then [two y z i] else []) := rfl
      have hlen := endsN_length y z u v i
      obtain ⟨e, he⟩ : ∃ e, two y z i = e := ⟨_, rfl⟩
      have ix : ∀ w, (Instr.index 90 (.agg #[.int .i64 y.x, .int .i64 y.y, .int .i64 z.x, .int .i64 z.y]) (.int .i64 (i : Int))).run Try.prog w = .ok (pv e.x e.y) w := by
        intro w
        rcases (by omega : i = 0 ∨ i = 1) with rfl | rfl
        · rw [← he]; exact index90a y z w
        · rw [← he]; exact index90b y z w
      rw [he] at HT
      obtain ⟨T, hTT⟩ : ∃ T, endsN y z u v i = T := ⟨_, rfl⟩
      rw [hTT] at HT HO hlen
      obtain ⟨p0, c, hv0, _, _, _, _⟩ := HO.out.form
      subst hv0
      have hsz := HBr.out.size
      have i1 : (i : Int) < 2 := by omega
      clear he hTT
      obtain ⟨U, hU⟩ : ∃ U, U = wr.alloc (.cells #[.int .i64 e.x, .int .i64 e.y] 23) := ⟨_, rfl⟩
      have hbU : Below wr.heap.size wr U := by rw [hU]; go_grown
      have HBU := hide (below_stepJ HBr.out hbU)
      have HOU := hide (HO.out.later hbU)
      have e0 : U.cell? ⟨wr.heap.size, 0, none⟩ = some (.int .i64 e.x) := by rw [hU]; go_cell
      have e1 : U.cell? ⟨wr.heap.size, 1, none⟩ = some (.int .i64 e.y) := by rw [hU]; go_cell
      have HKU := hide (HK1.out.later HBU.out)
      have u0 : U.cell? ⟨b', off', none⟩ = some (.int .i64 u.x) := by have := (HKU.out 0 (by have := HQ.out; omega)).1; rw [HU.out.1, Nat.zero_mul, Nat.add_zero] at this; exact this
      have u1 : U.cell? ⟨b', off' + 1, none⟩ = some (.int .i64 u.y) := by have := (HKU.out 0 (by have := HQ.out; omega)).2; rw [HU.out.1, Nat.zero_mul, Nat.add_zero] at this; exact this
      have v0 : U.cell? ⟨b', off' + m * 2, none⟩ = some (.int .i64 v.x) := by have := (HKU.out (q.length - 1) (by have := HQ.out; omega)).1; rw [HU.out.2, HQ.out, show m + 1 - 1 = m by omega] at this; exact this
      have v1 : U.cell? ⟨b', off' + m * 2 + 1, none⟩ = some (.int .i64 v.y) := by have := (HKU.out (q.length - 1) (by have := HQ.out; omega)).2; rw [HU.out.2, HQ.out, show m + 1 - 1 = m by omega] at this; exact this
      have E0 := hide (And.intro e0 e1)
      have g0 := cell_regrown e0
      have g1 := cell_regrown e1
      have g2 := cell_regrown u0
      have g3 := cell_regrown u1
      have g4 := cell_regrown v0
      have g5 := cell_regrown v1
      have m1 : (0 : Int) < (m : Int) + 1 := by omega
      have m2 : (m : Int) < (m : Int) + 1 := by omega
      have m3 : (0 : Int) ≤ m := by omega
      go_upto_region 5 with fail
      rw [← hU]
      clear hU hbU e0 e1 u0 u1 v0 v1 HKU HO HBr
      by_cases heu : e = u
      · rw [if_pos (Or.inl heu)] at HT
        have q1 : ∀ w, (Op.equalIn 10000 23 (pv e.x e.y) (pv u.x u.y)).run Try.prog w = .ok true w := fun w => by
          have := eq23 e u w
          rw [decide_eq_true heu] at this
          exact this
        clear heu
        refine wp_region_quiet_below (by kernel_rfl) (by kernel_rfl) ?_
        repeat (go_big_quiet_step (fail))
        refine wpQuiet_nil ?_
        intro x2 hw'
        have hb2 : Below U.heap.size U x2 := by
          obtain ⟨⟨dq, osq⟩, hw''⟩ := hw'
          rw [hw'']
          exact below_regrown U dq osq
        have HB2 := hide (below_stepJ HBU.out hb2)
        have HO2 := hide (HOU.out.later hb2)
        have e0 := later hb2 E0.out.1
        have e1 := later hb2 E0.out.2
        have hOW : x2.ownsRow x1.heap.size 23 2 (.slice p0 T.length c) T.length (cells T) := HO2.out
        have hs2 := HB2.out.size
        clear hw' hb2 g0 g1 g2 g3 g4 g5 HBU HOU E0
        go_wp2_with (at_builtin; refine wpList_append_own _ rfl _ _ 27 rfl x1.heap.size 23 i0 (.agg #[.int .i64 0, .int .i64 0]) 2 16 Try.underlying27 hi0 hz0 hz1 hz2 rfl (by decide) _ _ _ rfl (World.ownsRow.alloc hOW _) ⟨x2.heap.size, 0, none⟩ 1 1 [.int .i64 e.x, .int .i64 e.y] rfl rfl ?c1a ?c2a ?c3a ?c4a ?c5a ?_)
        case c1a =>
          intro j w0 hj
          match j, hj with
          | 0, hj => simp at hj; subst hj; simp [Addr.add]
          | 1, hj => simp at hj; subst hj; simp [Addr.add]
        case c2a => intro w0 hw0; simp at hw0; rcases hw0 with rfl | rfl <;> rfl
        case c3a => unfold maxLen; omega
        case c4a => omega
        case c5a => simp; omega
        intro v' w3 hown' hgrow _
        have ho := hide (owns_more hown')
        have hbg : Below x1.heap.size x2 w3 := below_grown (w := x2.alloc (.cells #[.int .i64 e.x, .int .i64 e.y] 23)) (by go_grown) (World.ownsRow.alloc hOW _) (Nat.le_refl _) (by simp; omega) hgrow
        have HBg := hide (Below.trans HB2.out hbg)
        clear hown' hgrow hbg hOW e0 e1
        go_wp2
        go_roundw
        case rel => exact ⟨i + 1, by omega, by go_num, HBg.out, by rw [HT.out]; exact ho.out⟩
        case measure => simp [intOf]; omega
      · by_cases hev : e = v
        · rw [if_pos (Or.inr hev)] at HT
          have q1 : ∀ w, (Op.equalIn 10000 23 (pv e.x e.y) (pv u.x u.y)).run Try.prog w = .ok false w := fun w => by
            have := eq23 e u w
            rw [decide_eq_false heu] at this
            exact this
          have q2 : ∀ w, (Op.equalIn 10000 23 (pv e.x e.y) (pv v.x v.y)).run Try.prog w = .ok true w := fun w => by
            have := eq23 e v w
            rw [decide_eq_true hev] at this
            exact this
          clear heu hev
          refine wp_region_quiet_below (by kernel_rfl) (by kernel_rfl) ?_
          repeat (go_big_quiet_step (fail))
          refine wpQuiet_nil ?_
          intro x2 hw'
          have hb2 : Below U.heap.size U x2 := by
            obtain ⟨⟨dq, osq⟩, hw''⟩ := hw'
            rw [hw'']
            exact below_regrown U dq osq
          have HB2 := hide (below_stepJ HBU.out hb2)
          have HO2 := hide (HOU.out.later hb2)
          have e0 := later hb2 E0.out.1
          have e1 := later hb2 E0.out.2
          have hOW : x2.ownsRow x1.heap.size 23 2 (.slice p0 T.length c) T.length (cells T) := HO2.out
          have hs2 := HB2.out.size
          clear hw' hb2 g0 g1 g2 g3 g4 g5 HBU HOU E0
          go_wp2_with (at_builtin; refine wpList_append_own _ rfl _ _ 27 rfl x1.heap.size 23 i0 (.agg #[.int .i64 0, .int .i64 0]) 2 16 Try.underlying27 hi0 hz0 hz1 hz2 rfl (by decide) _ _ _ rfl (World.ownsRow.alloc hOW _) ⟨x2.heap.size, 0, none⟩ 1 1 [.int .i64 e.x, .int .i64 e.y] rfl rfl ?c1b ?c2b ?c3b ?c4b ?c5b ?_)
          case c1b =>
            intro j w0 hj
            match j, hj with
            | 0, hj => simp at hj; subst hj; simp [Addr.add]
            | 1, hj => simp at hj; subst hj; simp [Addr.add]
          case c2b => intro w0 hw0; simp at hw0; rcases hw0 with rfl | rfl <;> rfl
          case c3b => unfold maxLen; omega
          case c4b => omega
          case c5b => simp; omega
          intro v' w3 hown' hgrow _
          have ho := hide (owns_more hown')
          have hbg : Below x1.heap.size x2 w3 := below_grown (w := x2.alloc (.cells #[.int .i64 e.x, .int .i64 e.y] 23)) (by go_grown) (World.ownsRow.alloc hOW _) (Nat.le_refl _) (by simp; omega) hgrow
          have HBg := hide (Below.trans HB2.out hbg)
          clear hown' hgrow hbg hOW e0 e1
          go_wp2
          go_roundw
          case rel => exact ⟨i + 1, by omega, by go_num, HBg.out, by rw [HT.out]; exact ho.out⟩
          case measure => simp [intOf]; omega
        · rw [if_neg (fun k => k.elim heu hev)] at HT
          have q1 : ∀ w, (Op.equalIn 10000 23 (pv e.x e.y) (pv u.x u.y)).run Try.prog w = .ok false w := fun w => by
            have := eq23 e u w
            rw [decide_eq_false heu] at this
            exact this
          have q2 : ∀ w, (Op.equalIn 10000 23 (pv e.x e.y) (pv v.x v.y)).run Try.prog w = .ok false w := fun w => by
            have := eq23 e v w
            rw [decide_eq_false hev] at this
            exact this
          clear heu hev
          refine wp_region_quiet_below (by kernel_rfl) (by kernel_rfl) ?_
          repeat (go_big_quiet_step (fail))
          refine wpQuiet_nil ?_
          intro x2 hw'
          have hb2 : Below U.heap.size U x2 := by
            obtain ⟨⟨dq, osq⟩, hw''⟩ := hw'
            rw [hw'']
            exact below_regrown U dq osq
          have HB2 := hide (below_stepJ HBU.out hb2)
          have HO2 := hide (HOU.out.later hb2)
          clear hw' hb2 g0 g1 g2 g3 g4 g5 HBU HOU E0
          go_wp2
          go_roundw
          case rel => exact ⟨i + 1, by omega, by go_num, HB2.out, by rw [HT.out, List.append_nil]; exact HO2.out⟩
          case measure => simp [intOf]; omega
    · have hin : i = 2 := by omega
      subst hin
      rw [← HE.out] at HO
      go_wp2
      go_ret
      exact ⟨_, rfl, owns_baseJ HO.out HB1.out.size, below_stepJ HB1.out HBr.out⟩
end Go.Proofs.Ytgnojjbdioldbaa
