/- The reference's Moved, in every world. -/
import Derived.Test.YtmmbbfmkhbengaaT4
import Derived.Test.YtmmbbfmkhbengaaN9
namespace Go.Proofs.Ytmmbbfmkhbengaa
open Go.RowKit Go.Sort
open Go

def RMovedPost (n : Int) (es : List Pt) (l : List Int) (w : World) (e : Ending) (w' : World) : Prop :=
  (movE n es l = 0 ∧ ∃ q c, e = .returned (.tuple #[nv n q es.length c, .int .i64 0]) ∧ Owns w' w.heap.size (.slice q es.length c) (rename es l)) ∨ (movE n es l ≠ 0 ∧ e = .returned (.tuple #[nv 0 none 0 0, .int .i64 (movE n es l)]))
set_option maxRecDepth 100000 in
set_option maxHeartbeats 8000000 in
theorem moved23 (n : Int) (p q : Option Addr) (es : List Pt) (l : List Int) (cp cq : Nat) (w : World) (hm : netB n es = true) (hnil : p = none → cp = 0) (hl : l.length ≤ maxLen) (h : Has w p es) (k : IHas w q l) : Calls Try.prog 23 #[nv n p es.length cp, .slice q l.length cq] w fun e w' => RMovedPost n es l w e w' ∧ Below w.heap.size w w' := by
  obtain ⟨W, hW, hb, a0, b0⟩ := two_nets w n p es.length cp
  have HH := hide (h.later hb)
  have HK := hide (k.later hb)
  have HB := hide hb
  have HA := hide a0
  have HN := hide b0
  obtain ⟨n0, n1, hes, hends⟩ := netB_is hm
  have HE := hide hends
  obtain ⟨q0, q1, _, _⟩ := a0
  obtain ⟨r0, r1, r2, r3⟩ := b0
  clear h k hb hends
  unfold maxLen at hl
  by_cases hln : (l.length : Int) = n
  · obtain ⟨m, rfl⟩ : ∃ m : Nat, n = m := ⟨n.toNat, by omega⟩
    have hbe : ((l.length : Int) == (m : Int)) = true := by simpa using hln
    have hbn : ((l.length : Int) != (m : Int)) = false := by simpa using hln
    have HLN := hide hln
    have hlm : l.length ≤ 1024 := by omega
    clear hln
    go_enter Try.func23, Try.ntmps23
    go_wp2_with fail
    rw [← hW]
    clear hW
    go_wp2_with fail
    clear q0 q1 r0 r1 r2 r3
    go_loopw [6] (fun t wr => ∃ i : Nat, i ≤ l.length ∧ t = .int .i64 i ∧ Hid (Below W.heap.size W wr) ∧ Hid (∀ j, j < i → belowB (iat l j) m = true)) (fun t _ => l.length - (intOf t).toNat)
    case atStart => exact ⟨0, by omega, rfl, Below.refl _ _, fun j hj => by omega⟩
    case round =>
      obtain ⟨i, hi, rfl, HBr, HP⟩ := hrel
      obtain ⟨q0, q1, _, _⟩ := HA.out.later HBr.out
      have HN1 := hide (HN.out.later HBr.out)
      have HB1 := hide (below_step HB.out HBr.out)
      by_cases hlt : i < l.length
      · rcases HK.out.later HBr.out with h | ⟨bl, ol, rfl, hL⟩
        · subst h; simp at hlt
        have cl := hL i hlt
        have HS := hide (fun h => allBB_no (n := (m : Int)) hlt h)
        obtain ⟨x, hx⟩ : ∃ x, iat l i = x := ⟨_, rfl⟩
        have HX := hide hx
        rw [hx] at cl HS
        clear hL hx
        have i1 : (i : Int) < l.length := by omega
        have i2 : (0 : Int) ≤ i := by omega
        by_cases hx0 : x < 0
        · have hS : Hid (movE m es l = 2) := by
            show _ = _
            unfold movE
            rw [hm, if_pos rfl, if_neg (fun c => by rw [HS.out (by unfold belowB; simp; omega)] at c; exact absurd c.2 (by simp))]
          have g1 : decide (x < 0) = true := by simpa using hx0
          obtain ⟨r0, r1, r2, r3⟩ := HN1.out
          go_wp2_with fail
          go_quiet (fail)
          go_wp2
          exact bodyPost_ret (ret_net Try.results23 rfl rfl ((HN1.out.later (W' := wr.drewN nq) (below_drewN (Below.refl _ _))).set 0 none 0 0)) rfl ⟨Or.inr ⟨by rw [hS.out]; omega, by rw [hS.out]; rfl⟩, ((below_drewN HB1.out).setCell (by simp) _).setCell (by simp) _⟩
        have g1 : decide (x < 0) = false := by simpa using hx0
        by_cases hxn : (m : Int) ≤ x
        · have hS : Hid (movE m es l = 2) := by
            show _ = _
            unfold movE
            rw [hm, if_pos rfl, if_neg (fun c => by rw [HS.out (by unfold belowB; simp; omega)] at c; exact absurd c.2 (by simp))]
          have g2 : decide ((m : Int) ≤ x) = true := by simpa using hxn
          obtain ⟨r0, r1, r2, r3⟩ := HN1.out
          go_wp2_with fail
          go_quiet (fail)
          go_wp2
          exact bodyPost_ret (ret_net Try.results23 rfl rfl ((HN1.out.later (W' := wr.drewN nq) (below_drewN (Below.refl _ _))).set 0 none 0 0)) rfl ⟨Or.inr ⟨by rw [hS.out]; omega, by rw [hS.out]; rfl⟩, ((below_drewN HB1.out).setCell (by simp) _).setCell (by simp) _⟩
        have g2 : decide ((m : Int) ≤ x) = false := by simpa using hxn
        go_wp2_with fail
        go_quiet (fail)
        go_wp2
        go_roundw
        case rel => exact ⟨i + 1, by omega, by go_num, below_drewN HBr.out, more HP.out (by rw [HX.out]; unfold belowB; simp; omega)⟩
        case measure => simp [intOf]; omega
      · have hin : i = l.length := by omega
        subst hin
        have hAll : Hid (allBB l m = true) := allBB_yes HP.out
        have hE : Hid (movE m es l = errL l m) := by
          show _ = _
          unfold movE
          rw [hm, if_pos rfl, if_pos ⟨HLN.out, hAll.out⟩]
        have CH := hide (chosen52 q l cq m wr (by unfold maxLen; omega) (HK.out.later HBr.out))
        obtain ⟨X, hX⟩ : ∃ X, errL l m = X := ⟨_, rfl⟩
        rw [hX] at CH hE
        go_wp2_with fail
        refine CH.out.mono ?_
        rintro e w2 ⟨rfl, hb2⟩
        have HB2 := hide (below_step HB1.out hb2)
        have HN2 := hide (HN1.out.later hb2)
        have HA2 := hide ((HA.out.later HBr.out).later hb2)
        have HH2 := hide ((HH.out.later HBr.out).later hb2)
        have HK2 := hide ((HK.out.later HBr.out).later hb2)
        clear q0 q1 hb2 HA HN HB HH HK HN1 HB1 HBr HP CH
        by_cases hX0 : X = 0
        · subst hX0
          obtain ⟨q0, q1, _, _⟩ := HA2.out
          have CO := hide (copy53 m p es cp w2 hnil (by omega) HH2.out)
          go_wp2_with fail
          refine CO.out.mono ?_
          rintro e w3 ⟨p3, c3, rfl, o3, hb3⟩
          have HB3 := hide hb3
          have HO3 := hide o3
          clear q0 q1 o3 hb3 CO
          go_wp2_with fail
          obtain ⟨U, hU⟩ : ∃ U, U = w3.alloc (nbx m p3 es.length c3) := ⟨_, rfl⟩
          have hbU : Below w3.heap.size w3 U := by rw [hU]; go_grown
          have HS3 : Hid (NOwn U w3.heap.size m p3 es.length c3) := by show NOwn _ _ _ _ _ _; rw [hU]; exact ⟨by unfold nbx; go_cell, by unfold nbx; go_cell, by simp [go_sem, nbx], by simp [go_sem, nbx]⟩
          have HOU := hide (HO3.out.later hbU)
          have HBU := hide (below_step HB3.out hbU)
          rw [show w3.alloc (nbx m p3 es.length c3) = U from hU.symm]
          clear hU hbU
          have hz3 : w2.heap.size ≤ w3.heap.size := HB3.out.size
          have hB3 : Hid (∀ g, p3 = some ⟨g, 0, none⟩ → w2.heap.size ≤ g ∧ g < w3.heap.size) := fun g hg => by
            have := HO3.out
            rw [hg] at this
            exact World.ownsRow.lt this g rfl
          have hw2 : w.heap.size + 1 < w2.heap.size := block_lt_of_cell HN2.out.1
          clear hX
          go_loopw [9] (fun t wr => ∃ i : Nat, i ≤ es.length ∧ t = .int .i64 i ∧ Hid (Below w2.heap.size w2 wr) ∧ Hid (NOwn wr w3.heap.size m p3 es.length c3) ∧ Hid (w3.heap.size < wr.heap.size) ∧ Hid (∃ r : List Pt, r.length = es.length ∧ Owns wr w2.heap.size (.slice p3 r.length c3) r ∧ ∀ j, j < i → at' r j = at' (rename es l) j)) (fun t _ => es.length - (intOf t).toNat)
          case atStart => exact ⟨0, by omega, rfl, HBU.out, HS3.out, block_lt_of_cell HS3.out.1, es, rfl, HOU.out, fun j hj => by omega⟩
          case round =>
            obtain ⟨i, hi, rfl, HBr, HS, HZ, HR⟩ := hrel
            obtain ⟨r, hrl, hro, hall⟩ := HR.out
            have HRL := hide hrl
            have HRO := hide hro
            have HAL := hide hall
            clear hrl hro hall HR
            obtain ⟨s0, s1, _, _⟩ := HS.out
            by_cases hlt : i < es.length
            · obtain ⟨g, c', hg, _, _, _⟩ := owns_block HRO.out (by rw [HRL.out]; omega)
              simp only [Value.slice.injEq] at hg
              obtain ⟨hg, hg2, hg3⟩ := hg
              clear hg2 hg3
              subst hg
              obtain ⟨hg0, hg1⟩ := hB3.out g rfl
              have HRF := hide (World.ownsRow.frozenAt HRO.out)
              obtain ⟨c0, c1⟩ := HRO.out.lies i (by rw [HRL.out]; exact hlt)
              rw [Nat.zero_add] at c0 c1
              have c2 : wr.frozen? ⟨g, i * 2, none⟩ = false := HRF.out _
              have c3' : wr.frozen? ⟨g, i * 2 + 1, none⟩ = false := HRF.out _
              obtain ⟨q0, q1, _, _⟩ := HA2.out.later HBr.out
              obtain ⟨hx0, hx1, hy0, hy1⟩ := HE.out i hlt
              have HQ := hide (rename_at es l hlt)
              rcases HH2.out with h | ⟨be, oe, rfl, hE0⟩
              · subst h; simp at hlt
              have nE : be ≠ g := by have := block_lt_of_cell (hE0 i hlt).1; simp at this; omega
              obtain ⟨d0, d1⟩ := hE0.later HBr.out i hlt
              obtain ⟨z, hz⟩ : ∃ z, at' es i = z := ⟨_, rfl⟩
              rw [hz] at hx0 hx1 hy0 hy1 d0 d1 HQ
              obtain ⟨x, y⟩ := z
              simp only at hx0 hx1 hy0 hy1 d0 d1 HQ
              obtain ⟨xn, rfl⟩ : ∃ xn : Nat, x = xn := ⟨x.toNat, by omega⟩
              obtain ⟨yn, rfl⟩ : ∃ yn : Nat, y = yn := ⟨y.toNat, by omega⟩
              have hxn : xn < l.length := by have := HLN.out; omega
              have hyn : yn < l.length := by have := HLN.out; omega
              rcases HK2.out with h | ⟨bl, ol, rfl, hL0⟩
              · subst h; simp at hxn
              have nL : bl ≠ g := by have := block_lt_of_cell (hL0 xn hxn); simp at this; omega
              have cx := hL0.later HBr.out xn hxn
              have cy := hL0.later HBr.out yn hyn
              obtain ⟨u, hu⟩ : ∃ u, iat l xn = u := ⟨_, rfl⟩
              obtain ⟨v, hv⟩ : ∃ v, iat l yn = v := ⟨_, rfl⟩
              rw [hu] at cx
              rw [hv] at cy
              rw [Int.toNat_natCast, Int.toNat_natCast, hu, hv] at HQ
              have nW : w.heap.size ≠ g := by omega
              have nS : w3.heap.size ≠ g := by omega
              have i1 : (i : Int) < es.length := by omega
              have i2 : (0 : Int) ≤ i := by omega
              have x1 : (xn : Int) < l.length := by omega
              have y1 : (yn : Int) < l.length := by omega
              have x2 : (0 : Int) ≤ xn := by omega
              have y2 : (0 : Int) ≤ yn := by omega
              clear hE0 hL0 hu hv hz
              go_wp2_with fail
              have CC : Hid (wr.cell? ⟨w3.heap.size, 1, none⟩ = some (.slice (some ⟨g, 0, none⟩) es.length c3) ∧ wr.cell? ⟨w.heap.size, 1, none⟩ = some (.slice (some ⟨be, oe, none⟩) es.length cp) ∧ wr.cell? ⟨be, oe + i * 2, none⟩ = some (.int .i64 xn) ∧ wr.cell? ⟨be, oe + i * 2 + 1, none⟩ = some (.int .i64 yn) ∧ wr.cell? ⟨bl, ol + xn, none⟩ = some (.int .i64 u) ∧ wr.cell? ⟨bl, ol + yn, none⟩ = some (.int .i64 v)) := ⟨s1, q1, d0, d1, cx, cy⟩
              go_region_held3 (fun W => W.cell? ⟨w3.heap.size, 1, none⟩ = some (.slice (some ⟨g, 0, none⟩) es.length c3) ∧ W.cell? ⟨w.heap.size, 1, none⟩ = some (.slice (some ⟨be, oe, none⟩) es.length cp) ∧ W.cell? ⟨be, oe + i * 2, none⟩ = some (.int .i64 xn) ∧ W.cell? ⟨be, oe + i * 2 + 1, none⟩ = some (.int .i64 yn) ∧ W.cell? ⟨bl, ol + xn, none⟩ = some (.int .i64 u) ∧ W.cell? ⟨bl, ol + yn, none⟩ = some (.int .i64 v))
                (first | exact CC.out | exact ⟨other2 CC.out.1 nS, other2 CC.out.2.1 nW, other2 CC.out.2.2.1 nE, other2 CC.out.2.2.2.1 nE, other2 CC.out.2.2.2.2.1 nL, other2 CC.out.2.2.2.2.2 nL⟩)
                (first | fail)
              rename_i hHeld
              clear hHeld
              obtain ⟨V, hV⟩ : ∃ V, V = (wr.setCell ⟨g, i * 2, none⟩ (.int .i64 u)).setCell ⟨g, i * 2 + 1, none⟩ (.int .i64 v) := ⟨_, rfl⟩
              have HBV : Hid (Below w2.heap.size w2 V) := by show Below _ _ _; rw [hV]; exact (HBr.out.setCell hg0 _).setCell hg0 _
              have HSV : Hid (NOwn V w3.heap.size m (some ⟨g, 0, none⟩) es.length c3) := by show NOwn _ _ _ _ _ _; rw [hV]; exact (HS.out.other nS.symm _).other nS.symm _
              have HRV : Hid (Owns V w2.heap.size (.slice (some ⟨g, 0, none⟩) (r.set i ⟨u, v⟩).length c3) (r.set i ⟨u, v⟩)) := by show Owns _ _ _ _; rw [hV]; exact HRO.out.set i ⟨u, v⟩
              rw [← hV]
              clear hV CC c0 c1 c2 c3' q0 q1 d0 d1 cx cy s0 s1
              go_wp2
              go_roundw
              case rel =>
                refine ⟨i + 1, by omega, by go_num, below_drewN (n := 1) HBV.out, HSV.out.later (below_drew _), block_lt_of_cell (HSV.out.later (below_drew _)).1, r.set i ⟨u, v⟩, by rw [List.length_set]; exact HRL.out, HRV.out.later (below_drew _), more (fun j hj => ?_) ?_⟩
                · rw [at_set _ _ _ _ (by rw [HRL.out]; omega), if_neg (by omega)]; exact HAL.out j hj
                · rw [at_set _ _ _ _ (by rw [HRL.out]; omega), if_pos rfl, HQ.out]
              case measure => simp [intOf]; omega
            · have hin : i = es.length := by omega
              subst hin
              have e : Hid (r = rename es l) := at_ext (by rw [HRL.out, rename_length]) fun j hj => HAL.out j (by rw [HRL.out] at hj; exact hj)
              have HO : Hid (Owns wr w2.heap.size (.slice p3 es.length c3) (rename es l)) := by
                show Owns _ _ _ _
                have := HRO.out
                rw [HRL.out, e.out] at this
                exact this
              have HN4 := hide (HN2.out.later HBr.out)
              have HB4 := hide (below_step HB2.out HBr.out)
              obtain ⟨r0, r1, r2, r3⟩ := HN4.out
              go_wp2
              obtain ⟨V, hV⟩ : ∃ V, V = (wr.setCell ⟨w.heap.size + 1, 0, none⟩ (.int .i64 m)).setCell ⟨w.heap.size + 1, 1, none⟩ (.slice p3 es.length c3) := ⟨_, rfl⟩
              have kV : NOwn V (w.heap.size + 1) m p3 es.length c3 := by rw [hV]; exact HN4.out.set _ _ _ _
              have bV : Below w.heap.size w V := by rw [hV]; exact (HB4.out.setCell (by simp) _).setCell (by simp) _
              have oV : Owns V w.heap.size (.slice p3 es.length c3) (rename es l) := by rw [hV]; exact (owns_other (owns_other HO.out hw2 _) hw2 _).base HB2.out.size
              rw [← hV]
              exact bodyPost_ret (ret_net Try.results23 rfl rfl kV) rfl ⟨Or.inl ⟨hE.out, p3, c3, rfl, oV⟩, bV⟩
        · have hXb : (X == 0) = false := by simpa using hX0
          have hXn : (X != 0) = true := by simpa using hX0
          obtain ⟨r0, r1, r2, r3⟩ := HN2.out
          go_wp2
          exact bodyPost_ret (ret_net Try.results23 rfl rfl (HN2.out.set 0 none 0 0)) rfl ⟨Or.inr ⟨by rw [hE.out]; exact hX0, by rw [hE.out]; rfl⟩, (HB2.out.setCell (by simp) _).setCell (by simp) _⟩
  · have hS : Hid (movE n es l = 2) := by show _ = _; unfold movE; rw [hm, if_pos rfl, if_neg (fun c => hln c.1)]
    have hbe : ((l.length : Int) == n) = false := by simpa using hln
    have hbn : ((l.length : Int) != n) = true := by simpa using hln
    go_enter Try.func23, Try.ntmps23
    go_wp2_with fail
    rw [← hW]
    clear hW
    go_wp2
    exact bodyPost_ret (ret_net Try.results23 rfl rfl HN.out) rfl ⟨Or.inr ⟨by rw [hS.out]; omega, by rw [hS.out]; rfl⟩, HB.out⟩
end Go.Proofs.Ytmmbbfmkhbengaa
