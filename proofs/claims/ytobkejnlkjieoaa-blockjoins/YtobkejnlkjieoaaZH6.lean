/- BlockJoins' walk. -/
import Derived.Test.YtobkejnlkjieoaaZJ00
import Derived.Test.YtobkejnlkjieoaaZC05
import Derived.BigRegion
import Derived.Deep.QuietTactic
import Derived.BigQuiet
namespace Go.Proofs.Ytobkejnlkjieoaa
open Go.RowKit Go.Sort
open Go
set_option maxRecDepth 100000 in
set_option maxHeartbeats 16000000 in
theorem joins_walk (n : Int) (p : Option Addr) (es : List Pt) (cp : Nat) (u v : Int) (w : World) (hnil : p = none → cp = 0) (h : Has w p es) : Calls Try.prog 7 #[nv n p es.length cp, .int .i64 u, .int .i64 v] w fun e w' => e = .returned (.bool true) ∧ Below w.heap.size w w' := by
  obtain ⟨W, hW, hb, a0⟩ := one_net w n p es.length cp
  have HH := hide (h.later hb)
  have HB := hide hb
  have HA := hide a0
  have C1 := hide (begun8 W)
  obtain ⟨kb, hkb⟩ : ∃ kb, w.heap.size = kb := ⟨_, rfl⟩
  have HS : Hid (∀ V, Below W.heap.size W V → V.cell? ⟨kb, 0, none⟩ = some (.int .i64 n) ∧ V.cell? ⟨kb, 1, none⟩ = some (.slice p es.length cp)) := fun V hV => by
    obtain ⟨r0, r1, _, _⟩ := HA.out.later hV
    rw [hkb] at r0 r1
    exact ⟨r0, r1⟩
  obtain ⟨j0, hj0, jz0, jz1, jz2⟩ := info_parts info3
  obtain ⟨b0, hb0, bz0, bz1, bz2⟩ := info_parts info4
  clear h hb a0
  go_enter Try.func7, Try.ntmps7
  go_upto_region 1 with fail
  rw [← hW]
  try rw [hkb]
  clear hW hkb
  go_wp2_with fail
  refine C1.out.mono ?_
  rintro e w1 ⟨rfl, hb1⟩
  have HB1 := hide hb1
  have C2 := hide (light9 n p es cp w1 (HH.out.later hb1))
  obtain ⟨q0, q1⟩ := HS.out w1 hb1
  clear hb1 C1
  go_wp2_with fail
  refine C2.out.mono ?_
  rintro e w2 ⟨rfl, hb2⟩
  have HB2 := hide (below_step HB1.out hb2)
  obtain ⟨q0, q1⟩ := HS.out w2 HB2.out
  have C3 := hide (may12 n p es cp w2 (HH.out.later HB2.out))
  clear hb2 C2 HB1
  cases hli : liB n es
  · go_wp2_with fail
    go_ret
    exact ⟨rfl, below_step HB.out HB2.out⟩
  · go_wp2_with fail
    refine C3.out.mono ?_
    rintro e w3 ⟨rfl, hb3⟩
    have HB3 := hide (below_step HB2.out hb3)
    obtain ⟨q0, q1⟩ := HS.out w3 HB3.out
    clear hb3 C3 HB2
    have HBr := hide (below_step HB.out HB3.out)
    cases hm : netB n es
    · go_wp2_with fail
      go_ret
      exact ⟨rfl, HBr.out⟩
    · by_cases c1 : (59 : Int) < es.length
      · go_wp2_with fail
        go_ret
        exact ⟨rfl, HBr.out⟩
      by_cases c2 : u < 0
      · go_wp2_with fail
        go_ret
        exact ⟨rfl, HBr.out⟩
      by_cases c3 : v < 0
      · go_wp2_with fail
        go_ret
        exact ⟨rfl, HBr.out⟩
      by_cases c4 : n ≤ u
      · go_wp2_with fail
        go_ret
        exact ⟨rfl, HBr.out⟩
      by_cases c5 : n ≤ v
      · go_wp2_with fail
        go_ret
        exact ⟨rfl, HBr.out⟩
      by_cases c6 : u = v
      · subst c6
        go_wp2_with fail
        go_ret
        exact ⟨rfl, HBr.out⟩
      have c6a : decide (u = v) = false := by simp; omega
      have c6b : (u == v) = false := by simp; omega
      obtain ⟨n0, n1, hes, hE⟩ := netB_is hm
      obtain ⟨m, rfl⟩ : ∃ m : Nat, n = m := ⟨n.toNat, by omega⟩
      have HM := hide hm
      have C4 := hide (fun (a : Nat) (ha : a < m) => breadth13 m p es cp a w3 (HH.out.later HB3.out) hm ha)
      clear hm hE hli c6
      go_upto_region 5 with fail
      obtain ⟨u, rfl⟩ : ∃ k : Nat, u = k := ⟨u.toNat, by omega⟩
      obtain ⟨v, rfl⟩ : ∃ k : Nat, v = k := ⟨v.toNat, by omega⟩
      have hum : u < m := by omega
      have hvm : v < m := by omega
      have huv : u ≠ v := fun e => by rw [e] at c6a; simp at c6a
      have hel : es.length ≤ 59 := by omega
      have C4' := hide (C4.out u hum)
      clear c1 c2 c3 c4 c5 C4 HBr
      go_wp2_with fail
      refine C4'.out.mono ?_
      rintro e w4 ⟨tv0, rfl, ⟨vo, gb, gf, rfl, hOo, hBy, hFa, _⟩, hb4⟩
      have HB4 := hide (below_step HB3.out hb4)
      have HR := hide (bOne_reach (n := m) (s := u) HM.out hum)
      obtain ⟨st, hst⟩ : ∃ st, bfs es m 0 (begin_ (st0 m) u) = st := ⟨_, rfl⟩
      rw [hst] at hOo hBy hFa HR
      obtain ⟨po, co, rfl, _⟩ := hOo.form
      obtain ⟨lo, hlo⟩ : ∃ k, st.O.length = k := ⟨_, rfl⟩
      rw [hlo]
      clear hOo hlo
      clear C4' hb4 hst q0 q1 HB3
      go_upto_region 6 with fail
      obtain ⟨V, hV⟩ : ∃ V, V = w4.alloc (.cells #[.slice po lo co, .slice (some ⟨gb, 0, none⟩) m m, .slice (some ⟨gf, 0, none⟩) m m, nilS] 60) := ⟨_, rfl⟩
      have hbV : Below w4.heap.size w4 V := by rw [hV]; go_grown
      obtain ⟨kz, hkz⟩ : ∃ k, w4.heap.size = k := ⟨_, rfl⟩
      have z1 : V.cell? ⟨kz, 1, none⟩ = some (.slice (some ⟨gb, 0, none⟩) m m) := by rw [hV, ← hkz]; go_cell
      have z2 : V.cell? ⟨kz, 2, none⟩ = some (.slice (some ⟨gf, 0, none⟩) m m) := by rw [hV, ← hkz]; go_cell
      have HBV := hide (below_step HB4.out hbV)
      have HBy := hide (hBy.later hbV)
      have HFa := hide (hFa.later hbV)
      have HZ1 := hide z1
      rw [← hV]
      try rw [hkz]
      clear hV hbV hkz hBy hFa HB4 z1
      obtain ⟨q0, q1⟩ := HS.out V HBV.out
      obtain ⟨f0, _⟩ := HFa.out.cell hvm
      by_cases hf : iat st.Fa v < 0
      · obtain ⟨y, hy⟩ : ∃ y, iat st.Fa v = y := ⟨_, rfl⟩
        rw [hy] at f0 hf
        clear hy
        go_wp2_with fail
        go_ret
        exact ⟨rfl, below_step HB.out HBV.out⟩
      · have h0 : 0 ≤ iat st.Fa v := by omega
        have C5 := hide (blocks11 m p es cp V (HH.out.later HBV.out))
        have HLW := hide (joins_law HM.out (app_net HM.out (by omega) hum hvm) HR.out hvm huv h0)
        have HPW := hide (pw_is HR.out hvm h0)
        have HHW : Hid (∀ i, i < (iat st.Fa v).toNat → _) := fun i hi => hw_is HR.out hvm h0 hi
        have HBK := hide (bk_is HR.out hvm huv h0)
        have HOF : Hid (∀ e, e < es.length → 0 ≤ ofB m es e ∧ ofB m es e < ctsB m es) := fun e he => of_in HM.out he
        obtain ⟨K, hK⟩ : ∃ k : Nat, (iat st.Fa v).toNat = k := ⟨_, rfl⟩
        have hfa : iat st.Fa v = K := by omega
        rw [hK] at HLW HPW HHW HBK
        rw [hfa] at f0
        have HFV := hide hfa
        have hK0 : (0 : Int) ≤ K := by omega
        clear hf h0 hK hfa
        go_wp2_with fail
        refine C5.out.mono ?_
        rintro e w5 ⟨hp, hb5⟩
        have HB5 := hide (below_step HBV.out hb5)
        have HZ2 := hide (later hb5 HZ1.out)
        have HBy2 := hide (HBy.out.later hb5)
        clear C5 hb5 q0 q1 f0 z2 HFa HZ1 HBy
        rcases hp with ⟨_, ga, va, rfl, hI, hO⟩ | ⟨hm, _⟩
        case inr => exact absurd HM.out (by rw [hm]; decide)
        rw [show ((m : Nat) : Int).toNat = m from Int.toNat_natCast m] at *
        obtain ⟨pv, cv, rfl, _⟩ := hO.form
        have hcl := cts_le (n := m) HM.out
        unfold blV
        obtain ⟨of, hof⟩ : ∃ f, ofB m es = f := ⟨_, rfl⟩
        obtain ⟨ct, hct⟩ : ∃ c, ctsB m es = c := ⟨_, rfl⟩
        obtain ⟨lc, hlc⟩ : ∃ c, (cutsB m es).length = c := ⟨_, rfl⟩
        rw [hof] at hI HLW HOF
        rw [hct] at hcl HOF ⊢
        rw [hlc]
        clear hO hof hct hlc
        go_upto_region 9 with fail
        obtain ⟨V2, hV⟩ : ∃ V, V = w5.alloc (.cells #[.slice (some ⟨ga, 0, none⟩) es.length es.length, .slice pv lc cv, .int .i64 ct] 34) := ⟨_, rfl⟩
        have hbV : Below w5.heap.size w5 V2 := by rw [hV]; go_grown
        obtain ⟨kt, hkt⟩ : ∃ k, w5.heap.size = k := ⟨_, rfl⟩
        have t0 : V2.cell? ⟨kt, 0, none⟩ = some (.slice (some ⟨ga, 0, none⟩) es.length es.length) := by rw [hV, ← hkt]; go_cell
        have t2 : V2.cell? ⟨kt, 2, none⟩ = some (.int .i64 ct) := by rw [hV, ← hkt]; go_cell
        have HB6 := hide (below_step HB5.out hbV)
        have HZ3 := hide (later hbV HZ2.out)
        have HBy3 := hide (HBy2.out.later hbV)
        have HIA := hide (hI.later hbV)
        have HT0 := hide t0
        have HT2 := hide t2
        have C6 := hide (copy53 m p es cp V2 hnil (by omega) (HH.out.later HB6.out))
        rw [← hV]
        try rw [hkt]
        clear hV hbV hkt hI HB5 HZ2 HBy2 t0 t2
        obtain ⟨q0, q1⟩ := HS.out V2 HB6.out
        go_wp2_with fail
        refine C6.out.mono ?_
        rintro e w6 ⟨q, c, rfl, hO6, hb6⟩
        clear C6 q0 q1
        go_upto_region 10 with fail
        obtain ⟨Z, hZ, hbZ, hZN⟩ := one_net w6 m q es.length c
        obtain ⟨kh, hkh⟩ : ∃ k, w6.heap.size = k := ⟨_, rfl⟩
        have hzs : Z.heap.size = kh + 1 := by rw [hZ, ← hkh]; simp
        have hv6 : V2.heap.size ≤ kh := by have := hb6.size; omega
        obtain ⟨v1, D, e1, o1, gr, hbD⟩ := app1 (w := Z) (hO6.later hbZ) (u : Int) (v : Int) (by omega) (by omega)
        obtain ⟨q', c', hv', hh1, _, _, _⟩ := o1.form
        subst hv'
        have hne : (Value.slice q es.length c).ownBlock ≠ some kh := by
          obtain ⟨q2, c2, e2, _, _, _, hpb⟩ := hO6.form
          simp only [Value.slice.injEq, true_and] at e2
          obtain ⟨rfl, rfl⟩ := e2
          cases q with
          | none => simp [Value.ownBlock]
          | some a =>
            have := (hpb a rfl).2.2.2
            simp only [Value.ownBlock, ne_eq, Option.some.injEq]
            omega
        rw [hkh] at hZN
        have hZ2 := hZN.later (W' := Z.alloc (.cells #[.int .i64 (u : Int), .int .i64 (v : Int)] 56)) (by go_grown)
        obtain ⟨x0, y0⟩ := grown_cell gr hZ2.1 (fun e => hne e)
        obtain ⟨x1, y1⟩ := grown_cell gr hZ2.2.1 (fun e => hne e)
        rw [hZ2.2.2.1] at y0
        rw [hZ2.2.2.2] at y1
        obtain ⟨E, hE⟩ : ∃ E, es ++ [⟨(u : Int), (v : Int)⟩] = E := ⟨_, rfl⟩
        have hEl : E.length = es.length + 1 := by rw [← hE, app_len]
        rw [hE] at o1 hh1 e1 HLW
        have HNE : Hid (netB m E = true) := by show _ = _; rw [← hE]; exact app_net HM.out (by omega) hum hvm
        obtain ⟨L', hL'⟩ : ∃ k, E.length = k := ⟨_, rfl⟩
        have hlt' : es.length < L' := by omega
        have hL60 : L' ≤ 60 := by omega
        rw [hL'] at o1 e1
        have HL' := hide hL'
        have HBD : Hid (Below V2.heap.size V2 D) := by
          have h1 : Below V2.heap.size V2 Z := below_step hb6 hbZ
          show Below _ _ _
          exact h1.trans hbD
        have HBY : Hid (Below V2.heap.size V2 (D.setCell ⟨kh, 1, none⟩ (.slice q' L' c'))) := HBD.out.setCell (p := ⟨kh, 1, none⟩) hv6 _
        have hap : (Value.slice q' L' c').ownBlock ≠ some kh := by
          have g1 : Z.heap[kh]? = some (.cells #[.int .i64 m, .slice q es.length c] 24 (0, 0)) := by rw [hZ, ← hkh]; exact heap_alloc_new _ _
          have g2 : (Z.alloc (.cells #[.int .i64 (u : Int), .int .i64 (v : Int)] 56)).heap[kh]? = Z.heap[kh]? := (show Below Z.heap.size Z _ by go_grown).block kh (by omega)
          have g3 := gr.block kh (by simp; omega) (fun e => hne e.symm)
          rw [g2, g1] at g3
          exact row_apart g3 o1 (by decide)
        have HOY : Hid (Owns (D.setCell ⟨kh, 1, none⟩ (.slice q' L' c')) V2.heap.size (.slice q' L' c') E) := by
          show Owns _ _ _ _
          exact ownsRow_setCell_other (a := ⟨kh, 1, none⟩) o1 hap _
        have hZc := hZN.2.1
        rw [← hZ]
        try rw [hkh]
        clear hZ hbZ hZN hZ2 hkh hb6 hO6 hbD hE hEl hL' gr hh1 hne hzs hv6
        go_wp2_with (at_builtin; refine wpList_run_append rfl (.tmp 79) (.tmp 83) 22 rfl 22 rfl _ _ _ D rfl rfl e1 ?_)
        go_upto_region 11 with fail
        obtain ⟨Y, hY⟩ : ∃ Y, Y = D.setCell ⟨kh, 1, none⟩ (.slice q' L' c') := ⟨_, rfl⟩
        have hk0 : Y.cell? ⟨kh, 0, none⟩ = some (.int .i64 m) := by rw [hY, World.cell?_setCell_other _ _ _ _ (by intro e; injection e with _ e2; exact absurd e2 (by decide))]; exact x0
        have hk1 : Y.cell? ⟨kh, 1, none⟩ = some (.slice q' L' c') := by rw [hY]; exact World.cell?_setCell_same _ _ _ (by rw [x1])
        rw [← hY] at HBY HOY ⊢
        have C7 := hide (blocks11 m q' E c' Y (by
          obtain ⟨q2, c2, e2, hh, _⟩ := HOY.out.form
          rw [HL'.out] at e2
          simp only [Value.slice.injEq, true_and] at e2
          obtain ⟨rfl, rfl⟩ := e2
          exact hh))
        rw [HL'.out] at C7
        have HZ4 := hide (later HBY.out HZ3.out)
        have HBy4 := hide (HBy3.out.later HBY.out)
        have HIA4 := hide (HIA.out.later HBY.out)
        have HT04 := hide (later HBY.out HT0.out)
        have HT24 := hide (later HBY.out HT2.out)
        have HBy5 := hide (below_step HB6.out HBY.out)
        clear hY x0 x1 y0 y1 hap hZc o1 e1 HZ3 HBy3 HIA HT0 HT2 HBD HOY
        obtain ⟨q0, q1⟩ := HS.out Y HBy5.out
        go_wp2_with fail
        refine C7.out.mono ?_
        rintro e w8 ⟨hp, hb8⟩
        have HB8 := hide (below_step HBy5.out hb8)
        have HZ5 := hide (later hb8 HZ4.out)
        have HBy6 := hide (HBy4.out.later hb8)
        have HIA5 := hide (HIA4.out.later hb8)
        have HT05 := hide (later hb8 HT04.out)
        have HT25 := hide (later hb8 HT24.out)
        clear C7 hb8 hk0 hk1 q0 q1 HBY HZ4 HBy4 HIA4 HT04 HT24 HBy5
        rcases hp with ⟨_, g2, vb, rfl, hI, hO⟩ | ⟨hm, _⟩
        case inr => exact absurd HNE.out (by rw [hm]; decide)
        rw [show ((m : Nat) : Int).toNat = m from Int.toNat_natCast m, HL'.out] at hI
        rw [show ((m : Nat) : Int).toNat = m from Int.toNat_natCast m] at hO ⊢
        rw [HL'.out]
        obtain ⟨pv2, cv2, rfl, _⟩ := hO.form
        have HOF2 : Hid (∀ e, e < L' → 0 ≤ ofB m E e ∧ ofB m E e < ctsB m E) := fun e he => of_in HNE.out (by rw [HL'.out]; exact he)
        unfold blV
        obtain ⟨of', hof⟩ : ∃ f, ofB m E = f := ⟨_, rfl⟩
        obtain ⟨ct', hct⟩ : ∃ c, ctsB m E = c := ⟨_, rfl⟩
        obtain ⟨lc', hlc⟩ : ∃ c, (cutsB m E).length = c := ⟨_, rfl⟩
        rw [hof] at hI HLW HOF2
        rw [hct] at HOF2 ⊢
        rw [hlc]
        clear hO hof hct hlc HL' HNE
        go_upto_region 12 with fail
        obtain ⟨Z, hV⟩ : ∃ V, V = w8.alloc (.cells #[.slice (some ⟨g2, 0, none⟩) L' L', .slice pv2 lc' cv2, .int .i64 ct'] 34) := ⟨_, rfl⟩
        have hbV : Below w8.heap.size w8 Z := by rw [hV]; go_grown
        obtain ⟨ks, hks⟩ : ∃ k, w8.heap.size = k := ⟨_, rfl⟩
        have s0 : Z.cell? ⟨ks, 0, none⟩ = some (.slice (some ⟨g2, 0, none⟩) L' L') := by rw [hV, ← hks]; go_cell
        have HBZ := hide (below_step HB8.out hbV)
        have HZ6 := hide (later hbV HZ5.out)
        have HBy7 := hide (HBy6.out.later hbV)
        have HIA6 := hide (HIA5.out.later hbV)
        have HT06 := hide (later hbV HT05.out)
        have HT26 := hide (later hbV HT25.out)
        have HIB := hide (hI.later hbV)
        have HT : Hid (∀ X, Below Z.heap.size Z X → (X.cell? ⟨kb, 0, none⟩ = some (.int .i64 m) ∧ X.cell? ⟨kb, 1, none⟩ = some (.slice p es.length cp)) ∧ X.cell? ⟨kz, 1, none⟩ = some (.slice (some ⟨gb, 0, none⟩) m m) ∧ X.cell? ⟨kt, 0, none⟩ = some (.slice (some ⟨ga, 0, none⟩) es.length es.length) ∧ X.cell? ⟨kt, 2, none⟩ = some (.int .i64 ct) ∧ X.cell? ⟨ks, 0, none⟩ = some (.slice (some ⟨g2, 0, none⟩) L' L')) := fun X hX => ⟨HS.out X (below_step HBZ.out hX), later hX HZ6.out, later hX HT06.out, later hX HT26.out, later hX s0⟩
        have HHZ : Hid (∀ X, Below Z.heap.size Z X → Has X p es) := fun X hX => HH.out.later (below_step HBZ.out hX)
        rw [← hV]
        try rw [hks]
        clear hV hbV hks hI s0 HB8 HZ5 HBy6 HIA5 HT05 HT25 HZ6 HT06 HT26
        obtain ⟨⟨q0, q1⟩, z1, t0, t2, s0⟩ := HT.out Z (Below.refl _ _)
        go_wp2_with (refine wpList_make_full _ rfl (.tmp 94) (.tmp 94) 55 rfl Z.heap.size 4 b0 (.bool false) 1 Try.underlying55 hb0 bz0 bz1 .i64 .i64 _ _ ct rfl rfl rfl rfl ?c1 ?c2 ?c3 ?_)
        case c1 => rw [bz2]; omega
        case c2 => unfold maxLen; omega
        case c3 => exact Nat.le_refl _
        intro w9 hown hgrow
        obtain ⟨gm, hgm⟩ : ∃ g, Z.heap.size = g := ⟨_, rfl⟩
        have hb9 := below_made hgrow
        have HG9 : Hid (BRow w9 Z.heap.size gm ct (mkO of (hwN es st.By v) 0)) := by
          show BRow _ _ _ _ _
          rw [hgm] at hown
          exact owns_base (brow_made (by simpa using hown)) (by omega)
        have HB9 := hide hb9
        rw [hgm]
        clear hown hgrow hb9 hgm q0 q1 z1 t0 t2 s0
        obtain ⟨⟨q0, q1⟩, z1, t0, t2, s0⟩ := HT.out w9 HB9.out
        go_wp2_with fail
        clear q0 q1 z1 t0 t2 s0
        go_loopw [15] (fun t wr => ∃ i : Nat, i ≤ K ∧ t = .int .i64 (pwN es st.By v i : Nat) ∧ Hid (Below Z.heap.size Z wr) ∧ Hid (BRow wr Z.heap.size gm ct (mkO of (hwN es st.By v) i))) (fun t _ => (iat st.Fa (intOf t).toNat).toNat)
        case atStart => exact ⟨0, by omega, rfl, HB9.out, HG9.out⟩
        case round =>
          clear HB9 HG9
          obtain ⟨i, hi, rfl, HBr, HG⟩ := hrel
          obtain ⟨⟨q0, q1⟩, z1, t0, t2, s0⟩ := HT.out wr HBr.out
          obtain ⟨p1, p2⟩ := HPW.out i hi
          by_cases hlt : i < K
          · obtain ⟨h1, h2, _, h4⟩ := HHW.out i hlt
            have hpu : pwN es st.By v i ≠ u := fun e => by
              have := HBK.out.inj i K (by omega) (Nat.le_refl _) (by rw [e, HBK.out.last])
              omega
            obtain ⟨p3, p4⟩ := HPW.out (i + 1) hlt
            obtain ⟨y0, _⟩ := (HBy7.out.later HBr.out).cell p1
            rw [h2] at y0
            obtain ⟨a0, _⟩ := (HIA6.out.later HBr.out).cell (show hwN es st.By v i / 2 < es.length by omega)
            rw [fnL_at _ (by omega)] at a0
            obtain ⟨o1, o2⟩ := HOF.out (hwN es st.By v i / 2) (by omega)
            obtain ⟨k, hk⟩ : ∃ k : Nat, of (hwN es st.By v i / 2) = k := ⟨(of (hwN es st.By v i / 2)).toNat, by omega⟩
            have hmk : mkO of (hwN es st.By v) (i + 1) = upd (mkO of (hwN es st.By v) i) k true := by
              show upd _ (of (hwN es st.By v i / 2)).toNat true = _
              rw [hk, Int.toNat_natCast]
            rw [hk] at a0 o2
            have hkc : k < ct := by omega
            obtain ⟨g0, g1⟩ := HG.out.cell hkc
            have hgl := HG.out.lt
            have HPM : Hid ((iat st.Fa (pwN es st.By v (i + 1))).toNat < (iat st.Fa (pwN es st.By v i)).toNat) := by
              have := HFV.out
              show _ < _
              omega
            have hd : Int.tdiv ((hwN es st.By v i : Nat) : Int) 2 = ((hwN es st.By v i / 2 : Nat) : Int) := by rw [Int.tdiv_eq_ediv_of_nonneg (by omega)]; exact (Int.natCast_ediv _ 2).symm
            have hl2 : hwN es st.By v i / 2 < es.length := by omega
            have HG3 : Hid (BRow ((wr.setCell ⟨gm, k, none⟩ (.bool true)).drew) Z.heap.size gm ct (mkO of (hwN es st.By v) (i + 1))) := by
              rw [hmk]
              exact (HG.out.put k true).later (below_drew _)
            have HB3 : Hid (Below Z.heap.size Z ((wr.setCell ⟨gm, k, none⟩ (.bool true)).drew)) := below_step (HBr.out.setCell (p := ⟨gm, k, none⟩) hgl.1 _) (below_drew _)
            have y1 := ((HBy7.out.later HB3.out).cell p1).1
            rw [h2] at y1
            obtain ⟨N1, hN1⟩ : ∃ x, pwN es st.By v (i + 1) = x := ⟨_, rfl⟩
            obtain ⟨P, hP⟩ : ∃ x, pwN es st.By v i = x := ⟨_, rfl⟩
            obtain ⟨H, hH⟩ : ∃ x, hwN es st.By v i = x := ⟨_, rfl⟩
            rw [hN1] at h4 HPM p3
            rw [hP] at y0 y1 HPM p1 hpu ⊢
            rw [hH] at h1 h4 y0 y1 a0 hd hl2
            have HN1 := hide hN1
            obtain ⟨H2, hH2⟩ : ∃ x, H / 2 = x := ⟨_, rfl⟩
            rw [hH2] at a0 hd hl2
            have HY1 := hide y1
            have CT : ∀ dd os, Calls Try.prog 34 #[nv m p es.length cp, .int .i64 H] (grow (redrawn ((wr.setCell ⟨gm, k, none⟩ (.bool true)).drew) dd) os) fun e w'' => e = .returned (.int .i64 N1) ∧ ∃ p : Regrown, w'' = grow (redrawn ((wr.setCell ⟨gm, k, none⟩ (.bool true)).drew) p.d) p.os := fun dd os => Calls.regrown_of (by rw [← h4]; exact from50 m p es cp H _ ((HHZ.out _ HB3.out).later (below_regrown _ dd os)) h1 (by omega))
            have i1 : (H : Int) < 2 * es.length := by omega
            have i2 : (0 : Int) ≤ H := by omega
            have i3 : (H2 : Int) < es.length := by omega
            have i4 : (0 : Int) ≤ H2 := by omega
            have i5 : (k : Int) < ct := by omega
            have i6 : (0 : Int) ≤ k := by omega
            have i7 : (P : Int) < m := by omega
            have i8 : (0 : Int) ≤ P := by omega
            have hz1 : decide ((P : Int) = u) = false := by simp; omega
            have hz2 : ((P : Int) == u) = false := by simp; omega
            clear h2 p2 p4 hk hmk hgl HG HBr hN1 hP hH hH2 h4 hpu o1 o2
            clear y1
            go_upto_region 18 with fail
            go_region
            go_upto_region 17 with fail
            obtain ⟨X, hX⟩ : ∃ X, X = (wr.setCell ⟨gm, k, none⟩ (.bool true)).drew := ⟨_, rfl⟩
            rw [← hX] at CT HB3 HG3 HY1 ⊢
            clear hX q0 q1 z1 t0 t2 s0 g0 g1 a0 y0
            obtain ⟨⟨q0, q1⟩, z1, _, _, _⟩ := HT.out X HB3.out
            have y0 := HY1.out
            have Q0 := cell_regrown q0
            have Q1 := cell_regrown q1
            have Z1 := cell_regrown z1
            have Y0 := cell_regrown y0
            refine wp_region_quiet_below (by kernel_rfl) (by kernel_rfl) ?_
            repeat (go_big_quiet_step (first | with_reducible exact CT _ _))
            refine wpQuiet_nil ?_
            intro w3 hw'
            have hb3 : Below X.heap.size X w3 := by
              obtain ⟨⟨dq, osq⟩, hw''⟩ := hw'
              rw [hw'']
              exact below_regrown X dq osq
            have HB4 := hide (below_step HB3.out hb3)
            have HG4 := hide (HG3.out.later hb3)
            clear hw' hb3 q0 q1 z1 y0 Q0 Q1 Z1 Y0 CT
            go_wp2
            go_roundw
            case rel => exact ⟨i + 1, hlt, by rw [HN1.out], HB4.out, HG4.out⟩
            case measure => have := HPM.out; simp [intOf]; omega
          · have hem : i = K := by omega
            have hpu : pwN es st.By v i = u := by rw [hem]; exact HBK.out.last
            rw [hem] at HG
            rw [hpu]
            clear hem hpu hlt p1 p2
            go_wp2_with fail
            clear q0 q1 z1 t0 t2 s0
            go_loopw [16] (fun t wr => ∃ i : Nat, i ≤ es.length ∧ t = .int .i64 i ∧ Hid (Below Z.heap.size Z wr) ∧ Hid (BRow wr Z.heap.size gm ct (mkO of (hwN es st.By v) K))) (fun t _ => es.length - (intOf t).toNat)
            case atStart => exact ⟨0, by omega, rfl, HBr.out, HG.out⟩
            case round =>
              clear HBr HG
              obtain ⟨i, hi, rfl, HBr, HG⟩ := hrel
              obtain ⟨⟨q0, q1⟩, z1, t0, t2, s0⟩ := HT.out wr HBr.out
              by_cases hlt : i < es.length
              · obtain ⟨a0, _⟩ := (HIA6.out.later HBr.out).cell hlt
                rw [fnL_at _ hlt] at a0
                have hiL : i < L' := by omega
                obtain ⟨b1, _⟩ := (HIB.out.later HBr.out).cell hiL
                rw [fnL_at _ hiL] at b1
                obtain ⟨d1, _⟩ := (HIB.out.later HBr.out).cell hlt'
                rw [fnL_at _ hlt'] at d1
                obtain ⟨o1, o2⟩ := HOF.out i hlt
                have hlw := HLW.out.1 i hlt
                have HL2 : Hid (∀ f, f < es.length → mkO of (hwN es st.By v) K (of i).toNat = false → decide (of i = of f) = decide (of' i = of' f)) := fun f hf => HLW.out.2 i f hlt hf
                obtain ⟨a, ha⟩ : ∃ k : Nat, of i = k := ⟨(of i).toNat, by omega⟩
                rw [ha] at a0 o1 o2 hlw HL2
                rw [Int.toNat_natCast] at hlw HL2
                have hac : a < ct := by omega
                obtain ⟨g0, _⟩ := HG.out.cell hac
                obtain ⟨b, hb⟩ : ∃ k, of' i = k := ⟨_, rfl⟩
                obtain ⟨d, hd⟩ : ∃ k, of' es.length = k := ⟨_, rfl⟩
                rw [hb] at b1 hlw HL2
                rw [hd] at d1 hlw
                have HHA := hide ha
                have HHB := hide hb
                have i1 : (i : Int) < es.length := by omega
                have i2 : (0 : Int) ≤ i := by omega
                have i3 : (i : Int) < L' := by omega
                have i4 : (es.length : Int) < L' := by omega
                have i5 : (a : Int) < ct := by omega
                have i6 : (0 : Int) ≤ a := by omega
                obtain ⟨on, hon⟩ : ∃ x, mkO of (hwN es st.By v) K a = x := ⟨_, rfl⟩
                rw [hon] at hlw HL2 g0
                have HON := hide hon
                clear ha hb hd hon
                cases on
                · have hbd : ¬ b = d := by simpa using hlw.symm
                  have y1 : decide (b = d) = false := by simp; exact hbd
                  have y2 : (b == d) = false := by simp; exact hbd
                  clear hlw hbd
                  go_upto_region 22 with fail
                  go_quiet (fail)
                  go_wp2_with fail
                  clear y1 y2
                  clear q0 q1 z1 t0 t2 s0 a0 b1 d1 g0
                  go_loopw [17] (fun t wr => ∃ j : Nat, j ≤ i ∧ t = .int .i64 j ∧ Hid (Below Z.heap.size Z wr) ∧ Hid (BRow wr Z.heap.size gm ct (mkO of (hwN es st.By v) K))) (fun t _ => i - (intOf t).toNat)
                  case atStart => exact ⟨0, by omega, rfl, below_drewN HBr.out, HG.out.later (below_drewN (Below.refl _ _))⟩
                  case round =>
                    clear HBr HG
                    obtain ⟨j, hj, rfl, HBr, HG⟩ := hrel
                    obtain ⟨⟨q0, q1⟩, z1, t0, t2, s0⟩ := HT.out wr HBr.out
                    by_cases hji : j < i
                    · have hjl : j < es.length := by omega
                      have hjL : j < L' := by omega
                      obtain ⟨a0, _⟩ := (HIA6.out.later HBr.out).cell hlt
                      rw [fnL_at _ hlt, HHA.out] at a0
                      obtain ⟨g0, _⟩ := HG.out.cell hac
                      rw [HON.out] at g0
                      have i7 : (j : Int) < i := by omega
                      have i8 : (0 : Int) ≤ j := by omega
                      have i9 : (j : Int) < es.length := by omega
                      have i10 : (j : Int) < L' := by omega
                      obtain ⟨c0, _⟩ := (HIA6.out.later HBr.out).cell hjl
                      rw [fnL_at _ hjl] at c0
                      obtain ⟨b1, _⟩ := (HIB.out.later HBr.out).cell hiL
                      rw [fnL_at _ hiL, HHB.out] at b1
                      obtain ⟨e1, _⟩ := (HIB.out.later HBr.out).cell hjL
                      rw [fnL_at _ hjL] at e1
                      obtain ⟨o3, o4⟩ := HOF.out j hjl
                      have hl2 := HL2.out j hjl (by first | rfl | trivial)
                      obtain ⟨cj, hcj⟩ : ∃ k : Nat, of j = k := ⟨(of j).toNat, by omega⟩
                      obtain ⟨ej, hej⟩ : ∃ k, of' j = k := ⟨_, rfl⟩
                      rw [hcj] at c0 o4 hl2
                      rw [hej] at e1 hl2
                      have hcc : cj < ct := by omega
                      obtain ⟨g2', _⟩ := HG.out.cell hcc
                      obtain ⟨oj', hoj⟩ : ∃ x, mkO of (hwN es st.By v) K cj = x := ⟨_, rfl⟩
                      rw [hoj] at g2'
                      have i11 : (cj : Int) < ct := by omega
                      have i12 : (0 : Int) ≤ cj := by omega
                      clear hcj hej hoj q0 q1 z1 t2 o3 o4
                      cases oj'
                      · by_cases hec : a = cj
                        · subst hec
                          have he : b = ej := by simpa using hl2
                          subst he
                          clear hl2
                          go_upto_region 27 with fail
                          go_quiet (fail)
                          go_wp2
                          go_roundw
                          case rel => exact ⟨j + 1, by omega, by go_num, below_drewN HBr.out, HG.out.later (below_drewN (Below.refl _ _))⟩
                          case measure => simp [intOf]; omega
                        · have he : ¬ b = ej := fun e => hec (by rw [e] at hl2; simp at hl2; omega)
                          have x1 : decide ((a : Int) = cj) = false := by simp; omega
                          have x2 : ((a : Int) == cj) = false := by simp; omega
                          have x3 : decide (b = ej) = false := by simp; exact he
                          have x4 : (b == ej) = false := by simp; exact he
                          clear hl2 hec he
                          go_upto_region 27 with fail
                          go_quiet (fail)
                          go_wp2
                          go_roundw
                          case rel => exact ⟨j + 1, by omega, by go_num, below_drewN HBr.out, HG.out.later (below_drewN (Below.refl _ _))⟩
                          case measure => simp [intOf]; omega
                      · clear hl2
                        go_upto_region 27 with fail
                        go_quiet (fail)
                        go_wp2
                        go_roundw
                        case rel => exact ⟨j + 1, by omega, by go_num, below_drewN HBr.out, HG.out.later (below_drewN (Below.refl _ _))⟩
                        case measure => simp [intOf]; omega
                    · have hji' : ¬ (j : Int) < i := by omega
                      clear q0 q1 z1 t0 t2 s0 hji
                      go_wp2
                      go_roundw
                      case rel => exact ⟨i + 1, by omega, by go_num, HBr.out, HG.out⟩
                      case measure => simp [intOf]; omega
                · have hbd : b = d := by simpa using hlw.symm
                  subst hbd
                  clear hlw HL2
                  go_upto_region 22 with fail
                  go_quiet (fail)
                  go_wp2_with fail
                  clear q0 q1 z1 t0 t2 s0 a0 b1 d1 g0
                  go_loopw [17] (fun t wr => ∃ j : Nat, j ≤ i ∧ t = .int .i64 j ∧ Hid (Below Z.heap.size Z wr) ∧ Hid (BRow wr Z.heap.size gm ct (mkO of (hwN es st.By v) K))) (fun t _ => i - (intOf t).toNat)
                  case atStart => exact ⟨0, by omega, rfl, below_drewN HBr.out, HG.out.later (below_drewN (Below.refl _ _))⟩
                  case round =>
                    clear HBr HG
                    obtain ⟨j, hj, rfl, HBr, HG⟩ := hrel
                    obtain ⟨⟨q0, q1⟩, z1, t0, t2, s0⟩ := HT.out wr HBr.out
                    by_cases hji : j < i
                    · have hjl : j < es.length := by omega
                      have hjL : j < L' := by omega
                      obtain ⟨a0, _⟩ := (HIA6.out.later HBr.out).cell hlt
                      rw [fnL_at _ hlt, HHA.out] at a0
                      obtain ⟨g0, _⟩ := HG.out.cell hac
                      rw [HON.out] at g0
                      have i7 : (j : Int) < i := by omega
                      have i8 : (0 : Int) ≤ j := by omega
                      have i9 : (j : Int) < es.length := by omega
                      have i10 : (j : Int) < L' := by omega
                      clear q0 q1 z1 t2 s0
                      go_upto_region 27 with fail
                      go_quiet (fail)
                      go_wp2
                      go_roundw
                      case rel => exact ⟨j + 1, by omega, by go_num, below_drewN HBr.out, HG.out.later (below_drewN (Below.refl _ _))⟩
                      case measure => simp [intOf]; omega
                    · have hji' : ¬ (j : Int) < i := by omega
                      clear q0 q1 z1 t0 t2 s0 hji
                      go_wp2
                      go_roundw
                      case rel => exact ⟨i + 1, by omega, by go_num, HBr.out, HG.out⟩
                      case measure => simp [intOf]; omega
              · have hlt2 : ¬ (i : Int) < es.length := by omega
                clear hlt z1 t0 t2 s0
                go_wp2
                go_ret
                exact ⟨rfl, below_step HB.out (below_step HBZ.out HBr.out)⟩
end Go.Proofs.Ytobkejnlkjieoaa
