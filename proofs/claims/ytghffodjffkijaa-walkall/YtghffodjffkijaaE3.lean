/- Ring, in every world. -/
import Derived.Test.YtghffodjffkijaaE2
import Derived.Test.YtghffodjffkijaaD1
import Derived.Lib.SliceRun
namespace Go.Proofs.Ytghffodjffkijaa
open Go.RowKit Go.Sort
open Go

@[local go_sem] theorem eql33 (w : World) (a : Option Addr) (n c : Nat) : (binOp .eql 33 (.slice a n c) (.slice none 0 0)).run Try.prog w = .ok (.bool a.isNone) w := Lib.run_eql_slice_nil w 33 3 a n c 0 0 Try.underlying33
/-- Breadth first from one node. -/
abbrev bOne (es : List Pt) (m s : Nat) : St := bfs es m 0 (begin_ (st0 m) s)
abbrev nOne (es : List Pt) (m s : Nat) : Int × Int := nrN es (bOne es m s).By (bOne es m s).Fa es.length
/-- The shortest way round that was closed from the first nodes. -/
def rgN (es : List Pt) (m : Nat) : Nat → List Int
  | 0 => []
  | s + 1 => if 0 ≤ (nOne es m s).1 ∧ (rgN es m s = [] ∨ (nOne es m s).2 < (rgN es m s).length) then cloL es (bOne es m s) (2 * (nOne es m s).1.toNat) else rgN es m s
theorem clo_len (es : List Pt) (st : St) : ∀ k en sa cy dn, cy.length ≤ (clo es st k en sa cy dn).1.length
  | 0, _, _, _, _ => Nat.le_refl _
  | k + 1, en, sa, cy, dn => by
    simp only [clo]
    split
    · exact Nat.le_refl _
    · split
      · have := clo_len es st k (par es st en) sa (cy ++ [twn (iat st.By en)]) dn
        simp at this
        omega
      · exact clo_len es st k _ _ _ _
theorem cloL_pos (es : List Pt) (st : St) (h : Nat) : 0 < (cloL es st h).length := by
  unfold cloL
  have := clo_len es st ((iat st.Fa (toL es h).toNat).toNat + (iat st.Fa (fromL es h).toNat).toNat) (toL es h).toNat (fromL es h).toNat [(h : Int)] []
  simp at this ⊢
  omega
theorem nrN_found (es : List Pt) (By Fa : List Int) : ∀ k, 0 ≤ (nrN es By Fa k).1 → ∃ e : Nat, e < k ∧ (nrN es By Fa k).1 = e ∧ 0 ≤ iat Fa (at' es e).x.toNat
  | 0, h => by simp [nrN] at h
  | k + 1, h => by
    simp only [nrN] at h ⊢
    split at h
    · rename_i hc
      rw [if_pos hc]
      obtain ⟨e, h1, h2⟩ := nrN_found es By Fa k h
      exact ⟨e, by omega, h2⟩
    · rename_i hc
      rw [if_neg hc]
      split at h
      · rename_i hd
        rw [if_pos hd]
        exact ⟨k, by omega, rfl, by omega⟩
      · rename_i hd
        rw [if_neg hd]
        obtain ⟨e, h1, h2⟩ := nrN_found es By Fa k h
        exact ⟨e, by omega, h2⟩
theorem bOne_shut {es : List Pt} {m s : Nat} (hm : netB m es = true) (hs : s < m) : Shut es m (bOne es m s) :=
  ((shut0 es m hm).walk hm hs (by show iat (List.replicate m (-1)) s < 0; rw [iat_fill hs]; omega)).1
/-- closed48 at an edge whose one end is found. -/
theorem closed_at {m : Nat} {p : Option Addr} {es : List Pt} {cp : Nat} {po : Option Addr} {lo co gb gf B e : Nat} {st : St} {w : World} (hN : Has w p es) (hm : netB m es = true) (hB : IRow w B gb m st.By) (hF : IRow w B gf m st.Fa) (c : Shut es m st) (he : e < es.length) (h0 : 0 ≤ iat st.Fa (at' es e).x.toNat) :
    Calls Try.prog 48 #[nv m p es.length cp, tv (.slice po lo co) (.slice (some ⟨gb, 0, none⟩) m m) (.slice (some ⟨gf, 0, none⟩) m m) nilS, .int .i64 (2 * (e : Int))] w fun e' w' => ∃ v, e' = .returned v ∧ IOwns w' w.heap.size v (cloL es st (2 * e)) ∧ Below w.heap.size w w' := by
  obtain ⟨n0, n1, hes, hE⟩ := netB_is hm
  obtain ⟨f0, f1, f2, f3⟩ := hE e he
  have HTO : toL es (2 * e) = (at' es e).y ∧ fromL es (2 * e) = (at' es e).x := by
    unfold toL fromL
    rw [if_pos (by omega), if_pos (by omega), show 2 * e / 2 = e by omega]
    exact ⟨rfl, rfl⟩
  obtain ⟨x, hx⟩ : ∃ x : Nat, (at' es e).x = x := ⟨(at' es e).x.toNat, by omega⟩
  obtain ⟨y, hy⟩ : ∃ y : Nat, (at' es e).y = y := ⟨(at' es e).y.toNat, by omega⟩
  rw [hx] at h0 HTO
  rw [hy] at HTO
  rw [Int.toNat_natCast] at h0
  have hh : 2 * e < 2 * es.length := by omega
  obtain ⟨fy0, hr⟩ := c.all (2 * e) x y hh HTO.2 HTO.1 h0
  have h2 : ((2 * e : Nat) : Int) = 2 * (e : Int) := by omega
  unfold cloL
  rw [HTO.1, HTO.2, ← h2]
  simp only [Int.toNat_natCast]
  exact closed48 m _ es cp po lo co gb gf B (2 * e) st w hN hm hB hF c.tree (fun v hv => by have := c.ok.val v hv; have := c.ok.cnt; omega) hh y x HTO.1 HTO.2 fy0 h0 hr.symm
set_option maxRecDepth 100000 in
set_option maxHeartbeats 4000000 in
theorem ring31no (n : Int) (p : Option Addr) (es : List Pt) (cp : Nat) (w : World) (h : Has w p es) (hm : netB n es = false) : Calls Try.prog 31 #[nv n p es.length cp] w fun e w' => e = .returned (.tuple #[nilS, .int .i64 1]) ∧ Below w.heap.size w w' := by
  obtain ⟨W, hW, hb, a0⟩ := one_net w n p es.length cp
  have M := hide (may13 n p es cp W (h.later hb))
  rw [hm] at M
  have HB := hide hb
  clear h hb a0 hm
  go_enter Try.func31, Try.ntmps31
  go_wp2_with fail
  rw [← hW]
  clear hW
  refine M.out.mono ?_
  rintro e w1 ⟨rfl, hb1⟩
  have HB1 := hide (below_step HB.out hb1)
  clear hb1 M
  go_wp2
  go_ret2
  exact ⟨rfl, HB1.out⟩
set_option maxRecDepth 100000 in
set_option maxHeartbeats 8000000 in
theorem ring31 (m : Nat) (p : Option Addr) (es : List Pt) (cp : Nat) (w : World) (h : Has w p es) (hm : netB m es = true) : Calls Try.prog 31 #[nv m p es.length cp] w fun e w' => ∃ v, e = .returned (.tuple #[v, .int .i64 (if rgN es m m = [] then 14 else 0)]) ∧ IOwns w' w.heap.size v (rgN es m m) ∧ Below w.heap.size w w' := by
  obtain ⟨W, hW, hb, a0⟩ := one_net w m p es.length cp
  obtain ⟨n0, n1, hes, _⟩ := netB_is hm
  have M := hide (may13 m p es cp W (h.later hb))
  rw [hm] at M
  have HPB : Hid (∀ a, p = some a → es = [] ∨ a.block < w.heap.size) := by
    intro a ha
    rcases h with h | ⟨b, off, hp, hL⟩
    · exact Or.inl h
    · rw [hp] at ha
      cases ha
      rcases Nat.eq_zero_or_pos es.length with h0 | h0
      · exact Or.inl (List.eq_nil_of_length_eq_zero h0)
      · exact Or.inr (block_lt_of_cell (hL 0 h0).1)
  have HM := hide hm
  have HH := hide (h.later hb)
  have HB := hide hb
  have HA := hide a0
  have hws : w.heap.size < W.heap.size := block_lt_of_cell a0.1
  clear h hb a0 hm
  go_enter Try.func31, Try.ntmps31
  go_wp2_with fail
  rw [← hW]
  clear hW
  refine M.out.mono ?_
  rintro e w1 ⟨rfl, hb1⟩
  have HA1 := hide (HA.out.later hb1)
  have OU := hide (outs39 m p es cp w1 (HH.out.later hb1) HM.out)
  have HB1 := hide hb1
  obtain ⟨q0, q1, _, _⟩ := HA1.out
  clear hb1 M
  go_wp2_with fail
  refine OU.out.mono ?_
  rintro e w2 ⟨g, rv, rfl, hR, hb2⟩
  have HR := hide hR
  have hbW := below_step HB1.out hb2
  have HBW := hide hbW
  have HA2 := hide (HA.out.later hbW)
  have HH2 := hide (HH.out.later hbW)
  clear hR hb2 hbW q0 q1 OU
  obtain ⟨q0, q1, _, _⟩ := HA2.out
  go_wp2_with fail
  clear q0 q1
  go_loopw [5, 17] (fun t5 t17 wr => ∃ s : Nat, s ≤ m ∧ t17 = .int .i64 s ∧ Hid (Below w2.heap.size w2 wr) ∧ Hid (IOwns wr w2.heap.size t5 (rgN es m s) ∧ (rgN es m s = [] → t5 = nilS))) (fun _ t17 _ => m - (intOf t17).toNat)
  case atStart => exact ⟨0, by omega, rfl, Below.refl _ _, IOwns.nil _ _, fun _ => rfl⟩
  case round =>
    obtain ⟨s, hs, rfl, HBr, HO⟩ := hrel
    obtain ⟨pr, lr, cr, rfl⟩ := HO.out.1.slice
    by_cases hlt : s < m
    · have i1 : (s : Int) < m := by omega
      have i2 : (0 : Int) ≤ s := by omega
      have HRG : Hid (rgN es m (s + 1) = if 0 ≤ (nrN es (bOne es m s).By (bOne es m s).Fa es.length).1 ∧ (rgN es m s = [] ∨ (nrN es (bOne es m s).By (bOne es m s).Fa es.length).2 < (rgN es m s).length) then cloL es (bOne es m s) (2 * (nrN es (bOne es m s).By (bOne es m s).Fa es.length).1.toNat) else rgN es m s) := rfl
      have HAr := hide (HA2.out.later HBr.out)
      obtain ⟨q0, q1, _, _⟩ := HAr.out
      have U := hide (unfound37 m wr (by omega))
      go_wp2_with fail
      refine U.out.mono ?_
      rintro e w3 ⟨v, rfl, ⟨vo, gb, gf, rfl, ho, hby, hfa, ne1, ne2, ne3⟩, hb2⟩
      obtain ⟨X, hX⟩ : ∃ X, X = w3.alloc (.cells #[vo, .slice (some ⟨gb, 0, none⟩) m m, .slice (some ⟨gf, 0, none⟩) m m, nilS] 35) := ⟨_, rfl⟩
      have hbX : Below w3.heap.size w3 X := by rw [hX]; go_grown
      have hXs : X.heap.size = w3.heap.size + 1 := by rw [hX]; simp
      have HTX : Hid (TB X wr.heap.size w3.heap.size m vo gb gf nilS [] (List.replicate m (-1)) (List.replicate m (-1))) := ⟨by rw [hX]; exact box35 _ _ _ _ _, ho.later hbX, hby.later hbX, hfa.later hbX, ne1, ne2, ne3⟩
      have hbWX := below_step HBr.out (below_step hb2 hbX)
      have HBrX := hide (below_step hb2 hbX)
      have HAX := hide (HA2.out.later hbWX)
      have HHX := hide (HH2.out.later hbWX)
      have HRX := hide (HR.out.later hbWX)
      have HBX := hide hbWX
      have s1 := HBr.out.size
      have s2 := hb2.size
      have lb := hby.lt
      have lf := hfa.lt
      have lo : ∀ i, vo.ownBlock = some i → wr.heap.size ≤ i ∧ i < w3.heap.size := fun i hi => World.ownsRow.lt ho i hi
      have HLO := hide (And.intro lb (And.intro lf lo))
      clear q0 q1 U ho hby hfa ne1 ne2 ne3 hb2 hbX hbWX lb lf lo
      obtain ⟨q0, q1, _, _⟩ := HAX.out
      obtain ⟨po, lo, co, rfl⟩ : ∃ po lo co, vo = .slice po lo co := by obtain ⟨a, b, hv, _⟩ := HTX.out.ord.form; exact ⟨_, _, _, hv⟩
      have HAW1 : Hid (∀ i, i < wr.heap.size → ¬ TBk w3.heap.size gb gf (.slice po lo co) i) := by
        intro i hi hk
        obtain ⟨h1, h2, h3⟩ := HLO.out
        rcases hk with h | h | h | h
        · omega
        · omega
        · omega
        · have := h3 i h; omega
      have hsW := HB.out.size
      have hsW2 := HBW.out.size
      have SP := hide (spread38 m p es cp w1.heap.size g rv wr.heap.size w3.heap.size gb gf (.slice po lo co) nilS (st0 m) s X HM.out HHX.out HRX.out HTX.out (st0_ok m) hlt (by show iat (List.replicate m (-1)) s < 0; rw [iat_fill hlt]; omega) (by omega) (fun a ha => (HPB.out a ha).imp id (fun hh => HAW1.out _ (by omega))) (HAW1.out _ (by have := HR.out.size.2; omega)) (fun u i hu hi => HAW1.out _ (by have := (World.ownsRow.lt (HR.out.2.2 u hu) i hi).2; omega)))
      go_upto_region 9 with fail
      rw [← hX]
      clear hX
      go_wp2_with fail
      refine SP.out.mono ?_
      rintro e w5 ⟨rfl, vo5, t5, f5, a5⟩
      have HT5 := hide t5
      have HB5 : Hid (Below wr.heap.size wr w5) := Below.trans HBrX.out (f5.below HBrX.out.size (fun i hi => by
        by_cases h : wr.heap.size ≤ i
        · exact h
        · exact absurd hi (HAW1.out i (by omega))))
      clear q0 q1 t5 f5 a5 SP
      have hb25 := below_step HBr.out HB5.out
      have HB25 := hide hb25
      obtain ⟨q0, q1, _, _⟩ := HA2.out.later hb25
      have HH5 := hide (HH2.out.later hb25)
      obtain ⟨p5, l5, c5, rfl⟩ : ∃ a b c, vo5 = .slice a b c := by obtain ⟨a, b, hv, _⟩ := HT5.out.ord.form; exact ⟨_, _, _, hv⟩
      obtain ⟨b0, b1, b2, b3, _, _⟩ := HT5.out.cells
      have HSH := hide (bOne_shut HM.out hlt)
      have HO5 := hide (And.intro (HO.out.1.later HB5.out) HO.out.2)
      obtain ⟨S, hS⟩ : ∃ S, bOne es m s = S := ⟨_, rfl⟩
      have hS' : bfs es m (st0 m).O.length (begin_ (st0 m) s) = S := hS
      rw [hS'] at HT5
      rw [hS] at HSH HRG
      have NE := hide (nearest49 m p es cp p5 l5 c5 gb gf wr.heap.size S.By S.Fa w5 HH5.out HM.out HT5.out.by_ HT5.out.far (fun v hv => by have := HSH.out.ok.val v hv; have := HSH.out.ok.cnt; omega))
      clear hS hS' hb25
      obtain ⟨kt, hkt⟩ : ∃ kt, w3.heap.size = kt := ⟨_, rfl⟩
      rw [hkt] at HT5 b0 b1 b2 b3 ⊢
      clear hkt HAW1 HLO
      go_wp2_with fail
      refine NE.out.mono ?_
      rintro e w6 ⟨rfl, hb6⟩
      have hb26 := below_step HB25.out hb6
      have HB26 := hide hb26
      have HT6 := hide (HT5.out.later hb6)
      have HH6 := hide (HH5.out.later hb6)
      have HO6 := hide (And.intro (HO5.out.1.later hb6) HO5.out.2)
      have HNF := hide (nrN_found es S.By S.Fa es.length)
      clear q0 q1 b0 b1 b2 b3 NE hb6
      obtain ⟨q0, q1, _, _⟩ := HA2.out.later hb26
      obtain ⟨b0, b1, b2, b3, _, _⟩ := HT6.out.cells
      obtain ⟨P, hP⟩ : ∃ P, nrN es S.By S.Fa es.length = P := ⟨_, rfl⟩
      rw [hP] at HRG HNF ⊢
      clear hP hb26
      obtain ⟨ed, le⟩ := P
      simp only at HRG HNF ⊢
      obtain ⟨L, hL⟩ : ∃ L, rgN es m s = L := ⟨_, rfl⟩
      rw [hL] at HRG HO6
      clear hL HO HO5
      by_cases hA : 0 ≤ ed
      · obtain ⟨e, he, rfl, h0⟩ := HNF.out hA
        have CL := hide (closed_at (cp := cp) (po := p5) (lo := l5) (co := c5) HH6.out HM.out HT6.out.by_ HT6.out.far HSH.out he h0)
        have i3 : (0 : Int) ≤ e := by omega
        clear HNF h0 hA
        rw [Int.toNat_natCast] at HRG
        by_cases hN : L = []
        · rw [if_pos ⟨i3, Or.inl hN⟩] at HRG
          have hv := HO6.out.2 hN
          simp only [Value.slice.injEq] at hv
          obtain ⟨rfl, rfl, rfl⟩ := hv
          clear HO6 hN
          go_wp2_with fail
          refine CL.out.mono ?_
          rintro e' w9 ⟨v9, rfl, o9, hb9⟩
          have HO9 := hide o9
          have HB9 := hide hb9
          obtain ⟨p9, l9, c9, rfl⟩ := o9.slice
          clear o9 hb9 CL q0 q1 b0 b1 b2 b3
          go_wp2
          go_roundw
          case rel => exact ⟨s + 1, by omega, by go_num, below_step HB26.out HB9.out, by
            show _ ∧ _
            rw [HRG.out]
            exact ⟨HO9.out.base HB26.out.size, fun hnil => absurd (cloL_pos es S (2 * e)) (by rw [hnil]; simp)⟩⟩
          case measure => simp [intOf]; omega
        · obtain ⟨gr, cr', hv, _, _, _⟩ := iowns_block HO6.out.1 (List.length_pos_iff.2 hN)
          simp only [Value.slice.injEq] at hv
          obtain ⟨rfl, rfl, rfl⟩ := hv
          by_cases hD : le < L.length
          · rw [if_pos ⟨i3, Or.inr hD⟩] at HRG
            clear HO6 hN
            go_wp2_with fail
            refine CL.out.mono ?_
            rintro e' w9 ⟨v9, rfl, o9, hb9⟩
            have HO9 := hide o9
            have HB9 := hide hb9
            obtain ⟨p9, l9, c9, rfl⟩ := o9.slice
            clear o9 hb9 CL q0 q1 b0 b1 b2 b3
            go_wp2
            go_roundw
            case rel => exact ⟨s + 1, by omega, by go_num, below_step HB26.out HB9.out, by
              show _ ∧ _
              rw [HRG.out]
              exact ⟨HO9.out.base HB26.out.size, fun hnil => absurd (cloL_pos es S (2 * e)) (by rw [hnil]; simp)⟩⟩
            case measure => simp [intOf]; omega
          · rw [if_neg (fun hc => hc.2.elim hN hD)] at HRG
            clear CL
            go_wp2
            go_roundw
            case rel => exact ⟨s + 1, by omega, by go_num, HB26.out, by show _ ∧ _; rw [HRG.out]; exact HO6.out⟩
            case measure => simp [intOf]; omega
      · rw [if_neg (fun hc => hA hc.1)] at HRG
        clear HNF
        go_wp2
        go_roundw
        case rel => exact ⟨s + 1, by omega, by go_num, HB26.out, by show _ ∧ _; rw [HRG.out]; exact HO6.out⟩
        case measure => simp [intOf]; omega
    · have hsm : s = m := by omega
      have i1 : ¬ (s : Int) < m := by omega
      rw [hsm] at HO i1 ⊢
      clear hsm hlt hs
      have hsz := HB.out.size
      have hsz2 := HBW.out.size
      by_cases hN : rgN es m m = []
      · have hv := HO.out.2 hN
        simp only [Value.slice.injEq] at hv
        obtain ⟨rfl, rfl, rfl⟩ := hv
        go_wp2
        go_ret2
        exact ⟨_, rfl, IOwns.nil _ _, below_step HB.out (below_step HBW.out HBr.out)⟩
      · obtain ⟨gr, cr', hv, _, _, _⟩ := iowns_block HO.out.1 (List.length_pos_iff.2 hN)
        simp only [Value.slice.injEq] at hv
        obtain ⟨rfl, rfl, rfl⟩ := hv
        go_wp2
        go_ret2
        exact ⟨_, rfl, HO.out.1.base (by omega), below_step HB.out (below_step HBW.out HBr.out)⟩
end Go.Proofs.Ytghffodjffkijaa
