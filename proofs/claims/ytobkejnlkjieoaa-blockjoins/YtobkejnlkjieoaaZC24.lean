/- ears, walked. -/
import Derived.Test.YtobkejnlkjieoaaZC23
import Derived.Deep.QuietTactic
import Derived.BigQuiet
import Derived.Test.YtobkejnlkjieoaaZC21
import Derived.Test.YtobkejnlkjieoaaZC08
namespace Go.Proofs.Ytobkejnlkjieoaa
open Go.RowKit Go.Sort
open Go
set_option maxRecDepth 100000 in
set_option maxHeartbeats 16000000 in
theorem ears47 (m : Nat) (p : Option Addr) (es : List Pt) (cp : Nat) (w : World) (h : Has w p es) (hm : netB m es = true) (h1m : 1 ≤ m) : Calls Try.prog 47 #[nv m p es.length cp] w fun e w' => ∃ v, e = .returned v ∧ EL w' w.heap.size v (earsB m es) ∧ Below w.heap.size w w' := by
  obtain ⟨W, hW, hb, a0⟩ := one_net w m p es.length cp
  obtain ⟨n0, n1, hes, hE⟩ := netB_is hm
  have HM := hide hm
  have HP0 : Hid (∀ a, p = some a → es = [] ∨ a.block < w.heap.size) := fun a ha => by
    rcases h with h | ⟨b, off, h1, h2⟩
    · exact Or.inl h
    · by_cases he : es = []
      · exact Or.inl he
      · right
        have h3 := block_lt_of_cell (h2 0 (List.length_pos_iff.2 he)).1
        rw [h1] at ha
        injection ha with ha
        rw [← ha]
        exact h3
  have HH := hide (h.later hb)
  have HB := hide hb
  have HA := hide a0
  have hws : w.heap.size < W.heap.size := block_lt_of_cell a0.1
  have HSZ : Hid (w.heap.size ≤ W.heap.size) := Nat.le_of_lt hws
  have HR := hide (dOneSt_reach hm (show 0 < m from h1m)).1
  have C68 := hide (depth14all m p es cp 0 W HH.out hm h1m)
  obtain ⟨kb, hkb⟩ : ∃ kb, w.heap.size = kb := ⟨_, rfl⟩
  have HS : Hid (∀ V, Below W.heap.size W V → V.cell? ⟨kb, 0, none⟩ = some (.int .i64 m) ∧ V.cell? ⟨kb, 1, none⟩ = some (.slice p es.length cp)) := fun V hV => by
    obtain ⟨r0, r1, _, _⟩ := HA.out.later hV
    rw [hkb] at r0 r1
    exact ⟨r0, r1⟩
  have HKB := hide hkb
  have HEB : Hid (earsB m es = (earO es m (dOneSt es m 0) (dOneSt es m 0).O.length).2) := rfl
  obtain ⟨st, hst⟩ : ∃ st, dOneSt es m 0 = st := ⟨_, rfl⟩
  rw [hst] at HR HEB C68
  have hol : st.O.length ≤ 1024 := by have := HR.out.ok.cnt; omega
  obtain ⟨q0, q1⟩ := HS.out W (Below.refl _ _)
  obtain ⟨j0, hj0, jz0, jz1, jz2⟩ := info_parts info4
  clear h hb hE hm a0 hws hst
  go_enter Try.func47, Try.ntmps47
  go_upto_region 1 with fail
  rw [← hW]
  try rw [hkb]
  clear hW hkb
  go_wp2_with fail
  refine C68.out.mono ?_
  rintro e w1 ⟨v, gl, rfl, hT, _, hb1⟩
  obtain ⟨vo, gb, gf, hv, hO, hBy, hFa, hne1, _, _⟩ := hT
  subst hv
  obtain ⟨po, co, rfl, _⟩ := hO.form
  unfold tv
  obtain ⟨V, hV⟩ : ∃ V, V = w1.alloc (.cells #[.slice po st.O.length co, .slice (some ⟨gb, 0, none⟩) m m, .slice (some ⟨gf, 0, none⟩) m m, .slice (some ⟨gl, 0, none⟩) m m] 60) := ⟨_, rfl⟩
  have hbV : Below w1.heap.size w1 V := by rw [hV]; go_grown
  obtain ⟨kt, hkt⟩ : ∃ k, w1.heap.size = k := ⟨_, rfl⟩
  have t0 : V.cell? ⟨kt, 0, none⟩ = some (.slice po st.O.length co) := by rw [hV, ← hkt]; go_cell
  have t1 : V.cell? ⟨kt, 1, none⟩ = some (.slice (some ⟨gb, 0, none⟩) m m) := by rw [hV, ← hkt]; go_cell
  have t2 : V.cell? ⟨kt, 2, none⟩ = some (.slice (some ⟨gf, 0, none⟩) m m) := by rw [hV, ← hkt]; go_cell
  have HT : Hid (∀ X, Below V.heap.size V X → X.cell? ⟨kt, 0, none⟩ = some (.slice po st.O.length co) ∧ X.cell? ⟨kt, 1, none⟩ = some (.slice (some ⟨gb, 0, none⟩) m m) ∧ X.cell? ⟨kt, 2, none⟩ = some (.slice (some ⟨gf, 0, none⟩) m m)) := fun X hX => ⟨later hX t0, later hX t1, later hX t2⟩
  have HBV := hide (below_step hb1 hbV)
  have HO := hide ((show IOwns w1 W.heap.size (.slice po st.O.length co) st.O from hO).later hbV)
  have HBy := hide (hBy.later hbV)
  have HFa := hide (hFa.later hbV)
  have C69 := hide (outs69 m p es cp V (HH.out.later HBV.out) HM.out)
  have HKT := hide hkt
  clear hb1 hbV hO hBy hFa C68 q0 q1 t0 t1 t2 hne1
  obtain ⟨q0, q1⟩ := HS.out V HBV.out
  go_upto_region 2 with fail
  try rw [HKT.out]
  rw [← hV]
  clear hV hkt
  go_wp2_with fail
  refine C69.out.mono ?_
  rintro e w2 ⟨g, gr, X, rfl, hOR, hb2⟩
  have HB2 := hide hb2
  have HOR := hide hOR
  clear hOR hb2 C69 q0 q1
  obtain ⟨q0, q1⟩ := HS.out w2 (below_step HBV.out HB2.out)
  go_wp2_with (refine wpList_make_full _ rfl (.tmp 21) (.tmp 21) 55 rfl w2.heap.size 4 j0 (.bool false) 1 Try.underlying55 hj0 jz0 jz1 .i64 .i64 _ _ m rfl rfl rfl rfl ?c1 ?c2 ?c3 ?_)
  case c1 => rw [jz2]; omega
  case c2 => unfold maxLen; omega
  case c3 => exact Nat.le_refl _
  intro w5 hown hgrow
  obtain ⟨gon, hgon⟩ : ∃ g, w2.heap.size = g := ⟨_, rfl⟩
  have hb5 := below_made hgrow
  have hon : BRow w5 gon gon m (fun _ => false) := by
    rw [hgon] at hown
    exact brow_made (by simpa using hown)
  have HB5 := hide (below_step HB2.out hb5)
  have HT5 := HT.out w5 HB5.out
  have HQ5 := HS.out w5 (below_step HBV.out HB5.out)
  have HO5 := hide (HO.out.later HB5.out)
  have HBy5 := hide (HBy.out.later HB5.out)
  have HFa5 := hide (HFa.out.later HB5.out)
  have HOR5 := hide (HOR.out.later hb5)
  have HH5 := hide ((HH.out.later HBV.out).later HB5.out)
  have hgl5 := hon.lt.2
  have HON5 := hide (hon.put 0 true)
  obtain ⟨z0, z1⟩ := hon.cell (show 0 < m from h1m)
  have HLT : Hid (kt < gon ∧ kb < gon ∧ W.heap.size ≤ gon) := by
    have h1 := HBV.out.size
    have h2 := HB2.out.size
    have h3 := block_lt_of_cell (HT.out V (Below.refl _ _)).1
    have h4 := block_lt_of_cell (HS.out V HBV.out).1
    simp at h3 h4
    exact ⟨by omega, by omega, by omega⟩
  have HPG : Hid (∀ a, p = some a → es = [] ∨ ¬ a.block = gon) := fun a ha => (HP0.out a ha).imp_right fun h => by
    have := HLT.out
    have := HSZ.out
    omega
  have HHc : Hid (∀ wr, Frame w5 wr (fun b => b = gon) → Has wr p es) := fun wr f => f.has HH5.out fun a ha => HPG.out a ha
  have HOc : Hid (∀ wr, Frame w5 wr (fun b => b = gon) → ∀ j, j < st.O.length → ∃ b off, po = some ⟨b, off, none⟩ ∧ wr.cell? ⟨b, off + j, none⟩ = some (.int .i64 (iat st.O j))) := fun wr f j hj => by
    obtain ⟨p2, c2, h2, h3, _⟩ := HO5.out.form
    injection h2 with h2 _ h2'
    subst h2
    obtain ⟨b, off, e1, e2⟩ := h3.at_ hj
    refine ⟨b, off, e1, f.cell e2 ?_⟩
    have h4 := (own_lt HO.out (b := b) (by rw [e1]; rfl)).2
    have h5 := HB2.out.size
    show ¬ b = gon
    omega
  have HRc : Hid (∀ wr, Frame w5 wr (fun b => b = gon) → ∀ u, u < m → wr.cell? ⟨gb, u, none⟩ = some (.int .i64 (iat st.By u)) ∧ wr.cell? ⟨gf, u, none⟩ = some (.int .i64 (iat st.Fa u))) := fun wr f u hu => by
    have h1 := HBy.out.lt.2
    have h2 := HFa.out.lt.2
    have h5 := HB2.out.size
    exact ⟨f.cell (HBy5.out.cell hu).1 (show ¬ gb = gon by omega), f.cell (HFa5.out.cell hu).1 (show ¬ gf = gon by omega)⟩
  have HBc : Hid (gb ≠ gon ∧ ∀ wr, Frame w5 wr (fun b => b = gon) → IHas wr (some ⟨gb, 0, none⟩) (fnL m (iat st.By))) := by
    have h1 := HBy.out.lt.2
    have h5 := HB2.out.size
    refine ⟨by omega, fun wr f => ?_⟩
    rw [fnL_iat HR.out.ok.lb]
    exact (show IRow wr W.heap.size gb m st.By from ⟨HBy5.out.1, f.row HBy5.out.2 fun i hi => by simp [Value.ownBlock] at hi; omega⟩).has
  have HWc : Hid (∀ wr, Frame w5 wr (fun b => b = gon) → ∀ u, u < m → wr.cell? ⟨g, u, none⟩ = some (rvB es gr (2 * es.length) u) ∧ IHas wr (some ⟨gr, ovB es u, none⟩) (ob es u)) := fun wr f u hu => by
    have h1 := HOR.out.room.lt.2
    have h2 := (World.ownsRow.lt HOR.out.rows g rfl).2
    refine ⟨f.cell (HOR5.out.cell hu).1 (show ¬ g = gon by omega), ?_⟩
    obtain ⟨a, c, e1, e2, _⟩ := (HOR5.out.qrow HM.out).row u hu
    have e1' : Value.slice (some ⟨gr, ovB es u, none⟩) (odH es (2 * es.length) u) (odH es (2 * es.length) u) = .slice a ((ob es u).drop 0).length c := e1
    injection e1' with e1' _ _
    subst e1'
    rw [List.drop_zero] at e2
    rcases e2 with e2 | ⟨b, off, e3, e4⟩
    · exact Or.inl e2
    · injection e3 with e3
      injection e3 with e3 e5
      subst e3; subst e5
      exact Or.inr ⟨gr, ovB es u, rfl, fun k hk => f.cell (e4 k hk) (show ¬ gr = gon by omega)⟩
  rw [hgon]
  have HGON := hide hgon
  clear hown hgrow hb5 hgon hon HT HS HO HBy HFa HOR q0 q1
  obtain ⟨T0, T1, T2⟩ := HT5
  obtain ⟨Q0, Q1⟩ := HQ5
  have hm0 : (0 : Int) < m := by omega
  have HC : Hid (∀ wr, Frame w5 wr (fun b => b = gon) → (wr.cell? ⟨kt, 0, none⟩ = some (.slice po st.O.length co) ∧ wr.cell? ⟨kt, 1, none⟩ = some (.slice (some ⟨gb, 0, none⟩) m m) ∧ wr.cell? ⟨kt, 2, none⟩ = some (.slice (some ⟨gf, 0, none⟩) m m)) ∧ wr.cell? ⟨kb, 0, none⟩ = some (.int .i64 m) ∧ wr.cell? ⟨kb, 1, none⟩ = some (.slice p es.length cp)) := fun wr f => by
    obtain ⟨l1, l2, _⟩ := HLT.out
    exact ⟨⟨f.cell T0 (show ¬ kt = gon by omega), f.cell T1 (show ¬ kt = gon by omega), f.cell T2 (show ¬ kt = gon by omega)⟩, f.cell Q0 (show ¬ kb = gon by omega), f.cell Q1 (show ¬ kb = gon by omega)⟩
  have hF0 : Frame w5 (w5.setCell ⟨gon, 0, none⟩ (.bool true)) (fun b => b = gon) := Frame.set _ _ _ rfl
  obtain ⟨⟨T0', _, _⟩, _, _⟩ := HC.out _ hF0
  have HF0 := hide hF0
  clear T0 T1 T2 Q0 Q1 hF0
  go_upto_region 7 with fail
  clear z0 z1
  go_loopw [7, 28] (fun t7 t28 wr => ∃ (j : Nat) (pl : Option Addr) (cl : Nat), j ≤ st.O.length ∧ t28 = .int .i64 j ∧ t7 = .slice pl (earO es m st j).2.length cl ∧ Hid (Frame w5 wr (fun b => b = gon)) ∧ Hid (BRow wr gon gon m (earO es m st j).1) ∧ Hid (EL wr w5.heap.size (.slice pl (earO es m st j).2.length cl) (earO es m st j).2)) (fun _ t _ => st.O.length - (intOf t).toNat)
  case atStart => exact ⟨0, none, 0, by omega, rfl, rfl, HF0.out, HON5.out, EL.nil _ _⟩
  case round =>
    clear HF0 HON5 T0'
    obtain ⟨j, pl, cl, hj, rfl, rfl, HF, HON, HEL⟩ := hrel
    by_cases hlt : j < st.O.length
    · obtain ⟨b, off, hpo, c0⟩ := HOc.out wr HF.out j hlt
      subst hpo
      obtain ⟨o1, o2⟩ := HR.out.ok.mem j hlt
      have hfnd := HR.out.ok.fnd j hlt
      obtain ⟨v, hv⟩ : ∃ v : Nat, iat st.O j = v := ⟨(iat st.O j).toNat, by omega⟩
      rw [hv, Int.toNat_natCast] at hfnd
      rw [hv] at c0 o2
      have hvm : v < m := by omega
      obtain ⟨w0, w1'⟩ := HWc.out wr HF.out v hvm
      have i1 : (j : Int) < st.O.length := by omega
      have i2 : (0 : Int) ≤ j := by omega
      have i3 : (v : Int) < m := by omega
      have i4 : (0 : Int) ≤ v := by omega
      have HNX : Hid (earO es m st (j + 1) = earV es m st v (earO es m st j) (ob es v).length) := by show _ = _; rw [earO, hv, Int.toNat_natCast]
      have HVF : Hid (0 ≤ iat st.Fa v) := hfnd
      have HV0 : Hid (rvB es gr (2 * es.length) v = .slice (some ⟨gr, ovB es v, none⟩) (ob es v).length (ob es v).length) := rfl
      obtain ⟨s0, hs0⟩ : ∃ s, earO es m st j = s := ⟨_, rfl⟩
      have HS0L : Hid (s0.2.length ≤ j * 6144) := by show _ ≤ _; rw [← hs0]; exact earO_len HM.out j
      have HS0 : Hid (s0.1 0 = true) := by show _ = _; rw [← hs0]; exact earO_on j
      rw [hs0] at HON HEL HNX ⊢
      rw [HV0.out] at w0
      have hobl := ob_le HM.out v
      obtain ⟨lb, hlb⟩ : ∃ l, (ob es v).length = l := ⟨_, rfl⟩
      have HLB := hide hlb
      rw [hlb] at w0 HNX hobl
      clear o1 o2 hfnd hv hs0 hlb w1'
      go_upto_region 9 with fail
      go_wp2_with fail
      go_loopw [7, 37] (fun t7 t37 wr => ∃ (k : Nat) (pl : Option Addr) (cl : Nat), k ≤ lb ∧ t37 = .int .i64 k ∧ t7 = .slice pl (earV es m st v s0 k).2.length cl ∧ Hid (Frame w5 wr (fun b => b = gon)) ∧ Hid (BRow wr gon gon m (earV es m st v s0 k).1) ∧ Hid (EL wr w5.heap.size (.slice pl (earV es m st v s0 k).2.length cl) (earV es m st v s0 k).2)) (fun _ t _ => lb - (intOf t).toNat)
      case atStart => exact ⟨0, pl, cl, by omega, rfl, rfl, HF.out, HON.out, HEL.out⟩
      case round =>
        clear HF HON HEL c0 w0
        obtain ⟨k, pl, cl, hk, rfl, rfl, HF, HON, HEL⟩ := hrel
        by_cases hkl : k < lb
        · obtain ⟨⟨T0, T1, T2⟩, Q0, Q1⟩ := HC.out wr HF.out
          have hkl' : k < (ob es v).length := by have := HLB.out; omega
          obtain ⟨b2, off2, e1, c1⟩ := (HWc.out wr HF.out v hvm).2.at_ hkl'
          simp only [Option.some.injEq, Addr.mk.injEq, and_true] at e1
          obtain ⟨rfl, rfl⟩ := e1
          obtain ⟨hh, d1, d2, d3⟩ := outL_at hkl'
          have d1' : iat (ob es v) k = hh := d1
          rw [d1'] at c1
          have hx1 := toL_in HM.out hh d2
          obtain ⟨x, hx⟩ : ∃ x : Nat, toL es hh = x := ⟨(toL es hh).toNat, by omega⟩
          have hxm : x < m := by omega
          have hgx : gN es hh = x := by unfold gN; rw [hx]; simp
          have hfx := HR.out.shut hh v x d2 d3 hx HVF.out
          have HST : Hid (earV es m st v s0 (k + 1) = earH es m st v hh (earV es m st v s0 k)) := by show _ = _; rw [earV, d1', Int.toNat_natCast]
          have HGX := hide hgx
          have HD2 := hide d2
          have hhb : hh ≤ 100000 := by omega
          have HFX : Hid (0 ≤ iat st.Fa x) := hfx
          have HSNL : Hid ((earV es m st v s0 k).2.length ≤ 10000000) := by
            show _ ≤ _
            have h1 := earV_len (es := es) (m := m) (st := st) (v := v) (s := s0) k
            have h2 := HS0L.out
            omega
          have HSN : Hid ((earV es m st v s0 k).1 0 = true) := earV_on HS0.out k
          have C70 := hide (comes54 m p es cp hh wr (HHc.out wr HF.out) d2 (by omega))
          obtain ⟨sn, hsn⟩ : ∃ s, earV es m st v s0 k = s := ⟨_, rfl⟩
          rw [hsn] at HST HSN HSNL HON HEL ⊢
          have j1 : (k : Int) < lb := by omega
          have j2 : (0 : Int) ≤ k := by omega
          have j3 : (x : Int) < m := by omega
          have j4 : (0 : Int) ≤ x := by omega
          clear d1 d1' d2 d3 hx1 hgx hfx hsn hkl'
          go_wp2_with fail
          refine C70.out.mono ?_
          rintro e w6 ⟨rfl, hb6⟩
          rw [hx]
          have HF6 : Hid (Frame w5 w6 (fun b => b = gon)) := HF.out.trans (Frame.of_below hb6 _)
          have HON6 := hide (HON.out.later hb6)
          have HEL6 := hide (HEL.out.later hb6)
          clear hb6 C70 HF HON HEL T0 T1 T2 Q0 Q1 c1 hx
          obtain ⟨⟨T0, T1, T2⟩, Q0, Q1⟩ := HC.out w6 HF6.out
          obtain ⟨y0, y1⟩ := HRc.out w6 HF6.out x hxm
          obtain ⟨_, y2⟩ := HRc.out w6 HF6.out v hvm
          have HIF : Hid (earH es m st v hh sn = if iat st.Fa v < iat st.Fa x ∧ iat st.By x ≠ (hh : Int) then ((climbF es (iat st.By) m sn.1 x).2, sn.2 ++ [(hh : Int) :: (climbF es (iat st.By) m sn.1 x).1]) else sn) := by show _ = _; unfold earH; rw [HGX.out]
          obtain ⟨fx, hfx⟩ : ∃ z, iat st.Fa x = z := ⟨_, rfl⟩
          obtain ⟨fv, hfv⟩ : ∃ z, iat st.Fa v = z := ⟨_, rfl⟩
          obtain ⟨bx, hbx⟩ : ∃ z, iat st.By x = z := ⟨_, rfl⟩
          rw [hfx, hfv, hbx] at HIF
          rw [hfx] at y1
          rw [hfv] at y2
          rw [hbx] at y0
          have HF7 : Hid (Frame w5 w6.drew (fun b => b = gon)) := HF6.out.trans (Frame.of_below (below_drew _) _)
          have HON7 := hide (HON6.out.later (below_drew _))
          have HEL7 := hide (HEL6.out.later (below_drew _))
          clear hfx hfv hbx
          by_cases hff : fv < fx
          · by_cases hbh : bx = hh
            · have hne : earH es m st v hh sn = sn := by rw [HIF.out, if_neg (fun k => k.2 hbh)]
              have HNE : Hid (earV es m st v s0 (k + 1) = sn) := by show _ = _; rw [HST.out, hne]
              subst hbh
              clear hne HIF HST HF6 HON6 HEL6
              go_upto_region 13 with fail
              go_region
              go_wp2
              go_roundw
              case rel => exact ⟨k + 1, pl, cl, by omega, by go_num, by rw [HNE.out], HF7.out, by rw [HNE.out]; exact HON7.out, by rw [HNE.out]; exact HEL7.out⟩
              case measure => simp [intOf]; omega
            · have hye : earH es m st v hh sn = ((climbF es (iat st.By) m sn.1 x).2, sn.2 ++ [(hh : Int) :: (climbF es (iat st.By) m sn.1 x).1]) := by rw [HIF.out, if_pos ⟨hff, hbh⟩]
              have HNE : Hid (earV es m st v s0 (k + 1) = ((climbF es (iat st.By) m sn.1 x).2, sn.2 ++ [(hh : Int) :: (climbF es (iat st.By) m sn.1 x).1])) := by show _ = _; rw [HST.out, hye]
              clear hye HIF HST HF6 HON6 HEL6
              go_upto_region 13 with fail
              go_region
              obtain ⟨w7, hw7⟩ : ∃ w7, w7 = w6.drew := ⟨_, rfl⟩
              have hw7' := hw7.symm
              rw [hw7'] at HF7 HON7 HEL7 ⊢
              clear hw7 hw7' T0 T1 T2 Q0 Q1 y0 y1 y2
              obtain ⟨⟨T0, T1, T2⟩, Q0, Q1⟩ := HC.out w7 HF7.out
              have hg5 := HLT.out
              have hs7 := HF7.out.size
              have C71 := hide (climb71 m p (some ⟨gb, 0, none⟩) es cp m hh (iat st.By) gon gon sn.1 (fun v => v < m ∧ 0 ≤ iat st.Fa v) w7 (HHc.out w7 HF7.out) HM.out (HBc.out.2 w7 HF7.out) HON7.out HPG.out (fun a ha => by injection ha with ha; rw [← ha]; exact HBc.out.1) HD2.out (reach_up HR.out HSN.out) (by rw [HGX.out]; exact ⟨hxm, HFX.out⟩))
              rw [HGX.out] at C71
              obtain ⟨cl2, hcl2⟩ : ∃ c, climbF es (iat st.By) m sn.1 x = c := ⟨_, rfl⟩
              rw [hcl2] at C71 HNE
              clear hcl2
              go_wp2_with fail
              refine C71.out.mono ?_
              rintro e w8 ⟨vv, rfl, hLv, hOn8, hF8⟩
              obtain ⟨pv, cv, rfl, _⟩ := hLv.form
              obtain ⟨lv, hlv⟩ : ∃ l, ((hh : Int) :: cl2.1).length = l := ⟨_, rfl⟩
              rw [hlv] at hLv ⊢
              obtain ⟨Z, hZ⟩ : ∃ Z, Z = w8.alloc (.cells #[.slice pv lv cv] 32) := ⟨_, rfl⟩
              have hbZ : Below w8.heap.size w8 Z := by rw [hZ]; go_grown
              have hlit : Z.cell? ⟨w8.heap.size, 0, none⟩ = some (.slice pv lv cv) := by rw [hZ]; go_cell
              have hFZ : Frame w7 Z (fun b => b = gon) := hF8.trans (Frame.of_below hbZ _)
              obtain ⟨T, hT⟩ : ∃ T, ((hh : Int) :: cl2.1) = T := ⟨_, rfl⟩
              rw [hT] at hLv HNE
              obtain ⟨p9, c9, D, e9, hEL9, gr9⟩ := EL.push (g := gon) (L := T) HEL7.out hFZ hgl5 hs7 (hLv.later hbZ) hlit HSNL.out
              have hsp := hbZ.size
              have hF8s := hF8.size
              have HF9 : Hid (Frame w5 D (fun b => b = gon)) := by
                have f1 : Frame Z D (fun b => (Value.slice pl sn.2.length cl).ownBlock = some b) := Frame.grown gr9 fun i hi => hi
                have f2 : Frame w7 D (fun b => b = gon ∨ (Value.slice pl sn.2.length cl).ownBlock = some b) := (hFZ.mono fun i _ h => Or.inl h).trans (f1.mono fun i _ h => Or.inr h)
                refine (HF7.out.mono (q := fun b => b = gon ∨ (Value.slice pl sn.2.length cl).ownBlock = some b) fun i _ h => Or.inl h).trans f2 |>.mono fun i hi h => ?_
                rcases h with h | h
                · exact h
                · obtain ⟨rv0, a1, _, _⟩ := HEL7.out
                  have := (own_lt a1 h).1
                  omega
              have HON9 : Hid (BRow D gon gon m cl2.2) := World.ownsRow.kept (hOn8.later hbZ) gr9 (Or.inr (fun e => by
                obtain ⟨rv0, a1, _, _⟩ := HEL7.out
                have := (own_lt a1 (b := gon) e.symm).1
                omega))
              have HEL9 := hide hEL9
              rw [hZ] at e9
              have hlen9 : Hid ((sn.2 ++ [T]).length = sn.2.length + 1) := by show _ = _; simp
              clear hLv hOn8 hF8 hlit hbZ hFZ hEL9 gr9 hZ hsp hF8s C71 hlv hT
              go_wp2_with (at_builtin; refine wpList_run_append rfl (.tmp 64) (.tmp 71) 29 rfl 29 rfl _ _ _ D rfl rfl e9 ?_)
              clear e9
              go_wp2
              go_roundw
              case rel => exact ⟨k + 1, p9, c9, by omega, by go_num, by rw [HNE.out, hlen9.out], HF9.out, by rw [HNE.out]; exact HON9.out, by rw [HNE.out]; show EL _ _ (.slice p9 (sn.2 ++ [T]).length c9) _; rw [hlen9.out]; exact HEL9.out⟩
              case measure => simp [intOf]; omega
          · have hne : earH es m st v hh sn = sn := by rw [HIF.out, if_neg (fun k => hff k.1)]
            have HNE : Hid (earV es m st v s0 (k + 1) = sn) := by show _ = _; rw [HST.out, hne]
            have hff' : decide (fv < fx) = false := by simp; omega
            clear hne HIF HST HF6 HON6 HEL6 hff
            go_upto_region 13 with fail
            go_region
            go_wp2
            go_roundw
            case rel => exact ⟨k + 1, pl, cl, by omega, by go_num, by rw [HNE.out], HF7.out, by rw [HNE.out]; exact HON7.out, by rw [HNE.out]; exact HEL7.out⟩
            case measure => simp [intOf]; omega

        · have hkn : k = lb := by omega
          have hk' : ¬ (k : Int) < lb := by omega
          have HNE : Hid (earV es m st v s0 k = earO es m st (j + 1)) := by show _ = _; rw [HNX.out, hkn]
          rw [HNE.out] at HON HEL ⊢
          clear hkn hkl
          go_wp2
          go_roundw
          case rel => exact ⟨j + 1, pl, cl, by omega, by go_num, rfl, HF.out, HON.out, HEL.out⟩
          case measure => simp [intOf]; omega
    · have hjn : j = st.O.length := by omega
      have hlt' : ¬ (j : Int) < st.O.length := by omega
      have HE2 : Hid (EL wr w.heap.size (.slice pl (earO es m st j).2.length cl) (earsB m es)) := by
        show EL _ _ _ _
        rw [HEB.out, ← hjn]
        refine HEL.out.base ?_
        have := HLT.out
        have := HSZ.out
        omega
      have HFF : Hid (Below w.heap.size w wr) := by
        show Below _ _ _
        have h1 : Below w.heap.size w w5 := below_step (below_step HB.out HBV.out) HB5.out
        have h2 := ((Frame.of_below h1 (fun b => b = gon)).trans HF.out).below (B := w.heap.size) (Nat.le_refl _) (fun i hi => by have := HLT.out; have := HSZ.out; omega)
        exact h2
      clear hjn hlt HF HON HEL
      go_wp2
      go_ret
      exact ⟨_, rfl, HE2.out, HFF.out⟩
end Go.Proofs.Ytobkejnlkjieoaa

/- Biconnected. -/
namespace Go.Proofs.Ytobkejnlkjieoaa
open Go.RowKit Go.Sort
open Go
/-- How many components a net has, as Parts counts them. -/
def pcB (m : Nat) (es : List Pt) : Nat := pcnt (everyN es m m).O (everyN es m m).By (everyN es m m).O.length
/-- What Biconnected tells. -/
def biB (n : Int) (es : List Pt) : Bool := decide (2 ≤ n) && (decide (pcB n.toNat es = 1) && decide (ctsB n.toNat es = 1))
set_option maxRecDepth 100000 in
set_option maxHeartbeats 8000000 in
theorem biconnected14 (n : Int) (p : Option Addr) (es : List Pt) (cp : Nat) (w : World) (h : Has w p es) : Calls Try.prog 14 #[nv n p es.length cp] w fun e w' => (e = .returned (.tuple #[.bool (netB n es && biB n es), .int .i64 (if netB n es then 0 else 1)])) ∧ Below w.heap.size w w' := by
  obtain ⟨W, hW, hb, a0⟩ := one_net w n p es.length cp
  have HH := hide (h.later hb)
  have HB := hide hb
  have HA := hide a0
  have hws : w.heap.size < W.heap.size := block_lt_of_cell a0.1
  have C1 := hide (blocks11 n p es cp W (h.later hb))
  obtain ⟨kb, hkb⟩ : ∃ kb, w.heap.size = kb := ⟨_, rfl⟩
  have HS : Hid (∀ V, Below W.heap.size W V → V.cell? ⟨kb, 0, none⟩ = some (.int .i64 n) ∧ V.cell? ⟨kb, 1, none⟩ = some (.slice p es.length cp)) := fun V hV => by
    obtain ⟨r0, r1, _, _⟩ := HA.out.later hV
    rw [hkb] at r0 r1
    exact ⟨r0, r1⟩
  have HKB := hide hkb
  obtain ⟨q0, q1⟩ := HS.out W (Below.refl _ _)
  obtain ⟨R, hR⟩ : ∃ R, (Value.tuple #[.bool (netB n es && biB n es), .int .i64 (if netB n es then 0 else 1)]) = R := ⟨_, rfl⟩
  have HR := hide hR
  rw [hR]
  clear h hb a0 hws hR
  go_enter Try.func14, Try.ntmps14
  go_upto_region 1 with fail
  rw [← hW]
  try rw [hkb]
  clear hW hkb
  go_wp2_with fail
  refine C1.out.mono ?_
  rintro e w1 ⟨hpost, hb1⟩
  have HB1 := hide hb1
  clear C1 q0 q1
  obtain ⟨q0, q1⟩ := HS.out w1 hb1
  rcases hpost with ⟨hm, g, v, rfl, hI, hO⟩ | ⟨hm, rfl⟩
  · obtain ⟨n0, n1, hes, _⟩ := netB_is hm
    obtain ⟨m, rfl⟩ : ∃ m : Nat, n = m := ⟨n.toNat, by omega⟩
    rw [show ((m : Nat) : Int).toNat = m from Int.toNat_natCast m] at *
    have HM := hide hm
    obtain ⟨pv, cv, rfl, _⟩ := hO.form
    have hRR := HR.out
    have hcl := cts_le (n := m) hm
    obtain ⟨ct, hct⟩ : ∃ c, ctsB m es = c := ⟨_, rfl⟩
    obtain ⟨pc, hpc⟩ : ∃ c, pcB m es = c := ⟨_, rfl⟩
    rw [hm] at hRR
    unfold biB at hRR
    rw [show ((m : Nat) : Int).toNat = m from Int.toNat_natCast m, hct, hpc] at hRR
    simp only [Bool.true_and, if_true] at hRR
    have HRR := hide hRR
    obtain ⟨lc, hlc⟩ : ∃ l, (cutsB m es).length = l := ⟨_, rfl⟩
    rw [hlc, hct]
    rw [hct] at hcl
    unfold blV
    obtain ⟨V, hV⟩ : ∃ V, V = w1.alloc (.cells #[.slice (some ⟨g, 0, none⟩) es.length es.length, .slice pv lc cv, .int .i64 ct] 34) := ⟨_, rfl⟩
    have hbV : Below w1.heap.size w1 V := by rw [hV]; go_grown
    obtain ⟨kt, hkt⟩ : ∃ k, w1.heap.size = k := ⟨_, rfl⟩
    have t2 : V.cell? ⟨kt, 2, none⟩ = some (.int .i64 ct) := by rw [hV, ← hkt]; go_cell
    have HBV := hide (below_step HB1.out hbV)
    have C41 := hide (parts15 m p es cp V (HH.out.later HBV.out) hm)
    have hpl : Hid (pcnt (everyN es m m).O (everyN es m m).By (everyN es m m).O.length = pc) := hpc
    have HKT := hide hkt
    clear hm hI hO hct hlc hb1 hRR q0 q1 hpc HR
    obtain ⟨q0, q1⟩ := HS.out V HBV.out
    go_upto_region 4 with fail
    try rw [HKT.out]
    rw [← hV]
    clear hV hbV
    go_wp2_with fail
    refine C41.out.mono ?_
    rintro e w3 ⟨gp, rfl, hI3, hb3⟩
    rw [hpl.out]
    have HB3 := hide (below_step HBV.out hb3)
    have t2' := later hb3 t2
    clear C41 hI3 hb3 t2 q0 q1
    obtain ⟨q0, q1⟩ := HS.out w3 HB3.out
    by_cases h1 : 2 ≤ m
    · have h1' : (2 : Int) ≤ m := by omega
      by_cases h2 : pc = 1
      · have h2' : (pc : Int) = 1 := by omega
        by_cases h3 : ct = 1
        · have h3' : (ct : Int) = 1 := by omega
          have hv : R = .tuple #[.bool true, .int .i64 0] := by rw [← HRR.out]; simp [h1', h2, h3]
          have HV := hide hv
          clear h2 h3 hv
          go_wp2
          go_ret2
          exact ⟨by rw [HV.out]; rfl, below_step HB.out HB3.out⟩
        · have h3' : ¬ (ct : Int) = 1 := by omega
          have hv : R = .tuple #[.bool false, .int .i64 0] := by rw [← HRR.out]; simp [h3]
          have HV := hide hv
          clear h2 h3 hv
          go_wp2
          go_ret2
          exact ⟨by rw [HV.out]; simp [h3'], below_step HB.out HB3.out⟩
      · have h2' : ¬ (pc : Int) = 1 := by omega
        have hv : R = .tuple #[.bool false, .int .i64 0] := by rw [← HRR.out]; simp [h2]
        have HV := hide hv
        clear h2 hv
        go_wp2
        go_ret2
        exact ⟨by rw [HV.out]; simp, below_step HB.out HB3.out⟩
    · have h1' : (m : Int) < 2 := by omega
      have hv : R = .tuple #[.bool false, .int .i64 0] := by rw [← HRR.out]; simp; omega
      have HV := hide hv
      clear h1 hv
      go_wp2
      go_ret2
      exact ⟨by rw [HV.out]; simp, below_step HB.out HB3.out⟩
  · have hRR := HR.out
    rw [hm] at hRR
    have HRR := hide hRR
    clear hm hb1 hRR HR
    unfold blV
    go_wp2
    go_ret2
    exact ⟨by rw [← HRR.out]; rfl, below_step (below_step HB.out HB1.out) (by go_grown)⟩
end Go.Proofs.Ytobkejnlkjieoaa
