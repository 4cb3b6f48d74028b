/- BlockCuts' walk. -/
import Derived.Test.YtobkejnlkjieoaaZG02
import Derived.Test.YtobkejnlkjieoaaZH3
import Derived.BigRegion
namespace Go.Proofs.Ytobkejnlkjieoaa
open Go.RowKit Go.Sort
open Go
theorem LabX.cnt_le {es : List Pt} {G K : Nat → Bool} {n k s : Nat} {C : List Int} {r : Nat → Nat} {due : Nat → Nat → Prop} (h : LabX es G K n k s C r due) : k ≤ n := by
  have h1 := rel_len (l := List.range k) (l' := List.range n) (fun j v => r j = v) List.nodup_range (fun j hj => ⟨r j, List.mem_range.2 (h.root j (List.mem_range.1 hj)).1, rfl⟩) (fun i j v hi hj _ h1 h2 => by
    have hi := List.mem_range.1 hi
    have hj := List.mem_range.1 hj
    rcases Nat.lt_trichotomy i j with h3 | h3 | h3
    · have := h.inc i j h3 hj
      omega
    · exact h3
    · have := h.inc j i h3 hi
      omega)
  simp only [List.length_range] at h1
  exact h1
set_option maxRecDepth 100000 in
set_option maxHeartbeats 16000000 in
theorem blockcuts_walk (n : Int) (p : Option Addr) (es : List Pt) (cp : Nat) (w : World) (h : Has w p es) : Calls Try.prog 5 #[nv n p es.length cp] w fun e w' => e = .returned (.bool true) ∧ Below w.heap.size w w' := by
  obtain ⟨W, hW, hb, a0⟩ := one_net w n p es.length cp
  have HH := hide (h.later hb)
  have HB := hide hb
  have HA := hide a0
  have C1 := hide (begun8 W)
  obtain ⟨kb, hkb⟩ : ∃ kb, w.heap.size = kb := ⟨_, rfl⟩
  have HS : Hid (∀ V, Below W.heap.size W V → V.cell? ⟨kb, 0, none⟩ = some (.int .i64 n) ∧ V.cell? ⟨kb, 1, none⟩ = some (.slice p es.length cp)) := fun V hV => by
    obtain ⟨r0, r1, _, _⟩ := HA.out.later hV
    rw [hkb] at r0 r1
    exact ⟨r0, r1⟩
  obtain ⟨j0, hj0, jz0, jz1, jz2⟩ := info_parts info3
  obtain ⟨b0, hb0, bz0, bz1, bz2⟩ := info_parts info4
  clear h hb a0
  go_enter Try.func5, Try.ntmps5
  go_upto_region 1 with fail
  rw [← hW]
  try rw [hkb]
  clear hW hkb
  go_wp2_with fail
  refine C1.out.mono ?_
  rintro e w1 ⟨rfl, hb1⟩
  have HB1 := hide hb1
  have C2 := hide (light9 n p es cp w1 (HH.out.later hb1))
  obtain ⟨q0, q1⟩ := HS.out w1 hb1
  clear hb1 C1
  go_wp2_with fail
  refine C2.out.mono ?_
  rintro e w2 ⟨rfl, hb2⟩
  have HB2 := hide (below_step HB1.out hb2)
  obtain ⟨q0, q1⟩ := HS.out w2 HB2.out
  have C3 := hide (may12 n p es cp w2 (HH.out.later HB2.out))
  clear hb2 C2 HB1
  cases hli : liB n es
  · go_wp2_with fail
    go_ret
    exact ⟨rfl, below_step HB.out HB2.out⟩
  · go_wp2_with fail
    refine C3.out.mono ?_
    rintro e w3 ⟨rfl, hb3⟩
    have HB3 := hide (below_step HB2.out hb3)
    clear hb3 C3 HB2 q0 q1
    cases hm : netB n es
    · go_wp2_with fail
      go_ret
      exact ⟨rfl, below_step HB.out HB3.out⟩
    · obtain ⟨n0, n1, hes, hE⟩ := netB_is hm
      obtain ⟨m, rfl⟩ : ∃ m : Nat, n = m := ⟨n.toNat, by omega⟩
      have HM := hide hm
      have hl40 : m ≤ 40 ∧ es.length ≤ 60 := by
        have h1 := hli
        unfold liB at h1
        rw [hm] at h1
        simp at h1
        omega
      have HLI := hide hl40
      have C4 := hide (blocks11 m p es cp w3 (HH.out.later HB3.out))
      obtain ⟨q0, q1⟩ := HS.out w3 HB3.out
      clear hm hE hli
      go_wp2_with fail
      refine C4.out.mono ?_
      rintro e w4 ⟨hp, hb4⟩
      have HB4 := hide (below_step HB3.out hb4)
      clear C4 hb4 HB3 q0 q1
      rcases hp with ⟨_, g, v, rfl, hI, hO⟩ | ⟨hm, _⟩
      case inr => exact absurd HM.out (by rw [hm]; decide)
      rw [show ((m : Nat) : Int).toNat = m from Int.toNat_natCast m] at *
      obtain ⟨pv, cv, rfl, hCI, _, _, hpb⟩ := hO.form
      have HCI := hide hCI
      have HPB0 : Hid (∀ a, pv = some a → a.block < w4.heap.size) := fun a ha => (hpb a ha).2.2.2
      have hcl := cts_le (n := m) HM.out
      have hlc : (cutsB m es).length ≤ m := cut_len m es (ofB m es)
      have HCA : Hid (∀ t, t < (cutsB m es).length → 0 ≤ iat (cutsB m es) t ∧ iat (cutsB m es) t < m) := fun t ht => by
        obtain ⟨V, rt, b⟩ := bg_is HM.out
        obtain ⟨u, u1, u2, _⟩ := (cut_mem fun e he => (b.oin e he).1).1 (iat_mem ht)
        have u3 : iat (cutsB m es) t = u := u2
        omega
      have HTN := hide (tree_net HM.out HLI.out.1 HLI.out.2)
      unfold blV
      obtain ⟨ct, hct⟩ : ∃ c, ctsB m es = c := ⟨_, rfl⟩
      obtain ⟨L, hL⟩ : ∃ f, cutsB m es = f := ⟨_, rfl⟩
      rw [hct] at hcl ⊢
      rw [hL] at HCI HCA hlc ⊢
      have HLL := hide hL
      clear hI hO hct hL hCI hpb
      go_upto_region 6 with fail
      obtain ⟨V, hV⟩ : ∃ V, V = w4.alloc (.cells #[.slice (some ⟨g, 0, none⟩) es.length es.length, .slice pv L.length cv, .int .i64 ct] 34) := ⟨_, rfl⟩
      have hbV : Below w4.heap.size w4 V := by rw [hV]; go_grown
      obtain ⟨kt, hkt⟩ : ∃ k, w4.heap.size = k := ⟨_, rfl⟩
      have t1 : V.cell? ⟨kt, 1, none⟩ = some (.slice pv L.length cv) := by rw [hV, ← hkt]; go_cell
      have HT1 := hide t1
      have HBV := hide (below_step HB4.out hbV)
      have HCV := hide (HCI.out.later hbV)
      have HPB1 : Hid (∀ a, pv = some a → a.block < kt) := fun a ha => by
        have := HPB0.out a ha
        omega
      have C5 := hide (tree13 m p es cp V (HH.out.later HBV.out))
      obtain ⟨q0, q1⟩ := HS.out V HBV.out
      rw [← hV]
      try rw [hkt]
      clear hV hbV t1 HCI HB4 HPB0
      go_wp2_with fail
      refine C5.out.mono ?_
      rintro e w5 ⟨hp, hb5⟩
      have HB5 := hide (below_step HBV.out hb5)
      have HT5 := hide (later hb5 HT1.out)
      have HC5 := hide (HCV.out.later hb5)
      have HKT : Hid (kt < w5.heap.size) := by
        have := block_lt_of_cell HT5.out
        exact this
      clear C5 hb5 q0 q1 hkt
      unfold TrPost at hp
      rw [show ((m : Nat) : Int).toNat = m from Int.toNat_natCast m] at hp
      rcases hp with ⟨hm, _⟩ | ⟨_, hnt, _⟩ | ⟨_, hnt, q, c, rfl, hO⟩
      · exact absurd HM.out (by rw [hm]; decide)
      · exact absurd HTN.out (by rw [hnt]; decide)
      obtain ⟨N, hN⟩ : ∃ N, trN m es = N := ⟨_, rfl⟩
      obtain ⟨E, hE⟩ : ∃ E, trE m es = E := ⟨_, rfl⟩
      rw [hE] at hO
      rw [hN, hE]
      obtain ⟨q', c', hq', hEH, _, _, _⟩ := hO.form
      simp only [Value.slice.injEq, true_and] at hq'
      obtain ⟨rfl, rfl⟩ := hq'
      have HNE := hide (And.intro hN hE)
      have hNn : 0 ≤ N ∧ N ≤ 1024 := by
        have := netB_is hnt
        rw [hN] at this
        exact ⟨this.1, this.2.1⟩
      obtain ⟨N, rfl⟩ : ∃ k : Nat, N = k := ⟨N.toNat, by omega⟩
      have HEH := hide hEH
      clear hO hN hE hnt hEH
      go_upto_region 7 with fail
      obtain ⟨Z, hZ, hbZ, hZN⟩ := one_net w5 N q E.length c
      have HBZ := hide (below_step HB5.out hbZ)
      have HEZ := hide (HEH.out.later hbZ)
      have HCZ := hide (HC5.out.later hbZ)
      have HZN := hide hZN
      have HT6 := hide (later hbZ HT5.out)
      have HZS : Hid (w5.heap.size < Z.heap.size) := block_lt_of_cell hZN.1
      obtain ⟨kx, hkx⟩ : ∃ k, w5.heap.size = k := ⟨_, rfl⟩
      rw [hkx] at HZN HKT HZS
      have HT : Hid (∀ Y, Below Z.heap.size Z Y → (Y.cell? ⟨kb, 0, none⟩ = some (.int .i64 m) ∧ Y.cell? ⟨kb, 1, none⟩ = some (.slice p es.length cp)) ∧ Y.cell? ⟨kt, 1, none⟩ = some (.slice pv L.length cv) ∧ Y.cell? ⟨kx, 0, none⟩ = some (.int .i64 N) ∧ Y.cell? ⟨kx, 1, none⟩ = some (.slice q E.length c)) := fun Y hY => ⟨HS.out Y (below_step HBZ.out hY), later hY HT6.out, (HZN.out.later hY).1, (HZN.out.later hY).2.1⟩
      have HQ : Hid (∀ Y, Below Z.heap.size Z Y → Y.cell? ⟨kb, 0, none⟩ = some (.int .i64 m) ∧ Y.cell? ⟨kb, 1, none⟩ = some (.slice p es.length cp)) := fun Y hY => (HT.out Y hY).1
      have HHW : Hid (∀ Y, Below Z.heap.size Z Y → Has Y p es) := fun Y hY => HH.out.later (below_step HBZ.out hY)
      have HPB : Hid (∀ a, pv = some a → a.block < Z.heap.size) := fun a ha => by
        have h1 := HPB1.out a ha
        have h2 := HKT.out
        have h3 := HZS.out
        omega
      try rw [← hZ]
      try rw [hkx]
      clear hZ hbZ hZN hkx HC5 HB5 HT5 HT6 HEH HPB1 HKT HCV HT1
      obtain ⟨⟨q0, q1⟩, t1, x0, x1⟩ := HT.out Z (Below.refl _ _)
      go_wp2_with (refine wpList_make_full _ rfl (.tmp 44) (.tmp 44) 55 rfl Z.heap.size 4 b0 (.bool false) 1 Try.underlying55 hb0 bz0 bz1 .i64 .i64 _ _ m rfl rfl rfl rfl ?c1 ?c2 ?c3 ?_)
      case c1 => rw [bz2]; omega
      case c2 => unfold maxLen; omega
      case c3 => exact Nat.le_refl _
      intro w7 hown hgrow
      obtain ⟨gm, hgm⟩ : ∃ g, Z.heap.size = g := ⟨_, rfl⟩
      have hb7 := below_made hgrow
      have HG7 : Hid (BRow w7 Z.heap.size gm m (mkF L 0)) := by
        show BRow _ _ _ _ _
        rw [hgm] at hown
        exact owns_base (brow_made (by simpa using hown)) (by omega)
      have HB7 := hide hb7
      have HC7 := hide (HCZ.out.later hb7)
      have HPG : Hid (∀ a, pv = some a → a.block ≠ gm) := fun a ha => by
        have := HPB.out a ha
        omega
      rw [hgm]
      clear hown hgrow hb7 hgm q0 q1 t1 x0 x1 HCZ HPB
      obtain ⟨⟨q0, q1⟩, t1, x0, x1⟩ := HT.out w7 HB7.out
      go_wp2_with fail
      clear q0 q1 t1 x0 x1
      go_loopw [8] (fun t wr => ∃ i : Nat, i ≤ L.length ∧ t = .int .i64 i ∧ Hid (Below Z.heap.size Z wr) ∧ Hid (BRow wr Z.heap.size gm m (mkF L i)) ∧ Hid (IHas wr pv L)) (fun t _ => L.length - (intOf t).toNat)
      case atStart => exact ⟨0, by omega, rfl, HB7.out, HG7.out, HC7.out⟩
      case round =>
        clear HB7 HG7 HC7
        obtain ⟨i, hi, rfl, HBr, HG, HL⟩ := hrel
        obtain ⟨⟨q0, q1⟩, t1, x0, x1⟩ := HT.out wr HBr.out
        by_cases hlt : i < L.length
        · obtain ⟨b, off, rfl, l0⟩ := HL.out.at_ (j := i) hlt
          obtain ⟨o1, o2⟩ := HCA.out i hlt
          obtain ⟨k, hk⟩ : ∃ k : Nat, iat L i = k := ⟨(iat L i).toNat, by omega⟩
          have hkm : k < m := by omega
          rw [hk] at l0
          obtain ⟨g0, g1⟩ := HG.out.cell hkm
          have hgl := HG.out.lt
          have hmk : mkF L (i + 1) = upd (mkF L i) k true := by rw [mkF, hk]; rfl
          have HG3 : Hid (BRow (wr.setCell ⟨gm, k, none⟩ (.bool true)) Z.heap.size gm m (mkF L (i + 1))) := by
            rw [hmk]
            exact HG.out.put k true
          have HB3 : Hid (Below Z.heap.size Z (wr.setCell ⟨gm, k, none⟩ (.bool true))) := HBr.out.setCell (p := ⟨gm, k, none⟩) hgl.1 _
          have HL3 : Hid (IHas (wr.setCell ⟨gm, k, none⟩ (.bool true)) (some ⟨b, off, none⟩) L) := ihas_apart HL.out fun a ha => HPG.out a ha
          have i1 : (k : Int) < m := by omega
          have i2 : (0 : Int) ≤ k := by omega
          have i3 : (i : Int) < L.length := by omega
          have i4 : (0 : Int) ≤ i := by omega
          clear hk hmk o1 o2 HBr HG HL hgl x0 x1 q0 q1
          go_wp2
          go_roundw
          case rel => exact ⟨i + 1, by omega, by go_num, HB3.out, HG3.out, HL3.out⟩
          case measure => simp [intOf]; omega
        · have hem : i = L.length := by omega
          have hlt' : ¬ (i : Int) < L.length := by omega
          rw [hem] at HG
          clear hem hlt HL
          go_upto_region 14 with fail
          go_cut [9, 10] (fun s9 s10 wx => ∃ gl gd, s9 = .slice (some ⟨gl, 0, none⟩) m m ∧ s10 = .slice (some ⟨gd, 0, none⟩) m m ∧ Hid (Below Z.heap.size Z wx) ∧ Hid (BRow wx Z.heap.size gm m (mkF L L.length)) ∧ Hid (BRow wx Z.heap.size gl m (lpB es 0)) ∧ Hid (IRow wx Z.heap.size gd m (degN es m es.length)) ∧ Hid (gl ≠ gm) ∧ Hid (gl ≠ gd))
          case first =>
            refine wp_region_held_drew (S := (fun Y => Y.cell? ⟨kb, 0, none⟩ = some (.int .i64 m) ∧ Y.cell? ⟨kb, 1, none⟩ = some (.slice p es.length cp))) (by kernel_rfl) (by exact ⟨q0, q1⟩) (fun hHeld => ?_)
            obtain ⟨V0, hV0⟩ : ∃ V, V = wr.drew := ⟨_, rfl⟩
            have HB0 : Hid (Below Z.heap.size Z V0) := by show Below _ _ _; rw [hV0]; exact below_step HBr.out (below_drew _)
            have HG0 : Hid (BRow V0 Z.heap.size gm m (mkF L L.length)) := by show BRow _ _ _ _ _; rw [hV0]; exact HG.out.later (below_drew _)
            rw [← hV0] at hHeld ⊢
            clear hV0 q0 q1 t1 x0 x1 HG HBr
            obtain ⟨q0, q1⟩ := HQ.out _ HB0.out
            refine wpAnyH_take (i := 0) (v := ?v1) rfl (by kernel_rfl) (by kernel_rfl) (by kernel_rfl) (fun _ _ _ h => h) (Or.inl ⟨by rfl, ?hy1⟩) (by assumption) ?rest1
            case hy1 => (intro w hSw; (try dsimp only at hSw); go_simp; try with_reducible rfl)
            try simp only [Act.put, List.getElem_toArray, List.getElem_cons_zero, List.setIfInBounds_toArray, List.set_cons_zero, List.set_cons_succ]
            refine wpAnyH_take (i := 1) (v := ?v2) rfl (by kernel_rfl) (by kernel_rfl) (by kernel_rfl) (fun _ _ _ h => h) (Or.inl ⟨by rfl, ?hy2⟩) (by assumption) ?rest2
            case hy2 => (intro w hSw; (try dsimp only at hSw); go_simp; try with_reducible rfl)
            try simp only [Act.put, List.getElem_toArray, List.getElem_cons_zero, List.getElem_cons_succ, List.setIfInBounds_toArray, List.set_cons_zero, List.set_cons_succ]
            refine wpAnyH_take (i := 3) (v := ?v3) rfl (by kernel_rfl) (by kernel_rfl) (by kernel_rfl) (fun _ _ _ h => h) (Or.inl ⟨by rfl, ?hy3⟩) (by assumption) ?rest3
            case hy3 => (intro w hSw; (try dsimp only at hSw); go_simp; try with_reducible rfl)
            try simp only [Act.put, List.getElem_toArray, List.getElem_cons_zero, List.getElem_cons_succ, List.setIfInBounds_toArray, List.set_cons_zero, List.set_cons_succ]
            refine wpAnyH_ready (rs := [2, 4]) (by kernel_rfl) (by simp) ?_
            refine ready_cons ({ dst := some 62, op := Op.makeSlice 55 (.tmp 61) (.tmp 61), type := 55, pos := "law.go:105", after := #[{ on := 1, ground := Ground.data }, { on := 1, ground := Ground.data }], guard := none }) rfl rfl (fun K hK => ?_) ?_
            · clear hHeld
              refine oper_make V0 (.tmp 61) (.tmp 61) 55 (by rfl) V0.heap.size 4 b0 (.bool false) 1 Try.underlying55 hb0 bz0 bz1 .i64 .i64 (m : Int) (m : Int) m (by rfl) (by rfl) rfl rfl (by rw [bz2]; omega) (by unfold maxLen; omega) (Nat.le_refl _) ?_
              intro V1 hown hgrow
              have hb := below_made hgrow
              have hI : BRow V1 V0.heap.size V0.heap.size m (fun _ => false) := by rw [Nat.mul_one, show (Value.bool false).cells = #[.bool false] from rfl] at hown; exact brow_made hown
              have HBL := hide hI
              have HBLS : Hid (Z.heap.size ≤ V0.heap.size ∧ gm < V0.heap.size) := ⟨HB0.out.size, HG0.out.lt.2⟩
              have HB1 := hide (below_step HB0.out hb)
              have HG1 := hide (HG0.out.later hb)
              obtain ⟨kl, hkl⟩ : ∃ k, V0.heap.size = k := ⟨_, rfl⟩
              rw [hkl] at HBL HBLS
              try rw [hkl] at hK
              try rw [hkl]
              clear hown hgrow hb hI q0 q1
              obtain ⟨q0, q1⟩ := HQ.out _ HB1.out
              refine hK.out _ _ (by first | exact ⟨q0, q1⟩ | (dsimp only; exact ⟨q0, q1⟩)) (fun hHeld => ?_)
              clear hK K
              try simp only [Act.put, List.setIfInBounds_toArray, List.set_cons_zero, List.set_cons_succ]
              refine wpAnyH_ready (rs := [4]) (by kernel_rfl) (by simp) ?_
              refine ready_cons ({ dst := some 64, op := Op.call { callee := Callee.value (Operand.func 30), args := #[.tmp 63], argTypes := #[24] }, type := 32, pos := "law.go:105", after := #[{ on := 3, ground := Ground.data }], guard := none }) rfl rfl (fun K hK => ?_) ?_
              · clear hHeld
                go_simp
                refine (degrees40 m p es cp V1 (HHW.out V1 HB1.out) HM.out).mono ?_
                rintro e V2 ⟨gd, rfl, hI, hb⟩
                have HD1 := hide hI
                have HDS : Hid (Z.heap.size ≤ V1.heap.size ∧ gm < V1.heap.size) := ⟨HB1.out.size, HG1.out.lt.2⟩
                have HB2 := hide (below_step HB1.out hb)
                have HG2 := hide (HG1.out.later hb)
                have HBL2 := hide (HBL.out.later hb)
                clear hb hI q0 q1
                obtain ⟨q0, q1⟩ := HQ.out _ HB2.out
                refine hK.out _ _ (by first | exact ⟨q0, q1⟩ | (dsimp only; exact ⟨q0, q1⟩)) (fun hHeld => ?_)
                clear hK K
                try simp only [Act.put, List.getElem_toArray, List.getElem_cons_zero, List.getElem_cons_succ, List.setIfInBounds_toArray, List.set_cons_zero, List.set_cons_succ]
                refine wpAnyH_take (i := 5) (v := ?v4) rfl (by kernel_rfl) (by kernel_rfl) (by kernel_rfl) (fun _ _ _ h => h) (Or.inl ⟨by rfl, ?hy4⟩) (by assumption) ?rest4
                case hy4 => (intro w hSw; (try dsimp only at hSw); go_simp; try with_reducible rfl)
                try simp only [Act.put, List.getElem_toArray, List.getElem_cons_zero, List.getElem_cons_succ, List.setIfInBounds_toArray, List.set_cons_zero, List.set_cons_succ]
                refine wpAnyH_take (i := 6) (v := ?v5) rfl (by kernel_rfl) (by kernel_rfl) (by kernel_rfl) (fun _ _ _ h => h) (Or.inl ⟨by rfl, ?hy5⟩) (by assumption) ?rest5
                case hy5 => (intro w hSw; (try dsimp only at hSw); go_simp; try with_reducible rfl)
                try simp only [Act.put, List.getElem_toArray, List.getElem_cons_zero, List.getElem_cons_succ, List.setIfInBounds_toArray, List.set_cons_zero, List.set_cons_succ]
                refine wpAnyH_done (by kernel_rfl) ?_ _
                clear hHeld
                go_wp2_with fail
                go_meet
                first
                  | exact ⟨kl, gd, rfl, rfl, HB2.out, HG2.out, owns_base HBL2.out HBLS.out.1, HD1.out.base HDS.out.1, by have := HBLS.out.2; show _ ≠ _; omega, by have := HD1.out.lt.1; have := HBL.out.lt; have := HBLS.out; show _ ≠ _; omega⟩
                  | exact ⟨kl, gd, rfl, rfl, HB2.out, HG2.out, owns_base HBL.out HBLS.out.1, HD2.out.base HDS.out.1, by have := HBLS.out.2; show _ ≠ _; omega, by have := HD1.out.lt.2; have := HBL.out.lt; have := HBLS.out; show _ ≠ _; omega⟩
              exact AllReadyH.nil
            refine ready_cons ({ dst := some 64, op := Op.call { callee := Callee.value (Operand.func 30), args := #[.tmp 63], argTypes := #[24] }, type := 32, pos := "law.go:105", after := #[{ on := 3, ground := Ground.data }], guard := none }) rfl rfl (fun K hK => ?_) ?_
            · clear hHeld
              go_simp
              refine (degrees40 m p es cp V0 (HHW.out V0 HB0.out) HM.out).mono ?_
              rintro e V1 ⟨gd, rfl, hI, hb⟩
              have HD1 := hide hI
              have HDS : Hid (Z.heap.size ≤ V0.heap.size ∧ gm < V0.heap.size) := ⟨HB0.out.size, HG0.out.lt.2⟩
              have HB1 := hide (below_step HB0.out hb)
              have HG1 := hide (HG0.out.later hb)
              clear hb hI q0 q1
              obtain ⟨q0, q1⟩ := HQ.out _ HB1.out
              refine hK.out _ _ (by first | exact ⟨q0, q1⟩ | (dsimp only; exact ⟨q0, q1⟩)) (fun hHeld => ?_)
              clear hK K
              try simp only [Act.put, List.getElem_toArray, List.getElem_cons_zero, List.getElem_cons_succ, List.setIfInBounds_toArray, List.set_cons_zero, List.set_cons_succ]
              refine wpAnyH_ready (rs := [2]) (by kernel_rfl) (by simp) ?_
              refine ready_cons ({ dst := some 62, op := Op.makeSlice 55 (.tmp 61) (.tmp 61), type := 55, pos := "law.go:105", after := #[{ on := 1, ground := Ground.data }, { on := 1, ground := Ground.data }], guard := none }) rfl rfl (fun K hK => ?_) ?_
              · clear hHeld
                refine oper_make V1 (.tmp 61) (.tmp 61) 55 (by rfl) V1.heap.size 4 b0 (.bool false) 1 Try.underlying55 hb0 bz0 bz1 .i64 .i64 (m : Int) (m : Int) m (by rfl) (by rfl) rfl rfl (by rw [bz2]; omega) (by unfold maxLen; omega) (Nat.le_refl _) ?_
                intro V2 hown hgrow
                have hb := below_made hgrow
                have hI : BRow V2 V1.heap.size V1.heap.size m (fun _ => false) := by rw [Nat.mul_one, show (Value.bool false).cells = #[.bool false] from rfl] at hown; exact brow_made hown
                have HBL := hide hI
                have HBLS : Hid (Z.heap.size ≤ V1.heap.size ∧ gm < V1.heap.size) := ⟨HB1.out.size, HG1.out.lt.2⟩
                have HB2 := hide (below_step HB1.out hb)
                have HG2 := hide (HG1.out.later hb)
                have HD2 := hide (HD1.out.later hb)
                obtain ⟨kl, hkl⟩ : ∃ k, V1.heap.size = k := ⟨_, rfl⟩
                rw [hkl] at HBL HBLS
                try rw [hkl] at HD2
                try rw [hkl] at hK
                try rw [hkl]
                clear hown hgrow hb hI q0 q1
                obtain ⟨q0, q1⟩ := HQ.out _ HB2.out
                refine hK.out _ _ (by first | exact ⟨q0, q1⟩ | (dsimp only; exact ⟨q0, q1⟩)) (fun hHeld => ?_)
                clear hK K
                try simp only [Act.put, List.setIfInBounds_toArray, List.set_cons_zero, List.set_cons_succ]
                refine wpAnyH_take (i := 5) (v := ?v6) rfl (by kernel_rfl) (by kernel_rfl) (by kernel_rfl) (fun _ _ _ h => h) (Or.inl ⟨by rfl, ?hy6⟩) (by assumption) ?rest6
                case hy6 => (intro w hSw; (try dsimp only at hSw); go_simp; try with_reducible rfl)
                try simp only [Act.put, List.getElem_toArray, List.getElem_cons_zero, List.getElem_cons_succ, List.setIfInBounds_toArray, List.set_cons_zero, List.set_cons_succ]
                refine wpAnyH_take (i := 6) (v := ?v7) rfl (by kernel_rfl) (by kernel_rfl) (by kernel_rfl) (fun _ _ _ h => h) (Or.inl ⟨by rfl, ?hy7⟩) (by assumption) ?rest7
                case hy7 => (intro w hSw; (try dsimp only at hSw); go_simp; try with_reducible rfl)
                try simp only [Act.put, List.getElem_toArray, List.getElem_cons_zero, List.getElem_cons_succ, List.setIfInBounds_toArray, List.set_cons_zero, List.set_cons_succ]
                refine wpAnyH_done (by kernel_rfl) ?_ _
                clear hHeld
                go_wp2_with fail
                go_meet
                first
                  | exact ⟨kl, gd, rfl, rfl, HB2.out, HG2.out, owns_base HBL2.out HBLS.out.1, HD1.out.base HDS.out.1, by have := HBLS.out.2; show _ ≠ _; omega, by have := HD1.out.lt.1; have := HBL.out.lt; have := HBLS.out; show _ ≠ _; omega⟩
                  | exact ⟨kl, gd, rfl, rfl, HB2.out, HG2.out, owns_base HBL.out HBLS.out.1, HD2.out.base HDS.out.1, by have := HBLS.out.2; show _ ≠ _; omega, by have := HD1.out.lt.2; have := HBL.out.lt; have := HBLS.out; show _ ≠ _; omega⟩
              exact AllReadyH.nil
            exact AllReadyH.nil
          case rest =>
            clear HG HBr q0 q1 t1 x0 x1
            obtain ⟨gl, gd, rfl, rfl, HBX, HGX, HLX, HDX, HLM, HLD⟩ := hcut
            obtain ⟨⟨q0, q1⟩, t1, x0, x1⟩ := HT.out _ HBX.out
            go_wp2_with fail
            clear q0 q1 t1 x0 x1
            go_loopw [11] (fun t wr => ∃ i : Nat, i ≤ es.length ∧ t = .int .i64 i ∧ Hid (Below Z.heap.size Z wr) ∧ Hid (BRow wr Z.heap.size gm m (mkF L L.length)) ∧ Hid (BRow wr Z.heap.size gl m (lpB es i)) ∧ Hid (IRow wr Z.heap.size gd m (degN es m es.length))) (fun t _ => es.length - (intOf t).toNat)
            case atStart => exact ⟨0, by omega, rfl, HBX.out, HGX.out, HLX.out, HDX.out⟩
            case round =>
              clear HBX HGX HLX HDX
              obtain ⟨i, hi, rfl, HBr, HG, HLp, HD⟩ := hrel
              obtain ⟨⟨q0, q1⟩, t1, x0, x1⟩ := HT.out wr HBr.out
              by_cases hlt : i < es.length
              · have hq : ∃ b off, p = some ⟨b, off, none⟩ ∧ Lies W b off es := by
                  rcases HH.out with h0 | h0
                  · subst h0; simp at hlt
                  · exact h0
                obtain ⟨b, off, rfl, hLW⟩ := hq
                obtain ⟨c0, c1⟩ := (hLW.later (below_step HBZ.out HBr.out)) i hlt
                obtain ⟨e1, e2, e3, e4⟩ := (netB_is HM.out).2.2.2 i hlt
                have hlm : lpB es (i + 1) = if (at' es i).x = (at' es i).y then upd (lpB es i) (at' es i).x.toNat true else lpB es i := rfl
                obtain ⟨x, hx⟩ : ∃ x : Nat, (at' es i).x = x := ⟨(at' es i).x.toNat, by omega⟩
                obtain ⟨y, hy⟩ : ∃ y : Nat, (at' es i).y = y := ⟨(at' es i).y.toNat, by omega⟩
                rw [hx] at c0 e1 e2
                rw [hy] at c1 e3 e4
                rw [hx, hy, Int.toNat_natCast] at hlm
                have i1 : (i : Int) < es.length := by omega
                have i2 : (0 : Int) ≤ i := by omega
                have hxm : x < m := by omega
                obtain ⟨g0, g1⟩ := HLp.out.cell hxm
                have hgl := HLp.out.lt
                have HB1 := hide (below_step HBr.out (below_drew wr))
                have HG1 := hide (HG.out.later (below_drew wr))
                have HL1 := hide (HLp.out.later (below_drew wr))
                have HD1 := hide (HD.out.later (below_drew wr))
                clear hx hy hLW t1 x0 x1
                by_cases hxy : x = y
                · subst hxy
                  rw [if_pos rfl] at hlm
                  have HL3 : Hid (BRow (wr.drew.setCell ⟨gl, x, none⟩ (.bool true)) Z.heap.size gl m (lpB es (i + 1))) := by
                    rw [hlm]
                    exact HL1.out.put x true
                  have HB3 : Hid (Below Z.heap.size Z (wr.drew.setCell ⟨gl, x, none⟩ (.bool true))) := HB1.out.setCell (p := ⟨gl, x, none⟩) hgl.1 _
                  have HG3 : Hid (BRow (wr.drew.setCell ⟨gl, x, none⟩ (.bool true)) Z.heap.size gm m (mkF L L.length)) := brow_other HG1.out HLM.out _
                  have HD3 : Hid (IRow (wr.drew.setCell ⟨gl, x, none⟩ (.bool true)) Z.heap.size gd m (degN es m es.length)) := irow_other HD1.out HLD.out _
                  clear hlm hgl HB1 HG1 HL1 HD1 HBr HG HLp HD
                  go_upto_region 18 with fail
                  go_region
                  go_wp2
                  go_roundw
                  case rel => exact ⟨i + 1, by omega, by go_num, HB3.out, HG3.out, HL3.out, HD3.out⟩
                  case measure => simp [intOf]; omega
                · have hxy' : ¬ (x : Int) = y := by omega
                  rw [if_neg hxy'] at hlm
                  rw [← hlm] at HL1
                  have hb1 : decide ((x : Int) = y) = false := by simp; omega
                  have hb2 : ((x : Int) == y) = false := by simp; omega
                  clear hlm hgl HBr HG HLp HD hxy hxy' g0 g1
                  go_upto_region 18 with fail
                  go_region
                  go_wp2
                  go_roundw
                  case rel => exact ⟨i + 1, by omega, by go_num, HB1.out, HG1.out, HL1.out, HD1.out⟩
                  case measure => simp [intOf]; omega
              · have hem : i = es.length := by omega
                have hlt' : ¬ (i : Int) < es.length := by omega
                rw [hem] at HLp
                clear hem hlt
                have C6 := hide (parts31nn m p es cp wr (HHW.out _ HBr.out) HM.out)
                go_wp2_with fail
                refine C6.out.mono ?_
                rintro e w8 ⟨gc, kc, C, r, rfl, _, hLab, hb8⟩
                have HLab := hide hLab
                have HB8 := hide (below_step HBr.out hb8)
                have HG8 := hide (HG.out.later hb8)
                have HL8 := hide (HLp.out.later hb8)
                have HD8 := hide (HD.out.later hb8)
                clear C6 hb8 hLab q0 q1 t1 x0 x1 HBr HG HLp HD
                obtain ⟨⟨q0, q1⟩, t1, x0, x1⟩ := HT.out w8 HB8.out
                go_wp2_with fail
                clear q0 q1 t1 x0 x1
                go_loopw [14, 15] (fun t14 t15 wr => ∃ v : Nat, v ≤ m ∧ t14 = .int .i64 (alB es m v : Nat) ∧ t15 = .int .i64 v ∧ Hid (Below Z.heap.size Z wr) ∧ Hid (BRow wr Z.heap.size gm m (mkF L L.length)) ∧ Hid (BRow wr Z.heap.size gl m (lpB es es.length)) ∧ Hid (IRow wr Z.heap.size gd m (degN es m es.length))) (fun _ t15 _ => m - (intOf t15).toNat)
                case atStart => exact ⟨0, by omega, rfl, rfl, HB8.out, HG8.out, HL8.out, HD8.out⟩
                case round =>
                  clear HB8 HG8 HL8 HD8
                  obtain ⟨v, hv, rfl, rfl, HBr, HG, HLp, HD⟩ := hrel
                  obtain ⟨⟨q0, q1⟩, t1, x0, x1⟩ := HT.out wr HBr.out
                  by_cases hlt : v < m
                  · have i1 : (v : Int) < m := by omega
                    have i2 : (0 : Int) ≤ v := by omega
                    clear t1 x0 x1
                    go_wp2_with (refine wpList_make_full _ rfl (.tmp 105) (.tmp 105) 55 rfl wr.heap.size 4 b0 (.bool false) 1 Try.underlying55 hb0 bz0 bz1 .i64 .i64 _ _ m rfl rfl rfl rfl ?c1 ?c2 ?c3 ?_)
                    case c1 => rw [bz2]; omega
                    case c2 => unfold maxLen; omega
                    case c3 => exact Nat.le_refl _
                    intro w9 hown hgrow
                    obtain ⟨gg, hgg⟩ : ∃ g, wr.heap.size = g := ⟨_, rfl⟩
                    have hb9 := below_made hgrow
                    have hr9 : BRow w9 wr.heap.size gg m (fun _ => false) := by
                      rw [hgg] at hown ⊢
                      exact brow_made (by simpa using hown)
                    have hggl : Z.heap.size ≤ gg := by have := HBr.out.size; omega
                    have HR9 : Hid (BRow (w9.setCell ⟨gg, v, none⟩ (.bool true)) wr.heap.size gg m (fun z => decide (z = v))) := by
                      have h1 := hr9.put v true
                      refine h1.congr fun z hz => ?_
                      unfold upd
                      by_cases e : z = v
                      · rw [if_pos e]; simp [e]
                      · rw [if_neg e]; simp [e]
                    obtain ⟨r0, r1⟩ := hr9.cell hlt
                    have g9 := hr9.lt
                    have HB9 : Hid (Below Z.heap.size Z (w9.setCell ⟨gg, v, none⟩ (.bool true))) := (below_step HBr.out hb9).setCell (p := ⟨gg, v, none⟩) hggl _
                    have HG9 : Hid (BRow (w9.setCell ⟨gg, v, none⟩ (.bool true)) Z.heap.size gm m (mkF L L.length)) := brow_other (HG.out.later hb9) (by have := HG.out.lt; omega) _
                    have HL9 : Hid (BRow (w9.setCell ⟨gg, v, none⟩ (.bool true)) Z.heap.size gl m (lpB es es.length)) := brow_other (HLp.out.later hb9) (by have := HLp.out.lt; omega) _
                    have HD9 : Hid (IRow (w9.setCell ⟨gg, v, none⟩ (.bool true)) Z.heap.size gd m (degN es m es.length)) := irow_other (HD.out.later hb9) (by have := HD.out.lt; omega) _
                    rw [hgg] at HR9 ⊢
                    have q0' := later hb9 q0
                    have q1' := later hb9 q1
                    have C7 := hide (parts31gn m p es cp (w9.setCell ⟨gg, v, none⟩ (.bool true)) (HHW.out _ HB9.out) HM.out (fun z => decide (z = v)) gg gg HR9.out)
                    clear hown hgrow hb9 hgg hr9 q0 q1 HBr HG HLp HD HR9
                    obtain ⟨⟨q0, q1⟩, _, _, _⟩ := HT.out _ HB9.out
                    go_wp2_with fail
                    refine C7.out.mono ?_
                    rintro e wa ⟨gc', kc', C', r', rfl, _, hLab', hba⟩
                    have HBa := hide (below_step HB9.out hba)
                    have HGa := hide (HG9.out.later hba)
                    have HLa := hide (HL9.out.later hba)
                    have HDa := hide (HD9.out.later hba)
                    have HLab' := hide hLab'
                    clear C7 hba hLab' q0 q1 q0' q1' r0 r1 g9 HB9 HG9 HL9 HD9
                    obtain ⟨a0, _⟩ := HGa.out.cell hlt
                    obtain ⟨l0, _⟩ := HLa.out.cell hlt
                    obtain ⟨d0, _⟩ := HDa.out.cell hlt
                    have hdn := deg_in (es := es) hlt
                    have hal := alB_more es m v
                    have HB1 := hide (below_step HBa.out (below_drew wa))
                    have HG1 := hide (HGa.out.later (below_drew wa))
                    have HL1 := hide (HLa.out.later (below_drew wa))
                    have HD1 := hide (HDa.out.later (below_drew wa))
                    have hlaw : lpB es es.length v = false → mkF L L.length v = (decide (0 < iat (degN es m es.length) v) && decide ((kc : Int) < kc')) := fun hl => by
                      have := cuts_law HM.out hlt HLab.out HLab'.out hl
                      rw [HLL.out] at this
                      exact this
                    obtain ⟨d, hd⟩ : ∃ d, iat (degN es m es.length) v = d := ⟨_, rfl⟩
                    obtain ⟨al, hal0⟩ : ∃ a, alB es m v = a := ⟨_, rfl⟩
                    have hall := alB_le es m v
                    rw [hd] at d0 hdn hal hlaw
                    rw [hal0] at hal hall ⊢
                    have HAL := hide hal
                    clear hal hd hal0 HLab' HBa HGa HLa HDa
                    cases hl : lpB es es.length v
                    · have hlw := hlaw hl
                      rw [hl] at l0
                      rw [hlw] at a0
                      clear hlaw hlw hl
                      by_cases hd0 : d = 0
                      · subst hd0
                        have HAL2 : Hid (alB es m (v + 1) = al + 1) := by have := HAL.out; rw [if_pos rfl] at this; exact this
                        rw [show (decide ((0 : Int) < 0) && decide ((kc : Int) < kc')) = false by simp] at a0
                        clear HAL
                        go_upto_region 28 with fail
                        go_region
                        go_wp2
                        go_roundw
                        case rel => exact ⟨v + 1, by omega, by rw [HAL2.out]; go_num, by go_num, HB1.out, HG1.out, HL1.out, HD1.out⟩
                        case measure => simp [intOf]; omega
                      · have hdp : 0 < d := by omega
                        have HAL2 : Hid (alB es m (v + 1) = al) := by have := HAL.out; rw [if_neg hd0] at this; exact this
                        have dz1 : decide (d = 0) = false := by simp; omega
                        have dz2 : (d == 0) = false := by simp; omega
                        have dz3 : decide (0 < d) = true := by simp; omega
                        clear HAL hd0
                        by_cases hk : (kc : Int) < kc'
                        · have hk1 : decide ((kc : Int) < kc') = true := by simp; omega
                          rw [dz3, hk1, show (true && true) = true from rfl] at a0
                          go_upto_region 28 with fail
                          go_region
                          go_wp2
                          go_roundw
                          case rel => exact ⟨v + 1, by omega, by rw [HAL2.out], by go_num, HB1.out, HG1.out, HL1.out, HD1.out⟩
                          case measure => simp [intOf]; omega
                        · have hk1 : decide ((kc : Int) < kc') = false := by simp; omega
                          rw [dz3, hk1, show (true && false) = false from rfl] at a0
                          go_upto_region 28 with fail
                          go_region
                          go_wp2
                          go_roundw
                          case rel => exact ⟨v + 1, by omega, by rw [HAL2.out], by go_num, HB1.out, HG1.out, HL1.out, HD1.out⟩
                          case measure => simp [intOf]; omega
                    · rw [hl] at l0
                      clear hlaw hl a0
                      by_cases hd0 : d = 0
                      · subst hd0
                        have HAL2 : Hid (alB es m (v + 1) = al + 1) := by have := HAL.out; rw [if_pos rfl] at this; exact this
                        clear HAL
                        go_upto_region 28 with fail
                        go_region
                        go_wp2
                        go_roundw
                        case rel => exact ⟨v + 1, by omega, by rw [HAL2.out]; go_num, by go_num, HB1.out, HG1.out, HL1.out, HD1.out⟩
                        case measure => simp [intOf]; omega
                      · have HAL2 : Hid (alB es m (v + 1) = al) := by have := HAL.out; rw [if_neg hd0] at this; exact this
                        have dz1 : decide (d = 0) = false := by simp; omega
                        have dz2 : (d == 0) = false := by simp; omega
                        clear HAL hd0
                        go_upto_region 28 with fail
                        go_region
                        go_wp2
                        go_roundw
                        case rel => exact ⟨v + 1, by omega, by rw [HAL2.out], by go_num, HB1.out, HG1.out, HL1.out, HD1.out⟩
                        case measure => simp [intOf]; omega
                  · have hem : v = m := by omega
                    have hlt' : ¬ (v : Int) < m := by omega
                    have hal : alB es m v ≤ m := by have := alB_le es m v; omega
                    have hal2 : alB es m v = alB es m m := by rw [hem]
                    obtain ⟨al, hal0⟩ : ∃ a, alB es m v = a := ⟨_, rfl⟩
                    rw [hal0] at hal hal2 ⊢
                    have HAL := hide hal2
                    have hbw := below_step HBZ.out HBr.out
                    have C8 := hide (parts31nn N q E c wr (HEZ.out.later HBr.out) (by rw [← HNE.out.1, ← HNE.out.2]; exact HTN.out))
                    have HBw := hide (below_step HB.out hbw)
                    clear hem hlt hal0 hal2 hbw HG HLp HD
                    go_wp2_with fail
                    refine C8.out.mono ?_
                    rintro e wb ⟨gt, kq, Ct, rq, rfl, _, hLt, hbb⟩
                    have hfin := tree_law HM.out HTN.out HLab.out (by rw [HNE.out.1, HNE.out.2, Int.toNat_natCast]; exact hLt)
                    rw [HNE.out.1, HNE.out.2, ← HAL.out] at hfin
                    obtain ⟨f1, f2⟩ := hfin
                    have HBf := hide (below_step HBw.out hbb)
                    obtain ⟨⟨q0, q1⟩, t1, x0, x1⟩ := HT.out _ (below_step HBr.out hbb)
                    have hkc := HLab.out.cnt_le
                    have hkq := hLt.cnt_le
                    clear C8 hbb hLt HLab
                    have w1 : IntKind.i64.wrap ((kc : Int) - (al : Int)) = kq := by rw [IntKind.wrap_i64, f1]; omega
                    have w2 : IntKind.i64.wrap ((N : Int) - (kq : Int)) = E.length := by rw [IntKind.wrap_i64]; omega
                    clear f1 f2 hkc hkq
                    go_wp2_with fail
                    go_ret
                    exact ⟨rfl, HBf.out⟩
end Go.Proofs.Ytobkejnlkjieoaa
