/- BlockBridges' walk. -/
import Derived.Test.YtobkejnlkjieoaaZF4
import Derived.BigRegion
namespace Go.Proofs.Ytobkejnlkjieoaa
open Go.RowKit Go.Sort
open Go
/-- The marks of the first numbers of a list. -/
def mkF (l : List Int) : Nat → Nat → Bool
  | 0 => fun _ => false
  | i + 1 => upd (mkF l i) (iat l i).toNat true
theorem mkF_is (l : List Int) (hl : ∀ t, t < l.length → 0 ≤ iat l t) (j : Nat) : ∀ i, i ≤ l.length → (mkF l i j = true ↔ ∃ t, t < i ∧ iat l t = (j : Int))
  | 0, _ => ⟨(fun h => by cases h), (fun ⟨t, h, _⟩ => by omega)⟩
  | i + 1, hi => by
    have ih := mkF_is l hl j i (by omega)
    have h0 := hl i (by omega)
    unfold mkF upd
    by_cases e : j = (iat l i).toNat
    · rw [if_pos e]
      exact ⟨fun _ => ⟨i, by omega, by omega⟩, fun _ => rfl⟩
    · rw [if_neg e, ih]
      exact ⟨fun ⟨t, a, b⟩ => ⟨t, by omega, b⟩, fun ⟨t, a, b⟩ => ⟨t, by
        have : t ≠ i := fun e2 => e (by rw [← e2, b]; rfl)
        omega, b⟩⟩
theorem brid_mem {n : Nat} {es : List Pt} {x : Int} : x ∈ bridB n es ↔ ∃ e : Nat, e < es.length ∧ brB es (ofB n es) e = true ∧ (e : Int) = x := by
  unfold bridB
  simp only [List.mem_map, List.mem_filter, List.mem_range]
  exact ⟨fun ⟨e, ⟨a, b⟩, c⟩ => ⟨e, a, b, c⟩, fun ⟨e, a, b, c⟩ => ⟨e, ⟨a, b⟩, c⟩⟩
theorem brid_at {n : Nat} {es : List Pt} {t : Nat} (h : t < (bridB n es).length) : 0 ≤ iat (bridB n es) t ∧ iat (bridB n es) t < es.length := by
  obtain ⟨e, a, _, c⟩ := brid_mem.1 (iat_mem h)
  omega
theorem brid_mark {n : Nat} {es : List Pt} {e : Nat} (he : e < es.length) : mkF (bridB n es) (bridB n es).length e = brB es (ofB n es) e := by
  rw [Bool.eq_iff_iff, mkF_is _ (fun t ht => (brid_at ht).1) e _ (Nat.le_refl _)]
  constructor
  · rintro ⟨t, ht, e1⟩
    obtain ⟨e2, _, h2, h3⟩ := brid_mem.1 (iat_mem ht)
    have : e2 = e := by omega
    rw [← this]; exact h2
  · intro h
    exact mem_iat (brid_mem.2 ⟨e, he, h, rfl⟩)
theorem ihas_apart {w : World} {p : Option Addr} {L : List Int} {k i : Nat} {v : Value} (h : IHas w p L) (hp : ∀ a, p = some a → a.block ≠ k) : IHas (w.setCell ⟨k, i, none⟩ v) p L :=
  h.imp id fun ⟨b, off, e, hl⟩ => ⟨b, off, e, fun j hj => other1' (A := ⟨b, off + j, none⟩) (hl j hj) (hp ⟨b, off, none⟩ e)⟩
theorem brid_len (n : Nat) (es : List Pt) : (bridB n es).length ≤ es.length := filt_length es.length fun e => brB es (ofB n es) e
set_option maxRecDepth 100000 in
set_option maxHeartbeats 16000000 in
theorem bridges_walk (n : Int) (p : Option Addr) (es : List Pt) (cp : Nat) (w : World) (h : Has w p es) : Calls Try.prog 6 #[nv n p es.length cp] w fun e w' => e = .returned (.bool true) ∧ Below w.heap.size w w' := by
  obtain ⟨W, hW, hb, a0⟩ := one_net w n p es.length cp
  have HH := hide (h.later hb)
  have HB := hide hb
  have HA := hide a0
  have C1 := hide (begun8 W)
  obtain ⟨kb, hkb⟩ : ∃ kb, w.heap.size = kb := ⟨_, rfl⟩
  have HS : Hid (∀ V, Below W.heap.size W V → V.cell? ⟨kb, 0, none⟩ = some (.int .i64 n) ∧ V.cell? ⟨kb, 1, none⟩ = some (.slice p es.length cp)) := fun V hV => by
    obtain ⟨r0, r1, _, _⟩ := HA.out.later hV
    rw [hkb] at r0 r1
    exact ⟨r0, r1⟩
  obtain ⟨j0, hj0, jz0, jz1, jz2⟩ := info_parts info3
  obtain ⟨b0, hb0, bz0, bz1, bz2⟩ := info_parts info4
  clear h hb a0
  go_enter Try.func6, Try.ntmps6
  go_upto_region 1 with fail
  rw [← hW]
  try rw [hkb]
  clear hW hkb
  go_wp2_with fail
  refine C1.out.mono ?_
  rintro e w1 ⟨rfl, hb1⟩
  have HB1 := hide hb1
  have C2 := hide (light9 n p es cp w1 (HH.out.later hb1))
  obtain ⟨q0, q1⟩ := HS.out w1 hb1
  clear hb1 C1
  go_wp2_with fail
  refine C2.out.mono ?_
  rintro e w2 ⟨rfl, hb2⟩
  have HB2 := hide (below_step HB1.out hb2)
  obtain ⟨q0, q1⟩ := HS.out w2 HB2.out
  have C3 := hide (may12 n p es cp w2 (HH.out.later HB2.out))
  clear hb2 C2 HB1
  cases hli : liB n es
  · go_wp2_with fail
    go_ret
    exact ⟨rfl, below_step HB.out HB2.out⟩
  · go_wp2_with fail
    refine C3.out.mono ?_
    rintro e w3 ⟨rfl, hb3⟩
    have HB3 := hide (below_step HB2.out hb3)
    clear hb3 C3 HB2 q0 q1
    cases hm : netB n es
    · go_wp2_with fail
      go_ret
      exact ⟨rfl, below_step HB.out HB3.out⟩
    · obtain ⟨n0, n1, hes, hE⟩ := netB_is hm
      obtain ⟨m, rfl⟩ : ∃ m : Nat, n = m := ⟨n.toNat, by omega⟩
      have HM := hide hm
      have C4 := hide (blocks11 m p es cp w3 (HH.out.later HB3.out))
      obtain ⟨q0, q1⟩ := HS.out w3 HB3.out
      clear hm hE hli
      go_wp2_with fail
      refine C4.out.mono ?_
      rintro e w4 ⟨hp, hb4⟩
      have HB4 := hide (below_step HB3.out hb4)
      clear C4 hb4 HB3 q0 q1
      rcases hp with ⟨_, g, v, rfl, hI, hO⟩ | ⟨hm, _⟩
      case inr => exact absurd HM.out (by rw [hm]; decide)
      rw [show ((m : Nat) : Int).toNat = m from Int.toNat_natCast m] at *
      obtain ⟨pv, cv, rfl, _⟩ := hO.form
      have HI := hide hI
      have HIN : Hid (∀ e, e < es.length → 0 ≤ ofB m es e ∧ ofB m es e < ctsB m es) := fun e he => of_in HM.out he
      have hcl := cts_le (n := m) HM.out
      have hLn := brid_len m es
      have HMK : Hid (∀ e, e < es.length → mkF (bridB m es) (bridB m es).length e = brB es (ofB m es) e) := fun e he => brid_mark he
      have HBA : Hid (∀ t, t < (bridB m es).length → 0 ≤ iat (bridB m es) t ∧ iat (bridB m es) t < es.length) := fun t ht => brid_at ht
      unfold blV
      obtain ⟨lc, hlc⟩ : ∃ l, (cutsB m es).length = l := ⟨_, rfl⟩
      rw [hlc]
      obtain ⟨ct, hct⟩ : ∃ c, ctsB m es = c := ⟨_, rfl⟩
      obtain ⟨of, hof⟩ : ∃ f, ofB m es = f := ⟨_, rfl⟩
      obtain ⟨L, hL⟩ : ∃ f, bridB m es = f := ⟨_, rfl⟩
      rw [hof] at HI
      rw [hof, hct] at HIN
      rw [hct] at hcl ⊢
      rw [hL, hof] at HMK
      rw [hL] at HBA hLn
      have HLL := hide hL
      clear hI hO hlc hct hof hL
      go_upto_region 6 with fail
      obtain ⟨V, hV⟩ : ∃ V, V = w4.alloc (.cells #[.slice (some ⟨g, 0, none⟩) es.length es.length, .slice pv lc cv, .int .i64 ct] 34) := ⟨_, rfl⟩
      have hbV : Below w4.heap.size w4 V := by rw [hV]; go_grown
      obtain ⟨kt, hkt⟩ : ∃ k, w4.heap.size = k := ⟨_, rfl⟩
      have t0 : V.cell? ⟨kt, 0, none⟩ = some (.slice (some ⟨g, 0, none⟩) es.length es.length) := by rw [hV, ← hkt]; go_cell
      have t2 : V.cell? ⟨kt, 2, none⟩ = some (.int .i64 ct) := by rw [hV, ← hkt]; go_cell
      have HBV := hide (below_step HB4.out hbV)
      have HIV := hide (HI.out.later hbV)
      have HT : Hid (∀ X, Below V.heap.size V X → (X.cell? ⟨kb, 0, none⟩ = some (.int .i64 m) ∧ X.cell? ⟨kb, 1, none⟩ = some (.slice p es.length cp)) ∧ X.cell? ⟨kt, 0, none⟩ = some (.slice (some ⟨g, 0, none⟩) es.length es.length) ∧ X.cell? ⟨kt, 2, none⟩ = some (.int .i64 ct)) := fun X hX => ⟨HS.out X (below_step HBV.out hX), later hX t0, later hX t2⟩
      have C5 := hide (bridges12 m p es cp V (HH.out.later HBV.out))
      rw [← hV]
      try rw [hkt]
      clear hV hbV hkt t0 t2 HI HB4
      obtain ⟨⟨q0, q1⟩, t0, t2⟩ := HT.out V (Below.refl _ _)
      go_wp2_with fail
      refine C5.out.mono ?_
      rintro e w5 ⟨hp, hb5⟩
      have HB5 := hide hb5
      clear C5 hb5 q0 q1 t0 t2
      rcases hp with ⟨_, v, rfl, hO⟩ | ⟨hm, _⟩
      case inr => exact absurd HM.out (by rw [hm]; decide)
      rw [show ((m : Nat) : Int).toNat = m from Int.toNat_natCast m, HLL.out] at hO
      obtain ⟨pl, cl, rfl, hLI, _, _, hpb⟩ := hO.form
      have HPB0 : Hid (∀ a, pl = some a → a.block < w5.heap.size) := fun a ha => (hpb a ha).2.2.2
      clear hpb
      have HLI := hide hLI
      clear hLI hO
      obtain ⟨⟨q0, q1⟩, t0, t2⟩ := HT.out w5 HB5.out
      go_wp2_with (refine wpList_make_full _ rfl (.tmp 34) (.tmp 34) 32 rfl w5.heap.size 3 j0 (.int .i64 0) 1 Try.underlying32 hj0 jz0 jz1 .i64 .i64 _ _ ct rfl rfl rfl rfl ?c1 ?c2 ?c3 ?_)
      case c1 => rw [jz2]; omega
      case c2 => unfold maxLen; omega
      case c3 => exact Nat.le_refl _
      intro w6 hown hgrow
      obtain ⟨gz, hgz⟩ : ∃ g, w5.heap.size = g := ⟨_, rfl⟩
      have hb6 := below_made hgrow
      have HZ6 : Hid (IRow w6 V.heap.size gz ct (szL ct of 0)) := by
        have h1 := HB5.out.size
        show IRow _ _ _ _ _
        rw [show szL ct of 0 = List.replicate ct 0 from by unfold szL; rw [show (fun k => ((szB of 0 k : Nat) : Int)) = fun _ => 0 from by funext k; rfl]; exact fnL_const _ _, ← hgz]
        exact (irow_made (by simpa using hown)).base h1
      have HGZ : Hid (w5.heap.size = gz) := hgz
      have HB6 := hide (below_step HB5.out hb6)
      have HL6 := hide (HLI.out.later hb6)
      rw [hgz]
      clear hown hgrow hb6 hgz q0 q1 t0 t2 HB5 HLI
      obtain ⟨⟨q0, q1⟩, t0, t2⟩ := HT.out w6 HB6.out
      go_wp2_with (refine wpList_make_full _ rfl (.tmp 38) (.tmp 38) 55 rfl w6.heap.size 4 b0 (.bool false) 1 Try.underlying55 hb0 bz0 bz1 .i64 .i64 _ _ es.length rfl rfl rfl rfl ?c1 ?c2 ?c3 ?_)
      case c1 => rw [bz2]; omega
      case c2 => unfold maxLen; omega
      case c3 => exact Nat.le_refl _
      intro w7 hown hgrow
      obtain ⟨gm, hgm⟩ : ∃ g, w6.heap.size = g := ⟨_, rfl⟩
      have hb7 := below_made hgrow
      have HG7 : Hid (BRow w7 V.heap.size gm es.length (mkF L 0)) := by
        have h1 := HB6.out.size
        show BRow _ _ _ _ _
        rw [hgm] at hown
        exact owns_base (brow_made (by simpa using hown)) (by omega)
      have HNE : Hid (gz ≠ gm) := by
        have h1 := HZ6.out.lt
        show _ ≠ _
        omega
      have HPB : Hid (∀ a, pl = some a → a.block ≠ gz ∧ a.block ≠ gm) := fun a ha => by
        have h1 := HPB0.out a ha
        have h2 := HZ6.out.lt
        have h3 := HGZ.out
        omega
      have HB7 := hide (below_step HB6.out hb7)
      have HL7 := hide (HL6.out.later hb7)
      have HZ7 := hide (HZ6.out.later hb7)
      rw [hgm]
      clear hown hgrow hb7 hgm q0 q1 t0 t2 HB6 HL6 HZ6
      go_wp2_with fail
      go_loopw [9] (fun t wr => ∃ i : Nat, i ≤ es.length ∧ t = .int .i64 i ∧ Hid (Below V.heap.size V wr) ∧ Hid (IRow wr V.heap.size gz ct (szL ct of i)) ∧ Hid (BRow wr V.heap.size gm es.length (mkF L 0)) ∧ Hid (IHas wr pl L)) (fun t _ => es.length - (intOf t).toNat)
      case atStart => exact ⟨0, by omega, rfl, HB7.out, HZ7.out, HG7.out, HL7.out⟩
      case round =>
        clear HB7 HZ7 HG7 HL7
        obtain ⟨i, hi, rfl, HBr, HZ, HG, HL⟩ := hrel
        obtain ⟨⟨q0, q1⟩, t0, t2⟩ := HT.out wr HBr.out
        by_cases hlt : i < es.length
        · obtain ⟨a0, _⟩ := (HIV.out.later HBr.out).cell hlt
          rw [fnL_at _ hlt] at a0
          obtain ⟨o1, o2⟩ := HIN.out i hlt
          obtain ⟨k, hk⟩ : ∃ k : Nat, of i = k := ⟨(of i).toNat, by omega⟩
          have hkc : k < ct := by omega
          rw [hk] at a0
          obtain ⟨z0, z1⟩ := HZ.out.cell hkc
          rw [show iat (szL ct of i) k = ((szB of i k : Nat) : Int) from fnL_at _ hkc] at z0
          have hzl := HZ.out.lt
          have HZ3 : Hid (IRow (wr.setCell ⟨gz, k, none⟩ (.int .i64 ((szB of i k : Int) + 1))) V.heap.size gz ct (szL ct of (i + 1))) := by
            have := HZ.out.set k ((szB of i k : Int) + 1)
            rw [szL_more hk hkc] at this
            exact this
          have HB3 : Hid (Below V.heap.size V (wr.setCell ⟨gz, k, none⟩ (.int .i64 ((szB of i k : Int) + 1)))) := HBr.out.setCell (p := ⟨gz, k, none⟩) hzl.1 _
          have HG3 : Hid (BRow (wr.setCell ⟨gz, k, none⟩ (.int .i64 ((szB of i k : Int) + 1))) V.heap.size gm es.length (mkF L 0)) := brow_other HG.out HNE.out _
          have HL3 : Hid (IHas (wr.setCell ⟨gz, k, none⟩ (.int .i64 ((szB of i k : Int) + 1))) pl L) := ihas_apart HL.out fun a ha => (HPB.out a ha).1
          have hsl := sz_le of i k
          obtain ⟨sz, hsz⟩ : ∃ s, szB of i k = s := ⟨_, rfl⟩
          rw [hsz] at z0 HZ3 HB3 HG3 HL3 hsl
          have i1 : (k : Int) < ct := by omega
          have i2 : (0 : Int) ≤ k := by omega
          have i3 : (i : Int) < es.length := by omega
          have i4 : (0 : Int) ≤ i := by omega
          clear hk hsz o1 o2 HZ HBr HG HL hzl
          go_wp2
          go_roundw
          case rel => exact ⟨i + 1, by omega, by go_num, HB3.out, HZ3.out, HG3.out, HL3.out⟩
          case measure => simp [intOf]; omega
        · have hem : i = es.length := by omega
          have hlt' : ¬ (i : Int) < es.length := by omega
          rw [hem] at HZ
          clear hem hlt
          go_wp2_with fail
          clear q0 q1 t0 t2
          go_loopw [10] (fun t wr => ∃ i : Nat, i ≤ L.length ∧ t = .int .i64 i ∧ Hid (Below V.heap.size V wr) ∧ Hid (IRow wr V.heap.size gz ct (szL ct of es.length)) ∧ Hid (BRow wr V.heap.size gm es.length (mkF L i)) ∧ Hid (IHas wr pl L)) (fun t _ => L.length - (intOf t).toNat)
          case atStart => exact ⟨0, by omega, rfl, HBr.out, HZ.out, HG.out, HL.out⟩
          case round =>
            clear HBr HZ HG HL
            obtain ⟨i, hi, rfl, HBr, HZ, HG, HL⟩ := hrel
            by_cases hlt : i < L.length
            · obtain ⟨b, off, rfl, l0⟩ := HL.out.at_ (j := i) hlt
              obtain ⟨o1, o2⟩ := HBA.out i hlt
              obtain ⟨k, hk⟩ : ∃ k : Nat, iat L i = k := ⟨(iat L i).toNat, by omega⟩
              have hkm : k < es.length := by omega
              rw [hk] at l0
              obtain ⟨g0, g1⟩ := HG.out.cell hkm
              have hgl := HG.out.lt
              have hmk : mkF L (i + 1) = upd (mkF L i) k true := by rw [mkF, hk]; rfl
              have HG3 : Hid (BRow (wr.setCell ⟨gm, k, none⟩ (.bool true)) V.heap.size gm es.length (mkF L (i + 1))) := by
                rw [hmk]
                exact HG.out.put k true
              have HB3 : Hid (Below V.heap.size V (wr.setCell ⟨gm, k, none⟩ (.bool true))) := HBr.out.setCell (p := ⟨gm, k, none⟩) hgl.1 _
              have HZ3 : Hid (IRow (wr.setCell ⟨gm, k, none⟩ (.bool true)) V.heap.size gz ct (szL ct of es.length)) := irow_other HZ.out (Ne.symm HNE.out) _
              have HL3 : Hid (IHas (wr.setCell ⟨gm, k, none⟩ (.bool true)) (some ⟨b, off, none⟩) L) := ihas_apart HL.out fun a ha => (HPB.out a ha).2
              have i1 : (k : Int) < es.length := by omega
              have i2 : (0 : Int) ≤ k := by omega
              have i3 : (i : Int) < L.length := by omega
              have i4 : (0 : Int) ≤ i := by omega
              clear hk hmk o1 o2 HZ HBr HG HL hgl
              go_wp2
              go_roundw
              case rel => exact ⟨i + 1, by omega, by go_num, HB3.out, HZ3.out, HG3.out, HL3.out⟩
              case measure => simp [intOf]; omega
            · have hem : i = L.length := by omega
              have hlt' : ¬ (i : Int) < L.length := by omega
              rw [hem] at HG
              clear hem hlt HL
              go_wp2_with fail
              go_loopw [11] (fun t wr => ∃ i : Nat, i ≤ es.length ∧ t = .int .i64 i ∧ Hid (Below V.heap.size V wr) ∧ Hid (IRow wr V.heap.size gz ct (szL ct of es.length)) ∧ Hid (BRow wr V.heap.size gm es.length (mkF L L.length))) (fun t _ => es.length - (intOf t).toNat)
              case atStart => exact ⟨0, by omega, rfl, HBr.out, HZ.out, HG.out⟩
              case round =>
                clear HBr HZ HG
                obtain ⟨i, hi, rfl, HBr, HZ, HG⟩ := hrel
                obtain ⟨⟨q0, q1⟩, t0, t2⟩ := HT.out wr HBr.out
                by_cases hlt : i < es.length
                · have hq : ∃ b off, p = some ⟨b, off, none⟩ ∧ Lies W b off es := by
                    rcases HH.out with h0 | h0
                    · subst h0; simp at hlt
                    · exact h0
                  obtain ⟨b, off, rfl, hLW⟩ := hq
                  obtain ⟨c0, c1⟩ := (hLW.later (below_step HBV.out HBr.out)) i hlt
                  obtain ⟨a0, _⟩ := (HIV.out.later HBr.out).cell hlt
                  rw [fnL_at _ hlt] at a0
                  obtain ⟨o1, o2⟩ := HIN.out i hlt
                  obtain ⟨k, hk⟩ : ∃ k : Nat, of i = k := ⟨(of i).toNat, by omega⟩
                  have hkc : k < ct := by omega
                  rw [hk] at a0
                  obtain ⟨z0, _⟩ := HZ.out.cell hkc
                  rw [show iat (szL ct of es.length) k = ((szB of es.length k : Nat) : Int) from fnL_at _ hkc] at z0
                  obtain ⟨g0, _⟩ := HG.out.cell hlt
                  obtain ⟨x, hx⟩ : ∃ x, (at' es i).x = x := ⟨_, rfl⟩
                  obtain ⟨y, hy⟩ : ∃ y, (at' es i).y = y := ⟨_, rfl⟩
                  obtain ⟨sz, hsz⟩ : ∃ s, szB of es.length k = s := ⟨_, rfl⟩
                  have hbr : mkF L L.length i = (decide (sz = 1) && decide (x ≠ y)) := by rw [HMK.out i hlt]; unfold brB; rw [hk, hx, hy, Int.toNat_natCast, hsz]
                  rw [hbr] at g0
                  rw [hx] at c0
                  rw [hy] at c1
                  rw [hsz] at z0
                  have i1 : (i : Int) < es.length := by omega
                  have i2 : (0 : Int) ≤ i := by omega
                  have i3 : (k : Int) < ct := by omega
                  have i4 : (0 : Int) ≤ k := by omega
                  have HB3 := hide (below_step HBr.out ((below_drew wr).trans ((below_drew wr.drew).mono (below_drew wr).size)))
                  have HZ3 := hide (HZ.out.later ((below_drew wr).trans ((below_drew wr.drew).mono (below_drew wr).size)))
                  have HG3 := hide (HG.out.later ((below_drew wr).trans ((below_drew wr.drew).mono (below_drew wr).size)))
                  clear hbr hx hy hsz hk o1 o2 hLW HBr HZ HG
                  by_cases hs1 : sz = 1
                  · subst hs1
                    by_cases hxy : x = y
                    · subst hxy
                      rw [show (decide ((1 : Nat) = 1) && decide (x ≠ x)) = false by simp] at g0
                      go_upto_region 20 with fail
                      go_region
                      go_upto_region 21 with fail
                      go_region
                      go_wp2
                      go_roundw
                      case rel => exact ⟨i + 1, by omega, by go_num, HB3.out, HZ3.out, HG3.out⟩
                      case measure => simp [intOf]; omega
                    · rw [show (decide ((1 : Nat) = 1) && decide (x ≠ y)) = true by simp [hxy]] at g0
                      go_upto_region 20 with fail
                      go_region
                      go_upto_region 21 with fail
                      go_region
                      go_wp2
                      go_roundw
                      case rel => exact ⟨i + 1, by omega, by go_num, HB3.out, HZ3.out, HG3.out⟩
                      case measure => simp [intOf]; omega
                  · rw [show (decide (sz = 1) && decide (x ≠ y)) = false by simp [hs1]] at g0
                    obtain ⟨zz, hzz⟩ : ∃ z : Int, (sz : Int) = z := ⟨_, rfl⟩
                    have hb1 : decide (zz = 1) = false := by simp; omega
                    have hb2 : (zz == 1) = false := by simp; omega
                    rw [hzz] at z0
                    clear hs1 hzz
                    by_cases hxy : x = y
                    · subst hxy
                      go_upto_region 20 with fail
                      go_region
                      go_upto_region 21 with fail
                      go_region
                      go_wp2
                      go_roundw
                      case rel => exact ⟨i + 1, by omega, by go_num, HB3.out, HZ3.out, HG3.out⟩
                      case measure => simp [intOf]; omega
                    · go_upto_region 20 with fail
                      go_region
                      go_upto_region 21 with fail
                      go_region
                      go_wp2
                      go_roundw
                      case rel => exact ⟨i + 1, by omega, by go_num, HB3.out, HZ3.out, HG3.out⟩
                      case measure => simp [intOf]; omega
                · have hlt' : ¬ (i : Int) < es.length := by omega
                  go_wp2
                  go_ret
                  exact ⟨rfl, below_step HB.out (below_step HBV.out HBr.out)⟩
end Go.Proofs.Ytobkejnlkjieoaa
