/- DualHops: its walk. -/
import Derived.Test.YtcgdmonejogbaaaJ1
import Derived.Test.YtcgdmonejogbaaaU3
import Derived.Lib.QuietBelow
import Derived.BigQuiet
import Derived.Test.YtcgdmonejogbaaaJ2
import Derived.Test.YtcgdmonejogbaaaWD
import Derived.Deep.DeepCutAuto
namespace Go.Proofs.Ytcgdmonejogbaaa
open Go.RowKit Go.Sort
open Go
theorem way_min {F : List (List Int)} {O far : List Int} (fc : Fc F O) {f : Nat} (hf : f < F.length) {d : Int} {x : Nat} (hx : nrF O far (lat F f) d (lat F f).length = (x : Int)) {h : Nat} (hh : h < O.length) (ho : iat O h = (f : Int)) (hd : iat far (acr O (h : Int)) = d) : x ≤ h := by
  obtain ⟨f2, k, hf2, hk, e1, e2⟩ := fc.on h hh
  have : f2 = f := by rw [ho] at e2; omega
  subst this
  rcases nrF_is (O := O) (far := far) (f := lat F f2) (d := d) (fun j hj => by obtain ⟨z, hz, _, _⟩ := fc.len f2 hf j hj; omega) _ (Nat.le_refl _) with ⟨h1, h2⟩ | ⟨i, hi, h1, h2, h3⟩
  · exact absurd (by rw [e1]; exact hd) (h2 k hk)
  · have := h3 k hk (by rw [e1]; exact hd)
    rw [e1] at this
    omega
/-- What Way answers. -/
def WayPost (L : List Int) (w : World) (e : Ending) (w' : World) : Prop := ∃ p1 c1 p2 n2 c2, e = .returned (.tuple #[.slice p1 L.length c1, .slice p2 n2 c2]) ∧ IOwns w' w.heap.size (.slice p1 L.length c1) L ∧ Below w.heap.size w w'
/-- The two lists of Way. -/
structure WM (w : World) (B : Nat) (v1 v2 : Value) (l1 l2 : List Int) : Prop where
  o1 : IOwns w B v1 l1
  o2 : IOwns w B v2 l2
  ne : ∀ i, v1.ownBlock = some i → v2.ownBlock ≠ some i
theorem WM.later {w w' : World} {B : Nat} {v1 v2 : Value} {l1 l2 : List Int} (h : WM w B v1 v2 l1 l2) (hb : Below w.heap.size w w') : WM w' B v1 v2 l1 l2 := ⟨h.o1.later hb, h.o2.later hb, h.ne⟩
theorem WM.push1 {w : World} {B : Nat} {v1 v2 : Value} {l1 l2 : List Int} (h : WM w B v1 v2 l1 l2) (x : Int) (hB : B ≤ w.heap.size) (hl : l1.length ≤ 90000) : ∃ p c D, (Builtin.append_ #[44, 44] 44 #[v1, .slice (some ⟨w.heap.size, 0, none⟩) 1 1]).run Try.prog (w.alloc (.cells #[.int .i64 x] 3)) = .ok (.slice p (l1.length + 1) c) D ∧ WM D B (.slice p (l1.length + 1) c) v2 (l1 ++ [x]) l2 ∧ Below B w D := by
  have hb1 : Below w.heap.size w (w.alloc (.cells #[.int .i64 x] 3)) := by go_grown
  have h1 := h.later hb1
  have hB1 : B ≤ (w.alloc (.cells #[.int .i64 x] 3)).heap.size := Nat.le_trans hB hb1.size
  obtain ⟨v', D, e1, o1, gr, at1⟩ := append_int h1.o1 (one_int w x) hB1 hl
  obtain ⟨p1, c1, hv1, _⟩ := o1.form
  rw [List.length_append, List.length_singleton] at hv1
  subst hv1
  refine ⟨p1, c1, D, e1, ⟨o1, World.ownsRow.kept h1.o2 gr ?_, fun i hi hi2 => ?_⟩, below_grown (hb1.mono hB) h1.o1 (Nat.le_refl _) hB1 gr⟩
  · by_cases hn : v2.ownBlock = none
    · exact Or.inl hn
    · refine Or.inr (fun e => ?_)
      cases hv : v1.ownBlock with
      | none => rw [hv] at e; exact hn e
      | some k => rw [hv] at e; exact h.ne k hv e
  · rcases at1 with e2 | e2
    · exact h.ne i (by rw [← e2]; exact hi) hi2
    · rw [e2] at hi
      injection hi with hi
      have h3 := (World.ownsRow.lt h1.o2 i hi2).2
      omega
theorem WM.push2 {w : World} {B : Nat} {v1 v2 : Value} {l1 l2 : List Int} (h : WM w B v1 v2 l1 l2) (x : Int) (hB : B ≤ w.heap.size) (hl : l2.length ≤ 90000) : ∃ p c D, (Builtin.append_ #[44, 44] 44 #[v2, .slice (some ⟨w.heap.size, 0, none⟩) 1 1]).run Try.prog (w.alloc (.cells #[.int .i64 x] 3)) = .ok (.slice p (l2.length + 1) c) D ∧ WM D B v1 (.slice p (l2.length + 1) c) l1 (l2 ++ [x]) ∧ Below B w D := by
  have hs : WM w B v2 v1 l2 l1 := ⟨h.o2, h.o1, fun i h1 h2 => h.ne i h2 h1⟩
  obtain ⟨p, c, D, e, m, b⟩ := hs.push1 x hB hl
  exact ⟨p, c, D, e, ⟨m.o2, m.o1, fun i h1 h2 => m.ne i h2 h1⟩, b⟩
set_option maxRecDepth 100000 in
set_option maxHeartbeats 32000000 in
theorem way70 (n : Int) (p : Option Addr) (es : List Pt) (cp : Nat) (q : Option Addr) (rs : List (List Int)) (cq a gf too B0 : Nat) (far : List Int) (w : World) (hr : RHas w q rs) (h0 : rotI n es rs = 0) (ha : a < (facesL es rs).length) (hD : DT (facesL es rs) (ofL es rs) too far) (hfar : IRow w B0 gf (facesL es rs).length far) (h0a : 0 ≤ iat far a) (hbd : ∀ x, x < (facesL es rs).length → iat far x ≤ (facesL es rs).length) :
    Calls Try.prog 70 #[nv n p es.length cp, .slice q rs.length cq, .int .i64 a, .slice (some ⟨gf, 0, none⟩) (facesL es rs).length (facesL es rs).length] w (WayPost (hopL (facesL es rs) (ofL es rs) far too ((facesL es rs).length + 1) a) w) := by
  obtain ⟨W, hW, hb0, a0⟩ := one_net w n p es.length cp
  obtain ⟨n0, n1, hes, _⟩ := netB_is (rot_is h0).1
  have OF := hide (of46 n p es cp q rs cq W (hr.later hb0) h0)
  have hfl := facesL_le h0
  have fc := fc_of (rot_is h0).2.2
  have hol : (ofL es rs).length = 2 * es.length := (edge_ok (rot_is h0).2.2).len
  have HB := hide hb0
  have HA := hide a0
  have HFR := hide (hfar.later hb0)
  have HBD := hide hbd
  obtain ⟨F, hF⟩ : ∃ F, facesL es rs = F := ⟨_, rfl⟩
  obtain ⟨O, hO⟩ : ∃ O, ofL es rs = O := ⟨_, rfl⟩
  obtain ⟨m, hm⟩ : ∃ m, 2 * es.length = m := ⟨_, rfl⟩
  rw [hF] at fc hfl ha hD HFR HBD ⊢
  rw [hO] at OF fc hol hD ⊢
  rw [hm] at OF hol
  have HFC := hide fc
  have HDT := hide hD
  have hm2 : m ≤ 90000 := by omega
  obtain ⟨Lw, hLw⟩ : ∃ Lw, hopL F O far too (F.length + 1) a = Lw := ⟨_, rfl⟩
  rw [hLw]
  have HLW := hide hLw
  have HST0 : Hid (a < F.length ∧ 0 ≤ iat far a ∧ iat far a < ((F.length + 1 : Nat) : Int)) := ⟨ha, h0a, by have := hbd a (by rw [hF]; exact ha); rw [hF] at this; omega⟩
  obtain ⟨N, hN⟩ : ∃ N, F.length = N := ⟨_, rfl⟩
  have HN := hide hN
  rw [hN] at HFR hfl HST0 HLW ⊢
  clear hr hb0 a0 h0 fc hF hO hm hD hfar hbd h0a ha hLw hN
  go_enter Try.func70, Try.ntmps70
  go_wp2_with fail
  rw [← hW]
  clear hW
  refine OF.out.mono ?_
  rintro e w1 ⟨go, rfl, hro, hb1⟩
  have HB1 := hide hb1
  have HO1 := hide hro
  have HF1 := hide (HFR.out.later hb1)
  clear hb1 hro OF
  obtain ⟨X, hX⟩ : ∃ X, X = w1.alloc (.cells #[.int .i64 a] 3) := ⟨_, rfl⟩
  have hbX : Below w1.heap.size w1 X := by rw [hX]; go_grown
  obtain ⟨kx, hkx⟩ : ∃ k, w1.heap.size = k := ⟨_, rfl⟩
  have HWM : Hid (WM X w1.heap.size (.slice none 0 0) (.slice (some ⟨kx, 0, none⟩) 1 1) [] [(a : Int)]) := by
    refine ⟨IOwns.nil _ _, ?_, fun i hi => by simp [Value.ownBlock] at hi⟩
    rw [hX, ← hkx]
    exact owns_lit w1 a
  have HBX := hide hbX
  go_wp2_with fail
  rw [← hX]
  try rw [hkx]
  clear hX hbX hkx
  go_loopg [11, 12, 13] (N + 1) (fun gk t11 t12 t13 wr => ∃ (f : Nat) (dn l2 : List Int) (p1 : Option Addr) (c1 : Nat) (p2 : Option Addr) (c2 : Nat), t11 = .slice p1 dn.length c1 ∧ t12 = .slice p2 l2.length c2 ∧ t13 = .int .i64 f ∧ Hid (dn ++ hopL F O far too gk f = Lw) ∧ Hid (f < N ∧ 0 ≤ iat far f ∧ iat far f < (gk : Int)) ∧ Hid (dn.length + gk ≤ N + 1 ∧ l2.length = dn.length + 1) ∧ Hid (Below w1.heap.size w1 wr) ∧ Hid (WM wr w1.heap.size (.slice p1 dn.length c1) (.slice p2 l2.length c2) dn l2))
  case atStart => exact ⟨a, [], [(a : Int)], none, 0, some ⟨kx, 0, none⟩, 1, rfl, rfl, rfl, HLW.out, HST0.out, ⟨by simp, rfl⟩, HBX.out, HWM.out⟩
  case round =>
    obtain ⟨f, dn, l2, p1, c1, p2, c2, rfl, rfl, rfl, HTI, HFF, HLEN, HBr, HWr⟩ := hrel
    clear HBX HWM HLW HST0
    obtain ⟨hfN, hf0, hfg⟩ := HFF.out
    have HFw := hide (HF1.out.later HBr.out)
    have q0 := (HFw.out.cell hfN).1
    have f1 : (f : Int) < N := by omega
    obtain ⟨y, hy⟩ : ∃ y, iat far f = y := ⟨_, rfl⟩
    have hyb : y ≤ (N : Int) := by have := HBD.out f (by rw [HN.out]; exact hfN); rw [HN.out, hy] at this; exact this
    rw [hy] at q0 hf0 hfg
    by_cases hpos : 0 < y
    · obtain ⟨k2, rfl⟩ : ∃ k, gk = k + 1 := ⟨gk - 1, by omega⟩
      have hne : f ≠ too := fun e => by
        have := HDT.out.zero
        rw [← e, hy] at this
        omega
      obtain ⟨x, nx, hxO, htO, eO, hac, hfx, hof⟩ := hop_step HFC.out HDT.out (a := f) (by rw [HN.out]; exact hfN) (by rw [hy]; omega) hne
      rw [hy] at nx hfx
      rw [hol] at hxO htO
      rw [HN.out] at hac
      have HMIN : Hid (∀ h, h < x → h < m → iat O h = (f : Int) → iat far (acr O (h : Int)) ≠ y - 1) := fun h h1 h2 h3 h4 => by
        have := way_min HFC.out (f := f) (by rw [HN.out]; exact hfN) (d := y - 1) nx (h := h) (by rw [hol]; exact h2) h3 h4
        omega
      have HTO : Hid (dn ++ [((x / 2 : Nat) : Int)] ++ hopL F O far too k2 (acr O (x : Int)) = Lw) := by
        have := HTI.out
        unfold hopL at this
        rw [if_neg hne, hy, nx, Int.toNat_natCast] at this
        rw [← this, List.append_assoc]
        rfl
      obtain ⟨Y, hYw⟩ : ∃ Y, Y = wr := ⟨_, rfl⟩
      subst hYw
      have HOY := hide (HO1.out.later HBr.out)
      have HXX := hide (show x < m from hxO)
      obtain ⟨q2, hq2⟩ : ∃ z : Nat, x / 2 = z := ⟨_, rfl⟩
      have hq : Int.tdiv (x : Int) 2 = (q2 : Int) := by
        rw [Int.tdiv_eq_ediv_of_nonneg (by omega)]
        omega
      have hqb : q2 ≤ 100000 := by omega
      rw [hq2] at HTO
      obtain ⟨nf, hnf⟩ : ∃ z, acr O (x : Int) = z := ⟨_, rfl⟩
      rw [hnf] at HTO hac hfx
      have HNF := hide hnf
      have HFX := hide hfx
      have HEV : Hid (∀ h, h < m → tw h < m ∧ iat O (tw h) = (acr O (h : Int) : Nat) ∧ acr O (h : Int) < N) := fun h hh => by
        obtain ⟨mm, hmm⟩ := HFC.out.even
        rw [hol] at hmm
        have ht : tw h < m := by rw [hmm] at hh ⊢; exact tw_lt hh
        obtain ⟨f2, k, hf2, _, _, e2⟩ := HFC.out.on (tw h) (by rw [hol]; exact ht)
        rw [HN.out] at hf2
        unfold acr
        rw [Int.toNat_natCast, e2, Int.toNat_natCast]
        exact ⟨ht, rfl, hf2⟩
      clear HTI nx hq2 hnf hfx hxO htO eO
      go_wp2_with fail
      clear q0
      go_loopw [11, 12, 13, 14] (fun t11 t12 t13 t14 wj => ∃ h : Nat, h ≤ x ∧ t11 = .slice p1 dn.length c1 ∧ t12 = .slice p2 l2.length c2 ∧ t13 = .int .i64 f ∧ t14 = .int .i64 h ∧ Hid (Below Y.heap.size Y wj)) (fun _ _ _ t14 _ => m - (intOf t14).toNat)
      case atStart => exact ⟨0, by omega, rfl, rfl, rfl, rfl, Below.refl _ _⟩
      case round =>
        obtain ⟨h, hhx, rfl, rfl, rfl, rfl, HBj⟩ := hrel
        have hhm : h < m := by have := HXX.out; omega
        have h1 : (h : Int) < m := by omega
        obtain ⟨htw, hta, hab⟩ := HEV.out h hhm
        have TW := hide (twin25 h wr (by omega))
        have HOj := hide (HOY.out.later HBj.out)
        have HFj := hide (HFw.out.later HBj.out)
        obtain ⟨b, hbb⟩ : ∃ b, acr O (h : Int) = b := ⟨_, rfl⟩
        rw [hbb] at hta hab
        obtain ⟨ov, hov⟩ : ∃ ov, iat O h = ov := ⟨_, rfl⟩
        obtain ⟨th, hth⟩ : ∃ t, tw h = t := ⟨_, rfl⟩
        obtain ⟨z, hz⟩ : ∃ z, iat far b = z := ⟨_, rfl⟩
        have o0 := (HOj.out.cell hhm).1
        have o1 := (HOj.out.cell htw).1
        have e0 := (HFj.out.cell hab).1
        have e1 := (HFj.out.cell hfN).1
        rw [hov] at o0
        rw [hta, hth] at o1
        rw [hth] at TW htw
        rw [hz] at e0
        rw [hy] at e1
        have b1 : (b : Int) < N := by omega
        have t1 : (th : Int) < m := by omega
        have h00 : (0 : Int) ≤ h := by omega
        have k3 : wrap64 (y - 1) = y - 1 := by unfold wrap64; omega
        clear hta hth
        by_cases hhe : h = x
        · subst hhe
          have hov2 : ov = f := by rw [← hov]; exact hof
          have hbn : b = nf := by rw [← hbb]; exact HNF.out
          have hz2 : z = y - 1 := by rw [← hz, hbn]; exact HFX.out
          have d1 : (ov == (f : Int)) = true := by rw [beq_iff_eq]; exact hov2
          have d2 : (z == y - 1) = true := by rw [beq_iff_eq]; exact hz2
          clear hov2 hz2 hov hz hbb HNF
          subst hbn
          go_upto_region 10 with (go_at_call 40; refine TW.out.mono ?_; rintro e w5 ⟨rfl, hb5⟩; have HB5 := hide (below_step HBj.out hb5); have o1 := later hb5 o1; have C0 := cell_regrown (later hb5 o0); have E0 := cell_regrown (later hb5 e0); have E1 := cell_regrown (later hb5 e1); clear hb5)
          clear o0 o1 e0 e1
          refine wp_region_quiet_below (by kernel_rfl) (by kernel_rfl) ?_
          repeat (go_big_quiet_step (fail))
          refine wpQuiet_nil ?_
          intro w6 hw6
          have hb6 : Below w5.heap.size w5 w6 := by
            obtain ⟨⟨dq, osq⟩, hw''⟩ := hw6
            rw [hw'']
            exact below_regrown w5 dq osq
          have HB6 := hide (below_step HB5.out hb6)
          clear C0 E0 E1 hw6 hb6 HB5 HBj TW
          have HW6 := hide (HWr.out.later HB6.out)
          have HB7 := hide (below_step HBr.out HB6.out)
          obtain ⟨p5, c5, D5, ea, wm5, bd5⟩ := HW6.out.push1 (q2 : Int) HB7.out.size (by have := HLEN.out; omega)
          have HW5 := hide wm5
          have HBD5 : Hid (Below w1.heap.size w1 D5) := HB7.out.trans bd5
          obtain ⟨p7, c7, D7, eb, wm7, bd7⟩ := wm5.push2 (b : Int) HBD5.out.size (by have := HLEN.out; omega)
          have HW7 := hide wm7
          have HBD7 : Hid (Below w1.heap.size w1 D7) := HBD5.out.trans bd7
          have HNX : Hid (b < N ∧ 0 ≤ iat far b ∧ iat far b < (k2 : Int)) := ⟨hac, by rw [HFX.out]; omega, by rw [HFX.out]; omega⟩
          have HL7 : Hid ((dn ++ [(q2 : Int)]).length = dn.length + 1 ∧ (l2 ++ [(b : Int)]).length = l2.length + 1) := ⟨by simp, by simp⟩
          clear wm5 bd5 wm7 bd7 HWr HW6 HW5 HBr d1 d2 k3
          go_upto_region 12 with (at_builtin; refine wpList_run_append rfl (.tmp 56) (.tmp 59) 44 rfl 44 rfl _ _ _ D5 rfl rfl ea ?_)
          go_wp2_with (at_builtin; refine wpList_run_append rfl (.tmp 61) (.tmp 63) 44 rfl 44 rfl _ _ _ D7 rfl rfl eb ?_)
          go_roundg k2
          case measure => omega
          case rel => exact ⟨b, dn ++ [(q2 : Int)], l2 ++ [(b : Int)], p5, c5, p7, c7, by rw [HL7.out.1], by rw [HL7.out.2], rfl, HTO.out, HNX.out, by show _ ∧ _; rw [HL7.out.1, HL7.out.2]; have := HLEN.out; omega, HBD7.out, by show WM _ _ _ _ _ _; rw [HL7.out.1, HL7.out.2]; exact HW7.out⟩
        · by_cases hov2 : ov = f
          · have hz2 : z ≠ y - 1 := fun e => HMIN.out h (by omega) hhm (by rw [hov]; exact hov2) (by rw [hbb, hz]; exact e)
            have d1 : (ov == (f : Int)) = true := by rw [beq_iff_eq]; exact hov2
            have d2 : (z == y - 1) = false := by rw [beq_eq_false_iff_ne]; exact hz2
            clear hov2 hz2 hov hz hbb
            go_upto_region 10 with (go_at_call 40; refine TW.out.mono ?_; rintro e w5 ⟨rfl, hb5⟩; have HB5 := hide (below_step HBj.out hb5); have o1 := later hb5 o1; have C0 := cell_regrown (later hb5 o0); have E0 := cell_regrown (later hb5 e0); have E1 := cell_regrown (later hb5 e1); clear hb5)
            clear o0 o1 e0 e1
            refine wp_region_quiet_below (by kernel_rfl) (by kernel_rfl) ?_
            repeat (go_big_quiet_step (fail))
            refine wpQuiet_nil ?_
            intro w6 hw6
            have hb6 : Below w5.heap.size w5 w6 := by
              obtain ⟨⟨dq, osq⟩, hw''⟩ := hw6
              rw [hw'']
              exact below_regrown w5 dq osq
            have HB6 := hide (below_step HB5.out hb6)
            clear C0 E0 E1 hw6 hb6 HB5 HBj TW
            go_wp2_with fail
            go_roundw
            case rel => exact ⟨h + 1, by omega, rfl, rfl, rfl, by go_num, HB6.out⟩
            case measure => simp [intOf]; have := HXX.out; omega
          · have d1 : (ov == (f : Int)) = false := by rw [beq_eq_false_iff_ne]; exact hov2
            clear hov2 hov hz hbb
            go_upto_region 10 with (go_at_call 40; refine TW.out.mono ?_; rintro e w5 ⟨rfl, hb5⟩; have HB5 := hide (below_step HBj.out hb5); have o1 := later hb5 o1; have C0 := cell_regrown (later hb5 o0); have E0 := cell_regrown (later hb5 e0); have E1 := cell_regrown (later hb5 e1); clear hb5)
            clear o0 o1 e0 e1
            refine wp_region_quiet_below (by kernel_rfl) (by kernel_rfl) ?_
            repeat (go_big_quiet_step (fail))
            refine wpQuiet_nil ?_
            intro w6 hw6
            have hb6 : Below w5.heap.size w5 w6 := by
              obtain ⟨⟨dq, osq⟩, hw''⟩ := hw6
              rw [hw'']
              exact below_regrown w5 dq osq
            have HB6 := hide (below_step HB5.out hb6)
            clear C0 E0 E1 hw6 hb6 HB5 HBj TW
            go_wp2_with fail
            go_roundw
            case rel => exact ⟨h + 1, by omega, rfl, rfl, rfl, by go_num, HB6.out⟩
            case measure => simp [intOf]; have := HXX.out; omega
    · have hy0 : y = 0 := by omega
      have hft : f = too := HDT.out.only f (by rw [HN.out]; exact hfN) (by rw [hy]; exact hy0)
      have HE : Hid (dn = Lw) := by
        have := HTI.out
        have e : hopL F O far too gk f = [] := by
          cases gk with
          | zero => rfl
          | succ k => unfold hopL; rw [if_pos hft]
        rw [e, List.append_nil] at this
        exact this
      clear hy0 hft
      have hwh : w.heap.size ≤ w1.heap.size := Nat.le_trans HB.out.size HB1.out.size
      go_wp2_with fail
      go_ret2
      exact ⟨p1, c1, p2, l2.length, c2, by rw [← HE.out]; rfl, by rw [← HE.out]; exact HWr.out.o1.base hwh, below_step (below_step HB.out HB1.out) HBr.out⟩
end Go.Proofs.Ytcgdmonejogbaaa
namespace Go.Proofs.Ytcgdmonejogbaaa
open Go.RowKit Go.Sort
open Go
set_option maxRecDepth 100000 in
set_option maxHeartbeats 8000000 in
theorem rHop29off (n : Int) (p : Option Addr) (es : List Pt) (cp : Nat) (q : Option Addr) (rs : List (List Int)) (cq : Nat) (a b : Int) (w : World) (hr : RHas w q rs) (h0 : rotI n es rs = 0) (hab : ¬ ((0 ≤ a ∧ a < (facesL es rs).length) ∧ 0 ≤ b ∧ b < (facesL es rs).length)) : Calls Try.prog 29 #[nv n p es.length cp, .slice q rs.length cq, .int .i64 a, .int .i64 b] w fun e w' => e = .returned (.tuple #[.slice none 0 0, .int .i64 2]) ∧ Below w.heap.size w w' := by
  obtain ⟨W, hW, hb0, a0⟩ := one_net w n p es.length cp
  have FC := hide (faces45 n p es cp q rs cq W (hr.later hb0) h0)
  have HB := hide hb0
  obtain ⟨N, hN⟩ : ∃ N, (facesL es rs).length = N := ⟨_, rfl⟩
  rw [hN] at FC hab
  clear hr hb0 a0 h0 hN
  by_cases h1 : a < 0
  · clear hab
    go_enter Try.func29, Try.ntmps29
    go_wp2_with fail
    rw [← hW]
    clear hW
    refine FC.out.mono ?_
    rintro e w1 ⟨p1, c1, rv1, rfl, _, hb1⟩
    have HB1 := hide (below_step HB.out hb1)
    clear hb1 FC
    go_wp2_with fail
    go_ret2
    exact ⟨rfl, HB1.out⟩
  · by_cases h2 : b < 0
    · clear hab
      go_enter Try.func29, Try.ntmps29
      go_wp2_with fail
      rw [← hW]
      clear hW
      refine FC.out.mono ?_
      rintro e w1 ⟨p1, c1, rv1, rfl, _, hb1⟩
      have HB1 := hide (below_step HB.out hb1)
      clear hb1 FC
      go_wp2_with fail
      go_ret2
      exact ⟨rfl, HB1.out⟩
    · by_cases h3 : (N : Int) ≤ a
      · clear hab
        go_enter Try.func29, Try.ntmps29
        go_wp2_with fail
        rw [← hW]
        clear hW
        refine FC.out.mono ?_
        rintro e w1 ⟨p1, c1, rv1, rfl, _, hb1⟩
        have HB1 := hide (below_step HB.out hb1)
        clear hb1 FC
        go_wp2_with fail
        go_ret2
        exact ⟨rfl, HB1.out⟩
      · have h4 : (N : Int) ≤ b := by omega
        clear hab
        go_enter Try.func29, Try.ntmps29
        go_wp2_with fail
        rw [← hW]
        clear hW
        refine FC.out.mono ?_
        rintro e w1 ⟨p1, c1, rv1, rfl, _, hb1⟩
        have HB1 := hide (below_step HB.out hb1)
        clear hb1 FC
        go_wp2_with fail
        go_ret2
        exact ⟨rfl, HB1.out⟩
/-- HopPost with letters. -/
def HopP (y : Int) (L : List Int) (w : World) (e : Ending) (w' : World) : Prop := ((y < 0 ∧ e = Ending.returned (.tuple #[.slice none 0 0, .int .i64 14])) ∨ (0 ≤ y ∧ ∃ p1 c1, e = Ending.returned (.tuple #[.slice p1 L.length c1, .int .i64 0]) ∧ IOwns w' w.heap.size (.slice p1 L.length c1) L)) ∧ Below w.heap.size w w'
set_option maxRecDepth 100000 in
set_option maxHeartbeats 8000000 in
theorem rHop29 (n : Int) (p : Option Addr) (es : List Pt) (cp : Nat) (q : Option Addr) (rs : List (List Int)) (cq a b : Nat) (w : World) (hr : RHas w q rs) (h0 : rotI n es rs = 0) (ha : a < (facesL es rs).length) (hb : b < (facesL es rs).length) : Calls Try.prog 29 #[nv n p es.length cp, .slice q rs.length cq, .int .i64 a, .int .i64 b] w fun e w' => HopPost es rs a b w e w' ∧ Below w.heap.size w w' := by
  obtain ⟨W, hW, hb0, a0⟩ := one_net w n p es.length cp
  have FC := hide (faces45 n p es cp q rs cq W (hr.later hb0) h0)
  obtain ⟨hdt, hbd⟩ := dist_ok (fc_of (rot_is h0).2.2) hb
  have FA : Hid (∀ V gt, Below W.heap.size W V → V.cell? ⟨gt, 0, none⟩ = some (.int .i64 b) → Calls Try.prog 69 #[nv n p es.length cp, .slice q rs.length cq, .slice (some ⟨gt, 0, none⟩) 1 1] V fun e w' => ∃ g, e = .returned (.slice (some ⟨g, 0, none⟩) (facesL es rs).length (facesL es rs).length) ∧ IRow w' V.heap.size g (facesL es rs).length (dist (facesL es rs) (ofL es rs) b) ∧ Below V.heap.size V w') := fun V gt hV hg => far69 n p es cp q rs cq gt b V ((hr.later hb0).later hV) h0 hb hg
  have WY : Hid (∀ V B0 g, Below W.heap.size W V → 0 ≤ iat (dist (facesL es rs) (ofL es rs) b) a → IRow V B0 g (facesL es rs).length (dist (facesL es rs) (ofL es rs) b) → Calls Try.prog 70 #[nv n p es.length cp, .slice q rs.length cq, .int .i64 a, .slice (some ⟨g, 0, none⟩) (facesL es rs).length (facesL es rs).length] V (WayPost (hopL (facesL es rs) (ofL es rs) (dist (facesL es rs) (ofL es rs) b) b ((facesL es rs).length + 1) a) V)) := fun V B0 g hV h1 h2 => way70 n p es cp q rs cq a g b B0 _ V ((hr.later hb0).later hV) h0 ha hdt h2 h1 (fun x hx => (hbd x hx).2)
  have HB := hide hb0
  have HA := hide a0
  unfold HopPost
  obtain ⟨L, hL⟩ : ∃ L, hopL (facesL es rs) (ofL es rs) (dist (facesL es rs) (ofL es rs) b) b ((facesL es rs).length + 1) a = L := ⟨_, rfl⟩
  obtain ⟨D, hD⟩ : ∃ D, dist (facesL es rs) (ofL es rs) b = D := ⟨_, rfl⟩
  obtain ⟨N, hN⟩ : ∃ N, (facesL es rs).length = N := ⟨_, rfl⟩
  rw [hL] at WY ⊢
  rw [hD] at FA WY ⊢
  rw [hN] at FC FA WY ha hb
  obtain ⟨y, hy⟩ : ∃ y, iat D a = y := ⟨_, rfl⟩
  rw [hy] at WY ⊢
  have HY := hide hy
  clear hr hb0 a0 h0 hL hD hN hdt hbd hy
  have j1 : ¬ (a : Int) < 0 := by omega
  have j2 : ¬ (b : Int) < 0 := by omega
  have j3 : ¬ (N : Int) ≤ a := by omega
  have j4 : ¬ (N : Int) ≤ b := by omega
  have j5 : (a : Int) < N := by omega
  suffices hs : Calls Try.prog 29 #[nv n p es.length cp, .slice q rs.length cq, .int .i64 a, .int .i64 b] w (HopP y L w) from hs.mono (fun e w' h => h)
  go_enter Try.func29, Try.ntmps29
  go_wp2_with fail
  rw [← hW]
  obtain ⟨kg, hkg⟩ : ∃ k, w.heap.size = k := ⟨_, rfl⟩
  have HKG := hide hkg
  rw [hkg] at HA
  try rw [hkg]
  clear hW hkg
  refine FC.out.mono ?_
  rintro e w1 ⟨p1, c1, rv1, rfl, _, hb1⟩
  have HB1 := hide hb1
  obtain ⟨g0, g1, _, _⟩ := HA.out.later hb1
  clear hb1 FC
  obtain ⟨X, hX⟩ : ∃ X, X = w1.alloc (.cells #[.int .i64 b] 3) := ⟨_, rfl⟩
  have hbX : Below w1.heap.size w1 X := by rw [hX]; go_grown
  have HFX := hide (FA.out X w1.heap.size (below_step HB1.out hbX) (by rw [hX]; go_cell))
  have HX := hide hX
  have HBX := hide (below_step HB1.out hbX)
  clear hX hbX FA
  go_upto_region 5 with (go_at_call 69; rw [← HX.out]; refine HFX.out.mono ?_; rintro e w2 ⟨g, rfl, hrow, hb2⟩; have HB2 := hide (below_step HBX.out hb2); have HR2 := hide hrow; clear hb2 hrow)
  have c0 := (HR2.out.cell ha).1
  rw [HY.out] at c0
  by_cases hy0 : y < 0
  · go_wp2_with fail
    go_ret2
    exact ⟨Or.inl ⟨hy0, rfl⟩, below_step HB.out HB2.out⟩
  · have hy1 : 0 ≤ y := by omega
    have WW := hide (WY.out w2 _ g HB2.out hy1 HR2.out)
    obtain ⟨x0, x1, _, _⟩ := HA.out.later HB2.out
    have hwh : w.heap.size ≤ w2.heap.size := Nat.le_trans HB.out.size HB2.out.size
    go_wp2_with (go_at_call 70; refine WW.out.mono ?_; rintro e w3 ⟨p3, c3, p4, n4, c4, rfl, o3, hb3⟩; have HO3 := hide o3; have HB3 := hide (below_step HB2.out hb3); clear o3 hb3)
    go_ret2
    exact ⟨Or.inr ⟨hy1, p3, c3, rfl, HO3.out.base hwh⟩, below_step HB.out HB3.out⟩
end Go.Proofs.Ytcgdmonejogbaaa
namespace Go.Proofs.Ytcgdmonejogbaaa
open Go.RowKit Go.Sort
open Go
/-- There is a way. -/
def HopsOk (n : Int) (es : List Pt) (rs : List (List Int)) (a b : Int) : Prop := rotI n es rs = 0 ∧ ((0 ≤ a ∧ a < (facesL es rs).length) ∧ 0 ≤ b ∧ b < (facesL es rs).length) ∧ 0 ≤ iat (dist (facesL es rs) (ofL es rs) b.toNat) a.toNat
def hopR (es : List Pt) (rs : List (List Int)) (a b : Nat) : List Int := hopL (facesL es rs) (ofL es rs) (dist (facesL es rs) (ofL es rs) b) b ((facesL es rs).length + 1) a
theorem hopR_len {n : Int} {es : List Pt} {rs : List (List Int)} {a b : Nat} (ok : HopsOk n es rs a b) : ((hopR es rs a b).length : Int) = iat (dist (facesL es rs) (ofL es rs) b) a ∧ (hopR es rs a b).length ≤ (facesL es rs).length := by
  obtain ⟨h0, h1, h2⟩ := ok
  rw [Int.toNat_natCast, Int.toNat_natCast] at h2
  have fc := fc_of (rot_is h0).2.2
  obtain ⟨D, hb⟩ := dist_ok fc (too := b) (by omega)
  have := (hb a (by omega)).2
  have := hop_len fc D ((facesL es rs).length + 1) a (by omega) h2 (by omega)
  unfold hopR
  omega
end Go.Proofs.Ytcgdmonejogbaaa
