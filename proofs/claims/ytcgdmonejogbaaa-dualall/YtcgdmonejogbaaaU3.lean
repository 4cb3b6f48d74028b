/- The document's Of and Genus: as the program's. -/
import Derived.Test.YtcgdmonejogbaaaU1
/- The document's Faces: as the program's. -/
namespace Go.Proofs.Ytcgdmonejogbaaa
open Go.RowKit Go.Sort
open Go
/-- Who is marked. -/
def mkB (C : List Int) (x : Nat) : Bool := decide (0 ≤ iat C x)
/-- A face under way, the marks as truth values. -/
structure TF (w : World) (B g m : Nat) (C f : List Int) (face fv : Value) (F : List (List Int)) (rv : Nat → Value) : Prop where
  row : BRow w B g m (mkB C)
  len : C.length = m
  fb : FB w B fv F rv
  fc : IOwns w B face f
  n3 : ∀ u j, u < F.length → face.ownBlock = some j → (rv u).ownBlock ≠ some j
variable {w w' : World} {B g m : Nat} {C f : List Int} {face fv : Value} {F : List (List Int)} {rv : Nat → Value}
theorem TF.later (h : TF w B g m C f face fv F rv) (hb : Below w.heap.size w w') : TF w' B g m C f face fv F rv :=
  ⟨h.row.later hb, h.len, h.fb.later hb, h.fc.later hb, h.n3⟩
theorem FB.offBool {w : World} {B B' g n : Nat} {fv : Value} {F : List (List Int)} {rv : Nat → Value} {xs : List Value} (h : FB w B fv F rv) (o : w.ownsRow B' 4 1 (.slice (some ⟨g, 0, none⟩) n n) n xs) (j : Nat) (u : Value) : FB (w.setCell ⟨g, j, none⟩ u) B fv F rv := by
  obtain ⟨cur, hk⟩ := row_kind o
  exact ⟨ownsRow_setCell_other (a := ⟨g, j, none⟩) h.lst (row_apart hk h.lst (by decide)) _, h.uniq, fun v hv => ownsRow_setCell_other (a := ⟨g, j, none⟩) (h.own v hv) (row_apart hk (h.own v hv) (by decide)) _⟩
theorem TF.mark (h : TF w B g m C f face fv F rv) {j : Nat} (hj : j < m) (x : Int) (hx : 0 ≤ x) : TF (w.setCell ⟨g, j, none⟩ (.bool true)) B g m (C.set j x) f face fv F rv := by
  obtain ⟨cur, hk⟩ := row_kind h.row
  refine ⟨(h.row.set hj).congr fun i hi => ?_, by rw [List.length_set]; exact h.len, h.fb.offBool h.row j _, ownsRow_setCell_other (a := ⟨g, j, none⟩) h.fc (row_apart hk h.fc (by decide)) _, h.n3⟩
  unfold mkB
  rw [iat_set _ _ _ _ (by rw [h.len]; exact hi)]
  by_cases e : i = j
  · rw [if_pos e, if_pos e.symm, decide_eq_true hx]
  · rw [if_neg e, if_neg (fun h => e h.symm)]
set_option maxRecDepth 100000 in
theorem TF.grow (h : TF w B g m C f face fv F rv) (x : Int) (hB : B ≤ w.heap.size) (hl : f.length ≤ 90000) :
    ∃ p1 c1 D, (Builtin.append_ #[44, 44] 44 #[face, .slice (some ⟨w.heap.size, 0, none⟩) 1 1]).run Try.prog (w.alloc (.cells #[.int .i64 x] 3)) = .ok (.slice p1 (f.length + 1) c1) D ∧ TF D B g m C (f ++ [x]) (.slice p1 (f.length + 1) c1) fv F rv ∧ Below B w D := by
  have hb1 : Below w.heap.size w (w.alloc (.cells #[.int .i64 x] 3)) := by go_grown
  have h1 := h.later hb1
  have hB1 : B ≤ (w.alloc (.cells #[.int .i64 x] 3)).heap.size := Nat.le_trans hB hb1.size
  obtain ⟨v1, D, e1, o1, gr, at1⟩ := append_int h1.fc (one_int w x) hB1 hl
  obtain ⟨p1, c1, hv1, _⟩ := o1.form
  have hlen : (f ++ [x]).length = f.length + 1 := by simp
  rw [hlen] at hv1
  subst hv1
  have down : ∀ v l, v.ownBlock ≠ face.ownBlock ∨ v.ownBlock = none → IOwns (w.alloc (.cells #[.int .i64 x] 3)) B v l → IOwns D B v l := fun v l hv o => by
    refine World.ownsRow.kept o gr ?_
    rcases hv with hv | hv
    · exact Or.inr (fun e => hv e)
    · exact Or.inl hv
  have hnew : ∀ j, (Value.slice p1 (f.length + 1) c1).ownBlock = some j → face.ownBlock = some j ∨ j = (w.alloc (.cells #[.int .i64 x] 3)).heap.size := fun j hj => by
    rcases at1 with e | e
    · exact Or.inl (by rw [← e]; exact hj)
    · rw [e] at hj; injection hj with hj; exact Or.inr hj.symm
  obtain ⟨cur, hk⟩ := row_kind h1.row
  refine ⟨p1, c1, D, e1, ⟨?_, h.len, ⟨?_, h.fb.uniq, fun v hv => ?_⟩, o1, ?_⟩, below_grown (hb1.mono hB) h1.fc (Nat.le_refl _) hB1 gr⟩
  · exact World.ownsRow.kept h1.row gr (Or.inr fun e => row_apart hk h1.fc (by decide) e.symm)
  · refine World.ownsRow.kept h1.fb.lst gr ?_
    cases hb : fv.ownBlock with
    | none => exact Or.inl rfl
    | some j => exact Or.inr (fun e => lst_apart h1.fb.lst h1.fc hb e.symm)
  · refine down _ _ ?_ (h1.fb.own v hv)
    cases hb : (rv v).ownBlock with
    | none => exact Or.inr rfl
    | some j => exact Or.inl (fun e => h.n3 v j hv e.symm hb)
  · intro u j hu hj hr
    rcases hnew j hj with e | e
    · exact h.n3 u j hu e hr
    · have := (World.ownsRow.lt (h1.fb.own u hu) j hr).2
      omega
set_option maxRecDepth 100000 in
/-- One list more, other rows of truth values as they were. -/
theorem FB.pushB {w : World} {B g m : Nat} {fv : Value} {F : List (List Int)} {rv : Nat → Value} {L : List Int} {a : Option Addr} {b c : Nat} {C : List Int} (h : FB w B fv F rv) (hr : BRow w B g m (mkB C)) (hB : B ≤ w.heap.size) (hx : IOwns w B (.slice a b c) L) (hn : ∀ u j, u < F.length → (Value.slice a b c).ownBlock = some j → (rv u).ownBlock ≠ some j) (hl : F.length ≤ 1000000) :
    ∃ p1 l1 c1 D, (Builtin.append_ #[25, 25] 25 #[fv, .slice (some ⟨w.heap.size, 0, none⟩) 1 1]).run Try.prog (w.alloc (.cells #[.slice a b c] 44)) = .ok (.slice p1 l1 c1) D ∧ l1 = F.length + 1 ∧ FB D B (.slice p1 l1 c1) (F ++ [L]) (upd rv F.length (.slice a b c)) ∧ Below B w D ∧ BRow D B g m (mkB C) := by
  obtain ⟨p1, l1, c1, D, e1, h1, h2, h3, _⟩ := h.push hB hx hn hl
  have hb1 : Below w.heap.size w (w.alloc (.cells #[.slice a b c] 44)) := by go_grown
  have hf := h.later hb1
  have hB1 : B ≤ (w.alloc (.cells #[.slice a b c] 44)).heap.size := Nat.le_trans hB hb1.size
  obtain ⟨v1, D', e2, o1, gr, at1⟩ := append_lst (g := w.heap.size) (x := .slice a b c) hf.lst (by go_cell) rfl hB1 (by omega)
  have eD : D' = D := by
    rw [e1] at e2
    injection e2 with _ e3
    exact e3.symm
  subst eD
  obtain ⟨cur, hk⟩ := row_kind (hr.later hb1)
  exact ⟨p1, l1, c1, D', e1, h1, h2, h3, World.ownsRow.kept (hr.later hb1) gr (Or.inr fun e => row_apart hk hf.lst (by decide) e.symm)⟩
set_option maxRecDepth 100000 in
set_option maxHeartbeats 16000000 in
theorem faces45 (n : Int) (p : Option Addr) (es : List Pt) (cp : Nat) (q : Option Addr) (rs : List (List Int)) (cq : Nat) (w : World) (hr : RHas w q rs) (h0 : rotI n es rs = 0) : Calls Try.prog 36 #[nv n p es.length cp, .slice q rs.length cq] w fun e w' => ∃ p1 c1 rv, e = .returned (.slice p1 (facesL es rs).length c1) ∧ FB w' w.heap.size (.slice p1 (facesL es rs).length c1) (facesL es rs) rv ∧ Below w.heap.size w w' := by
  obtain ⟨W, hW, hb0, a0⟩ := one_net w n p es.length cp
  obtain ⟨z1, z2⟩ := rot_bounds h0
  obtain ⟨n0, n1, hes, _⟩ := netB_is (rot_is h0).1
  have hrn : (rs.length : Int) = n := (rot_is h0).2.1
  have HIN := hide (rot_in h0)
  have NX := hide (next69 n p es cp q rs cq W (hr.later hb0) (by omega) (by omega) (fun v hv => by have := z2 v hv; omega) HIN.out)
  obtain ⟨i0, hi0, hz0, hz1, hz2⟩ := info_parts info4
  have HR := hide (hr.later hb0)
  have HB := hide hb0
  have HA := hide a0
  clear hr hb0 a0 h0 z2
  go_enter Try.func36, Try.ntmps36
  go_wp2_with fail
  rw [← hW]
  obtain ⟨kg, hkg⟩ : ∃ k, w.heap.size = k := ⟨_, rfl⟩
  have HKG := hide hkg
  rw [hkg] at HA
  try rw [hkg]
  clear hW hkg
  refine NX.out.mono ?_
  rintro e w1 ⟨gN, rfl, hrow, hb1⟩
  have HB1 := hide hb1
  have HN1 := hide hrow
  clear hrow hb1 NX
  obtain ⟨m, hm⟩ : ∃ m, 2 * es.length = m := ⟨_, rfl⟩
  have HM := hide hm
  have hm2 : m ≤ 90000 := by omega
  have HFE : Hid (facesL es rs = (trN (nxN rs m rs.length) m m).2 ++ emptyN rs rs.length) := by show _ = _; rw [← hm]; rfl
  have HIM : Hid (∀ j, j < m → 0 ≤ iat (nxN rs m rs.length) j ∧ iat (nxN rs m rs.length) j < m) := fun j hj => by
    have hl := nxN_length rs m rs.length
    have := nxN_in (m := m) (by omega) (fun v hv i hi => by have := HIN.out v hv i hi; rw [← hm]; omega) _ (Nat.le_refl _) _ (iat_mem (l := nxN rs m rs.length) (by rw [hl]; exact hj))
    exact this
  rw [hm] at HN1 ⊢
  clear hm
  have HNL := hide (nxN_length rs m rs.length)
  obtain ⟨N, hN⟩ : ∃ N, nxN rs m rs.length = N := ⟨_, rfl⟩
  rw [hN] at HN1 HFE HIM HNL
  clear hN
  go_wp2_with (refine wpList_make_full _ rfl (.tmp 16) (.tmp 16) 68 rfl w1.heap.size 4 i0 (.bool false) 1 Try.underlying68 hi0 hz0 hz1 .i64 .i64 _ _ m rfl rfl rfl rfl ?c1 ?c2 ?c3 ?_)
  all_goals first | (intro w2 hown hgrow) | (case c3 => exact Nat.le_refl _) | (case c2 => unfold maxLen; omega) | (case c1 => first | omega | (rw [hz2]; omega))
  have hgp := brow_made hown
  obtain ⟨g, hg⟩ : ∃ g, w1.heap.size = g := ⟨_, rfl⟩
  have HG0 : Hid (BRow w2 w1.heap.size g m (mkB (trN N m 0).1)) := by
    show BRow _ _ _ _ _
    rw [hg] at hgp ⊢
    exact hgp.congr fun i hi => by
      unfold mkB trN
      rw [iat_fill hi]
      rfl
  have HB2 := hide (below_made hgrow)
  have HF0 : Hid (FB w2 w1.heap.size (.slice none (trN N m 0).2.length 0) (trN N m 0).2 (fun _ => .slice none 0 0)) := FB.nil _ _
  try rw [hg]
  clear hown hgrow hgp hg hi0 hz0 hz1 hz2 i0
  go_wp2_with fail
  go_loopw [7, 8] (fun t7 t8 wr => ∃ (v : Nat) (p4 : Option Addr) (c4 : Nat) (rv : Nat → Value), v ≤ m ∧ t7 = .slice p4 (trN N m v).2.length c4 ∧ t8 = .int .i64 v ∧ Hid (Below w1.heap.size w1 wr) ∧ Hid (BRow wr w1.heap.size g m (mkB (trN N m v).1)) ∧ Hid (FB wr w1.heap.size (.slice p4 (trN N m v).2.length c4) (trN N m v).2 rv)) (fun _ t8 _ => m - (intOf t8).toNat)
  case atStart => exact ⟨0, none, 0, _, by omega, rfl, rfl, HB2.out, HG0.out, HF0.out⟩
  case round =>
    obtain ⟨v, p4, c4, rv, hv, rfl, rfl, HBr, HRr, HFr⟩ := hrel
    clear HB2 HG0 HF0
    by_cases hlt : v < m
    · have e1 : (v : Int) < m := by omega
      obtain ⟨d0, f0⟩ := HRr.out.cell hlt
      have HTR : Hid (trN N m (v + 1) = if iat (trN N m v).1 v < 0 then ((trIn N (trN N m v).2.length (m + 1) v (trN N m v).1 []).1, (trN N m v).2 ++ [(trIn N (trN N m v).2.length (m + 1) v (trN N m v).1 []).2]) else trN N m v) := rfl
      have hfl := trN_faces N m v
      have HCL := hide (trN_len N m v)
      obtain ⟨C, hC⟩ : ∃ C, (trN N m v).1 = C := ⟨_, rfl⟩
      obtain ⟨F, hF⟩ : ∃ F, (trN N m v).2 = F := ⟨_, rfl⟩
      rw [hC] at d0 HTR HCL HRr
      rw [hF] at HTR hfl HFr ⊢
      have HCC := hide hC
      have HFF := hide hF
      clear hC hF
      by_cases hx : iat C v < 0
      · rw [if_pos hx] at HTR
        rw [show mkB C v = false from decide_eq_false (by omega)] at d0
        have HTS : Hid (TF wr w1.heap.size g m C [] (.slice none 0 0) (.slice p4 F.length c4) F rv) := ⟨HRr.out, HCL.out, HFr.out, IOwns.nil _ _, fun u j _ h => by simp [Value.ownBlock] at h⟩
        obtain ⟨R, hR⟩ : ∃ R, trIn N F.length (m + 1) v C [] = R := ⟨_, rfl⟩
        rw [hR] at HTR
        have HRR := hide hR
        clear hR HRr HFr hx
        go_wp2_with fail
        clear d0 f0
        go_loopg [9, 10] (m + 1) (fun gk t9 t10 wj => ∃ (C2 f2 : List Int) (h : Nat) (p7 : Option Addr) (c7 : Nat), h < m ∧ t9 = .slice p7 f2.length c7 ∧ t10 = .int .i64 h ∧ Hid (trIn N F.length gk h C2 f2 = R) ∧ Hid (unl C2 < gk) ∧ Hid (f2.length + unl C2 ≤ m) ∧ Hid (Below w1.heap.size w1 wj) ∧ Hid (TF wj w1.heap.size g m C2 f2 (.slice p7 f2.length c7) (.slice p4 F.length c4) F rv))
        case atStart => exact ⟨C, [], v, none, 0, hlt, rfl, rfl, HRR.out, by show _ < _; have := unl_le C; have := HCL.out; omega, by show _ ≤ _; have := unl_le C; have := HCL.out; simp; omega, HBr.out, HTS.out⟩
        case round =>
          obtain ⟨C2, f2, h, p7, c7, hh, rfl, rfl, HTI, HUN, HUM, HBj, HTj⟩ := hrel
          clear HBr HTS
          obtain ⟨d0, f0⟩ := HTj.out.row.cell hh
          have e2 : (h : Int) < m := by omega
          obtain ⟨k, rfl⟩ : ∃ k, gk = k + 1 := ⟨gk - 1, by have := HUN.out; omega⟩
          have hf9 : f2.length ≤ 90000 := by have := HUM.out; omega
          by_cases hy0 : iat C2 h < 0
          · rw [show mkB C2 h = false from decide_eq_false (by omega)] at d0
            have HNX : Hid (trIn N F.length k (iat N h) (C2.set h F.length) (f2 ++ [(h : Int)]) = R) := by
              have := HTI.out
              unfold trIn at this
              rw [Int.toNat_natCast, if_pos hy0] at this
              exact this
            have HUS := hide (unl_set C2 h F.length (by rw [HTj.out.len]; exact hh) (by omega) (by omega))
            obtain ⟨z0, z1⟩ := HIM.out h hh
            obtain ⟨Z, hZ⟩ : ∃ Z, Z = wr.setCell ⟨g, h, none⟩ (.bool true) := ⟨_, rfl⟩
            have HTZ : Hid (TF Z w1.heap.size g m (C2.set h F.length) f2 (.slice p7 f2.length c7) (.slice p4 F.length c4) F rv) := by
              show TF _ _ _ _ _ _ _ _ _ _
              rw [hZ]
              exact HTj.out.mark hh F.length (by omega)
            have HBZ : Hid (Below w1.heap.size w1 Z) := by show Below _ _ _; rw [hZ]; exact HBj.out.setCell (p := ⟨g, h, none⟩) HTj.out.row.lt.1 _
            clear hy0
            go_upto_region 13 with fail
            rw [← hZ]
            clear hZ d0 f0 HTj HBj
            obtain ⟨p1, c1, D, ea, ts1, bd⟩ := HTZ.out.grow h HBZ.out.size hf9
            have HBD : Hid (Below w1.heap.size w1 D) := HBZ.out.trans bd
            have HTD := hide ts1
            obtain ⟨cN, _⟩ := (HN1.out.later HBD.out).cell hh
            obtain ⟨h2, hh2⟩ : ∃ h2 : Nat, iat N h = h2 := ⟨(iat N h).toNat, by omega⟩
            rw [hh2] at cN HNX z1
            have HFL : Hid ((f2 ++ [(h : Int)]).length = f2.length + 1) := by show _ = _; simp
            have HUN2 : Hid (unl (C2.set h F.length) < k) := by show _ < _; have := HUN.out; have := HUS.out; omega
            have HUM2 : Hid ((f2 ++ [(h : Int)]).length + unl (C2.set h F.length) ≤ m) := by show _ ≤ _; rw [HFL.out]; have := HUM.out; have := HUS.out; omega
            have z2 : h2 < m := by omega
            clear hh2 ts1 bd z0 z1 HUS HUN HUM HTI
            go_wp2_with (at_builtin; refine wpList_run_append rfl (.tmp 41) (.tmp 43) 44 rfl 44 rfl _ _ _ D rfl rfl ea ?_)
            go_roundg k
            case measure => omega
            case rel => exact ⟨C2.set h F.length, f2 ++ [(h : Int)], h2, p1, c1, z2, by rw [HFL.out], rfl, HNX.out, HUN2.out, HUM2.out, HBD.out, by show TF _ _ _ _ _ _ _ _ _ _; rw [HFL.out]; exact HTD.out⟩
          · rw [show mkB C2 h = true from decide_eq_true (by omega)] at d0
            have HRE : Hid (R = (C2, f2)) := by
              have := HTI.out
              unfold trIn at this
              rw [Int.toNat_natCast, if_neg hy0] at this
              exact this.symm
            obtain ⟨p9, l9, c9, D, ea, hl9, fbD, bd, brD⟩ := HTj.out.fb.pushB HTj.out.row HBj.out.size HTj.out.fc HTj.out.n3 (by omega)
            have HBD : Hid (Below w1.heap.size w1 D) := HBj.out.trans bd
            have HFD := hide fbD
            have HRD := hide brD
            have HL9 := hide hl9
            have HFL : Hid ((F ++ [f2]).length = l9) := by show _ = _; rw [hl9]; simp
            rw [HRE.out] at HTR
            clear fbD bd brD hl9 HTj HBj hy0
            go_wp2_with (at_builtin; refine wpList_run_append rfl (.tmp 45) (.tmp 47) 25 rfl 25 rfl _ _ _ D rfl rfl ea ?_)
            go_roundw
            case rel => exact ⟨v + 1, p9, c9, _, by omega, by rw [HTR.out, HFL.out], by go_num, HBD.out, by show BRow _ _ _ _ _; rw [HTR.out]; exact HRD.out, by show FB _ _ _ _ _; rw [HTR.out, HFL.out]; exact HFD.out⟩
            case measure => simp [intOf]; omega
      · rw [if_neg hx] at HTR
        rw [show mkB C v = true from decide_eq_true (by omega)] at d0
        clear hx
        go_wp2
        go_roundw
        case rel => exact ⟨v + 1, p4, c4, rv, by omega, by rw [HTR.out, HFF.out], by go_num, HBr.out, by show BRow _ _ _ _ _; rw [HTR.out, HCC.out]; exact HRr.out, by show FB _ _ _ _ _; rw [HTR.out, HFF.out]; exact HFr.out⟩
        case measure => simp [intOf]; omega
    · have hve : v = m := by omega
      have e1 : ¬ (v : Int) < m := by omega
      rw [hve] at HFr ⊢
      have hfl := trN_faces N m m
      obtain ⟨EF, hEF⟩ : ∃ EF, (trN N m m).2 = EF := ⟨_, rfl⟩
      rw [hEF] at HFr HFE hfl ⊢
      have HB3 := hide (below_step HB1.out HBr.out)
      have HF3 : Hid (∃ rv, FB wr W.heap.size (.slice p4 EF.length c4) EF rv) := ⟨rv, HFr.out.base HB1.out.size⟩
      clear hEF hve HRr HFr HBr hlt
      go_wp2_with fail
      go_loopw [7, 11] (fun t7 t11 wr => ∃ (v : Nat) (p7 : Option Addr) (c7 : Nat), v ≤ rs.length ∧ t7 = .slice p7 (EF ++ emptyN rs v).length c7 ∧ t11 = .int .i64 v ∧ Hid (Below W.heap.size W wr) ∧ Hid (∃ rv, FB wr W.heap.size (.slice p7 (EF ++ emptyN rs v).length c7) (EF ++ emptyN rs v) rv)) (fun _ t11 _ => rs.length - (intOf t11).toNat)
      case atStart => exact ⟨0, p4, c4, by omega, by simp [emptyN], rfl, HB3.out, by show ∃ rv, _; simp only [emptyN, List.append_nil]; exact HF3.out⟩
      case round =>
        obtain ⟨v, p7, c7, hv, rfl, rfl, HBr, HFr⟩ := hrel
        clear HB3 HF3
        obtain ⟨g0, g1, _, _⟩ := HA.out.later HBr.out
        by_cases hlt : v < rs.length
        · obtain ⟨b1, o1, a1, k1, rfl, c0W, m1, z3⟩ := HR.out.at_ hlt
          have c0 := later HBr.out c0W
          have e1 : (v : Int) < rs.length := by omega
          have e1' : (v : Int) < n := by omega
          have HEN : Hid (emptyN rs (v + 1) = if (lat rs v).length = 0 then emptyN rs v ++ [[]] else emptyN rs v) := rfl
          have hev := emptyN_le rs v
          clear m1 z3 c0W
          by_cases hl0 : (lat rs v).length = 0
          · rw [if_pos hl0] at HEN
            rw [hl0] at c0
            obtain ⟨rv', hfb⟩ := HFr.out
            have hlen : (EF ++ emptyN rs v).length ≤ 1000000 := by rw [List.length_append]; omega
            have hws : W.heap.size ≤ wr.heap.size := HBr.out.size
            obtain ⟨p9, l9, c9, D, ea, hl9, fbD, bd, _⟩ := hfb.push (L := []) (a := none) (b := 0) (c := 0) hws (IOwns.nil _ _) (fun u j _ hj => by simp [Value.ownBlock] at hj) hlen
            have bd2 : Below W.heap.size W D := HBr.out.trans bd
            have HBD := hide bd2
            have HFL2 : Hid ((EF ++ emptyN rs (v + 1)).length = l9) := by show _ = _; rw [HEN.out, hl9, ← List.append_assoc]; simp; omega
            have HFD : Hid (∃ rv, FB D W.heap.size (.slice p9 l9 c9) (EF ++ emptyN rs (v + 1)) rv) := ⟨_, by rw [HEN.out, ← List.append_assoc]; exact fbD⟩
            clear hfb fbD bd bd2 hl9 hl0 hlen hws
            go_wp2_with (at_builtin; refine wpList_run_append rfl (.tmp 61) (.tmp 62) 25 rfl 25 rfl _ _ _ D rfl rfl ea ?_)
            go_roundw
            case rel => exact ⟨v + 1, p9, c9, by omega, by rw [HFL2.out], by go_num, HBD.out, by show ∃ rv, _; rw [HFL2.out]; exact HFD.out⟩
            case measure => simp [intOf]; omega
          · rw [if_neg hl0] at HEN
            have t1 : (((lat rs v).length : Int) == 0) = false := beq_eq_false_iff_ne.2 (by omega)
            clear hl0
            go_wp2
            go_roundw
            case rel => exact ⟨v + 1, p7, c7, by omega, by rw [HEN.out], by go_num, HBr.out, by show ∃ rv, _; rw [HEN.out]; exact HFr.out⟩
            case measure => simp [intOf]; omega
        · have hve : v = rs.length := by omega
          have e1 : ¬ (v : Int) < n := by omega
          rw [hve] at HFr ⊢
          rw [← HFE.out] at HFr ⊢
          have HFF : Hid (∃ rv, FB wr w.heap.size (.slice p7 (facesL es rs).length c7) (facesL es rs) rv) := by obtain ⟨r, hr⟩ := HFr.out; exact ⟨r, hr.base HB.out.size⟩
          have HBB := hide (below_step HB.out HBr.out)
          have e2 : ¬ (rs.length : Int) < n := by omega
          clear hve HFr HBr
          go_wp2
          go_ret
          obtain ⟨r, hr⟩ := HFF.out
          exact ⟨p7, c7, rfl, ⟨r, hr⟩, HBB.out⟩
end Go.Proofs.Ytcgdmonejogbaaa
namespace Go.Proofs.Ytcgdmonejogbaaa
open Go.RowKit Go.Sort
open Go
/-- The faces' numbers of those half-edges that are over. -/
def ofB (F : List (List Int)) (O : List Int) (m f k : Nat) : List Int := (List.range m).map fun x => if ((x : Nat) : Int) ∈ ahead F f k then iat O x else 0
theorem ofB_len (F : List (List Int)) (O : List Int) (m f k : Nat) : (ofB F O m f k).length = m := by simp [ofB]
theorem ofB_at {F : List (List Int)} {O : List Int} {m f k x : Nat} (hx : x < m) : iat (ofB F O m f k) x = if ((x : Nat) : Int) ∈ ahead F f k then iat O x else 0 := by
  unfold ofB iat
  rw [List.getD_eq_getElem?_getD, List.getElem?_map, List.getElem?_range hx]
  rfl
theorem ofB_zero (F : List (List Int)) (O : List Int) (m : Nat) : ofB F O m 0 0 = List.replicate m 0 := by
  refine list_iat (by rw [ofB_len]; simp) fun i hi => ?_
  rw [ofB_len] at hi
  rw [ofB_at hi, ahead_zero, iat_fill hi]
  simp
theorem ofB_step {F : List (List Int)} {O : List Int} {m f k x : Nat} (hk : k < (lat F f).length) (hx : iat (lat F f) k = (x : Int)) (hO : iat O x = f) : ofB F O m f (k + 1) = (ofB F O m f k).set x f := by
  refine list_iat (by rw [List.length_set, ofB_len, ofB_len]) fun i hi => ?_
  rw [ofB_len] at hi
  rw [iat_set _ _ _ _ (by rw [ofB_len]; exact hi), ofB_at hi, ofB_at hi, ahead_succ hk, hx]
  by_cases e : x = i
  · subst e
    rw [if_pos rfl, if_pos (by simp), hO]
  · rw [if_neg e]
    have : ((i : Int) ∈ ahead F f k ++ [(x : Int)]) ↔ (i : Int) ∈ ahead F f k := by
      rw [List.mem_append]
      constructor
      · rintro (h | h)
        · exact h
        · simp at h; omega
      · exact Or.inl
    by_cases h : (i : Int) ∈ ahead F f k
    · rw [if_pos (this.2 h), if_pos h]
    · rw [if_neg (fun h2 => h (this.1 h2)), if_neg h]
variable {n : Nat} {es : List Pt} {rs : List (List Int)}
/-- The number of the face that a half-edge is on. -/
theorem of_face (h : holdsP es rs) {f k : Nat} (hf : f < (facesL es rs).length) (hk : k < (lat (facesL es rs) f).length) : ∃ x : Nat, iat (lat (facesL es rs) f) k = (x : Int) ∧ x < 2 * es.length ∧ iat (ofL es rs) x = f := by
  by_cases hfe : f < (edgeF es rs).length
  · have el : lat (facesL es rs) f = lat (edgeF es rs) f := by unfold facesL; exact lat_app hfe
    obtain ⟨a, p, ha, _, hp, hl, ep, hall, _⟩ := (edge_ok h).fc f hfe
    rw [el, hl] at hk ⊢
    rw [rd_len] at hk
    exact ⟨_, rd_at hk, (real_prm h).it_lt ha k, (hall k hk).1⟩
  · rw [lat_empty (by omega) hf] at hk
    simp at hk
theorem ofB_all (h : holdsP es rs) : ofB (facesL es rs) (ofL es rs) (2 * es.length) (facesL es rs).length 0 = ofL es rs := by
  have hol : (ofL es rs).length = 2 * es.length := (edge_ok h).len
  refine list_iat (by rw [ofB_len, hol]) fun i hi => ?_
  rw [ofB_len] at hi
  rw [ofB_at hi, ahead_all, if_pos]
  obtain ⟨h1, h2⟩ := faces_flat h
  refine all_in (m := 2 * es.length) h1 (fun x hx => ?_) h2 hi
  obtain ⟨l, hl, hxl⟩ := List.mem_flatten.1 hx
  obtain ⟨f, hf, ef⟩ := List.mem_iff_getElem.1 hl
  obtain ⟨k, hk, ek⟩ := mem_iat hxl
  obtain ⟨y, y1, y2, _⟩ := of_face h hf (k := k) (by rw [lat_get hf, ef]; exact hk)
  rw [lat_get hf, ef, ek] at y1
  omega
set_option maxRecDepth 100000 in
set_option maxHeartbeats 16000000 in
theorem of46 (n : Int) (p : Option Addr) (es : List Pt) (cp : Nat) (q : Option Addr) (rs : List (List Int)) (cq : Nat) (w : World) (hr : RHas w q rs) (h0 : rotI n es rs = 0) : Calls Try.prog 39 #[nv n p es.length cp, .slice q rs.length cq] w fun e w' => ∃ g, e = .returned (.slice (some ⟨g, 0, none⟩) (2 * es.length) (2 * es.length)) ∧ IRow w' w.heap.size g (2 * es.length) (ofL es rs) ∧ Below w.heap.size w w' := by
  obtain ⟨W, hW, hb0, a0⟩ := one_net w n p es.length cp
  obtain ⟨n0, n1, hes, _⟩ := netB_is (rot_is h0).1
  have FC := hide (faces45 n p es cp q rs cq W (hr.later hb0) h0)
  obtain ⟨i0, hi0, hz0, hz1, hz2⟩ := info_parts info3
  have HB := hide hb0
  have HA := hide a0
  have hfl := facesL_le h0
  have HLE : Hid (∀ v, v < (facesL es rs).length → (lat (facesL es rs) v).length ≤ 2 * es.length + 1) := fun v hv => face_le es rs hv
  have HOF : Hid (∀ f k, f < (facesL es rs).length → k < (lat (facesL es rs) f).length → ∃ x : Nat, iat (lat (facesL es rs) f) k = (x : Int) ∧ x < 2 * es.length ∧ iat (ofL es rs) x = f) := fun f k hf hk => of_face (rot_is h0).2.2 hf hk
  have HAL := hide (ofB_all (rot_is h0).2.2)
  clear hr hb0 a0 h0
  obtain ⟨m, hm⟩ : ∃ m, 2 * es.length = m := ⟨_, rfl⟩
  obtain ⟨F, hF⟩ : ∃ F, facesL es rs = F := ⟨_, rfl⟩
  obtain ⟨O, hO⟩ : ∃ O, ofL es rs = O := ⟨_, rfl⟩
  rw [hm] at HLE HOF HAL ⊢
  rw [hF] at FC HLE HOF HAL hfl
  rw [hO] at HOF HAL ⊢
  have hm2 : m ≤ 90000 := by omega
  have hmi : 2 * (es.length : Int) = m := by omega
  clear hF hO
  go_enter Try.func39, Try.ntmps39
  go_wp2_with fail
  rw [← hW]
  obtain ⟨kg, hkg⟩ : ∃ k, w.heap.size = k := ⟨_, rfl⟩
  have HKG := hide hkg
  rw [hkg] at HA
  try rw [hkg]
  clear hW hkg
  refine FC.out.mono ?_
  rintro e w1 ⟨p1, c1, rv1, rfl, hfb, hb1⟩
  have HF1 := hide (hfb.has fun v hv => Nat.le_trans (HLE.out v hv) (show m + 1 ≤ maxLen by unfold maxLen; omega))
  have HB1 := hide hb1
  obtain ⟨g0, g1, _, _⟩ := HA.out.later hb1
  clear hb1 hfb FC
  go_wp2_with (refine wpList_make_full _ rfl (.tmp 15) (.tmp 15) 44 rfl w1.heap.size 3 i0 (.int .i64 0) 1 Try.underlying44 hi0 hz0 hz1 .i64 .i64 _ _ m rfl (by first | exact congrArg (fun z => some (Value.int .i64 z)) hmi | rfl | (rw [hmi]; rfl) | (simp only [Act.eval]; rw [hmi]; rfl) | simp [hmi]) (by first | exact congrArg (fun z => some (Value.int .i64 z)) hmi | rfl | (rw [hmi]; rfl) | simp [hmi]) rfl ?c1 ?c2 ?c3 ?_)
  all_goals first | (intro w2 hown hgrow) | (case c3 => exact Nat.le_refl _) | (case c2 => unfold maxLen; omega) | (case c1 => first | omega | (rw [hz2]; omega))
  have hgp := irow_made hown
  obtain ⟨g, hg⟩ : ∃ g, w1.heap.size = g := ⟨_, rfl⟩
  have HG0 : Hid (IRow w2 w1.heap.size g m (ofB F O m 0 0)) := by
    show IRow _ _ _ _ _
    rw [ofB_zero]
    rw [hg] at hgp ⊢
    exact hgp
  have HB2 := hide (below_made hgrow)
  try rw [hg]
  clear hown hgrow hgp hg hi0 hz0 hz1 hz2 i0 g0 g1
  go_wp2_with fail
  go_loopw [7] (fun t7 wr => ∃ f : Nat, f ≤ F.length ∧ t7 = .int .i64 f ∧ Hid (Below w1.heap.size w1 wr) ∧ Hid (IRow wr w1.heap.size g m (ofB F O m f 0))) (fun t7 _ => F.length - (intOf t7).toNat)
  case atStart => exact ⟨0, by omega, rfl, HB2.out, HG0.out⟩
  case round =>
    obtain ⟨f, hf, rfl, HBr, HGr⟩ := hrel
    clear HB2 HG0
    by_cases hlt : f < F.length
    · obtain ⟨bF, oF, aF, kF, rfl, cF, mF, zF, _⟩ := HF1.out.at_ hlt
      have e1 : (f : Int) < F.length := by omega
      have hlf := HLE.out f hlt
      have HMF := hide mF
      have HCF := hide cF
      clear mF zF cF
      go_wp2_with fail
      go_loopw [8] (fun t8 wj => ∃ k : Nat, k ≤ (lat F f).length ∧ t8 = .int .i64 k ∧ Hid (Below w1.heap.size w1 wj) ∧ Hid (IRow wj w1.heap.size g m (ofB F O m f k))) (fun t8 _ => (lat F f).length - (intOf t8).toNat)
      case atStart => exact ⟨0, by omega, rfl, HBr.out, HGr.out⟩
      case round =>
        obtain ⟨k, hk, rfl, HBj, HGj⟩ := hrel
        clear HBr HGr
        have c0 := later HBj.out HCF.out
        by_cases hkl : k < (lat F f).length
        · rcases HMF.out.later HBj.out with hn | ⟨b2, o2, rfl, l2⟩
          · rw [hn] at hkl; simp at hkl
          obtain ⟨x, ex, hx, hox⟩ := HOF.out f k hlt hkl
          have c3 := l2 k hkl
          rw [ex] at c3
          have HST : Hid (ofB F O m f (k + 1) = (ofB F O m f k).set x f) := ofB_step hkl ex hox
          obtain ⟨d0, f0⟩ := HGj.out.cell hx
          have HSET := hide (HGj.out.set x f)
          have HBS : Hid (Below w1.heap.size w1 (wr.setCell ⟨g, x, none⟩ (.int .i64 f))) := HBj.out.setCell (p := ⟨g, x, none⟩) HGj.out.lt.1 _
          rw [← HST.out] at HSET
          have j1 : (k : Int) < (lat F f).length := by omega
          have j2 : (x : Int) < m := by omega
          clear l2 ex hox HGj
          go_wp2
          go_roundw
          case rel => exact ⟨k + 1, by omega, by go_num, HBS.out, HSET.out⟩
          case measure => simp [intOf]; omega
        · have hke : k = (lat F f).length := by omega
          have j1 : ¬ (k : Int) < (lat F f).length := by omega
          have HA9 : Hid (ofB F O m (f + 1) 0 = ofB F O m f k) := by show _ = _; unfold ofB; rw [hke, ahead_next hlt]
          rw [← HA9.out] at HGj
          clear hke hkl
          go_wp2
          go_roundw
          case rel => exact ⟨f + 1, by omega, by go_num, HBj.out, HGj.out⟩
          case measure => simp [intOf]; omega
    · have hfe : f = F.length := by omega
      have e1 : ¬ (f : Int) < F.length := by omega
      rw [hfe, HAL.out] at HGr
      have HGE : Hid (IRow wr w.heap.size g m O) := HGr.out.base (by have := HB1.out.size; have := HB.out.size; omega)
      have HBE := hide (below_step HB.out (below_step HB1.out HBr.out))
      clear hfe HGr HBr
      go_wp2
      go_ret
      exact ⟨g, rfl, HGE.out, HBE.out⟩
end Go.Proofs.Ytcgdmonejogbaaa
