/- dual.Hop, in every world. -/
import Derived.Test.YtcgdmonejogbaaaH2
import Derived.Deep.QuietTactic
/- Pure: distances over faces lead back; the way over faces. -/
namespace Go.Proofs.Ytcgdmonejogbaaa
open Go.RowKit Go.Sort
open Go
variable {F : List (List Int)} {O : List Int} {too : Nat}
/-- Whoever is marked was found from one that is nearer by one. -/
structure DT (F : List (List Int)) (O : List Int) (too : Nat) (far : List Int) : Prop where
  len : far.length = F.length
  zero : iat far too = 0
  only : ∀ x, x < F.length → iat far x = 0 → x = too
  back : ∀ x, x < F.length → 0 < iat far x → ∃ k, k < (lat F x).length ∧ iat far (acr O (iat (lat F x) k)) = iat far x - 1
/-- From the other side. -/
theorem other_side (h : Fc F O) {x j : Nat} (hx : x < F.length) (hj : j < (lat F x).length) : ∃ k, k < (lat F (acr O (iat (lat F x) j))).length ∧ acr O (iat (lat F (acr O (iat (lat F x) j))) k) = x := by
  obtain ⟨y, e, hy, ho⟩ := h.len x hx j hj
  obtain ⟨h1, h2, h3⟩ := h.acr hx hj
  rw [e, Int.toNat_natCast] at h2 h3
  obtain ⟨g, k, hg, hk, e2, e3⟩ := h.on (tw y) h3
  have hgb : g = acr O (iat (lat F x) j) := by rw [e]; rw [h2] at e3; omega
  subst hgb
  refine ⟨k, hk, ?_⟩
  rw [e2]
  unfold acr
  rw [Int.toNat_natCast, tw_tw, ho, Int.toNat_natCast]
theorem DT.put {far : List Int} (fc : Fc F O) (h : DT F O too far) {x j : Nat} (hx : x < F.length) (hj : j < (lat F x).length) (h0 : 0 ≤ iat far x) (hn : iat far (acr O (iat (lat F x) j)) < 0) : DT F O too (far.set (acr O (iat (lat F x) j)) (iat far x + 1)) := by
  obtain ⟨hb, _⟩ := fc.acr hx hj
  obtain ⟨k0, hk0, ek0⟩ := other_side fc hx hj
  obtain ⟨b, hbb⟩ : ∃ b, acr O (iat (lat F x) j) = b := ⟨_, rfl⟩
  rw [hbb] at hb hk0 ek0 hn ⊢
  have hl := h.len
  have at_ : ∀ y, y < F.length → iat (far.set b (iat far x + 1)) y = if b = y then iat far x + 1 else iat far y := fun y hy => iat_set _ _ _ _ (by omega)
  have hz := h.zero
  have htl : too < F.length := by
    apply Classical.byContradiction
    intro hc
    rw [show iat far too = 0 from hz] at hz
    have hbx : b ≠ too := fun e => by rw [e] at hb; exact hc hb
    exact hc (by
      have := h.only x hx
      by_cases hx0 : iat far x = 0
      · have := this hx0; omega
      · obtain ⟨n, hn2⟩ : ∃ n : Nat, iat far x = n := ⟨(iat far x).toNat, by omega⟩
        suffices A : ∀ (n : Nat) (y : Nat), y < F.length → iat far y = n → too < F.length from A n x hx hn2
        intro n
        induction n with
        | zero => intro y hy e; have := h.only y hy (by omega); omega
        | succ n ih =>
          intro y hy e
          obtain ⟨k, hk, ek⟩ := h.back y hy (by omega)
          exact ih _ (fc.acr hy hk).1 (by omega))
  refine ⟨by simp [hl], ?_, fun y hy e => ?_, fun y hy e => ?_⟩
  · rw [at_ too htl, if_neg (fun e => by rw [e] at hn; omega)]; exact hz
  · rw [at_ y hy] at e
    split at e
    · omega
    · exact h.only y hy e
  · rw [at_ y hy] at e ⊢
    by_cases hby : b = y
    · subst hby
      rw [if_pos rfl]
      refine ⟨k0, hk0, ?_⟩
      rw [ek0, at_ x hx, if_neg (fun e => by rw [e] at hn; omega)]
      omega
    · rw [if_neg hby] at e ⊢
      obtain ⟨k, hk, ek⟩ := h.back y hy e
      refine ⟨k, hk, ?_⟩
      obtain ⟨hc, _⟩ := fc.acr hy hk
      rw [at_ _ hc, if_neg (fun e2 => by rw [← e2] at ek; omega)]
      exact ek
theorem DT.dIn {s : List Int × List Int} (fc : Fc F O) (ok : Dok F s) (h : DT F O too s.1) {x : Nat} (hx : x < F.length) (h0 : 0 ≤ iat s.1 x) : ∀ j, j ≤ (lat F x).length → DT F O too (dIn O (lat F x) x j s).1
  | 0, _ => h
  | j + 1, hj => by
    have ih := DT.dIn fc ok h hx h0 j (by omega)
    have hx2 := (ok.dIn fc hx h0 j (by omega)).2
    unfold Ytcgdmonejogbaaa.dIn
    by_cases hn : iat (Ytcgdmonejogbaaa.dIn O (lat F x) x j s).1 (acr O (iat (lat F x) j)) < 0
    · rw [if_pos hn]
      exact ih.put fc hx (by omega) (by omega) hn
    · rw [if_neg hn]; exact ih
theorem DT.dOut (fc : Fc F O) : ∀ (k i : Nat) (s : List Int × List Int), Dok F s → DT F O too s.1 → DT F O too (dOut F O k i s).1 ∧ Dok F (dOut F O k i s)
  | 0, _, _, ok, h => ⟨h, ok⟩
  | k + 1, i, s, ok, h => by
    unfold Ytcgdmonejogbaaa.dOut
    by_cases hi : i < s.2.length
    · rw [if_pos hi]
      obtain ⟨x, e, hx, h0⟩ := ok.row i hi
      rw [e, Int.toNat_natCast]
      exact DT.dOut fc k (i + 1) _ (ok.dIn fc hx h0 _ (Nat.le_refl _)).1 (DT.dIn fc ok h hx h0 _ (Nat.le_refl _))
    · rw [if_neg hi]; exact ⟨h, ok⟩
theorem dist_ok (fc : Fc F O) (ht : too < F.length) : DT F O too (dist F O too) ∧ (∀ x, x < F.length → -1 ≤ iat (dist F O too) x ∧ iat (dist F O too) x ≤ F.length) := by
  have at_ : ∀ y, y < F.length → iat ((List.replicate F.length (-1)).set too 0) y = if too = y then 0 else -1 := fun y hy => by
    rw [iat_set _ _ _ _ (by simpa using hy), iat_fill hy]
  obtain ⟨h1, h2⟩ := DT.dOut (too := too) fc (F.length + 1) 0 _ (dok_start ht) (⟨by simp, by show iat ((List.replicate F.length (-1)).set too 0) too = 0; rw [at_ too ht, if_pos rfl], fun x hx e => by
    have e : iat ((List.replicate F.length (-1)).set too 0) x = 0 := e
    rw [at_ x hx] at e
    split at e
    · omega
    · omega, fun x hx e => by
    have e : 0 < iat ((List.replicate F.length (-1)).set too 0) x := e
    rw [at_ x hx] at e
    split at e <;> omega⟩)
  exact ⟨h1, h2.bnd⟩
/-- The way over faces, by the least half-edge that comes nearer. -/
def hopL (F : List (List Int)) (O far : List Int) (too : Nat) : Nat → Nat → List Int
  | 0, _ => []
  | k + 1, a => if a = too then [] else (((nrF O far (lat F a) (iat far a - 1) (lat F a).length).toNat / 2 : Nat) : Int) :: hopL F O far too k (acr O (nrF O far (lat F a) (iat far a - 1) (lat F a).length))
/-- One step nearer. -/
theorem hop_step (fc : Fc F O) {far : List Int} (h : DT F O too far) {a : Nat} (ha : a < F.length) (h0 : 0 ≤ iat far a) (hne : a ≠ too) : ∃ x : Nat, nrF O far (lat F a) (iat far a - 1) (lat F a).length = x ∧ x < O.length ∧ tw x < O.length ∧ iat O (tw x) = (acr O (x : Int) : Nat) ∧ acr O (x : Int) < F.length ∧ iat far (acr O (x : Int)) = iat far a - 1 ∧ iat O x = a := by
  have hpos : 0 < iat far a := by
    rcases Int.lt_or_eq_of_le h0 with h1 | h1
    · exact h1
    · exact absurd (h.only a ha h1.symm) hne
  obtain ⟨k, hk, ek⟩ := h.back a ha hpos
  rcases nrF_is (O := O) (far := far) (d := iat far a - 1) (f := lat F a) (fun j hj => by obtain ⟨y, e, _⟩ := fc.len a ha j hj; omega) _ (Nat.le_refl _) with ⟨_, h2⟩ | ⟨i, hi, h1, h2, _⟩
  · exact absurd ek (h2 k hk)
  · obtain ⟨x, e, hx, ho⟩ := fc.len a ha i hi
    obtain ⟨q1, q2, q3⟩ := fc.acr ha hi
    rw [e] at h1 h2 q1 q2 q3
    rw [Int.toNat_natCast] at q2 q3
    exact ⟨x, h1, hx, q3, q2, q1, h2, ho⟩
end Go.Proofs.Ytcgdmonejogbaaa
namespace Go.Proofs.Ytcgdmonejogbaaa
open Go.RowKit Go.Sort
open Go
theorem fc_of {es : List Pt} {rs : List (List Int)} (h : holdsP es rs) : Fc (facesL es rs) (ofL es rs) := by
  have k := edge_ok h
  have hol : (ofL es rs).length = 2 * es.length := k.len
  refine ⟨fun f hf i hi => ?_, fun x hx => ?_, es.length, hol⟩
  · obtain ⟨x, e, hx, ho⟩ := of_face h hf hi
    exact ⟨x, e, by omega, ho⟩
  · rcases k.mrk x (by omega) with h1 | ⟨i, j, hi, hj, h1, h2⟩
    · have := k.dn x (by omega) (by omega); omega
    · have el : lat (facesL es rs) i = lat (edgeF es rs) i := by unfold facesL; exact lat_app hi
      exact ⟨i, j, by unfold facesL; rw [List.length_append]; omega, by rw [el]; exact hj, by rw [el]; exact h2, h1⟩
set_option maxRecDepth 100000 in
set_option maxHeartbeats 16000000 in
theorem hop19no (n : Int) (p : Option Addr) (es : List Pt) (cp : Nat) (q : Option Addr) (rs : List (List Int)) (cq : Nat) (a b : Int) (w : World) (h : Has w p es) (hr : RHas w q rs) (h0 : ¬ rotI n es rs = 0) : Calls Try.prog 19 #[nv n p es.length cp, .slice q rs.length cq, .int .i64 a, .int .i64 b] w fun e w' => e = .returned (.tuple #[.slice none 0 0, .int .i64 (rotI n es rs)]) ∧ Below w.heap.size w w' := by
  obtain ⟨W, hW, hb0, a0⟩ := one_net w n p es.length cp
  have M := hide (faces21no n p es cp q rs cq W (h.later hb0) (hr.later hb0) h0)
  have HB := hide hb0
  obtain ⟨x, hx⟩ : ∃ x, rotI n es rs = x := ⟨_, rfl⟩
  rw [hx] at M h0 ⊢
  have t1 : (x == 0) = false := by simp [h0]
  clear h hr hb0 hx
  go_enter Try.func19, Try.ntmps19
  go_wp2_with fail
  rw [← hW]
  clear hW
  refine M.out.mono ?_
  rintro e w1 ⟨rfl, hb1⟩
  have HB1 := hide (below_step HB.out hb1)
  clear hb1 M
  go_wp2
  go_ret2
  exact ⟨rfl, HB1.out⟩
set_option maxRecDepth 100000 in
set_option maxHeartbeats 16000000 in
theorem hop19off (n : Int) (p : Option Addr) (es : List Pt) (cp : Nat) (q : Option Addr) (rs : List (List Int)) (cq : Nat) (a b : Int) (w : World) (h : Has w p es) (hr : RHas w q rs) (h0 : rotI n es rs = 0) (hab : ¬ ((0 ≤ a ∧ a < (facesL es rs).length) ∧ 0 ≤ b ∧ b < (facesL es rs).length)) : Calls Try.prog 19 #[nv n p es.length cp, .slice q rs.length cq, .int .i64 a, .int .i64 b] w fun e w' => e = .returned (.tuple #[.slice none 0 0, .int .i64 2]) ∧ Below w.heap.size w w' := by
  obtain ⟨W, hW, hb0, a0⟩ := one_net w n p es.length cp
  have M := hide (faces21 n p es cp q rs cq W (h.later hb0) (hr.later hb0) h0)
  have HB := hide hb0
  obtain ⟨F, hF⟩ : ∃ F, (facesL es rs).length = F := ⟨_, rfl⟩
  rw [hF] at M hab
  clear h hr hb0 hF
  go_enter Try.func19, Try.ntmps19
  go_wp2_with fail
  rw [← hW]
  clear hW
  refine M.out.mono ?_
  rintro e w1 ⟨p1, c1, rv, rfl, _, hb1⟩
  have HB1 := hide (below_step HB.out hb1)
  clear hb1 M
  by_cases x1 : a < 0
  · clear hab
    go_wp2
    go_ret2
    exact ⟨rfl, HB1.out⟩
  by_cases x2 : a ≥ F
  · clear hab
    go_wp2
    go_ret2
    exact ⟨rfl, HB1.out⟩
  by_cases x3 : b < 0
  · clear hab
    go_wp2
    go_ret2
    exact ⟨rfl, HB1.out⟩
  have x4 : b ≥ F := by omega
  clear hab
  go_wp2
  go_ret2
  exact ⟨rfl, HB1.out⟩
/-- What Hop answers of two faces. -/
def HopPost (es : List Pt) (rs : List (List Int)) (a b : Nat) (w : World) (e : Ending) (w' : World) : Prop := (iat (dist (facesL es rs) (ofL es rs) b) a < 0 ∧ e = .returned (.tuple #[.slice none 0 0, .int .i64 14])) ∨ (0 ≤ iat (dist (facesL es rs) (ofL es rs) b) a ∧ ∃ p1 c1, e = .returned (.tuple #[.slice p1 (hopL (facesL es rs) (ofL es rs) (dist (facesL es rs) (ofL es rs) b) b ((facesL es rs).length + 1) a).length c1, .int .i64 0]) ∧ IOwns w' w.heap.size (.slice p1 (hopL (facesL es rs) (ofL es rs) (dist (facesL es rs) (ofL es rs) b) b ((facesL es rs).length + 1) a).length c1) (hopL (facesL es rs) (ofL es rs) (dist (facesL es rs) (ofL es rs) b) b ((facesL es rs).length + 1) a))
set_option maxRecDepth 100000 in
set_option maxHeartbeats 16000000 in
theorem hop19 (n : Int) (p : Option Addr) (es : List Pt) (cp : Nat) (q : Option Addr) (rs : List (List Int)) (cq : Nat) (a b : Nat) (w : World) (h : Has w p es) (hr : RHas w q rs) (h0 : rotI n es rs = 0) (ha : a < (facesL es rs).length) (hb : b < (facesL es rs).length) : Calls Try.prog 19 #[nv n p es.length cp, .slice q rs.length cq, .int .i64 a, .int .i64 b] w fun e w' => HopPost es rs a b w e w' ∧ Below w.heap.size w w' := by
  obtain ⟨W, hW, hb0, a0⟩ := one_net w n p es.length cp
  have M := hide (faces21 n p es cp q rs cq W (h.later hb0) (hr.later hb0) h0)
  obtain ⟨n0, n1, hes, _⟩ := netB_is (rot_is h0).1
  have HB := hide hb0
  have HA := hide a0
  have HH := hide (h.later hb0)
  have HR := hide (hr.later hb0)
  have HRT := hide h0
  have hfl := facesL_le h0
  have HFC := hide (fc_of (rot_is h0).2.2)
  have HLE : Hid (∀ v, v < (facesL es rs).length → (lat (facesL es rs) v).length ≤ 2 * es.length + 1) := fun v hv => face_le es rs hv
  have hol : (ofL es rs).length = 2 * es.length := (edge_ok (rot_is h0).2.2).len
  obtain ⟨dt, dbd⟩ := dist_ok HFC.out hb
  have HDT := hide dt
  have HDB := hide dbd
  unfold HopPost
  have HOE : Hid (∀ V, Below W.heap.size W V → Calls Try.prog 46 #[nv n p es.length cp, .slice q rs.length cq] V fun e w' => ∃ g, e = .returned (.tuple #[.slice (some ⟨g, 0, none⟩) (2 * es.length) (2 * es.length), .int .i64 0]) ∧ IRow w' V.heap.size g (2 * es.length) (ofL es rs) ∧ Below V.heap.size V w') := fun V hV => of40 n p es cp q rs cq V (HH.out.later hV) (HR.out.later hV) HRT.out
  obtain ⟨F, hF⟩ : ∃ F, facesL es rs = F := ⟨_, rfl⟩
  obtain ⟨O, hO⟩ : ∃ O, ofL es rs = O := ⟨_, rfl⟩
  rw [hF, hO] at HFC HDT HDB
  rw [hF] at M hfl HLE ha hb
  rw [hO] at hol HOE
  rw [hF, hO]
  obtain ⟨D, hD⟩ : ∃ D, dist F O b = D := ⟨_, rfl⟩
  rw [hD] at HDT HDB
  have HDE := hide hD
  rw [hD]
  obtain ⟨R, hR⟩ : ∃ R, hopL F O D b (F.length + 1) a = R := ⟨_, rfl⟩
  rw [hR]
  have HRR := hide hR
  have HLD : Hid (D.length = F.length) := HDT.out.len
  obtain ⟨d0a, hd0a⟩ : ∃ x, iat D a = x := ⟨_, rfl⟩
  rw [hd0a]
  have HDA := hide hd0a
  clear h hr hb0 h0 a0 hF hO hD hR dt dbd hd0a
  have x1 : ¬ (a : Int) ≥ F.length := by omega
  have x2 : ¬ (b : Int) ≥ F.length := by omega
  have x3 : (a : Int) < F.length := by omega
  go_enter Try.func19, Try.ntmps19
  go_wp2_with fail
  rw [← hW]
  obtain ⟨kg, hkg⟩ : ∃ k, w.heap.size = k := ⟨_, rfl⟩
  have HKG := hide hkg
  rw [hkg] at HA
  try rw [hkg]
  clear hW hkg
  refine M.out.mono ?_
  rintro e w1 ⟨p1, c1, rv, rfl, hfb, hb1⟩
  have HB1 := hide hb1
  have HF1 := hide (hfb.has fun v hv => Nat.le_trans (HLE.out v hv) (show 2 * es.length + 1 ≤ maxLen by unfold maxLen; omega))
  obtain ⟨g0, g1, _, _⟩ := HA.out.later hb1
  have OF := hide (HOE.out w1 hb1)
  clear hb1 hfb M
  go_wp2_with fail
  refine OF.out.mono ?_
  rintro e w2 ⟨go, rfl, hrow, hb2⟩
  have HB2 := hide (below_step HB1.out hb2)
  have HF2 := hide (HF1.out.later hb2)
  have HO2 := hide hrow.has
  have DS := distances59 p1 (some ⟨go, 0, none⟩) F c1 O (2 * es.length) b w2 HF2.out hrow.has hfl (by omega) (fun f hf => by have := HLE.out f hf; omega) HFC.out hb
  rw [hol, HDE.out] at DS
  have DS := hide DS
  clear OF g0 g1 hrow hb2 HF1
  go_wp2_with fail
  refine DS.out.mono ?_
  rintro e w3 ⟨gd, rfl, hrd, hb3⟩
  have HB3 := hide (below_step HB2.out hb3)
  have HF3 := hide (HF2.out.later hb3)
  have HO3 := hide (HO2.out.later hb3)
  have HD3 := hide hrd
  obtain ⟨c0, _⟩ := hrd.cell ha
  rw [HDA.out] at c0
  clear DS hrd hb3 HF2 HO2
  by_cases hneg : d0a < 0
  · go_wp2
    go_ret2
    exact ⟨Or.inl ⟨hneg, rfl⟩, below_step HB.out HB3.out⟩
  have t1 : ¬ d0a < 0 := hneg
  have hd0 := HDB.out a ha
  rw [HDA.out] at hd0
  have O0 : Hid (IOwns w3 w3.heap.size (.slice none ([] : List Int).length 0) []) := IOwns.nil _ _
  go_wp2_with fail
  clear c0
  go_loopg [15, 16] (F.length + 1) (fun gk t15 t16 wr => ∃ (c : Nat) (ov : List Int) (p15 : Option Addr) (c15 : Nat), c < F.length ∧ t15 = .slice p15 ov.length c15 ∧ t16 = .int .i64 c ∧ Hid (0 ≤ iat D c ∧ iat D c < gk ∧ (ov.length : Int) + iat D c ≤ F.length) ∧ Hid (ov ++ hopL F O D b gk c = R) ∧ Hid (Below w3.heap.size w3 wr) ∧ Hid (IOwns wr w3.heap.size (.slice p15 ov.length c15) ov))
  case atStart => exact ⟨a, [], none, 0, ha, rfl, rfl, by show _ ∧ _; rw [HDA.out]; simp; omega, by show _ = _; rw [HRR.out]; rfl, Below.refl _ _, O0.out⟩
  case round =>
    obtain ⟨c, ov, p15, c15, hc, rfl, rfl, HNM, HTI, HBr, HOr⟩ := hrel
    clear O0
    obtain ⟨m0, m1, m2⟩ := HNM.out
    obtain ⟨k, rfl⟩ : ∃ k, gk = k + 1 := ⟨gk - 1, by omega⟩
    by_cases hcb : c = b
    · have t2 : ((c : Int) != (b : Int)) = false := by simp [hcb]
      have HE : Hid (R = ov) := by
        have := HTI.out
        unfold hopL at this
        rw [if_pos hcb, List.append_nil] at this
        exact this.symm
      have HOE2 : Hid (IOwns wr w.heap.size (.slice p15 R.length c15) R) := by
        show IOwns _ _ _ _
        rw [HE.out]
        exact HOr.out.base (by have := HB.out.size; have := HB3.out.size; omega)
      have HBE := hide (below_step HB.out (below_step HB3.out HBr.out))
      have h0a : 0 ≤ d0a := by omega
      rw [← HE.out]
      clear hcb m0 m1 m2
      go_wp2
      go_ret2
      exact ⟨Or.inr ⟨h0a, p15, c15, rfl, HOE2.out⟩, HBE.out⟩
    · have t2 : ((c : Int) != (b : Int)) = true := by simp; omega
      obtain ⟨x, ex, hx, htx, eo, hax, eax, _⟩ := hop_step HFC.out HDT.out hc m0 hcb
      have HTO : Hid ((ov ++ [((x / 2 : Nat) : Int)]) ++ hopL F O D b k (acr O (x : Int)) = R) := by
        have := HTI.out
        unfold hopL at this
        rw [if_neg hcb, ex, Int.toNat_natCast] at this
        show _ = _
        rw [List.append_assoc]
        exact this
      obtain ⟨bF, oF, aF, kF, rfl, cF, mF, zF, _⟩ := (HF3.out.later HBr.out).at_ hc
      have hlc := HLE.out c hc
      obtain ⟨dc, _⟩ := (HD3.out.later HBr.out).cell hc
      have HNR : Hid (∀ V, Below wr.heap.size wr V → Calls Try.prog 60 #[.slice aF (lat F c).length kF, .slice (some ⟨go, 0, none⟩) (2 * es.length) (2 * es.length), .slice (some ⟨gd, 0, none⟩) F.length F.length, .int .i64 (iat D c - 1)] V fun e w' => e = .returned (.int .i64 x) ∧ Below V.heap.size V w') := fun V hV => by
        have := nearer60 aF (some ⟨go, 0, none⟩) (some ⟨gd, 0, none⟩) O D (lat F c) kF (2 * es.length) F.length (iat D c - 1) V (mF.later hV) ((HO3.out.later HBr.out).later hV) (((HD3.out.later HBr.out).later hV).has) (by omega) (by omega) (fun j hj => by
          obtain ⟨y, e, hy, _⟩ := HFC.out.len c hc j hj
          obtain ⟨q1, q2, q3⟩ := HFC.out.acr hc hj
          exact ⟨by omega, by omega, q3, q2, by rw [HLD.out]; exact q1⟩)
        rw [ex, hol, HLD.out] at this
        exact this
      have HYP : Hid (¬ iat D c = 0) := fun e => hcb (HDT.out.only c hc e)
      obtain ⟨y, hy⟩ : ∃ y, iat D c = y := ⟨_, rfl⟩
      rw [hy] at HYP dc HNR m0 m1 m2 eax
      have CN : ∀ dd os, Calls Try.prog 60 #[.slice aF (lat F c).length kF, .slice (some ⟨go, 0, none⟩) (2 * es.length) (2 * es.length), .slice (some ⟨gd, 0, none⟩) F.length F.length, .int .i64 (y - 1)] (grow (redrawn wr dd) os) fun e w'' => e = .returned (.int .i64 x) ∧ ∃ p : Regrown, w'' = grow (redrawn wr p.d) p.os := fun dd os => Calls.regrown_of (HNR.out _ (below_regrown wr dd os))
      have CF := cell_regrown cF
      have CD := cell_regrown dc
      have k1 : (c : Int) < F.length := by omega
      have k2 : (0 : Int) ≤ c := by omega
      have k3 : wrap64 (y - 1) = y - 1 := by unfold wrap64; omega
      obtain ⟨nx, hnx⟩ : ∃ z, acr O (x : Int) = z := ⟨_, rfl⟩
      rw [hnx] at HTO eo hax eax
      have HEO := hide eo
      have HEA := hide eax
      have HTX := hide htx
      have hxl : x ≤ 90000 := by omega
      clear mF zF ex hy hnx hcb HTI eo eax htx
      go_upto_region 13 with fail
      refine wp_region_quiet_below (by kernel_rfl) (by kernel_rfl) ?_
      repeat (go_big_quiet_step (first | with_reducible exact CN _ _))
      refine wpQuiet_nil ?_
      intro w5 hw'
      have hb5 : Below wr.heap.size wr w5 := by
        obtain ⟨⟨dq, osq⟩, hw''⟩ := hw'
        rw [hw'']
        exact below_regrown wr dq osq
      have HB5 := hide (below_step HBr.out hb5)
      have HO5 := hide (HOr.out.later hb5)
      clear hw' hb5 CF CD CN cF dc HNR HBr HOr k3
      obtain ⟨U, hU⟩ : ∃ U, U = w5.alloc (.cells #[.int .i64 (x / 2 : Nat)] 3) := ⟨_, rfl⟩
      have hbU : Below w5.heap.size w5 U := by rw [hU]; go_grown
      have hlit : U.cell? ⟨w5.heap.size, 0, none⟩ = some (.int .i64 (x / 2 : Nat)) := by rw [hU]; exact one_int _ _
      obtain ⟨v1, D5, ea, o1, gr, at1⟩ := append_int (HO5.out.later hbU) hlit (by have := HB5.out.size; have := hbU.size; omega) (by omega)
      have HBD : Hid (Below w3.heap.size w3 D5) := below_grown (below_step HB5.out hbU) (HO5.out.later hbU) (Nat.le_refl _) (by have := HB5.out.size; have := hbU.size; omega) gr
      obtain ⟨p8, c8, h8, _⟩ := o1.form
      subst h8
      have HOD := hide o1
      have hq : Int.tdiv (x : Int) 2 = ((x / 2 : Nat) : Int) := by
        rw [Int.tdiv_eq_ediv_of_nonneg (by omega)]
        omega
      rw [hU] at ea
      have hxo := xor_one x (by omega)
      rw [twn_tw] at hxo
      obtain ⟨tx, htx⟩ : ∃ t, tw x = t := ⟨_, rfl⟩
      have htl : tx < 2 * es.length := by have := HTX.out; rw [htx] at this; omega
      rw [htx] at HEO hxo
      rcases (HO3.out.later HBD.out) with hn | ⟨b3, o3, e3, l3⟩
      · rw [hn] at hol; simp at hol; omega
      injection e3 with e3
      injection e3 with eb eo3
      subst eb eo3
      have dO := l3 tx (by omega)
      rw [HEO.out, Nat.zero_add] at dO
      have j1 : (tx : Int) < 2 * es.length := by omega
      obtain ⟨hq2, hhq2⟩ : ∃ z : Nat, x / 2 = z := ⟨_, rfl⟩
      have hqb : hq2 ≤ 100000 := by omega
      rw [hhq2] at ea HOD HTO hq
      have HLN : Hid ((ov ++ [(hq2 : Int)]).length = ov.length + 1) := by show _ = _; simp
      have HNM2 : Hid (0 ≤ iat D nx ∧ iat D nx < k ∧ ((ov ++ [(hq2 : Int)]).length : Int) + iat D nx ≤ F.length) := by
        show _ ∧ _
        rw [HEA.out, HLN.out]
        have hy0 : 0 < y := by
          rcases Int.lt_or_eq_of_le m0 with h9 | h9
          · exact h9
          · exfalso
            have hnn := (HDB.out nx hax).1
            rw [HEA.out] at hnn
            have := HYP.out h9.symm
            exact this
        omega
      clear hU hbU hlit o1 gr at1 l3 htx hhq2 HTX HEO
      go_wp2_with (at_builtin; refine wpList_run_append rfl (.tmp 76) (.tmp 79) 44 rfl 44 rfl _ _ _ D5 rfl rfl ea ?_)
      go_roundg k
      case measure => omega
      case rel => exact ⟨nx, ov ++ [(hq2 : Int)], p8, c8, hax, by rw [HLN.out], rfl, HNM2.out, HTO.out, HBD.out, HOD.out⟩
end Go.Proofs.Ytcgdmonejogbaaa
