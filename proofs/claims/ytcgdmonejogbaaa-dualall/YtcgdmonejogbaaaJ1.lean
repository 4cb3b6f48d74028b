/- Pure: distances over faces do not hang on the order in which a face's half-edges are gone over. -/
import Derived.Test.YtcgdmonejogbaaaW1
import Derived.Test.YtcgdmonejogbaaaU6
import Derived.Deep.DeepCutAuto
import Derived.Test.YtcgdmonejogbaaaH4
namespace Go.Proofs.Ytcgdmonejogbaaa
open Go.RowKit Go.Sort
open Go
set_option maxRecDepth 100000 in
set_option maxHeartbeats 16000000 in
theorem take27off (n : Int) (p : Option Addr) (es : List Pt) (cp : Nat) (q : Option Addr) (lr cq : Nat) (e : Int) (w : World) (he : ¬ (0 ≤ e ∧ e < es.length)) : Calls Try.prog 27 #[nv n p es.length cp, .slice q lr cq, .int .i64 e] w fun r w' => r = .returned (.tuple #[nv 0 none 0 0, .slice none 0 0, .int .i64 2]) ∧ Below w.heap.size w w' := by
  obtain ⟨W, hW, hb0, a0, b0⟩ := two_nets w n p es.length cp
  have HB := hide hb0
  have HN := hide b0
  obtain ⟨q0, q1, _, _⟩ := a0
  obtain ⟨r0, r1, r2, r3⟩ := b0
  clear hb0
  by_cases h1 : e < 0
  · go_enter Try.func27, Try.ntmps27
    go_upto_region 1 with fail
    rw [← hW]
    clear hW
    go_wp2
    obtain ⟨V, hV⟩ : ∃ V, V = (W.setCell ⟨w.heap.size + 1, 0, none⟩ (.int .i64 0)).setCell ⟨w.heap.size + 1, 1, none⟩ (.slice none 0 0) := ⟨_, rfl⟩
    have kV : NOwn V (w.heap.size + 1) 0 none 0 0 := by rw [hV]; exact HN.out.set 0 none 0 0
    have bV : Below w.heap.size w V := by rw [hV]; exact (HB.out.setCell (by simp) _).setCell (by simp) _
    rw [← hV]
    exact bodyPost_ret (ret_net3 Try.results27 rfl rfl rfl kV) rfl ⟨rfl, bV⟩
  · have h2 : (es.length : Int) ≤ e := by omega
    have h3 : e ≥ (es.length : Int) := h2
    go_enter Try.func27, Try.ntmps27
    go_upto_region 1 with fail
    rw [← hW]
    clear hW
    go_wp2
    obtain ⟨V, hV⟩ : ∃ V, V = (W.setCell ⟨w.heap.size + 1, 0, none⟩ (.int .i64 0)).setCell ⟨w.heap.size + 1, 1, none⟩ (.slice none 0 0) := ⟨_, rfl⟩
    have kV : NOwn V (w.heap.size + 1) 0 none 0 0 := by rw [hV]; exact HN.out.set 0 none 0 0
    have bV : Below w.heap.size w V := by rw [hV]; exact (HB.out.setCell (by simp) _).setCell (by simp) _
    rw [← hV]
    exact bodyPost_ret (ret_net3 Try.results27 rfl rfl rfl kV) rfl ⟨rfl, bV⟩
set_option maxRecDepth 100000 in
set_option maxHeartbeats 16000000 in
theorem take27 (n : Nat) (p : Option Addr) (es : List Pt) (cp : Nat) (q : Option Addr) (rs : List (List Int)) (cq : Nat) (e : Nat) (w : World) (h : Has w p es) (hr : RHas w q rs) (h0 : rotI n es rs = 0) (he : e < es.length) : Calls Try.prog 27 #[nv n p es.length cp, .slice q rs.length cq, .int .i64 e] w fun r w' => ∃ q' c g5 rv, r = .returned (.tuple #[nv n q' (kpE e es.length).length c, .slice (some ⟨g5, 0, none⟩) rs.length rs.length, .int .i64 0]) ∧ Has w' q' (pick es (kpE e es.length)) ∧ Rows w' w.heap.size g5 rs.length rv (fun v => lat (canonL (subL es rs (kpE e es.length))) v) ∧ Below w.heap.size w w' := by
  obtain ⟨W, hW, hb0, a0, b0⟩ := two_nets w n p es.length cp
  obtain ⟨n0, n1, hes, _⟩ := netB_is (rot_is h0).1
  have HRT := hide h0
  have HH := hide (h.later hb0)
  have HR := hide (hr.later hb0)
  have HB := hide hb0
  have HN := hide b0
  have HA := hide a0
  have hle := kpE_le e es.length
  obtain ⟨q0, q1, _, _⟩ := a0
  have HAT : Hid (∀ v, v < rs.length → turnL (rnL (plN (kpE e es.length) es.length (kpE e es.length).length) (lat rs v)) = lat (canonL (subL es rs (kpE e es.length))) v) := fun v hv => by
    rw [lat_canon (by rw [subL_length]; exact hv), subL_at hv]
    rfl
  have hWs : W.heap.size = w.heap.size + 2 := by rw [hW]; simp
  have HKS := hide (kpE_err e es.length)
  obtain ⟨K, hK⟩ : ∃ K, kpE e es.length = K := ⟨_, rfl⟩
  rw [hK] at hle HAT HKS ⊢
  have HKK := hide hK
  obtain ⟨ei, hei⟩ : ∃ x : Int, x = (e : Int) := ⟨_, rfl⟩
  rw [← hei]
  have e1 : ¬ ei < 0 := by omega
  have e2 : ¬ ei ≥ (es.length : Int) := by omega
  have HEI := hide hei
  have O0 : Hid (IOwns W W.heap.size (.slice none (kpE e 0).length 0) (kpE e 0)) := IOwns.nil _ _
  have hWS := hide hWs
  clear h hr hb0 b0 h0 hK hei hWs
  go_enter Try.func27, Try.ntmps27
  go_upto_region 1 with fail
  rw [← hW]
  clear hW
  go_wp2_with fail
  clear q0 q1
  go_loopw [9, 10] (fun t9 t10 wr => ∃ (j : Nat) (p7 : Option Addr) (c7 : Nat), j ≤ es.length ∧ t9 = .slice p7 (kpE e j).length c7 ∧ t10 = .int .i64 j ∧ Hid (Below W.heap.size W wr) ∧ Hid (IOwns wr W.heap.size (.slice p7 (kpE e j).length c7) (kpE e j))) (fun _ t10 _ => es.length - (intOf t10).toNat)
  case atStart => exact ⟨0, none, 0, by omega, rfl, rfl, Below.refl _ _, O0.out⟩
  case round =>
    obtain ⟨j, p7, c7, hj, rfl, rfl, HBr, HOr⟩ := hrel
    clear O0
    obtain ⟨q0, q1, _, _⟩ := HA.out.later HBr.out
    by_cases hlt : j < es.length
    · have j1 : (j : Int) < es.length := by omega
      have HST : Hid (kpE e (j + 1) = if j = e then kpE e j else kpE e j ++ [(j : Int)]) := rfl
      have hlj := kpE_le e j
      by_cases hje : j = e
      · rw [if_pos hje] at HST
        have t1 : ((j : Int) != ei) = false := by rw [HEI.out]; simp [hje]
        clear hje
        go_wp2
        go_roundw
        case rel => exact ⟨j + 1, p7, c7, by omega, by rw [HST.out], by go_num, HBr.out, by show IOwns _ _ _ _; rw [HST.out]; exact HOr.out⟩
        case measure => simp [intOf]; omega
      · rw [if_neg hje] at HST
        have t1 : ((j : Int) != ei) = true := by rw [HEI.out]; simp; omega
        obtain ⟨U, hU⟩ : ∃ U, U = wr.alloc (.cells #[.int .i64 j] 3) := ⟨_, rfl⟩
        have hbU : Below wr.heap.size wr U := by rw [hU]; go_grown
        have hlit : U.cell? ⟨wr.heap.size, 0, none⟩ = some (.int .i64 j) := by rw [hU]; exact one_int _ _
        obtain ⟨v1, D, ea, o1, gr, at1⟩ := append_int (HOr.out.later hbU) hlit (by have := HBr.out.size; have := hbU.size; omega) (by omega)
        have HBD : Hid (Below W.heap.size W D) := below_grown (below_step HBr.out hbU) (HOr.out.later hbU) (Nat.le_refl _) (by have := HBr.out.size; have := hbU.size; omega) gr
        obtain ⟨p8, c8, h8, _⟩ := o1.form
        subst h8
        have HOD := hide o1
        rw [← HST.out] at HOD ea
        rw [hU] at ea
        clear hU hbU hlit o1 gr at1 hje
        go_wp2_with (at_builtin; refine wpList_run_append rfl (.tmp 31) (.tmp 33) 44 rfl 44 rfl _ _ _ D rfl rfl ea ?_)
        go_roundw
        case rel => exact ⟨j + 1, p8, c8, by omega, rfl, by go_num, HBD.out, HOD.out⟩
        case measure => simp [intOf]; omega
    · have hje : j = es.length := by omega
      have j1 : ¬ (j : Int) < es.length := by omega
      rw [hje, HKK.out] at HOr ⊢
      rw [hje] at j1
      obtain ⟨pa, ca, ea, ma, _⟩ := HOr.out.form
      injection ea with ea1 _ ea3
      rw [← ea1] at ma
      have SB := hide (sub50r n p es cp q rs cq p7 K c7 wr (HH.out.later HBr.out) (HR.out.later HBr.out) (by omega) ma HRT.out HKS.out)
      clear hje hlt ea1 ea3 ma HOr
      go_wp2_with fail
      refine SB.out.mono ?_
      rintro r w2 ⟨q', c, g5, rv, rfl, hp2, hq2, hr2, hb2⟩
      have HB2 := hide (below_step HBr.out hb2)
      have HN2 := hide (HN.out.later HB2.out)
      have HP2 := hide hp2
      have HR2 : Hid (Rows w2 W.heap.size g5 rs.length rv (fun v => lat (canonL (subL es rs K)) v)) := (hr2.base HBr.out.size).congr fun v hv => HAT.out v hv
      obtain ⟨r0, r1, r2, r3⟩ := HN2.out
      have HBS := hide HBr.out.size
      clear q0 q1 SB hb2 hp2 hr2 HBr
      have HQ2 : Hid (∀ a, q' = some a → a.block ≠ w.heap.size + 1) := fun a ha => by have := hq2 a ha; have := hWS.out; have := HBS.out; omega
      clear hq2
      go_wp2
      obtain ⟨V, hV⟩ : ∃ V, V = (w2.setCell ⟨w.heap.size + 1, 0, none⟩ (.int .i64 n)).setCell ⟨w.heap.size + 1, 1, none⟩ (.slice q' K.length c) := ⟨_, rfl⟩
      have kV : NOwn V (w.heap.size + 1) n q' K.length c := by rw [hV]; exact HN2.out.set n _ _ _
      have hs := hWS.out
      have bV : Below w.heap.size w V := by rw [hV]; exact ((below_step HB.out HB2.out).setCell (by simp) _).setCell (by simp) _
      have pV : Has V q' (pick es K) := by
        have f1 : Frame w2 V (fun i => i = w.heap.size + 1) := by rw [hV]; exact (Frame.set (p := fun i => i = w.heap.size + 1) w2 ⟨w.heap.size + 1, 0, none⟩ _ rfl).trans (Frame.set (p := fun i => i = w.heap.size + 1) _ ⟨w.heap.size + 1, 1, none⟩ _ rfl)
        exact f1.has HP2.out fun a ha => Or.inr fun e => HQ2.out a ha e
      have rV : Rows V w.heap.size g5 rs.length rv (fun v => lat (canonL (subL es rs K)) v) := by rw [hV]; exact ((HR2.out.other (by omega) _).other (by omega) _).base (by omega)
      rw [← hV]
      exact bodyPost_ret (ret_net3 Try.results27 rfl rfl rfl kV) rfl ⟨q', c, g5, rv, rfl, pV, rV, bV⟩
end Go.Proofs.Ytcgdmonejogbaaa
namespace Go.Proofs.Ytcgdmonejogbaaa
open Go.RowKit Go.Sort
open Go
variable {F : List (List Int)} {O : List Int} {too : Nat}
/-- Breadth first, the row's first i done. -/
structure BW (F : List (List Int)) (O : List Int) (i : Nat) (s : List Int × List Int) : Prop where
  fnd : ∀ x, x < F.length → 0 ≤ iat s.1 x → ∃ j, j < s.2.length ∧ iat s.2 j = (x : Int)
  mon : ∀ j k, j ≤ k → k < s.2.length → iat s.1 (iat s.2 j).toNat ≤ iat s.1 (iat s.2 k).toNat
  win : ∀ j k, i ≤ j → j < s.2.length → k < s.2.length → iat s.1 (iat s.2 k).toNat ≤ iat s.1 (iat s.2 j).toNat + 1
  nb : ∀ j, j < i → j < s.2.length → ∀ k, k < (lat F (iat s.2 j).toNat).length → 0 ≤ iat s.1 (acr O (iat (lat F (iat s.2 j).toNat) k)) ∧ iat s.1 (acr O (iat (lat F (iat s.2 j).toNat) k)) ≤ iat s.1 (iat s.2 j).toNat + 1
theorem iat_app1 (l : List Int) (b : Int) (j : Nat) : iat (l ++ [b]) j = if j < l.length then iat l j else if j = l.length then b else 0 := by
  unfold iat
  rw [List.getD_eq_getElem?_getD, List.getElem?_append]
  split
  · rw [List.getD_eq_getElem?_getD]
  · split
    · rename_i h; subst h; simp
    · rw [List.getElem?_eq_none (by simp; omega)]; rfl
theorem BW.put {s : List Int × List Int} {i : Nat} (fc : Fc F O) (ok : Dok F s) (h : BW F O i s) {b x : Nat} (hb : b < F.length) (hi : i < s.2.length) (hx : iat s.2 i = (x : Int)) (hn : iat s.1 b < 0) : BW F O i (s.1.set b (iat s.1 x + 1), s.2 ++ [(b : Int)]) := by
  have hl := ok.len
  have at_ : ∀ y, y < F.length → iat (s.1.set b (iat s.1 x + 1)) y = if b = y then iat s.1 x + 1 else iat s.1 y := fun y hy => iat_set _ _ _ _ (by omega)
  have el : (s.2 ++ [(b : Int)]).length = s.2.length + 1 := by simp
  -- what stood in the row stands, with its mark
  have old : ∀ j, j < s.2.length → iat (s.2 ++ [(b : Int)]) j = iat s.2 j ∧ iat (s.1.set b (iat s.1 x + 1)) (iat s.2 j).toNat = iat s.1 (iat s.2 j).toNat := fun j hj => by
    obtain ⟨y, e, hy, h0⟩ := ok.row j hj
    refine ⟨by rw [iat_app1, if_pos hj], ?_⟩
    rw [e, Int.toNat_natCast, at_ y hy, if_neg]
    intro e2
    rw [e2] at hn
    omega
  have new : iat (s.2 ++ [(b : Int)]) s.2.length = b ∧ iat (s.1.set b (iat s.1 x + 1)) b = iat s.1 x + 1 := ⟨by rw [iat_app1, if_neg (by omega), if_pos rfl], by rw [at_ b hb, if_pos rfl]⟩
  have hw : ∀ k, k < s.2.length → iat s.1 (iat s.2 k).toNat ≤ iat s.1 x + 1 := fun k hk => by
    have := h.win i k (Nat.le_refl _) hi hk
    rw [hx, Int.toNat_natCast] at this
    exact this
  have hm : ∀ j, i ≤ j → j < s.2.length → iat s.1 x ≤ iat s.1 (iat s.2 j).toNat := fun j h1 h2 => by
    have := h.mon i j h1 h2
    rw [hx, Int.toNat_natCast] at this
    exact this
  refine ⟨fun y hy h0 => ?_, fun j k hjk hk => ?_, fun j k hij hj hk => ?_, fun j hj hjl k hk => ?_⟩
  · have h0 : 0 ≤ iat (s.1.set b (iat s.1 x + 1)) y := h0
    by_cases e : b = y
    · subst e
      exact ⟨s.2.length, by show _ < (s.2 ++ [(b : Int)]).length; omega, new.1⟩
    · rw [at_ y hy, if_neg e] at h0
      obtain ⟨j, hj, ej⟩ := h.fnd y hy h0
      exact ⟨j, by show _ < (s.2 ++ [(b : Int)]).length; omega, by show iat (s.2 ++ [(b : Int)]) j = _; rw [(old j hj).1]; exact ej⟩
  · have hk : k < (s.2 ++ [(b : Int)]).length := hk
    show iat (s.1.set b (iat s.1 x + 1)) (iat (s.2 ++ [(b : Int)]) j).toNat ≤ iat (s.1.set b (iat s.1 x + 1)) (iat (s.2 ++ [(b : Int)]) k).toNat
    by_cases h1 : k < s.2.length
    · rw [(old k h1).1, (old k h1).2, (old j (by omega)).1, (old j (by omega)).2]
      exact h.mon j k hjk h1
    · have : k = s.2.length := by omega
      subst this
      rw [new.1, Int.toNat_natCast, new.2]
      by_cases h2 : j < s.2.length
      · rw [(old j h2).1, (old j h2).2]
        exact hw j h2
      · have : j = s.2.length := by omega
        subst this
        rw [new.1, Int.toNat_natCast, new.2]
        omega
  · have hk : k < (s.2 ++ [(b : Int)]).length := hk
    have hj : j < (s.2 ++ [(b : Int)]).length := hj
    show iat (s.1.set b (iat s.1 x + 1)) (iat (s.2 ++ [(b : Int)]) k).toNat ≤ iat (s.1.set b (iat s.1 x + 1)) (iat (s.2 ++ [(b : Int)]) j).toNat + 1
    by_cases h1 : k < s.2.length
    · rw [(old k h1).1, (old k h1).2]
      by_cases h2 : j < s.2.length
      · rw [(old j h2).1, (old j h2).2]
        exact h.win j k hij h2 h1
      · have : j = s.2.length := by omega
        subst this
        rw [new.1, Int.toNat_natCast, new.2]
        have := hw k h1
        omega
    · have : k = s.2.length := by omega
      subst this
      rw [new.1, Int.toNat_natCast, new.2]
      by_cases h2 : j < s.2.length
      · rw [(old j h2).1, (old j h2).2]
        have := hm j hij h2
        omega
      · have : j = s.2.length := by omega
        subst this
        rw [new.1, Int.toNat_natCast, new.2]
        omega
  · have hk : k < (lat F (iat (s.2 ++ [(b : Int)]) j).toNat).length := hk
    show 0 ≤ iat (s.1.set b (iat s.1 x + 1)) (acr O (iat (lat F (iat (s.2 ++ [(b : Int)]) j).toNat) k)) ∧ iat (s.1.set b (iat s.1 x + 1)) (acr O (iat (lat F (iat (s.2 ++ [(b : Int)]) j).toNat) k)) ≤ iat (s.1.set b (iat s.1 x + 1)) (iat (s.2 ++ [(b : Int)]) j).toNat + 1
    have hj2 : j < s.2.length := by omega
    rw [(old j hj2).1] at hk ⊢
    rw [(old j hj2).2]
    obtain ⟨y, e, hy, h0⟩ := ok.row j hj2
    have := h.nb j hj hj2 k hk
    have ha := (fc.acr (f := (iat s.2 j).toNat) (by rw [e, Int.toNat_natCast]; exact hy) hk).1
    rw [at_ _ ha, if_neg (fun e2 => by rw [← e2] at this; omega)]
    exact this
theorem BW.dIn {s : List Int × List Int} {i : Nat} (fc : Fc F O) (ok : Dok F s) (h : BW F O i s) {x : Nat} (hx : x < F.length) (h0 : 0 ≤ iat s.1 x) (hi : i < s.2.length) (ex : iat s.2 i = (x : Int)) : ∀ j, j ≤ (lat F x).length → BW F O i (dIn O (lat F x) x j s) ∧ ∀ k, k < j → 0 ≤ iat (dIn O (lat F x) x j s).1 (acr O (iat (lat F x) k)) ∧ iat (dIn O (lat F x) x j s).1 (acr O (iat (lat F x) k)) ≤ iat (dIn O (lat F x) x j s).1 x + 1
  | 0, _ => ⟨h, fun k hk => by omega⟩
  | j + 1, hj => by
    obtain ⟨ih, ie⟩ := BW.dIn fc ok h hx h0 hi ex j (by omega)
    obtain ⟨ok2, hx2⟩ := ok.dIn fc hx h0 j (by omega)
    obtain ⟨hk1, hk2⟩ := dIn_keeps O (lat F x) x s j
    obtain ⟨hb, _⟩ := fc.acr hx (show j < (lat F x).length by omega)
    have hiw : i < (Ytcgdmonejogbaaa.dIn O (lat F x) x j s).2.length := by omega
    have exw : iat (Ytcgdmonejogbaaa.dIn O (lat F x) x j s).2 i = (x : Int) := by rw [hk2 i hi]; exact ex
    unfold Ytcgdmonejogbaaa.dIn
    by_cases hn : iat (Ytcgdmonejogbaaa.dIn O (lat F x) x j s).1 (acr O (iat (lat F x) j)) < 0
    · rw [if_pos hn]
      refine ⟨ih.put fc ok2 hb hiw exw hn, fun k hk => ?_⟩
      show 0 ≤ iat ((Ytcgdmonejogbaaa.dIn O (lat F x) x j s).1.set _ _) _ ∧ iat ((Ytcgdmonejogbaaa.dIn O (lat F x) x j s).1.set _ _) _ ≤ iat ((Ytcgdmonejogbaaa.dIn O (lat F x) x j s).1.set _ _) x + 1
      have hbx : acr O (iat (lat F x) j) ≠ x := fun e => by rw [e] at hn; omega
      have at_ : ∀ y, y < F.length → iat ((Ytcgdmonejogbaaa.dIn O (lat F x) x j s).1.set (acr O (iat (lat F x) j)) (iat (Ytcgdmonejogbaaa.dIn O (lat F x) x j s).1 x + 1)) y = if acr O (iat (lat F x) j) = y then iat (Ytcgdmonejogbaaa.dIn O (lat F x) x j s).1 x + 1 else iat (Ytcgdmonejogbaaa.dIn O (lat F x) x j s).1 y := fun y hy => iat_set _ _ _ _ (by rw [ok2.len]; exact hy)
      rw [at_ x hx, if_neg hbx]
      by_cases hkj : k = j
      · subst hkj
        rw [at_ _ hb, if_pos rfl]
        omega
      · have := ie k (by omega)
        rw [at_ _ (fc.acr hx (show k < (lat F x).length by omega)).1, if_neg (fun e => by rw [e] at hn; omega)]
        exact this
    · rw [if_neg hn]
      refine ⟨ih, fun k hk => ?_⟩
      by_cases hkj : k = j
      · subst hkj
        refine ⟨by omega, ?_⟩
        obtain ⟨t, ht, et⟩ := ih.fnd _ hb (by omega)
        have := ih.win i t (Nat.le_refl _) hiw ht
        rw [exw, et, Int.toNat_natCast, Int.toNat_natCast] at this
        exact this
      · exact ie k (by omega)
theorem BW.dOut (fc : Fc F O) : ∀ (k i : Nat) (s : List Int × List Int), Dok F s → BW F O i s → F.length < i + k → ∀ x, x < F.length → 0 ≤ iat (dOut F O k i s).1 x → ∀ j, j < (lat F x).length → 0 ≤ iat (dOut F O k i s).1 (acr O (iat (lat F x) j)) ∧ iat (dOut F O k i s).1 (acr O (iat (lat F x) j)) ≤ iat (dOut F O k i s).1 x + 1
  | 0, i, s, ok, h, hk, x, hx, h0, j, hj => by
    obtain ⟨t, ht, et⟩ := h.fnd x hx h0
    have hc := ok.cnt
    have := h.nb t (by omega) ht
    rw [et, Int.toNat_natCast] at this
    exact this j hj
  | k + 1, i, s, ok, h, hk, x, hx, h0, j, hj => by
    unfold Ytcgdmonejogbaaa.dOut at h0 ⊢
    by_cases hi : i < s.2.length
    · rw [if_pos hi] at h0 ⊢
      obtain ⟨y, e, hy, hy0⟩ := ok.row i hi
      rw [e, Int.toNat_natCast] at h0 ⊢
      obtain ⟨b1, b2⟩ := h.dIn fc ok hy hy0 hi e _ (Nat.le_refl _)
      obtain ⟨hk1, hk2⟩ := dIn_keeps O (lat F y) y s (lat F y).length
      refine BW.dOut fc k (i + 1) _ (ok.dIn fc hy hy0 _ (Nat.le_refl _)).1 ⟨b1.fnd, b1.mon, fun j k h1 => b1.win j k (by omega), fun t ht htl => ?_⟩ (by omega) x hx h0 j hj
      by_cases hti : t = i
      · subst hti
        rw [hk2 t hi, e, Int.toNat_natCast]
        exact b2
      · exact b1.nb t (by omega) htl
    · rw [if_neg hi] at h0 ⊢
      obtain ⟨t, ht, et⟩ := h.fnd x hx h0
      have := h.nb t (by omega) ht
      rw [et, Int.toNat_natCast] at this
      exact this j hj
theorem dist_near (fc : Fc F O) (ht : too < F.length) : ∀ x, x < F.length → 0 ≤ iat (dist F O too) x → ∀ j, j < (lat F x).length → 0 ≤ iat (dist F O too) (acr O (iat (lat F x) j)) ∧ iat (dist F O too) (acr O (iat (lat F x) j)) ≤ iat (dist F O too) x + 1 := by
  have at_ : ∀ y, y < F.length → iat ((List.replicate F.length (-1)).set too 0) y = if too = y then 0 else -1 := fun y hy => by
    rw [iat_set _ _ _ _ (by simpa using hy), iat_fill hy]
  have one : ∀ j, j < ([(too : Int)]).length → iat [(too : Int)] j = too := fun j hj => by
    have : j = 0 := by simpa using hj
    subst this
    rfl
  refine BW.dOut fc (F.length + 1) 0 _ (dok_start ht) ⟨fun x hx h0 => ?_, fun j k h1 h2 => ?_, fun j k _ h1 h2 => ?_, fun j hj => by omega⟩ (by omega)
  · have h0 : 0 ≤ iat ((List.replicate F.length (-1)).set too 0) x := h0
    rw [at_ x hx] at h0
    split at h0
    · rename_i e; exact ⟨0, by simp, by rw [← e]; rfl⟩
    · omega
  · show iat _ (iat [(too : Int)] j).toNat ≤ iat _ (iat [(too : Int)] k).toNat
    rw [one j (by have : k < 1 := h2; simp; omega), one k h2]
    omega
  · show iat _ (iat [(too : Int)] k).toNat ≤ iat _ (iat [(too : Int)] j).toNat + 1
    rw [one j h1, one k h2]
    omega
/-- The way is as long as the distance. -/
theorem hop_len (fc : Fc F O) {far : List Int} (h : DT F O too far) : ∀ (k a : Nat), a < F.length → 0 ≤ iat far a → iat far a < k → ((hopL F O far too k a).length : Int) = iat far a
  | 0, a, ha, h0, hk => by omega
  | k + 1, a, ha, h0, hk => by
    unfold hopL
    by_cases e : a = too
    · rw [if_pos e, e, h.zero]; rfl
    · rw [if_neg e]
      obtain ⟨x, e1, _, _, _, h3, h4, _⟩ := hop_step fc h ha h0 e
      have hpos : iat far a ≠ 0 := fun e0 => e (h.only a ha e0)
      rw [e1]
      have := hop_len fc h k _ h3 (by omega) (by omega)
      rw [List.length_cons]
      omega
end Go.Proofs.Ytcgdmonejogbaaa
namespace Go.Proofs.Ytcgdmonejogbaaa
open Go.RowKit Go.Sort
open Go
/-- The half-edges below h on the face x. -/
def srt (O : List Int) (x : Nat) : Nat → List Int
  | 0 => []
  | h + 1 => srt O x h ++ (if iat O h = (x : Int) then [(h : Int)] else [])
def FS (n : Nat) (O : List Int) : List (List Int) := (List.range n).map fun f => srt O f O.length
theorem FS_length (n : Nat) (O : List Int) : (FS n O).length = n := by simp [FS]
theorem FS_at {n : Nat} {O : List Int} {f : Nat} (h : f < n) : lat (FS n O) f = srt O f O.length := by
  unfold lat FS
  rw [List.getD_eq_getElem?_getD, List.getElem?_map, List.getElem?_range h]
  rfl
theorem srt_in {O : List Int} {x : Nat} : ∀ {h : Nat} {y : Int}, y ∈ srt O x h ↔ ∃ k : Nat, k < h ∧ y = k ∧ iat O k = (x : Int)
  | 0, y => by simp [srt]
  | h + 1, y => by
    simp only [srt, List.mem_append]
    rw [srt_in (h := h)]
    constructor
    · rintro (⟨k, h1, h2, h3⟩ | hy)
      · exact ⟨k, by omega, h2, h3⟩
      · split at hy
        · next hx =>
          rw [List.mem_singleton] at hy
          exact ⟨h, by omega, hy, hx⟩
        · cases hy
    · rintro ⟨k, h1, h2, h3⟩
      by_cases hk : k = h
      · right
        subst hk
        rw [if_pos h3, h2]
        exact List.mem_singleton.2 rfl
      · exact Or.inl ⟨k, by omega, h2, h3⟩
theorem mem_iatS {l : List Int} {y : Int} (h : y ∈ l) : ∃ k, k < l.length ∧ iat l k = y := by
  obtain ⟨k, hk, e⟩ := List.mem_iff_getElem.1 h
  refine ⟨k, hk, ?_⟩
  unfold iat
  rw [List.getD_eq_getElem?_getD, List.getElem?_eq_getElem hk]
  exact e
theorem iat_memS {l : List Int} {k : Nat} (h : k < l.length) : iat l k ∈ l := by
  unfold iat
  rw [List.getD_eq_getElem?_getD, List.getElem?_eq_getElem h]
  exact List.getElem_mem _
theorem fc_sorted {F : List (List Int)} {O : List Int} (h : Fc F O) : Fc (FS F.length O) O := by
  refine ⟨fun f hf k hk => ?_, fun x hx => ?_, h.even⟩
  · rw [FS_length] at hf
    rw [FS_at hf] at hk ⊢
    obtain ⟨z, h1, h2, h3⟩ := srt_in.1 (iat_memS hk)
    exact ⟨z, h2, h1, h3⟩
  · obtain ⟨f, k, hf, _, _, e⟩ := h.on x hx
    obtain ⟨j, hj, e2⟩ := mem_iatS (srt_in.2 ⟨x, hx, rfl, e⟩)
    exact ⟨f, j, by rw [FS_length]; exact hf, by rw [FS_at hf]; exact hj, by rw [FS_at hf]; exact e2, e⟩
/-- A half-edge leads from the face x to the face y. -/
def Adj (O : List Int) (x y : Nat) : Prop := ∃ h : Nat, h < O.length ∧ iat O h = (x : Int) ∧ acr O (h : Int) = y
theorem fc_adj {F : List (List Int)} {O : List Int} (fc : Fc F O) {x y : Nat} (hx : x < F.length) : Adj O x y ↔ ∃ k, k < (lat F x).length ∧ acr O (iat (lat F x) k) = y := by
  constructor
  · rintro ⟨h, h1, h2, h3⟩
    obtain ⟨f, k, hf, hk, e1, e2⟩ := fc.on h h1
    have : f = x := by rw [h2] at e2; omega
    subst this
    exact ⟨k, hk, by rw [e1]; exact h3⟩
  · rintro ⟨k, hk, e⟩
    obtain ⟨z, h1, h2, h3⟩ := fc.len x hx k hk
    exact ⟨z, h2, h3, by rw [← h1]; exact e⟩
theorem fc_adj_lt {F : List (List Int)} {O : List Int} (fc : Fc F O) {x y : Nat} (hx : x < F.length) (h : Adj O x y) : y < F.length := by
  obtain ⟨k, hk, e⟩ := (fc_adj fc hx).1 h
  rw [← e]
  exact (fc.acr hx hk).1
theorem fc_adj_back {F : List (List Int)} {O : List Int} (fc : Fc F O) {x y : Nat} (hx : x < F.length) (h : Adj O x y) : Adj O y x := by
  have hy := fc_adj_lt fc hx h
  obtain ⟨k, hk, e⟩ := (fc_adj fc hx).1 h
  obtain ⟨j, hj, e2⟩ := other_side fc hx hk
  rw [e] at hj e2
  exact (fc_adj fc hy).2 ⟨j, hj, e2⟩
theorem dist_least {F F' : List (List Int)} {O : List Int} {too : Nat} (fc : Fc F O) (fc' : Fc F' O) (hl : F'.length = F.length) (ht : too < F.length) : ∀ (m x : Nat), x < F.length → iat (dist F O too) x = (m : Int) → 0 ≤ iat (dist F' O too) x ∧ iat (dist F' O too) x ≤ m
  | 0, x, hx, e => by
    have hd := (dist_ok fc ht).1
    have hd' := (dist_ok fc' (by omega : too < F'.length)).1
    have : x = too := hd.only x hx (by rw [e]; rfl)
    rw [this, hd'.zero]
    exact ⟨Int.le_refl _, by omega⟩
  | m + 1, x, hx, e => by
    have hd := (dist_ok fc ht).1
    obtain ⟨k, hk, e2⟩ := hd.back x hx (by omega)
    have ha : Adj O x (acr O (iat (lat F x) k)) := (fc_adj fc hx).2 ⟨k, hk, rfl⟩
    obtain ⟨y, hy⟩ : ∃ y, acr O (iat (lat F x) k) = y := ⟨_, rfl⟩
    rw [hy] at ha e2
    have hyl := fc_adj_lt fc hx ha
    obtain ⟨i1, i2⟩ := dist_least fc fc' hl ht m y hyl (by rw [e2, e]; omega)
    obtain ⟨j, hj, e3⟩ := (fc_adj fc' (by omega : y < F'.length)).1 (fc_adj_back fc hx ha)
    obtain ⟨n1, n2⟩ := dist_near fc' (by omega : too < F'.length) y (by omega) i1 j hj
    rw [e3] at n1 n2
    exact ⟨n1, by omega⟩
theorem dist_uniq {F F' : List (List Int)} {O : List Int} {too : Nat} (fc : Fc F O) (fc' : Fc F' O) (hl : F'.length = F.length) (ht : too < F.length) : dist F' O too = dist F O too := by
  have ht' : too < F'.length := by omega
  obtain ⟨d1, b1⟩ := dist_ok fc ht
  obtain ⟨d2, b2⟩ := dist_ok fc' ht'
  apply iat_ext
  · rw [d1.len, d2.len, hl]
  · intro x hx
    rw [d2.len, hl] at hx
    have c1 := b1 x hx
    have c2 := b2 x (by omega)
    by_cases h1 : 0 ≤ iat (dist F O too) x
    · obtain ⟨m, hm⟩ : ∃ m : Nat, iat (dist F O too) x = m := ⟨(iat (dist F O too) x).toNat, by omega⟩
      obtain ⟨k1, k2⟩ := dist_least fc fc' hl ht m x hx hm
      obtain ⟨m2, hm2⟩ : ∃ m : Nat, iat (dist F' O too) x = m := ⟨(iat (dist F' O too) x).toNat, by omega⟩
      obtain ⟨k3, k4⟩ := dist_least fc' fc hl.symm ht' m2 x (by omega) hm2
      omega
    · by_cases h2 : 0 ≤ iat (dist F' O too) x
      · obtain ⟨m2, hm2⟩ : ∃ m : Nat, iat (dist F' O too) x = m := ⟨(iat (dist F' O too) x).toNat, by omega⟩
        obtain ⟨k3, k4⟩ := dist_least fc' fc hl.symm ht' m2 x (by omega) hm2
        omega
      · omega
/-- All half-edges, those of the face x alone count. -/
def rIn (O : List Int) (x : Nat) : Nat → List Int × List Int → List Int × List Int
  | 0, s => s
  | h + 1, s => if iat O h = (x : Int) ∧ iat (rIn O x h s).1 (acr O (h : Int)) < 0 then ((rIn O x h s).1.set (acr O (h : Int)) (iat (rIn O x h s).1 x + 1), (rIn O x h s).2 ++ [(acr O (h : Int) : Int)]) else rIn O x h s
theorem dIn_app (O : List Int) (l : List Int) (a : Int) (x : Nat) (s : List Int × List Int) : ∀ j, j ≤ l.length → dIn O (l ++ [a]) x j s = dIn O l x j s
  | 0, _ => rfl
  | j + 1, h => by
    have e : iat (l ++ [a]) j = iat l j := by
      unfold iat
      rw [List.getD_eq_getElem?_getD, List.getD_eq_getElem?_getD, List.getElem?_append_left (by omega)]
    simp only [dIn, dIn_app O l a x s j (by omega), e]
theorem rIn_is (O : List Int) (x : Nat) (s : List Int × List Int) : ∀ h, rIn O x h s = dIn O (srt O x h) x (srt O x h).length s
  | 0 => rfl
  | h + 1 => by
    have ih := rIn_is O x s h
    by_cases hx : iat O h = (x : Int)
    · have e1 : srt O x (h + 1) = srt O x h ++ [(h : Int)] := by simp only [srt, if_pos hx]
      have e2 : iat (srt O x h ++ [(h : Int)]) (srt O x h).length = (h : Int) := by
        unfold iat
        rw [List.getD_eq_getElem?_getD, List.getElem?_append_right (Nat.le_refl _), Nat.sub_self]
        rfl
      rw [e1, List.length_append, List.length_singleton]
      simp only [dIn, dIn_app O (srt O x h) (h : Int) x s _ (Nat.le_refl _), e2, rIn, ih, hx, true_and]
    · have e1 : srt O x (h + 1) = srt O x h := by simp only [srt, if_neg hx, List.append_nil]
      rw [e1]
      simp only [rIn, hx, false_and, if_false]
      exact ih
end Go.Proofs.Ytcgdmonejogbaaa
