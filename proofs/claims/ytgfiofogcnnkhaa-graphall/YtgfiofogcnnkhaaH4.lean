/- Back. -/
import Derived.Test.YtgfiofogcnnkhaaH3
namespace Go.Proofs.Ytgfiofogcnnkhaa
open Go.RowKit Go.Sort
open Go

def uat (l : List Un) (j : Nat) : Un := l.getD j .n
/-- j steps undone. -/
def Gr.bk (G : Gr) : Nat → Gr
  | 0 => G
  | j + 1 => (G.bk j).undo (uat G.dn (G.dn.length - 1 - j))
theorem undo_rest (G : Gr) (u : Un) : (G.undo u).dn = G.dn ∧ (G.undo u).ms = G.ms ∧ (G.undo u).lm = G.lm := by cases u <;> exact ⟨rfl, rfl, rfl⟩
theorem bk_rest (G : Gr) : ∀ j, (G.bk j).dn = G.dn ∧ (G.bk j).ms = G.ms ∧ (G.bk j).lm = G.lm
  | 0 => ⟨rfl, rfl, rfl⟩
  | j + 1 => by
    obtain ⟨h1, h2, h3⟩ := undo_rest (G.bk j) (uat G.dn (G.dn.length - 1 - j))
    obtain ⟨k1, k2, k3⟩ := bk_rest G j
    exact ⟨h1.trans k1, h2.trans k2, h3.trans k3⟩
theorem bk_step (G : Gr) {k : Nat} (hk : k < G.dn.length) : G.bk (G.dn.length - k) = (G.bk (G.dn.length - (k + 1))).undo (uat G.dn k) := by
  have e : G.dn.length - k = (G.dn.length - (k + 1)) + 1 := by omega
  rw [e]
  show (G.bk (G.dn.length - (k + 1))).undo (uat G.dn (G.dn.length - 1 - (G.dn.length - (k + 1)))) = _
  rw [show G.dn.length - 1 - (G.dn.length - (k + 1)) = k by omega]
/-- What undoing the step k asks. -/
structure Gr.fit (G : Gr) (k : Nat) : Prop where
  can : (G.bk (G.dn.length - (k + 1))).can (uat G.dn k)
  ln : (G.bk (G.dn.length - (k + 1))).ns.length ≤ 5000
  le : (G.bk (G.dn.length - (k + 1))).es.length ≤ 5000
  n0 : 0 ≤ (G.bk (G.dn.length - (k + 1))).nn
  n1 : (G.bk (G.dn.length - (k + 1))).nn ≤ 1000000000
  e0 : 0 ≤ (G.bk (G.dn.length - (k + 1))).ne
  e1 : (G.bk (G.dn.length - (k + 1))).ne ≤ 1000000000
theorem mcells_take : ∀ (l : List (Int × Nat)) (i : Nat), (mcells l).take (i * 2) = mcells (l.take i)
  | [], i => by simp [mcells]
  | x :: r, 0 => by simp [mcells]
  | x :: r, i + 1 => by
    have e : (i + 1) * 2 = i * 2 + 1 + 1 := by omega
    rw [e]
    simp only [mcells, List.take_succ_cons, mcells_take r i]
def steps (G : Gr) (m : Int) : Nat := (mat G.ms (mix G.ms m)).2
def backE (G : Gr) (m : Int) : Int := if mix G.ms m < G.ms.length then 0 else 14
def backG (G : Gr) (m : Int) : Gr := if mix G.ms m < G.ms.length then { G.bk (G.dn.length - steps G m) with ms := G.ms.take (mix G.ms m + 1), dn := G.dn.take (steps G m) } else G
theorem UnAll.take {w : World} {N : Nat → Prop} {fs : List Value} {us : List Un} (h : UnAll w N fs us) (k : Nat) : UnAll w N (fs.take k) (us.take k) := by
  refine ⟨by simp [h.1], fun j f u h1 h2 => ?_⟩
  rw [List.getElem?_take] at h1 h2
  split at h1
  · rename_i hj
    rw [if_pos hj] at h2
    exact h.2 j f u h1 h2
  · cases h1
theorem UnAll.one {w : World} {N : Nat → Prop} {fs : List Value} {us : List Un} (h : UnAll w N fs us) : ∀ u ∈ fs, u.oneCell' = true := fun f hf => by
  obtain ⟨j, hj, rfl⟩ := List.mem_iff_getElem.1 hf
  obtain ⟨k, l, e⟩ := (h.2 j _ _ (List.getElem?_eq_getElem hj) (List.getElem?_eq_getElem (by rw [← h.1]; exact hj))).fn
  rw [e]
  rfl
/-- The undoing steps are cut. -/
theorem cut65 (b : Nat) (s : GV) (G : Gr) (st : Nat) (V : World) (h : GAt V b s G) (hst : st ≤ G.dn.length) (hl : G.dn.length ≤ 5000000) : Calls Try.prog 65 #[s.vd, .int .i64 st, .int .i64 G.dn.length] V fun e w' => ∃ p c, e = .returned (.slice p st c) ∧ w'.cell? ⟨b, 7, none⟩ = some s.vd ∧ w'.frozen? ⟨b, 7, none⟩ = false ∧ GAt (w'.setCell ⟨b, 7, none⟩ (.slice p st c)) b { s with vd := .slice p st c } { G with dn := G.dn.take st } ∧ GFr V (w'.setCell ⟨b, 7, none⟩ (.slice p st c)) b s { s with vd := .slice p st c } := by
  obtain ⟨fs, od, hu, _⟩ := h.don
  obtain ⟨p, c, hv, hnc, hcm⟩ := row_form od
  have q7 := h.cells.2.2.2.2.2.2.2
  by_cases hlt : st < G.dn.length
  · have od' := od
    rw [hv] at od'
    obtain ⟨g, rfl, _, hg⟩ := own_some od' (by omega)
    rw [hv]
    refine (delete65 g G.dn.length c st G.dn.length 0 fs V od' hu.one hlt (Nat.le_refl _) hl).mono ?_
    rintro e w' ⟨rfl, o1, gr⟩
    have hf : Frame V w' (fun i => s.vd.ownBlock = some i) := Frame.grown gr (fun i e => by rw [hv]; exact e)
    have e1 : st + (G.dn.length - G.dn.length) = st := by omega
    have hfl : fs.length = G.dn.length := hu.1
    rw [e1, Nat.mul_one, Nat.mul_one, List.drop_of_length_le (by omega), List.append_nil] at o1
    have e2 : (G.dn.take st).length = st := by rw [List.length_take]; omega
    obtain ⟨g1, r1⟩ := h.setDn (l := G.dn.take st) (fs := fs.take st) hf (by rw [e2]; exact o1) (fun i hi => Or.inl (by rw [hv]; exact hi)) (hu.take st)
    have hne : ¬ s.vd.ownBlock = some b := h.ne.2.2.2
    exact ⟨_, _, by rw [e1], by rw [← hv]; exact hf.cell q7 hne, by rw [World.frozen?_of_block (hf.block b h.lt hne)]; exact h.free 7, g1, r1⟩
  · have hse : st = G.dn.length := by omega
    subst hse
    rw [hv]
    refine (delete65same p G.dn.length c V hl hcm hnc).mono ?_
    rintro e w' ⟨rfl, rfl⟩
    obtain ⟨g1, r1⟩ := h.setDn (l := G.dn.take G.dn.length) (fs := fs) (w' := w') (Frame.of_below (Below.refl _ _) _) (by rw [List.take_length]; rw [hv] at od; exact od) (fun i hi => Or.inl (by rw [hv]; exact hi)) (by rw [List.take_length]; exact hu)
    exact ⟨_, _, rfl, by rw [← hv]; exact q7, h.free 7, g1, r1⟩
/-- The marks are cut. -/
theorem GAt.cutM {w : World} {b : Nat} {s : GV} {G : Gr} (h : GAt w b s G) (k : Nat) (hk : 0 < k) (hkl : k ≤ G.ms.length) : ∃ g c, s.vm = .slice (some ⟨g, 0, none⟩) G.ms.length c ∧ G.ms.length ≤ c ∧ c ≤ maxLen ∧ GAt (w.setCell ⟨b, 5, none⟩ (.slice (some ⟨g, 0, none⟩) k c)) b { s with vm := .slice (some ⟨g, 0, none⟩) k c } { G with ms := G.ms.take k } ∧ GFr w (w.setCell ⟨b, 5, none⟩ (.slice (some ⟨g, 0, none⟩) k c)) b s { s with vm := .slice (some ⟨g, 0, none⟩) k c } := by
  have oe := h.mks
  obtain ⟨p, c, hv, hnc, hcm⟩ := row_form oe
  rw [hv] at oe
  obtain ⟨g, rfl, _, hg⟩ := own_some oe (by omega)
  obtain ⟨cur, R, hcur, _, _, hxl⟩ := row_is oe
  have o1 : w.ownsRow 0 89 2 (.slice (some ⟨g, 0, none⟩) k c) k (cur.take (k * 2)) := R.own (by omega) (Nat.zero_le _)
  have e1 : cur.take (k * 2) = mcells (G.ms.take k) := by
    rw [← mcells_take, ← hcur, List.take_take, Nat.min_eq_left (Nat.mul_le_mul_right _ hkl)]
  have e2 : (G.ms.take k).length = k := by rw [List.length_take]; omega
  rw [e1] at o1
  obtain ⟨g1, r1⟩ := h.setMs (w' := w) (l := G.ms.take k) (v := .slice (some ⟨g, 0, none⟩) k c) (Frame.of_below (Below.refl _ _) _) (by rw [e2]; exact o1) (fun i hi => Or.inl (by rw [hv]; exact hi))
  exact ⟨g, c, hv, hnc, hcm, g1, r1⟩
set_option maxRecDepth 100000 in
set_option maxHeartbeats 16000000 in
theorem back22 (b : Nat) (s : GV) (G : Gr) (m : Int) (w : World) (h : GAt w b s G) (hl : G.dn.length ≤ 5000000) (hm : G.ms.length ≤ 64) (hst : mix G.ms m < G.ms.length → steps G m ≤ G.dn.length ∧ ∀ k, steps G m ≤ k → k < G.dn.length → G.fit k) : Calls Try.prog 22 #[ptr b, .int .i64 m] w (Turns w b s (.int .i64 (backE G m)) (backG G m)) := by
  obtain ⟨W, hW⟩ : ∃ W, W = w.alloc (.cells #[.int .i64 m] 3) := ⟨_, rfl⟩
  have hbW : Below w.heap.size w W := by rw [hW]; go_grown
  have a1 : W.cell? ⟨w.heap.size, 0, none⟩ = some (.int .i64 m) := by rw [hW]; go_cell
  have hgW := h.later hbW
  have A := none50 b s G W hgW
  obtain ⟨pn, cn, pe, ce, pm, cm0, pd, cd, _, hs, _⟩ := hgW.form
  have q5 : W.cell? ⟨b, 5, none⟩ = some (.slice pm G.ms.length cm0) := by have := hgW.cells.2.2.2.2.2.1; rw [hs] at this; exact this
  have IX := hide (index63 pm G.ms cm0 m w.heap.size W (by omega) (own_mhas (by have := hgW.mks; rw [hs] at this; exact this)) a1)
  have HGW := hide hgW
  have HBW := hide hbW
  have HW := hide hW
  have HSS := hide hs
  have HST := hide hst
  have n5 := World.new_ne W _ q5
  clear h hgW hbW hW hs hst a1
  by_cases hfd : mix G.ms m < G.ms.length
  · obtain ⟨hst, hfit⟩ := HST.out hfd
    obtain ⟨i, hi⟩ : ∃ i, mix G.ms m = i := ⟨_, rfl⟩
    obtain ⟨st, hstd⟩ : ∃ st, steps G m = st := ⟨_, rfl⟩
    have HBE : Hid (backE G m = 0) := if_pos hfd
    have HBG : Hid (backG G m = { G.bk (G.dn.length - st) with ms := G.ms.take (i + 1), dn := G.dn.take st }) := by
      show _ = _
      unfold backG
      rw [if_pos hfd, hi, hstd]
    have e1 : mixI G.ms m = (i : Int) := by unfold mixI; rw [if_pos hfd, hi]
    have HI := hide (show mat G.ms i = ((mat G.ms i).1, st) from by rw [← hstd]; unfold steps; rw [hi])
    rw [e1] at IX
    rw [hi] at hfd
    rw [hstd] at hst hfit
    have HFIT := hide hfit
    rw [HBE.out]
    clear hi hstd e1 HST hfit
    go_enter Try.func22, Try.ntmps22
    go_upto_region 6 with (first | (go_at_call 50; rw [← HW.out]; refine A.mono ?_; rintro e w' ⟨rfl, hw⟩; have hw2 := hw.symm; subst hw2) | (go_at_call 63; refine IX.out.mono ?_; rintro e w1 ⟨rfl, hb1⟩; have HB1 := hide hb1; clear hb1))
    clear A IX q5 n5
    have HG1 := hide (HGW.out.later HB1.out)
    have HR1 := hide (show GFr w w1 b s s from GFr.of_below (below_step HBW.out HB1.out))
    have q5 := HG1.out.cells.2.2.2.2.2.1
    rw [HSS.out] at q5
    have q7 := HG1.out.cells.2.2.2.2.2.2.2
    rw [HSS.out] at q7
    have om := HG1.out.mks
    rw [HSS.out] at om
    rcases own_mhas om with h0 | ⟨gm, rfl, hc⟩
    · rw [h0] at hfd; simp at hfd
    obtain ⟨c0, c1⟩ := hc i hfd
    rw [HI.out] at c0 c1
    clear hc om HI
    simp only at q5 q7 c0 c1
    have j1 : (0 : Int) ≤ i := by omega
    have j2 : (i : Int) < G.ms.length := by omega
    go_wp2_with fail
    go_loopw [7] (fun t7 wr => ∃ (r : Nat) (s1 : GV), st ≤ r ∧ r ≤ G.dn.length ∧ t7 = .int .i64 ((r : Int) - 1) ∧ Hid (GAt wr b s1 (G.bk (G.dn.length - r))) ∧ Hid (GFr w wr b s s1)) (fun t7 _ => (intOf t7 + 1).toNat)
    case atStart => exact ⟨G.dn.length, s, hst, Nat.le_refl _, rfl, by show GAt _ _ _ _; rw [Nat.sub_self]; exact HG1.out, HR1.out⟩
    case round =>
      obtain ⟨r, s1, hr1, hr2, rfl, HGr, HRr⟩ := hrel
      clear q5 q7 c0 c1 HG1 HR1 HGW HBW HW HB1 HSS
      by_cases hlt : st < r
      · obtain ⟨k, rfl⟩ : ∃ k, r = k + 1 := ⟨r - 1, by omega⟩
        have ek : (((k + 1 : Nat) : Int) - 1) = (k : Int) := by omega
        rw [ek]
        have hkl : k < G.dn.length := by omega
        have HF := hide (HFIT.out k (by omega) hkl)
        obtain ⟨pn, cn, pe, ce, pm, cm, pd, cd, _, hs, _⟩ := HGr.out.form
        obtain ⟨fs, od, hua, _⟩ := HGr.out.don
        have q7 := HGr.out.cells.2.2.2.2.2.2.2
        simp only [(bk_rest G _).1] at od hua hs
        have hfl : fs.length = G.dn.length := hua.1
        have hun := hua.2 k (fs[k]'(by omega)) (uat G.dn k) (List.getElem?_eq_getElem (by omega)) (by unfold uat; rw [List.getD_eq_getElem?_getD, List.getElem?_eq_getElem hkl]; rfl)
        obtain ⟨f, hf⟩ : ∃ f, fs[k]'(by omega) = f := ⟨_, rfl⟩
        obtain ⟨u, hu⟩ : ∃ u, uat G.dn k = u := ⟨_, rfl⟩
        have hvd : s1.vd = .slice pd G.dn.length cd := by rw [hs]
        rw [hvd] at q7 od
        obtain ⟨gd, rfl, _, hgd⟩ := own_some od (by omega)
        have ck : wr.cell? ⟨gd, k, none⟩ = some f := by
          rw [World.ownsRow.cellAt od k (by omega), List.getElem?_eq_getElem (by omega), hf]
        have j3 : (k : Int) < G.dn.length := by omega
        have j4 : (st : Int) ≤ k := by omega
        rw [hf, hu] at hun
        have HU := hide hu
        have HFc := HF.out.can
        rw [hu] at HFc
        clear hf hua od hs hfl hvd hlt ek hu
        cases u with
        | n =>
          have U := hide (undo74 b s1 (G.bk (G.dn.length - (k + 1))) wr HGr.out HFc HF.out.ln HF.out.n0 HF.out.n1)
          clear HF
          subst hun
          go_wp2_with (go_at_call 74; refine U.out.mono ?_; rintro e w' ⟨rfl, s2, g2, r2⟩; have HG2 := hide g2; have HR2 := hide (HRr.out.trans r2); clear g2 r2)
          go_roundw
          case rel => exact ⟨k, s2, by omega, by omega, rfl, by show GAt _ _ _ _; rw [bk_step G hkl, HU.out]; exact HG2.out, HR2.out⟩
          case measure => simp [intOf]
        | e =>
          have U := hide (undo75 b s1 (G.bk (G.dn.length - (k + 1))) wr HGr.out HFc HF.out.le HF.out.e0 HF.out.e1)
          clear HF
          subst hun
          go_wp2_with (go_at_call 75; refine U.out.mono ?_; rintro e w' ⟨rfl, s2, g2, r2⟩; have HG2 := hide g2; have HR2 := hide (HRr.out.trans r2); clear g2 r2)
          go_roundw
          case rel => exact ⟨k, s2, by omega, by omega, rfl, by show GAt _ _ _ _; rw [bk_step G hkl, HU.out]; exact HG2.out, HR2.out⟩
          case measure => simp [intOf]
        | tn p id =>
          obtain ⟨k1, k2, hun, a1, a2, a3, a4⟩ := hun
          have U := hide (undo92 b s1 (G.bk (G.dn.length - (k + 1))) p id k1 k2 wr HGr.out (fun z => a1 (Or.inl z)) (fun z => a2 (Or.inl z)) a3 a4 HFc HF.out.ln)
          clear a1 a2 a3 a4 HF
          subst hun
          go_wp2_with (go_at_call 92; refine U.out.mono ?_; rintro e w' ⟨rfl, s2, g2, r2⟩; have HG2 := hide g2; have HR2 := hide (HRr.out.trans r2); clear g2 r2)
          go_roundw
          case rel => exact ⟨k, s2, by omega, by omega, rfl, by show GAt _ _ _ _; rw [bk_step G hkl, HU.out]; exact HG2.out, HR2.out⟩
          case measure => simp [intOf]
        | te p x =>
          obtain ⟨k1, k2, hun, a1, a2, a3, a4, a5, a6⟩ := hun
          have U := hide (undo89 b s1 (G.bk (G.dn.length - (k + 1))) p x k1 k2 wr HGr.out (fun z => a1 (Or.inl z)) (fun z => a2 (Or.inl z)) a3 a4 a5 a6 HFc HF.out.le)
          clear a1 a2 a3 a4 a5 a6 HF
          subst hun
          go_wp2_with (go_at_call 89; refine U.out.mono ?_; rintro e w' ⟨rfl, s2, g2, r2⟩; have HG2 := hide g2; have HR2 := hide (HRr.out.trans r2); clear g2 r2)
          go_roundw
          case rel => exact ⟨k, s2, by omega, by omega, rfl, by show GAt _ _ _ _; rw [bk_step G hkl, HU.out]; exact HG2.out, HR2.out⟩
          case measure => simp [intOf]
        | se p sd was =>
          obtain ⟨k1, k2, k3, hun, a1, a2, a3, a4, a5, a6⟩ := hun
          have U := hide (undo84 b s1 (G.bk (G.dn.length - (k + 1))) p sd was k1 k2 k3 wr HGr.out (fun z => a1 (Or.inl z)) (fun z => a2 (Or.inl z)) (fun z => a3 (Or.inl z)) a4 a5 a6 HFc.1 HFc.2 HF.out.le)
          clear a1 a2 a3 a4 a5 a6 HF
          subst hun
          go_wp2_with (go_at_call 84; refine U.out.mono ?_; rintro e w' ⟨rfl, s2, g2, r2⟩; have HG2 := hide g2; have HR2 := hide (HRr.out.trans r2); clear g2 r2)
          go_roundw
          case rel => exact ⟨k, s2, by omega, by omega, rfl, by show GAt _ _ _ _; rw [bk_step G hkl, HU.out]; exact HG2.out, HR2.out⟩
          case measure => simp [intOf]
      · have hre : st = r := by omega
        subst hre
        have j4 : ¬ (st : Int) ≤ (st : Int) - 1 := by omega
        obtain ⟨pn, cn, pe, ce, pm, cm, pd, cd, _, hs, _⟩ := HGr.out.form
        simp only [(bk_rest G _).1] at hs
        have hvd : s1.vd = .slice pd G.dn.length cd := by rw [hs]
        clear hs
        go_upto_region 11 with fail
        refine wp_region_held_drew (S := (fun _ => True)) (by kernel_rfl) trivial (fun hHeld => ?_)
        obtain ⟨V0, hV0⟩ : ∃ V, V = wr.drew := ⟨_, rfl⟩
        have hb0 : Below wr.heap.size wr V0 := by rw [hV0]; exact below_drew _
        have hG0 := HGr.out.later hb0
        have HR1 := hide (HRr.out.trans (GFr.of_below hb0))
        have q7 := hG0.cells.2.2.2.2.2.2.2
        rw [hvd] at q7
        have CUT := hide (cut65 b s1 (G.bk (G.dn.length - st)) st V0 hG0 (by rw [(bk_rest G _).1]; exact hst) (by rw [(bk_rest G _).1]; exact hl))
        rw [hvd] at CUT
        simp only [(bk_rest G _).1] at CUT
        rw [← hV0]
        clear hV0 hb0 hG0 HGr HRr hvd
        refine wpAnyH_take (i := 0) (v := ?v1) rfl (by kernel_rfl) (by kernel_rfl) (by kernel_rfl) (fun _ _ _ h => h) (Or.inl ⟨by rfl, ?hy1⟩) (by assumption) ?rest1
        case hy1 => (intro w hSw; (try dsimp only at hSw); go_simp; try with_reducible rfl)
        try simp only [Act.put, List.setIfInBounds_toArray]
        refine wpAnyH_take (i := 1) (v := ?v2) rfl (by kernel_rfl) (by kernel_rfl) (by kernel_rfl) (fun _ _ _ h => h) (Or.inl ⟨by rfl, ?hy2⟩) (by assumption) ?rest2
        case hy2 => (intro w hSw; (try dsimp only at hSw); go_simp; try with_reducible rfl)
        try simp only [Act.put]
        refine wpAnyH_take (i := 2) (v := ?v3) rfl (by kernel_rfl) (by kernel_rfl) (by kernel_rfl) (fun _ _ _ h => h) (Or.inl ⟨by rfl, ?hy3⟩) (by assumption) ?rest3
        case hy3 => (intro w hSw; (try dsimp only at hSw); go_simp; try with_reducible rfl)
        try simp only [Act.put]
        refine wpAnyH_take (i := 3) (v := ?v4) rfl (by kernel_rfl) (by kernel_rfl) (by kernel_rfl) (fun _ _ _ h => h) (Or.inl ⟨by rfl, ?hy4⟩) (by assumption) ?rest4
        case hy4 => (intro w hSw; (try dsimp only at hSw); go_simp; try with_reducible rfl)
        try simp only [Act.put]
        refine wpAnyH_take (i := 5) (v := ?v5) rfl (by kernel_rfl) (by kernel_rfl) (by kernel_rfl) (fun _ _ _ h => h) (Or.inl ⟨by rfl, ?hy5⟩) (by assumption) ?rest5
        case hy5 => (intro w hSw; (try dsimp only at hSw); go_simp; try with_reducible rfl)
        try simp only [Act.put]
        refine wpAnyH_take (i := 6) (v := ?v6) rfl (by kernel_rfl) (by kernel_rfl) (by kernel_rfl) (fun _ _ _ h => h) (Or.inl ⟨by rfl, ?hy6⟩) (by assumption) ?rest6
        case hy6 => (intro w hSw; (try dsimp only at hSw); go_simp; try with_reducible rfl)
        try simp only [Act.put]
        refine wpAnyH_take (i := 7) (v := ?v7) rfl (by kernel_rfl) (by kernel_rfl) (by kernel_rfl) (fun _ _ _ h => h) (Or.inl ⟨by rfl, ?hy7⟩) (by assumption) ?rest7
        case hy7 => (intro w hSw; (try dsimp only at hSw); go_simp; try with_reducible rfl)
        try simp only [Act.put]
        refine wpAnyH_take (i := 8) (v := ?v8) rfl (by kernel_rfl) (by kernel_rfl) (by kernel_rfl) (fun _ _ _ h => h) (Or.inl ⟨by rfl, ?hy8⟩) (by assumption) ?rest8
        case hy8 => (intro w hSw; (try dsimp only at hSw); go_simp; try with_reducible rfl)
        try simp only [Act.put]
        refine wpAnyH_ready (rs := [4, 9]) (by kernel_rfl) (by simp) ?_
        refine AllReadyH.cons rfl (fun K hK => ?_) ?_
        · clear hHeld
          go_simp
          refine hK.out _ _ (trivial) (fun hHeld => ?_)
          clear hK K
          try simp only [Act.put, List.setIfInBounds_toArray, List.set_cons_zero, List.set_cons_succ]
          refine wpAnyH_ready (rs := [9]) (by kernel_rfl) (by simp) ?_
          refine AllReadyH.cons rfl (fun K hK => ?_) ?_
          · clear hHeld
            go_simp
            refine hK.out _ _ (trivial) (fun hHeld => ?_)
            clear hK K
            try simp only [Act.put, List.setIfInBounds_toArray, List.set_cons_zero, List.set_cons_succ]
            refine wpAnyH_take (i := 10) (v := ?v9) rfl (by kernel_rfl) (by kernel_rfl) (by kernel_rfl) (fun _ _ _ h => h) (Or.inl ⟨by rfl, ?hy9⟩) (by assumption) ?rest9
            case hy9 => (intro w hSw; (try dsimp only at hSw); go_simp; try with_reducible rfl)
            try simp only [Act.put, List.setIfInBounds_toArray]
            refine wpAnyH_ready (rs := [11]) (by kernel_rfl) (by simp) ?_
            refine AllReadyH.cons rfl (fun K hK => ?_) ?_
            · clear hHeld
              go_simp
              refine CUT.out.mono ?_
              rintro e V1 ⟨p2, c2, rfl, x3, y3, g3, r3⟩
              have HG := hide g3
              have HR := hide (HR1.out.trans r3)
              clear q7 g3 r3
              refine hK.out _ _ (trivial) (fun hHeld => ?_)
              clear hK K
              try simp only [Act.put, List.setIfInBounds_toArray, List.set_cons_zero, List.set_cons_succ]
              refine wpAnyH_take (i := 12) (v := ?v10) rfl (by kernel_rfl) (by kernel_rfl) (by kernel_rfl) (fun _ _ _ h => h) (Or.inl ⟨by rfl, ?hy10⟩) (by assumption) ?rest10
              case hy10 => (intro w hSw; (try dsimp only at hSw); go_simp; try with_reducible rfl)
              try simp only [Act.put, List.setIfInBounds_toArray]
              refine wpAnyH_take (i := 13) (v := ?v11) rfl (by kernel_rfl) (by kernel_rfl) (by kernel_rfl) (fun _ _ _ h => h) (Or.inl ⟨by rfl, ?hy11⟩) (by assumption) ?rest11
              case hy11 => (intro w hSw; (try dsimp only at hSw); go_simp; try with_reducible rfl)
              try simp only [Act.put]
              refine wpAnyH_ready (rs := [14]) (by kernel_rfl) (by simp) ?_
              refine AllReadyH.cons rfl (fun K hK => ?_) ?_
              · clear hHeld
                go_simp
                clear x3 y3
                refine hK.out _ _ (trivial) (fun hHeld => ?_)
                clear hK K
                try simp only [Act.put, List.setIfInBounds_toArray, List.set_cons_zero, List.set_cons_succ]
                refine wpAnyH_done (by kernel_rfl) ?_ _
                clear hHeld
                obtain ⟨Y, hY⟩ : ∃ Y, Y = V1.setCell ⟨b, 7, none⟩ (.slice p2 st c2) := ⟨_, rfl⟩
                rw [← hY] at HG HR
                rw [← hY]
                clear hY
                obtain ⟨gm, cm, hvm, hmc, hcm, g4, r4⟩ := HG.out.cutM (i + 1) (by omega) (by show i + 1 ≤ (G.bk (G.dn.length - st)).ms.length; rw [(bk_rest G _).2.1]; omega)
                have q5 := HG.out.cells.2.2.2.2.2.1
                have f5 := HG.out.free 5
                have hml : (G.bk (G.dn.length - st)).ms.length = G.ms.length := by rw [(bk_rest G _).2.1]
                rw [hvm] at q5
                simp only [hml] at q5 hmc
                have HEND : Hid (GAt (Y.setCell ⟨b, 5, none⟩ (.slice (some ⟨gm, 0, none⟩) (i + 1) cm)) b { s1 with vd := .slice p2 st c2, vm := .slice (some ⟨gm, 0, none⟩) (i + 1) cm } (backG G m) ∧ GFr w (Y.setCell ⟨b, 5, none⟩ (.slice (some ⟨gm, 0, none⟩) (i + 1) cm)) b s { s1 with vd := .slice p2 st c2, vm := .slice (some ⟨gm, 0, none⟩) (i + 1) cm }) := by
                  refine ⟨?_, HR.out.trans r4⟩
                  rw [HBG.out]
                  have g5 := g4
                  simp only [(bk_rest G _).2.1] at g5
                  exact g5
                have j1 : (i : Int) + 1 ≤ cm := by omega
                have j2 : (cm : Int) ≤ 9223372036854775807 := by unfold maxLen at hcm; omega
                have j3 : i + 1 ≤ cm := by omega
                have j4 : ((i : Int) + 1).toNat = i + 1 := by omega
                clear g4 r4 hvm hml hcm
                go_wp2_with fail
                go_ret
                exact ⟨rfl, _, HEND.out.1, HEND.out.2⟩
              exact AllReadyH.nil
            exact AllReadyH.nil
          exact AllReadyH.nil
        refine AllReadyH.cons rfl (fun K hK => ?_) ?_
        · clear hHeld
          go_simp
          refine hK.out _ _ (trivial) (fun hHeld => ?_)
          clear hK K
          try simp only [Act.put, List.setIfInBounds_toArray, List.set_cons_zero, List.set_cons_succ]
          refine wpAnyH_take (i := 10) (v := ?v12) rfl (by kernel_rfl) (by kernel_rfl) (by kernel_rfl) (fun _ _ _ h => h) (Or.inl ⟨by rfl, ?hy12⟩) (by assumption) ?rest12
          case hy12 => (intro w hSw; (try dsimp only at hSw); go_simp; try with_reducible rfl)
          try simp only [Act.put, List.setIfInBounds_toArray]
          refine wpAnyH_ready (rs := [4]) (by kernel_rfl) (by simp) ?_
          refine AllReadyH.cons rfl (fun K hK => ?_) ?_
          · clear hHeld
            go_simp
            refine hK.out _ _ (trivial) (fun hHeld => ?_)
            clear hK K
            try simp only [Act.put, List.setIfInBounds_toArray, List.set_cons_zero, List.set_cons_succ]
            refine wpAnyH_ready (rs := [11]) (by kernel_rfl) (by simp) ?_
            refine AllReadyH.cons rfl (fun K hK => ?_) ?_
            · clear hHeld
              go_simp
              refine CUT.out.mono ?_
              rintro e V1 ⟨p2, c2, rfl, x3, y3, g3, r3⟩
              have HG := hide g3
              have HR := hide (HR1.out.trans r3)
              clear q7 g3 r3
              refine hK.out _ _ (trivial) (fun hHeld => ?_)
              clear hK K
              try simp only [Act.put, List.setIfInBounds_toArray, List.set_cons_zero, List.set_cons_succ]
              refine wpAnyH_take (i := 12) (v := ?v13) rfl (by kernel_rfl) (by kernel_rfl) (by kernel_rfl) (fun _ _ _ h => h) (Or.inl ⟨by rfl, ?hy13⟩) (by assumption) ?rest13
              case hy13 => (intro w hSw; (try dsimp only at hSw); go_simp; try with_reducible rfl)
              try simp only [Act.put, List.setIfInBounds_toArray]
              refine wpAnyH_take (i := 13) (v := ?v14) rfl (by kernel_rfl) (by kernel_rfl) (by kernel_rfl) (fun _ _ _ h => h) (Or.inl ⟨by rfl, ?hy14⟩) (by assumption) ?rest14
              case hy14 => (intro w hSw; (try dsimp only at hSw); go_simp; try with_reducible rfl)
              try simp only [Act.put]
              refine wpAnyH_ready (rs := [14]) (by kernel_rfl) (by simp) ?_
              refine AllReadyH.cons rfl (fun K hK => ?_) ?_
              · clear hHeld
                go_simp
                clear x3 y3
                refine hK.out _ _ (trivial) (fun hHeld => ?_)
                clear hK K
                try simp only [Act.put, List.setIfInBounds_toArray, List.set_cons_zero, List.set_cons_succ]
                refine wpAnyH_done (by kernel_rfl) ?_ _
                clear hHeld
                obtain ⟨Y, hY⟩ : ∃ Y, Y = V1.setCell ⟨b, 7, none⟩ (.slice p2 st c2) := ⟨_, rfl⟩
                rw [← hY] at HG HR
                rw [← hY]
                clear hY
                obtain ⟨gm, cm, hvm, hmc, hcm, g4, r4⟩ := HG.out.cutM (i + 1) (by omega) (by show i + 1 ≤ (G.bk (G.dn.length - st)).ms.length; rw [(bk_rest G _).2.1]; omega)
                have q5 := HG.out.cells.2.2.2.2.2.1
                have f5 := HG.out.free 5
                have hml : (G.bk (G.dn.length - st)).ms.length = G.ms.length := by rw [(bk_rest G _).2.1]
                rw [hvm] at q5
                simp only [hml] at q5 hmc
                have HEND : Hid (GAt (Y.setCell ⟨b, 5, none⟩ (.slice (some ⟨gm, 0, none⟩) (i + 1) cm)) b { s1 with vd := .slice p2 st c2, vm := .slice (some ⟨gm, 0, none⟩) (i + 1) cm } (backG G m) ∧ GFr w (Y.setCell ⟨b, 5, none⟩ (.slice (some ⟨gm, 0, none⟩) (i + 1) cm)) b s { s1 with vd := .slice p2 st c2, vm := .slice (some ⟨gm, 0, none⟩) (i + 1) cm }) := by
                  refine ⟨?_, HR.out.trans r4⟩
                  rw [HBG.out]
                  have g5 := g4
                  simp only [(bk_rest G _).2.1] at g5
                  exact g5
                have j1 : (i : Int) + 1 ≤ cm := by omega
                have j2 : (cm : Int) ≤ 9223372036854775807 := by unfold maxLen at hcm; omega
                have j3 : i + 1 ≤ cm := by omega
                have j4 : ((i : Int) + 1).toNat = i + 1 := by omega
                clear g4 r4 hvm hml hcm
                go_wp2_with fail
                go_ret
                exact ⟨rfl, _, HEND.out.1, HEND.out.2⟩
              exact AllReadyH.nil
            exact AllReadyH.nil
          exact AllReadyH.nil
        exact AllReadyH.nil
  · have HBE : Hid (backE G m = 14) := if_neg hfd
    have HBG : Hid (backG G m = G) := if_neg hfd
    have e1 : mixI G.ms m = -1 := if_neg hfd
    rw [e1] at IX
    rw [HBE.out, HBG.out]
    clear e1 HST
    go_enter Try.func22, Try.ntmps22
    go_wp2_with (first | (go_at_call 50; rw [← HW.out]; refine A.mono ?_; rintro e w' ⟨rfl, hw⟩; have hw2 := hw.symm; subst hw2) | (go_at_call 63; refine IX.out.mono ?_; rintro e w1 ⟨rfl, hb1⟩; have HB1 := hide hb1; clear hb1))
    go_ret
    exact ⟨rfl, s, HGW.out.later HB1.out, GFr.of_below (below_step HBW.out HB1.out)⟩
end Go.Proofs.Ytgfiofogcnnkhaa
