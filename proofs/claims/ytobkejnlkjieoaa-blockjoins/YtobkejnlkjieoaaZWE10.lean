/- lows, in every world. -/
import Derived.Test.YtobkejnlkjieoaaZC02
import Derived.Test.YtobkejnlkjieoaaZWE7
import Derived.Test.YtobkejnlkjieoaaZC08
import Derived.Test.YtobkejnlkjieoaaZWE9
import Derived.Sort.CutIn
namespace Go.Proofs.Ytobkejnlkjieoaa
open Go.RowKit Go.Sort Go.Shelf
open Go

attribute [local go_sem] Oper.semAt_some
/-- A round's elements: a place, and a node. -/
abbrev LEl (m : Nat) : Type := { x : Nat × Int // 0 ≤ x.2 ∧ x.2 < (m : Int) }
def lEl (m : Nat) (h : 0 < m) (O : List Int) (j : Nat) : LEl m := if k : 0 ≤ iat O j ∧ iat O j < (m : Int) then ⟨(j, iat O j), k⟩ else ⟨(j, 0), by simp; omega⟩
def lEnc (m : Nat) (x : LEl m) : Array Value := #[.int .i64 (x.1.1 : Int), .int .i64 x.1.2]
theorem lEl_at {m : Nat} {h : 0 < m} {O : List Int} {j : Nat} (k : 0 ≤ iat O j ∧ iat O j < (m : Int)) : lEl m h O j = ⟨(j, iat O j), k⟩ := by unfold lEl; rw [dif_pos k]
/-- What is reckoned when so many have come. -/
def lowF (es : List Pt) (D : St) (m : Nat) (pre : List (LEl m)) : List Int := pre.foldl (fun L x => lwOne es D (whN D.O m 0 D.O.length) L x.1.2.toNat) (whN D.O m (-1) D.O.length)
theorem lowF_snoc (es : List Pt) (D : St) (m : Nat) (pre : List (LEl m)) (x : LEl m) : lowF es D m (pre ++ [x]) = lwOne es D (whN D.O m 0 D.O.length) (lowF es D m pre) x.1.2.toNat := by simp [lowF]
theorem lowF_len (es : List Pt) (D : St) (m : Nat) (pre : List (LEl m)) : (lowF es D m pre).length = m := by
  unfold lowF
  suffices h : ∀ (pre : List (LEl m)) (L : List Int), L.length = m → (pre.foldl (fun L x => lwOne es D (whN D.O m 0 D.O.length) L x.1.2.toNat) L).length = m from h pre _ (whN_len _ _ _ _)
  intro pre
  induction pre with
  | nil => intro L h; exact h
  | cons x xs ih => intro L h; exact ih _ (by rw [lwOne_len]; exact h)
theorem lowF_all (es : List Pt) (D : St) (m : Nat) (h : 0 < m) (od : Ok m D) : ∀ k, k ≤ D.O.length → lowF es D m (bwG (lEl m h D.O) D.O.length k) = lwN es D m k
  | 0, _ => rfl
  | k + 1, hk => by
    rw [bwG_succ, lowF_snoc, lowF_all es D m h od k (by omega), lEl_at (od.mem _ (by omega))]
    rfl
theorem frame_cell {A B : World} {q : Nat → Prop} (h : FrameW A B q) {a : Addr} {v : Value} (hq : ¬ q a.block) (hc : A.cell? a = some v) : B.cell? a = some v := by
  have hb : a.block < A.heap.size := block_lt_of_cell hc
  have := h.block a.block hb hq
  unfold World.cell? at *
  rw [this]
  exact hc
theorem frame_put {W : World} {l : Nat} {o o' : Obj} {q : Nat → Prop} (_hl : W.heap[l]? = some o) (hq : q l) : FrameW W (W.putObj l o') q :=
  FrameW.grown (grownBy_putObj' W l o') (fun i e => by cases e; exact hq)
set_option maxRecDepth 100000 in
set_option maxHeartbeats 4000000 in
theorem lows41 (m : Nat) (p : Option Addr) (es : List Pt) (cp : Nat) (D : St) (hm : netB m es = true) (od : Ok m D) (td : Tree es m D) (hD0 : 0 < D.O.length) : LowsAt m p es cp D := by
  intro V Bo g rv B gb gf po lo co hH hR hO hBy hFa
  obtain ⟨i0, hi0, hz0, hz1, hz2⟩ := info_parts info3
  obtain ⟨n0, n1, hes, _⟩ := netB_is hm
  have hOl : D.O.length ≤ m := by have := od.cnt; omega
  obtain ⟨go, co', hv, hco, hgo1, hgo2⟩ := iowns_blockW hO hD0
  cases hv
  obtain ⟨W0, hW0⟩ : ∃ W, W = (((V.alloc (nbx m p es.length cp)).alloc (.cells #[.slice (some ⟨g, 0, none⟩) m m] 29)).alloc (.cells #[.slice (some ⟨go, 0, none⟩) D.O.length co, .slice (some ⟨gb, 0, none⟩) m m, .slice (some ⟨gf, 0, none⟩) m m, nilS] 60)).alloc (.cells #[.int .i64 (-1)] 3) := ⟨_, rfl⟩
  have hb0 : Below V.heap.size V W0 := by rw [hW0]; go_grown
  have hs0 : W0.heap.size = V.heap.size + 4 := by rw [hW0]; simp
  have a0 : NOwn W0 V.heap.size m p es.length cp := by rw [hW0]; exact ⟨by unfold nbx; go_cell, by unfold nbx; go_cell, by unfold nbx; go_cell, by unfold nbx; go_cell⟩
  have a1 : W0.cell? ⟨V.heap.size + 1, 0, none⟩ = some (.slice (some ⟨g, 0, none⟩) m m) := by rw [hW0]; go_cell
  have a2 : W0.cell? ⟨V.heap.size + 1 + 1, 0, none⟩ = some (.slice (some ⟨go, 0, none⟩) D.O.length co) ∧ W0.cell? ⟨V.heap.size + 1 + 1, 1, none⟩ = some (.slice (some ⟨gb, 0, none⟩) m m) := by rw [hW0]; exact ⟨by go_cell, by go_cell⟩
  have RP := hide (repeat52W (V.heap.size + 1 + 1 + 1) m (-1) W0 (by omega) (by rw [hW0]; go_cell))
  have HB0 := hide hb0
  have HA0 := hide a0
  have HA1 := hide a1
  have HA2 := hide a2
  have HH := hide (hH.later hb0)
  have HR := hide (hR.later hb0)
  have HO := hide (hO.later hb0)
  have HBY := hide (hBy.later hb0)
  have HM := hide hm
  have HOD := hide od
  have HTD := hide td
  clear hH hR hO hBy hFa hb0 a0 a1 a2 hm od td
  refine (callsIn_wide (n := 9)).1 ?_
  refine callsIn_of_wp_marks Try.func84 rfl trivial ?_ rfl
  simp only [Try.ntmps84, List.size_toArray, List.length_cons, List.length_nil, Nat.reduceAdd, Nat.reduceSub, Array.replicate_succ, Array.replicate_zero, List.push_toArray, List.append_toArray, List.nil_append, List.cons_append]
  refine wpIn_wide.2 ?_
  have q0 := HA0.out.1
  go_wp2_with fail
  rw [← hW0]
  clear hW0
  refine RP.out.mono ?_
  rintro e W1 ⟨gl, rfl, hgl, hb1⟩
  have HGL1 := hide hgl
  have HB1 := hide (below_step HB0.out hb1)
  have q1 := (HA0.out.later hb1).1
  have hsz1 := hb1.size
  have HB01 := hide hb1
  have hlt1 : V.heap.size < W1.heap.size := by omega
  have hne1 : V.heap.size ≠ W1.heap.size := by omega
  have hne1' : W1.heap.size ≠ V.heap.size := by omega
  clear RP q0 hb1 hgl
  go_wp2_with (refine wpList_make_full _ rfl (.tmp 22) (.tmp 22) 32 rfl W1.heap.size 3 i0 (.int .i64 0) 1 Try.underlying32 hi0 hz0 hz1 .i64 .i64 _ _ m rfl rfl rfl rfl ?c1 ?c2 ?c3 ?_)
  case c1 => rw [hz2]; omega
  case c2 => unfold maxLen; omega
  case c3 => simp
  intro w2 hown hgrow
  have hgp := irow_made hown
  have hb2 : Below W1.heap.size W1 w2 := below_alloc (below_made hgrow)
  have k7a : w2.cell? ⟨W1.heap.size, 0, none⟩ = some (.slice (some ⟨gl, 0, none⟩) m m) := later (below_made hgrow) (by go_cell)
  have hs2 := (below_made hgrow).size
  obtain ⟨k7, hk7⟩ : ∃ k, W1.heap.size = k := ⟨_, rfl⟩
  have hglt : gl < k7 := by have := HGL1.out.lt.2; omega
  have hgpl := hgp.lt
  have hgll := HGL1.out.lt.1
  obtain ⟨X, hX⟩ : ∃ X, X = w2.alloc (.cells #[.slice (some ⟨W1.heap.size + 1, 0, none⟩) m m] 32) := ⟨_, rfl⟩
  have hb3 : Below w2.heap.size w2 X := by rw [hX]; go_grown
  have k8a : X.cell? ⟨w2.heap.size, 0, none⟩ = some (.slice (some ⟨W1.heap.size + 1, 0, none⟩) m m) := by rw [hX]; go_cell
  have HX7 := hide (later hb3 k7a)
  have HX8 := hide k8a
  have HXL := hide ((HGL1.out.later hb2).later hb3)
  have HXP := hide ((hgp.base (by omega : W0.heap.size ≤ W1.heap.size)).later hb3)
  have HBX := hide (below_step (below_step HB01.out hb2) hb3)
  have hk8 : k7 + 1 < w2.heap.size := by omega
  have hW0k : W0.heap.size ≤ gl := hgll
  clear hb2 hb3 k7a k8a hown hgrow hgp hs2 hsz1 hlt1 hne1 hne1' q1 HGL1 HB01 HB1 hgpl hgll
  rw [hk7] at HXP HX7 HX8 hX ⊢
  clear hk7
  go_upto_region 3 with fail
  rw [← hX]
  clear hX
  obtain ⟨k8, hk8e⟩ : ∃ k, w2.heap.size = k := ⟨_, rfl⟩
  rw [hk8e] at HX8 hk8 ⊢
  clear hk8e
  obtain ⟨o0, o1⟩ := HA2.out
  have o0' := later HBX.out o0
  go_wp2_with fail
  clear o0 o1 o0'
  have HK : Hid (gl < k7 ∧ k7 + 1 < k8 ∧ W0.heap.size ≤ gl) := ⟨hglt, hk8, hW0k⟩
  obtain ⟨gp, hgp⟩ : ∃ gp, k7 + 1 = gp := ⟨_, rfl⟩
  rw [hgp] at HXP HX8 HK
  have n1 : gl ≠ k7 := by omega
  have n2 : gl ≠ gp := by omega
  have n3 : gl ≠ k8 := by omega
  have n4 : gp ≠ k7 := by omega
  have n5 : gp ≠ k8 := by omega
  clear hgp hglt hk8 hW0k W1 w2
  go_loopw [27] (fun t wr => ∃ i : Nat, i ≤ D.O.length ∧ t = .int .i64 i ∧ Hid (Below W0.heap.size W0 wr) ∧ Hid (wr.cell? ⟨k7, 0, none⟩ = some (.slice (some ⟨gl, 0, none⟩) m m)) ∧ Hid (wr.cell? ⟨k8, 0, none⟩ = some (.slice (some ⟨gp, 0, none⟩) m m)) ∧ Hid (IRow wr W0.heap.size gl m (whN D.O m (-1) i)) ∧ Hid (IRow wr W0.heap.size gp m (whN D.O m 0 i))) (fun t _ => D.O.length - (intOf t).toNat)
  case atStart => exact ⟨0, by omega, rfl, HBX.out, HX7.out, HX8.out, HXL.out, HXP.out⟩
  case round =>
    obtain ⟨i, hi, rfl, HBr, H7, H8, HL, HP⟩ := hrel
    by_cases hlt : i < D.O.length
    · obtain ⟨v0, v1⟩ := HOD.out.mem i hlt
      have c0 : wr.cell? ⟨go, i, none⟩ = some (.int .i64 (iat D.O i)) := IOwns.at_ (HO.out.later HBr.out) hlt
      have HSL : Hid (whN D.O m (-1) (i + 1) = (whN D.O m (-1) i).set (iat D.O i).toNat i) := rfl
      have HSP : Hid (whN D.O m 0 (i + 1) = (whN D.O m 0 i).set (iat D.O i).toNat i) := rfl
      obtain ⟨v, hv⟩ : ∃ v : Nat, iat D.O i = v := ⟨(iat D.O i).toNat, by omega⟩
      rw [hv] at c0 HSL HSP v0 v1
      rw [Int.toNat_natCast] at HSL HSP
      have hvm : v < m := by omega
      obtain ⟨d0, e0⟩ := HL.out.cell hvm
      obtain ⟨d1, e1⟩ := HP.out.cell hvm
      have i1 : (i : Int) < D.O.length := by omega
      have i2 : (0 : Int) ≤ i := by omega
      have h7 := H7.out
      have h8 := H8.out
      clear hv
      go_wp2_with fail
      go_region
      obtain ⟨Y, hY⟩ : ∃ Y, Y = ((wr.setCell ⟨gl, v, none⟩ (.int .i64 i)).setCell ⟨gp, v, none⟩ (.int .i64 i)).drew := ⟨_, rfl⟩
      have hgW : W0.heap.size ≤ gp := HP.out.lt.1
      have y0 : Below W0.heap.size W0 Y := by rw [hY]; exact below_drewN (n := 1) ((HBr.out.setCell (p := ⟨gl, v, none⟩) HK.out.2.2 _).setCell (p := ⟨gp, v, none⟩) hgW _)
      have y1 : Y.cell? ⟨k7, 0, none⟩ = some (.slice (some ⟨gl, 0, none⟩) m m) := by rw [hY]; exact cell_other (cell_other h7 (fun e => n1 e.symm)) (fun e => n4 e.symm)
      have y2 : Y.cell? ⟨k8, 0, none⟩ = some (.slice (some ⟨gp, 0, none⟩) m m) := by rw [hY]; exact cell_other (cell_other h8 (fun e => n3 e.symm)) (fun e => n5 e.symm)
      have y3 : IRow Y W0.heap.size gl m (whN D.O m (-1) (i + 1)) := by rw [hY, HSL.out]; exact (irow_other (HL.out.set v i) (fun e => n2 e.symm) _).later (below_drew _)
      have y4 : IRow Y W0.heap.size gp m (whN D.O m 0 (i + 1)) := by rw [hY, HSP.out]; exact ((irow_other HP.out n2 _).set v i).later (below_drew _)
      rw [← hY]
      clear hY d0 e0 d1 e1 h7 h8 c0
      go_wp2
      go_roundw
      case rel => exact ⟨i + 1, by omega, by go_num, y0, y1, y2, y3, y4⟩
      case measure => simp [intOf]; omega
    · have hin : i = D.O.length := by omega
      have i1 : ¬ (i : Int) < D.O.length := by omega
      rw [hin] at HL HP ⊢
      have hmp : 0 < m := by omega
      obtain ⟨o0, o1⟩ := HA2.out
      have o0' := later HBr.out o0
      have BK := hide (backward55 (some ⟨go, 0, none⟩) D.O.length co wr)
      have hne : ¬ (D.O.length : Int) < D.O.length := by omega
      clear hin i1 hlt o0 o1
      go_wp2_with fail
      refine BK.out.mono ?_
      rintro e w5 ⟨rfl, hw5⟩
      go_wp2_with fail
      refine (wpIn_wide (n := 9)).1 ?_
      obtain ⟨wr0, hwr0⟩ : ∃ w, w = wr := ⟨_, rfl⟩
      rw [← hwr0] at HBr H7 H8 HL HP ⊢
      clear hwr0
      have hs5 : (wr0.alloc (.cells #[.slice (some ⟨go, 0, none⟩) D.O.length co] 32)).heap.size = wr0.heap.size + 1 := by simp
      have hgoW : go < W0.heap.size := by omega
      have hgk := HK.out
      have hgll := HL.out.lt
      have hgpl := HP.out.lt
      have hk8l : k8 < wr0.heap.size := block_lt_of_cell H8.out
      have hq1 : ¬ (wr0.heap.size = gl ∨ wr0.heap.size + 1 ≤ wr0.heap.size) := by omega
      have hq2 : ¬ (go = gl ∨ wr0.heap.size + 1 ≤ go) := by omega
      have hb5 : Below wr0.heap.size wr0 (wr0.alloc (.cells #[.slice (some ⟨go, 0, none⟩) D.O.length co] 32)) := by go_grown
      refine range_own rfl (by omega) (gf := 104) (lb := #[.pointer (some ⟨wr0.heap.size, 0, none⟩)]) rfl trivial (enters_of Try.func104 (by kernel_rfl) rfl)
        (backwardG_stops (lEl m hmp D.O) (lEnc m) Fence.wide (9 - 1) trivial rfl (by omega) wr0.heap.size go co D.O (by omega) (fun A B => FrameW A B (fun i => i = gl ∨ wr0.heap.size + 1 ≤ i)) (fun A B h v hc => frame_cell h hq1 hc) (fun A B h j v hc => frame_cell h hq2 hc) (wr0.alloc (.cells #[.slice (some ⟨go, 0, none⟩) D.O.length co] 32))
          (fun j hj => by rw [lEl_at (HOD.out.mem j hj)]; rfl) (by go_cell) (fun j hj => later hb5 (IOwns.at_ (HO.out.later HBr.out) hj)))
        (fun h k => FrameW.trans h k) (fun W l o o' hl h _ _ => frame_put h (Or.inr (by omega))) (Below.refl _ _) (fun _ => rfl)
        (fun pre W => Below W0.heap.size W0 W ∧ W.cell? ⟨k7, 0, none⟩ = some (.slice (some ⟨gl, 0, none⟩) m m) ∧ W.cell? ⟨k8, 0, none⟩ = some (.slice (some ⟨gp, 0, none⟩) m m) ∧ IRow W W0.heap.size gl m (lowF es D m pre) ∧ IRow W W0.heap.size gp m (whN D.O m 0 D.O.length))
        ?own ⟨below_step HBr.out hb5, later hb5 H7.out, later hb5 H8.out, HL.out.later hb5, HP.out.later hb5⟩ 12 (fun x => .int .i64 x.1.2) ?assign ?body ?done
      case own =>
        intro pre A B row ⟨h1, h2, h3, h4, h5⟩ hg hr
        have hne : ∀ i, i < wr0.heap.size + 1 → row ≠ some i := fun i hi e => by have := (hr i e).1; omega
        refine ⟨h1.grown hg h1.size (fun k e => by have := (hr k e).1; omega), ?_, ?_, ⟨h4.1, World.ownsRow.kept h4.2 hg (Or.inr (fun e => hne gl (by omega) e.symm))⟩, ⟨h5.1, World.ownsRow.kept h5.2 hg (Or.inr (fun e => hne gp (by omega) e.symm))⟩⟩
        · exact cell_kept h2 hg (fun r e => (hr r e).2)
        · exact cell_kept h3 hg (fun r e => (hr r e).2)
      case assign =>
        intro l x W K hK
        simp only [lEnc, List.zip_toArray, List.zip_cons_cons, List.zip_nil_right, List.foldl_toArray, List.foldl_cons, List.foldl_nil, List.setIfInBounds_toArray, List.set_cons_zero, List.set_cons_succ] at hK ⊢
        gi_wp2
        exact hK
      case done =>
        rintro D' ys W hD' rfl ⟨h1, h2, h3, h4, h5⟩ hKD
        rw [lowF_all es D m hmp HOD.out _ (Nat.le_refl _)] at h4
        go_wp2
        have hsz : W0.heap.size ≤ W.heap.size := h1.size
        have e5 : (wr0.alloc (.cells #[.slice (some ⟨go, 0, none⟩) D.O.length co] 32)).heap.size = wr0.heap.size + 1 := by simp
        refine ⟨by simp, .inl ⟨_, _, rfl, run_takeDeferred hKD, ?_⟩⟩
        refine ⟨_, results_tmp rfl _ _ _, gl, rfl, ?_, ?_⟩
        · exact (IRow.base ⟨h4.1, ownsRow_putObj h4.2 _ hKD rfl⟩ (by omega))
        · exact (below_step HB0.out h1).trans (belowK_b (w := wr0) (by have := HBr.out.size; have := HB0.out.size; omega) W D' _ _ (by omega) hKD rfl rfl)
      case body =>
        rintro l pre x W ⟨h1, h2, h3, h4, h5⟩ hlen
        have HS0 := hide hs0
        clear hs0 hs5
        simp only [lEnc, List.zip_toArray, List.zip_cons_cons, List.zip_nil_right, List.foldl_toArray, List.foldl_cons, List.foldl_nil, List.setIfInBounds_toArray, List.set_cons_zero, List.set_cons_succ]
        obtain ⟨⟨xj, xv⟩, x0, x1⟩ := x
        simp only at x0 x1 ⊢
        obtain ⟨v, rfl⟩ : ∃ v : Nat, xv = v := ⟨xv.toNat, by omega⟩
        have hvm : v < m := by omega
        have o1' := later h1 HA2.out.2
        have g1' := later h1 HA1.out
        obtain ⟨b0, _⟩ := (HBY.out.later h1).cell hvm
        obtain ⟨r0, _⟩ := (HR.out.later h1).cell hvm
        obtain ⟨pr, cr, hrv, _, _, _, _⟩ := ((HR.out.later h1).2.2 v hvm).form
        have HRO : Hid (∀ Y, Below W0.heap.size W0 Y → IOwns Y Bo (.slice pr (outL es (2 * es.length) v).length cr) (outL es (2 * es.length) v)) := fun Y hY => by have := (HR.out.later hY).2.2 v hvm; rw [hrv] at this; exact this
        have HBV : Hid (iat D.By v = -1 ∨ ∃ k : Nat, iat D.By v = k ∧ k < 2 * es.length ∧ toL es k = v ∧ fromL es k = par es D v ∧ par es D v < m) := by
          show _ ∨ _
          by_cases hf : 0 ≤ iat D.Fa v
          · by_cases hf0 : iat D.Fa v = 0
            · rcases HTD.out.back v hvm hf with hh | ⟨k, u, q1, q2, q3, q4, q5, q6, q7⟩
              · exact Or.inl hh.2
              · omega
            · obtain ⟨k, q1, q2, q3, q4, q5, _⟩ := root_par HTD.out hvm (by omega)
              exact Or.inr ⟨k, q2, q1, q3, q4, q5⟩
          · exact Or.inl (HTD.out.none v hvm (by omega))
        have HXO : Hid (bits .xor .i64 (iat D.By v) 1 = twnW (iat D.By v)) := by
          show _ = _
          rcases HBV.out with hh | ⟨k, hk, hk2, _⟩
          · rw [hh]; decide
          · rw [hk]; exact xor_oneW k (by omega)
        rw [hrv] at r0
        have i1 : (v : Int) < m := by omega
        have i2 : (0 : Int) ≤ v := by omega
        have HI := hide h1
        have H4 := hide h4
        have HSN : Hid (lowF es D m (pre ++ [⟨(xj, (v : Int)), x0, x1⟩]) = lwOne es D (whN D.O m 0 D.O.length) (lowF es D m pre) v) := by show _ = _; rw [lowF_snoc]; simp
        have hol : (outL es (2 * es.length) v).length ≤ 2 * es.length := outL_length _ _ _
        have HP5 := hide h5
        clear h1 h4 h5 hrv
        gi_upto_region 12 with fail
        have HFR : Hid (∀ Y, FrameW W Y (fun i => i = gl) → Below W0.heap.size W0 Y) := fun Y hY => HI.out.trans (hY.below HI.out.size (fun i hi => by have := HK.out; omega))
        clear r0 b0 g1' o1'
        gi_loopw [56] (fun t wj => ∃ j : Nat, j ≤ (outL es (2 * es.length) v).length ∧ t = .int .i64 j ∧ Hid (FrameW W wj (fun i => i = gl)) ∧ Hid (IRow wj W0.heap.size gl m (lwRow es D (whN D.O m 0 D.O.length) v (lowF es D m pre) j))) (fun t _ => (outL es (2 * es.length) v).length - (intOf t).toNat)
        case atStart => exact ⟨0, by omega, rfl, ⟨rfl, rfl, rfl, Nat.le_refl _, fun _ _ _ => rfl⟩, H4.out⟩
        case round =>
          obtain ⟨j, hj, rfl, HF, HL⟩ := hrel
          have HBr := hide (HFR.out _ HF.out)
          by_cases hlt : j < (outL es (2 * es.length) v).length
          · obtain ⟨gr, cr', hgr, _, _, _⟩ := iowns_blockW (HRO.out _ HBr.out) (by omega)
            cases hgr
            have hrj := IOwns.at_ (HRO.out _ HBr.out) hlt
            obtain ⟨k, hk, hk2, hk3⟩ := outL_at hlt
            have HST : Hid (lwRow es D (whN D.O m 0 D.O.length) v (lowF es D m pre) (j + 1) = if iat (outL es (2 * es.length) v) j = twnW (iat D.By v) then lwRow es D (whN D.O m 0 D.O.length) v (lowF es D m pre) j
              else (lwRow es D (whN D.O m 0 D.O.length) v (lowF es D m pre) j).set v (min (iat (lwRow es D (whN D.O m 0 D.O.length) v (lowF es D m pre) j) v) (iat (whN D.O m 0 D.O.length) (toL es (iat (outL es (2 * es.length) v) j).toNat).toNat))) := rfl
            rw [hk] at hrj HST
            rw [Int.toNat_natCast] at HST
            have j1 : (j : Int) < (outL es (2 * es.length) v).length := by omega
            have j2 : (0 : Int) ≤ j := by omega
            have hxo := HXO.out
            clear hk
            by_cases hE : (k : Int) = twnW (iat D.By v)
            · rw [if_pos hE] at HST
              have t1 : ((k : Int) == twnW (iat D.By v)) = true := by simp [hE]
              gi_wp2
              go_roundw
              case rel => exact ⟨j + 1, by omega, by go_num, HF.out, by show IRow _ _ _ _ _; rw [HST.out]; exact HL.out⟩
              case measure => simp [intOf]; omega
            · rw [if_neg hE] at HST
              have t1 : ((k : Int) == twnW (iat D.By v)) = false := by simp [hE]
              gi_upto_region 15 with fail
              have hVg : V.heap.size ≠ gl := by have := HK.out; have := HS0.out; omega
              obtain ⟨u0, u1⟩ := toL_in HM.out k hk2
              have CT : Hid (∀ V', Has V' p es → Calls Try.prog 73 #[nv m p es.length cp, .int .i64 k] V' fun e w' => e = .returned (.int .i64 (toL es k)) ∧ Below V'.heap.size V' w') := fun V' hV' => comes54W m p es cp k V' hV' hk2 (by omega)
              obtain ⟨xw, hxw⟩ : ∃ xw : Nat, toL es k = xw := ⟨(toL es k).toNat, by omega⟩
              rw [hxw] at CT HST u0 u1
              rw [Int.toNat_natCast] at HST
              have hxm : xw < m := by omega
              have i3 : (xw : Int) < m := by omega
              have i4 : (0 : Int) ≤ xw := by omega
              have HB0 := HBr
              obtain ⟨V0, hV0⟩ : ∃ V', V' = wr.drew := ⟨_, rfl⟩
              have HB0 : Hid (Below W0.heap.size W0 V0) := by show Below _ _ _; rw [hV0]; exact below_step HBr.out (below_drew _)
              have HF0 : Hid (FrameW W V0 (fun i => i = gl)) := by show FrameW _ _ _; rw [hV0]; exact HF.out.trans (FrameW.of_below (below_drew _) _)
              have HL0 : Hid (IRow V0 W0.heap.size gl m (lwRow es D (whN D.O m 0 D.O.length) v (lowF es D m pre) j)) := by show IRow _ _ _ _ _; rw [hV0]; exact HL.out.later (below_drew _)
              have q0 : V0.cell? ⟨k7, 0, none⟩ = some (.slice (some ⟨gl, 0, none⟩) m m) := frame_cell HF0.out (fun e => n1 e.symm) h2
              have q1 : V0.cell? ⟨k8, 0, none⟩ = some (.slice (some ⟨gp, 0, none⟩) m m) := frame_cell HF0.out (fun e => n3 e.symm) h3
              obtain ⟨q2, q3, _, _⟩ := HA0.out.later HB0.out
              obtain ⟨q4, _⟩ := (HF0.out.irow HP5.out (fun e => n2 e.symm)).cell hxm
              obtain ⟨LV, hLV⟩ : ∃ z, iat (lwRow es D (whN D.O m 0 D.O.length) v (lowF es D m pre) j) v = z := ⟨_, rfl⟩
              obtain ⟨PV, hPV⟩ : ∃ z, iat (whN D.O m 0 D.O.length) xw = z := ⟨_, rfl⟩
              obtain ⟨M, hM⟩ : ∃ z, min LV PV = z := ⟨_, rfl⟩
              have HMN : Hid ((if PV < LV then PV else LV) = M) := by show _ = _; rw [← hM]; split <;> omega
              have HLV := hide hLV
              rw [hPV] at q4 HST
              rw [hLV, hM] at HST
              have HSJ := HST
              clear hxw hPV hLV hM hrj
              refine round_held (S := (fun W' => W'.cell? ⟨k7, 0, none⟩ = some (.slice (some ⟨gl, 0, none⟩) m m) ∧ W'.cell? ⟨k8, 0, none⟩ = some (.slice (some ⟨gp, 0, none⟩) m m) ∧ W'.cell? ⟨V.heap.size, 0, none⟩ = some (.int .i64 m) ∧ W'.cell? ⟨V.heap.size, 1, none⟩ = some (.slice p es.length cp) ∧ W'.cell? ⟨gp, xw, none⟩ = some (.int .i64 PV))) (by kernel_rfl) (by kernel_rfl) (by rintro ⟨_, _, h⟩; exact h) (by rw [← hV0]; exact ⟨q0, q1, q2, q3, q4⟩) (fun hHeld => ?_)
              rw [← hV0] at hHeld ⊢
              clear hV0
              change wpAnyH Try.prog .any _ _ _ 15 #[false, false, false, false, false, false, false, false, false, false, false, false, false, false, false] _ _
              refine wpAnyH_take (i := 0) (v := ?v1) rfl (by kernel_rfl) (by kernel_rfl) (by kernel_rfl) (fun _ _ _ h => h) (Or.inl ⟨by rfl, ?hy1⟩) (by assumption) ?rest1
              case hy1 => (intro w hSw; (try dsimp only at hSw); go_simp; try with_reducible rfl)
              try simp only [Act.put, List.setIfInBounds_toArray, List.set_cons_zero]
              refine wpAnyH_take (i := 1) (v := ?v2) rfl (by kernel_rfl) (by kernel_rfl) (by kernel_rfl) (fun _ _ _ h => h) (Or.inl ⟨by rfl, ?hy2⟩) (by assumption) ?rest2
              case hy2 => (intro w hSw; (try dsimp only at hSw); go_simp; try with_reducible rfl)
              try simp only [Act.put, List.setIfInBounds_toArray, List.set_cons_zero, List.set_cons_succ]
              refine wpAnyH_take (i := 2) (v := ?v3) rfl (by kernel_rfl) (by kernel_rfl) (by kernel_rfl) (fun _ _ _ h => h) (Or.inl ⟨by rfl, ?hy3⟩) (by assumption) ?rest3
              case hy3 => (intro w hSw; (try dsimp only at hSw); go_simp; try with_reducible rfl)
              try simp only [Act.put, List.setIfInBounds_toArray, List.set_cons_zero, List.set_cons_succ]
              refine wpAnyH_take (i := 3) (v := ?v4) rfl (by kernel_rfl) (by kernel_rfl) (by kernel_rfl) (fun _ _ _ h => h) (Or.inl ⟨by rfl, ?hy4⟩) (by assumption) ?rest4
              case hy4 => (intro w hSw; (try dsimp only at hSw); go_simp; try with_reducible rfl)
              try simp only [Act.put, List.setIfInBounds_toArray, List.set_cons_zero, List.set_cons_succ]
              refine wpAnyH_take (i := 4) (v := ?v5) rfl (by kernel_rfl) (by kernel_rfl) (by kernel_rfl) (fun _ _ _ h => h) (Or.inl ⟨by rfl, ?hy5⟩) (by assumption) ?rest5
              case hy5 => (intro w hSw; (try dsimp only at hSw); go_simp; try with_reducible rfl)
              try simp only [Act.put, List.setIfInBounds_toArray, List.set_cons_zero, List.set_cons_succ]
              refine wpAnyH_take (i := 6) (v := ?v6) rfl (by kernel_rfl) (by kernel_rfl) (by kernel_rfl) (fun _ _ _ h => h) (Or.inl ⟨by rfl, ?hy6⟩) (by assumption) ?rest6
              case hy6 => (intro w hSw; (try dsimp only at hSw); go_simp; try with_reducible rfl)
              try simp only [Act.put, List.setIfInBounds_toArray, List.set_cons_zero, List.set_cons_succ]
              refine wpAnyH_take (i := 7) (v := ?v7) rfl (by kernel_rfl) (by kernel_rfl) (by kernel_rfl) (fun _ _ _ h => h) (Or.inl ⟨by rfl, ?hy7⟩) (by assumption) ?rest7
              case hy7 => (intro w hSw; (try dsimp only at hSw); go_simp; try with_reducible rfl)
              try simp only [Act.put, List.setIfInBounds_toArray, List.set_cons_zero, List.set_cons_succ]
              refine wpAnyH_take (i := 8) (v := ?v8) rfl (by kernel_rfl) (by kernel_rfl) (by kernel_rfl) (fun _ _ _ h => h) (Or.inl ⟨by rfl, ?hy8⟩) (by assumption) ?rest8
              case hy8 => (intro w hSw; (try dsimp only at hSw); go_simp; try with_reducible rfl)
              try simp only [Act.put, List.setIfInBounds_toArray, List.set_cons_zero, List.set_cons_succ]
              refine wpAnyH_ready (rs := [5, 9]) (by kernel_rfl) (by simp) ?_
              refine ready_consW ({ dst := some 69, op := Op.load 3 (Operand.tmp 68), type := 3, pos := "walk.go:158", after := #[{ on := 4, ground := Ground.data }], guard := none }) rfl rfl (fun K hK => ?_) ?_
              · clear hHeld
                have d0 := (HL0.out.cell hvm).1
                have e0 := (HL0.out.cell hvm).2
                rw [HLV.out] at d0
                refine wp_valW (v := ?vl1) (w2 := V0) ?hl1 ?_
                case hl1 => (go_simp; try with_reducible rfl)
                clear d0 e0
                refine hK.out _ _ (by first | exact ⟨q0, q1, q2, q3, q4⟩ | exact ⟨cell_other q0 (fun e => n1 e.symm), cell_other q1 (fun e => n3 e.symm), cell_other q2 hVg, cell_other q3 hVg, cell_other q4 (fun e => n2 e.symm)⟩) (fun hHeld => ?_)
                clear hK K
                try simp only [Act.put, List.setIfInBounds_toArray, List.set_cons_zero, List.set_cons_succ]
                refine wpAnyH_ready (rs := [9]) (by kernel_rfl) (by simp) ?_
                refine ready_consW ({ dst := some 73, op := Op.call { callee := Callee.value (Operand.func 73), args := #[Operand.tmp 71, Operand.tmp 72], argTypes := #[24, 3] }, type := 3, pos := "walk.go:158", after := #[{ on := 7, ground := Ground.data }, { on := 8, ground := Ground.data }], guard := none }) rfl rfl (fun K hK => ?_) ?_
                · clear hHeld
                  go_simp
                  refine (CT.out V0 (HH.out.later HB0.out)).mono ?_
                  rintro e V1 ⟨rfl, hb⟩
                  have HB1 := hide (below_step HB0.out hb)
                  have HF1 := hide (HF0.out.trans (FrameW.of_below hb _))
                  have HL1 := hide (HL0.out.later hb)
                  have s0 := later hb q0
                  have s1 := later hb q1
                  have s2 := later hb q2
                  have s3 := later hb q3
                  have s4 := later hb q4
                  clear hb q0 q1 q2 q3 q4
                  have q0 := s0
                  have q1 := s1
                  have q2 := s2
                  have q3 := s3
                  have q4 := s4
                  clear s0 s1 s2 s3 s4
                  refine hK.out _ _ (by first | exact ⟨q0, q1, q2, q3, q4⟩ | exact ⟨cell_other q0 (fun e => n1 e.symm), cell_other q1 (fun e => n3 e.symm), cell_other q2 hVg, cell_other q3 hVg, cell_other q4 (fun e => n2 e.symm)⟩) (fun hHeld => ?_)
                  clear hK K
                  try simp only [List.setIfInBounds_toArray, List.set_cons_zero, List.set_cons_succ]
                  refine wpAnyH_take (i := 10) (v := ?v9) rfl (by kernel_rfl) (by kernel_rfl) (by kernel_rfl) (fun _ _ _ h => h) (Or.inl ⟨by rfl, ?hy9⟩) (by assumption) ?rest9
                  case hy9 => (intro w hSw; (try dsimp only at hSw); go_simp; try with_reducible rfl)
                  try simp only [Act.put, List.setIfInBounds_toArray, List.set_cons_zero, List.set_cons_succ]
                  refine wpAnyH_take (i := 11) (v := ?v10) rfl (by kernel_rfl) (by kernel_rfl) (by kernel_rfl) (fun _ _ _ h => h) (Or.inl ⟨by rfl, ?hy10⟩) (by assumption) ?rest10
                  case hy10 => (intro w hSw; (try dsimp only at hSw); go_simp; try with_reducible rfl)
                  try simp only [Act.put, List.setIfInBounds_toArray, List.set_cons_zero, List.set_cons_succ]
                  refine wpAnyH_ready (rs := [12]) (by kernel_rfl) (by simp) ?_
                  refine ready_consW ({ dst := some 76, op := Op.call { callee := Callee.builtin Builtin.min, args := #[Operand.tmp 69, Operand.tmp 75], argTypes := #[3, 3] }, type := 3, pos := "walk.go:158", after := #[{ on := 5, ground := Ground.data }, { on := 11, ground := Ground.data }], guard := none }) rfl rfl (fun K hK => ?_) ?_
                  · clear hHeld
                    go_simp
                    rw [HMN.out]
                    refine hK.out _ _ (by first | exact ⟨q0, q1, q2, q3, q4⟩ | exact ⟨cell_other q0 (fun e => n1 e.symm), cell_other q1 (fun e => n3 e.symm), cell_other q2 hVg, cell_other q3 hVg, cell_other q4 (fun e => n2 e.symm)⟩) (fun hHeld => ?_)
                    clear hK K
                    try simp only [List.setIfInBounds_toArray, List.set_cons_zero, List.set_cons_succ]
                    refine wpAnyH_take (i := 13) (v := ?v11) rfl (by kernel_rfl) (by kernel_rfl) (by kernel_rfl) (fun _ _ _ h => h) (Or.inl ⟨by rfl, ?hy11⟩) (by assumption) ?rest11
                    case hy11 => (intro w hSw; (try dsimp only at hSw); go_simp; try with_reducible rfl)
                    try simp only [Act.put, List.setIfInBounds_toArray, List.set_cons_zero, List.set_cons_succ]
                    refine wpAnyH_ready (rs := [14]) (by kernel_rfl) (by simp) ?_
                    refine ready_consW ({ dst := none, op := Op.store 3 (Operand.tmp 77) (Operand.tmp 76), type := 0, pos := "walk.go:158", after := #[{ on := 13, ground := Ground.data }, { on := 12, ground := Ground.data }, { on := 9, ground := Ground.chain }, { on := 0, ground := Ground.phase }, { on := 1, ground := Ground.phase }, { on := 2, ground := Ground.phase }, { on := 3, ground := Ground.phase }, { on := 4, ground := Ground.phase }, { on := 5, ground := Ground.phase }, { on := 6, ground := Ground.phase }, { on := 7, ground := Ground.phase }, { on := 8, ground := Ground.phase }, { on := 9, ground := Ground.phase }, { on := 10, ground := Ground.phase }, { on := 11, ground := Ground.phase }, { on := 12, ground := Ground.phase }], guard := none }) rfl rfl (fun K hK => ?_) ?_
                    · clear hHeld
                      have d0 := (HL1.out.cell hvm).1
                      have e0 := (HL1.out.cell hvm).2
                      go_simp
                      clear d0 e0
                      refine hK.out _ _ (by first | exact ⟨q0, q1, q2, q3, q4⟩ | exact ⟨cell_other q0 (fun e => n1 e.symm), cell_other q1 (fun e => n3 e.symm), cell_other q2 hVg, cell_other q3 hVg, cell_other q4 (fun e => n2 e.symm)⟩) (fun hHeld => ?_)
                      clear hK K
                      try simp only [List.setIfInBounds_toArray, List.set_cons_zero, List.set_cons_succ]
                      refine wpAnyH_done (by kernel_rfl) ?_ _
                      clear hHeld
                      obtain ⟨Z, hZ⟩ : ∃ Z, Z = V1.setCell ⟨gl, v, none⟩ (.int .i64 M) := ⟨_, rfl⟩
                      have z1 : FrameW W Z (fun i => i = gl) := by rw [hZ]; exact HF1.out.trans (FrameW.set _ _ _ rfl)
                      have z2 : IRow Z W0.heap.size gl m (lwRow es D (whN D.O m 0 D.O.length) v (lowF es D m pre) (j + 1)) := by rw [hZ, HSJ.out]; exact HL1.out.set v M
                      rw [← hZ]
                      clear hZ q0 q1 q2 q3 q4
                      gi_wp2
                      go_roundw
                      case rel => exact ⟨j + 1, by omega, by go_num, z1, z2⟩
                      case measure => simp [intOf]; omega
                    exact AllReadyH.nil
                  exact AllReadyH.nil
                exact AllReadyH.nil
              refine ready_consW ({ dst := some 73, op := Op.call { callee := Callee.value (Operand.func 73), args := #[Operand.tmp 71, Operand.tmp 72], argTypes := #[24, 3] }, type := 3, pos := "walk.go:158", after := #[{ on := 7, ground := Ground.data }, { on := 8, ground := Ground.data }], guard := none }) rfl rfl (fun K hK => ?_) ?_
              · clear hHeld
                go_simp
                refine (CT.out V0 (HH.out.later HB0.out)).mono ?_
                rintro e V1 ⟨rfl, hb⟩
                have HB1 := hide (below_step HB0.out hb)
                have HF1 := hide (HF0.out.trans (FrameW.of_below hb _))
                have HL1 := hide (HL0.out.later hb)
                have s0 := later hb q0
                have s1 := later hb q1
                have s2 := later hb q2
                have s3 := later hb q3
                have s4 := later hb q4
                clear hb q0 q1 q2 q3 q4
                have q0 := s0
                have q1 := s1
                have q2 := s2
                have q3 := s3
                have q4 := s4
                clear s0 s1 s2 s3 s4
                refine hK.out _ _ (by first | exact ⟨q0, q1, q2, q3, q4⟩ | exact ⟨cell_other q0 (fun e => n1 e.symm), cell_other q1 (fun e => n3 e.symm), cell_other q2 hVg, cell_other q3 hVg, cell_other q4 (fun e => n2 e.symm)⟩) (fun hHeld => ?_)
                clear hK K
                try simp only [List.setIfInBounds_toArray, List.set_cons_zero, List.set_cons_succ]
                refine wpAnyH_take (i := 10) (v := ?v12) rfl (by kernel_rfl) (by kernel_rfl) (by kernel_rfl) (fun _ _ _ h => h) (Or.inl ⟨by rfl, ?hy12⟩) (by assumption) ?rest12
                case hy12 => (intro w hSw; (try dsimp only at hSw); go_simp; try with_reducible rfl)
                try simp only [Act.put, List.setIfInBounds_toArray, List.set_cons_zero, List.set_cons_succ]
                refine wpAnyH_take (i := 11) (v := ?v13) rfl (by kernel_rfl) (by kernel_rfl) (by kernel_rfl) (fun _ _ _ h => h) (Or.inl ⟨by rfl, ?hy13⟩) (by assumption) ?rest13
                case hy13 => (intro w hSw; (try dsimp only at hSw); go_simp; try with_reducible rfl)
                try simp only [Act.put, List.setIfInBounds_toArray, List.set_cons_zero, List.set_cons_succ]
                refine wpAnyH_ready (rs := [5]) (by kernel_rfl) (by simp) ?_
                refine ready_consW ({ dst := some 69, op := Op.load 3 (Operand.tmp 68), type := 3, pos := "walk.go:158", after := #[{ on := 4, ground := Ground.data }], guard := none }) rfl rfl (fun K hK => ?_) ?_
                · clear hHeld
                  have d0 := (HL1.out.cell hvm).1
                  have e0 := (HL1.out.cell hvm).2
                  rw [HLV.out] at d0
                  refine wp_valW (v := ?vl2) (w2 := V1) ?hl2 ?_
                  case hl2 => (go_simp; try with_reducible rfl)
                  clear d0 e0
                  refine hK.out _ _ (by first | exact ⟨q0, q1, q2, q3, q4⟩ | exact ⟨cell_other q0 (fun e => n1 e.symm), cell_other q1 (fun e => n3 e.symm), cell_other q2 hVg, cell_other q3 hVg, cell_other q4 (fun e => n2 e.symm)⟩) (fun hHeld => ?_)
                  clear hK K
                  try simp only [Act.put, List.setIfInBounds_toArray, List.set_cons_zero, List.set_cons_succ]
                  refine wpAnyH_ready (rs := [12]) (by kernel_rfl) (by simp) ?_
                  refine ready_consW ({ dst := some 76, op := Op.call { callee := Callee.builtin Builtin.min, args := #[Operand.tmp 69, Operand.tmp 75], argTypes := #[3, 3] }, type := 3, pos := "walk.go:158", after := #[{ on := 5, ground := Ground.data }, { on := 11, ground := Ground.data }], guard := none }) rfl rfl (fun K hK => ?_) ?_
                  · clear hHeld
                    go_simp
                    rw [HMN.out]
                    refine hK.out _ _ (by first | exact ⟨q0, q1, q2, q3, q4⟩ | exact ⟨cell_other q0 (fun e => n1 e.symm), cell_other q1 (fun e => n3 e.symm), cell_other q2 hVg, cell_other q3 hVg, cell_other q4 (fun e => n2 e.symm)⟩) (fun hHeld => ?_)
                    clear hK K
                    try simp only [List.setIfInBounds_toArray, List.set_cons_zero, List.set_cons_succ]
                    refine wpAnyH_take (i := 13) (v := ?v14) rfl (by kernel_rfl) (by kernel_rfl) (by kernel_rfl) (fun _ _ _ h => h) (Or.inl ⟨by rfl, ?hy14⟩) (by assumption) ?rest14
                    case hy14 => (intro w hSw; (try dsimp only at hSw); go_simp; try with_reducible rfl)
                    try simp only [Act.put, List.setIfInBounds_toArray, List.set_cons_zero, List.set_cons_succ]
                    refine wpAnyH_ready (rs := [14]) (by kernel_rfl) (by simp) ?_
                    refine ready_consW ({ dst := none, op := Op.store 3 (Operand.tmp 77) (Operand.tmp 76), type := 0, pos := "walk.go:158", after := #[{ on := 13, ground := Ground.data }, { on := 12, ground := Ground.data }, { on := 9, ground := Ground.chain }, { on := 0, ground := Ground.phase }, { on := 1, ground := Ground.phase }, { on := 2, ground := Ground.phase }, { on := 3, ground := Ground.phase }, { on := 4, ground := Ground.phase }, { on := 5, ground := Ground.phase }, { on := 6, ground := Ground.phase }, { on := 7, ground := Ground.phase }, { on := 8, ground := Ground.phase }, { on := 9, ground := Ground.phase }, { on := 10, ground := Ground.phase }, { on := 11, ground := Ground.phase }, { on := 12, ground := Ground.phase }], guard := none }) rfl rfl (fun K hK => ?_) ?_
                    · clear hHeld
                      have d0 := (HL1.out.cell hvm).1
                      have e0 := (HL1.out.cell hvm).2
                      go_simp
                      clear d0 e0
                      refine hK.out _ _ (by first | exact ⟨q0, q1, q2, q3, q4⟩ | exact ⟨cell_other q0 (fun e => n1 e.symm), cell_other q1 (fun e => n3 e.symm), cell_other q2 hVg, cell_other q3 hVg, cell_other q4 (fun e => n2 e.symm)⟩) (fun hHeld => ?_)
                      clear hK K
                      try simp only [List.setIfInBounds_toArray, List.set_cons_zero, List.set_cons_succ]
                      refine wpAnyH_done (by kernel_rfl) ?_ _
                      clear hHeld
                      obtain ⟨Z, hZ⟩ : ∃ Z, Z = V1.setCell ⟨gl, v, none⟩ (.int .i64 M) := ⟨_, rfl⟩
                      have z1 : FrameW W Z (fun i => i = gl) := by rw [hZ]; exact HF1.out.trans (FrameW.set _ _ _ rfl)
                      have z2 : IRow Z W0.heap.size gl m (lwRow es D (whN D.O m 0 D.O.length) v (lowF es D m pre) (j + 1)) := by rw [hZ, HSJ.out]; exact HL1.out.set v M
                      rw [← hZ]
                      clear hZ q0 q1 q2 q3 q4
                      gi_wp2
                      go_roundw
                      case rel => exact ⟨j + 1, by omega, by go_num, z1, z2⟩
                      case measure => simp [intOf]; omega
                    exact AllReadyH.nil
                  exact AllReadyH.nil
                exact AllReadyH.nil
              exact AllReadyH.nil
          · have hjn : j = (outL es (2 * es.length) v).length := by omega
            have j1 : ¬ (j : Int) < (outL es (2 * es.length) v).length := by omega
            have j3 : ¬ ((outL es (2 * es.length) v).length : Int) < (outL es (2 * es.length) v).length := by omega
            have HEND : Hid (∀ Z, FrameW W Z (fun i => i = gl) → IRow Z W0.heap.size gl m (lowF es D m (pre ++ [⟨(xj, (v : Int)), x0, x1⟩])) → KeepsFrom (wr0.heap.size + 1) W Z ∧ FrameW W Z (fun i => i = gl ∨ wr0.heap.size + 1 ≤ i) ∧ (Below W0.heap.size W0 Z ∧ Z.cell? ⟨k7, 0, none⟩ = some (.slice (some ⟨gl, 0, none⟩) m m) ∧ Z.cell? ⟨k8, 0, none⟩ = some (.slice (some ⟨gp, 0, none⟩) m m) ∧ IRow Z W0.heap.size gl m (lowF es D m (pre ++ [⟨(xj, (v : Int)), x0, x1⟩])) ∧ IRow Z W0.heap.size gp m (whN D.O m 0 D.O.length))) := by
              intro Z z1 z2
              refine ⟨⟨z1.size, fun i o hi ho hc => ?_⟩, z1.mono (fun i _ h => Or.inl h), HFR.out Z z1, frame_cell z1 (fun e => n1 e.symm) h2, frame_cell z1 (fun e => n3 e.symm) h3, z2, z1.irow HP5.out (fun e => n2 e.symm)⟩
              have hil : i < W.heap.size := (Array.getElem?_eq_some_iff.1 ho).1
              rw [z1.block i hil (by omega)]
              exact ho
            rw [hjn] at HL ⊢
            clear hjn j1 hlt hj
            have HSJ : Hid (lwOne es D (whN D.O m 0 D.O.length) (lowF es D m pre) v = if 0 ≤ iat D.By v then (lwRow es D (whN D.O m 0 D.O.length) v (lowF es D m pre) (outL es (2 * es.length) v).length).set (par es D v) (min (iat (lwRow es D (whN D.O m 0 D.O.length) v (lowF es D m pre) (outL es (2 * es.length) v).length) (par es D v)) (iat (lwRow es D (whN D.O m 0 D.O.length) v (lowF es D m pre) (outL es (2 * es.length) v).length) v)) else lwRow es D (whN D.O m 0 D.O.length) v (lowF es D m pre) (outL es (2 * es.length) v).length) := rfl
            have hxo := HXO.out
            rcases HBV.out with hB1 | ⟨k, hk, hk2, hk3, hk4, hpm⟩
            · rw [hB1, if_neg (by omega)] at HSJ
              rw [hB1]
              gi_wp2
              exact HEND.out _ HF.out (by rw [HSN.out, HSJ.out]; exact HL.out)
            · rw [hk, if_pos (by omega)] at HSJ
              rw [hk] at hxo ⊢
              obtain ⟨k', hk', hk'2⟩ := twn_in hk2
              have e1 := twn_to es k
              rw [hk'] at hxo e1
              rw [Int.toNat_natCast, hk4] at e1
              have hk0 : (0 : Int) ≤ k := by omega
              have CT : Hid (∀ V', Has V' p es → Calls Try.prog 73 #[nv m p es.length cp, .int .i64 k'] V' fun e w' => e = .returned (.int .i64 (par es D v : Nat)) ∧ Below V'.heap.size V' w') := fun V' hV' => by
                have := comes54W m p es cp k' V' hV' hk'2 (by omega)
                rw [e1] at this
                exact this
              obtain ⟨q2, q3, _, _⟩ := HA0.out.later HBr.out
              clear hk' e1
              gi_upto_region 19 with fail
              refine ⟨trivial, ?_⟩
              refine (CallsIn.inRound l (callsIn_wide.2 (CT.out wr (HH.out.later HBr.out)))).mono ?_
              rintro e V1 ⟨rfl, hb⟩
              clear q2 q3 CT
              gi_upto_region 19 with fail
              obtain ⟨V0, hV0⟩ : ∃ V', V' = V1.drew := ⟨_, rfl⟩
              have hb2 : Below wr.heap.size wr V0 := by rw [hV0]; exact below_step hb (below_drew _)
              have HF0 : Hid (FrameW W V0 (fun i => i = gl)) := HF.out.trans (FrameW.of_below hb2 _)
              have HL0 : Hid (IRow V0 W0.heap.size gl m (lwRow es D (whN D.O m 0 D.O.length) v (lowF es D m pre) (outL es (2 * es.length) v).length)) := HL.out.later hb2
              have q0 : V0.cell? ⟨k7, 0, none⟩ = some (.slice (some ⟨gl, 0, none⟩) m m) := frame_cell HF0.out (fun e => n1 e.symm) h2
              have i3 : ((par es D v : Nat) : Int) < m := by omega
              have i4 : (0 : Int) ≤ (par es D v : Nat) := by omega
              obtain ⟨LP, hLP⟩ : ∃ z, iat (lwRow es D (whN D.O m 0 D.O.length) v (lowF es D m pre) (outL es (2 * es.length) v).length) (par es D v) = z := ⟨_, rfl⟩
              obtain ⟨LV, hLV⟩ : ∃ z, iat (lwRow es D (whN D.O m 0 D.O.length) v (lowF es D m pre) (outL es (2 * es.length) v).length) v = z := ⟨_, rfl⟩
              obtain ⟨M, hM⟩ : ∃ z, min LP LV = z := ⟨_, rfl⟩
              have HMN : Hid ((if LV < LP then LV else LP) = M) := by show _ = _; rw [← hM]; split <;> omega
              have HLV := hide hLV
              have HLP := hide hLP
              rw [hLP, hLV, hM] at HSJ
              clear hLV hLP hM hb hb2
              refine round_held (S := (fun W' => W'.cell? ⟨k7, 0, none⟩ = some (.slice (some ⟨gl, 0, none⟩) m m))) (by kernel_rfl) (by kernel_rfl) (by rintro ⟨_, _, h⟩; exact h) (by rw [← hV0]; exact q0) (fun hHeld => ?_)
              rw [← hV0] at hHeld ⊢
              clear hV0
              change wpAnyH Try.prog .any _ _ _ 13 #[false, false, false, false, false, false, false, false, false, false, false, false, false] _ _
              refine wpAnyH_take (i := 0) (v := ?v15) rfl (by kernel_rfl) (by kernel_rfl) (by kernel_rfl) (fun _ _ _ h => h) (Or.inl ⟨by rfl, ?hy15⟩) (by assumption) ?rest15
              case hy15 => (intro w hSw; (try dsimp only at hSw); go_simp; try with_reducible rfl)
              try simp only [Act.put, List.setIfInBounds_toArray, List.set_cons_zero]
              refine wpAnyH_take (i := 1) (v := ?v16) rfl (by kernel_rfl) (by kernel_rfl) (by kernel_rfl) (fun _ _ _ h => h) (Or.inl ⟨by rfl, ?hy16⟩) (by assumption) ?rest16
              case hy16 => (intro w hSw; (try dsimp only at hSw); go_simp; try with_reducible rfl)
              try simp only [Act.put, List.setIfInBounds_toArray, List.set_cons_zero, List.set_cons_succ]
              refine wpAnyH_take (i := 2) (v := ?v17) rfl (by kernel_rfl) (by kernel_rfl) (by kernel_rfl) (fun _ _ _ h => h) (Or.inl ⟨by rfl, ?hy17⟩) (by assumption) ?rest17
              case hy17 => (intro w hSw; (try dsimp only at hSw); go_simp; try with_reducible rfl)
              try simp only [Act.put, List.setIfInBounds_toArray, List.set_cons_zero, List.set_cons_succ]
              refine wpAnyH_take (i := 3) (v := ?v18) rfl (by kernel_rfl) (by kernel_rfl) (by kernel_rfl) (fun _ _ _ h => h) (Or.inl ⟨by rfl, ?hy18⟩) (by assumption) ?rest18
              case hy18 => (intro w hSw; (try dsimp only at hSw); go_simp; try with_reducible rfl)
              try simp only [Act.put, List.setIfInBounds_toArray, List.set_cons_zero, List.set_cons_succ]
              refine wpAnyH_take (i := 4) (v := ?v19) rfl (by kernel_rfl) (by kernel_rfl) (by kernel_rfl) (fun _ _ _ h => h) (Or.inl ⟨by rfl, ?hy19⟩) (by assumption) ?rest19
              case hy19 => (intro w hSw; (try dsimp only at hSw); go_simp; try with_reducible rfl)
              try simp only [Act.put, List.setIfInBounds_toArray, List.set_cons_zero, List.set_cons_succ]
              refine wpAnyH_take (i := 6) (v := ?v20) rfl (by kernel_rfl) (by kernel_rfl) (by kernel_rfl) (fun _ _ _ h => h) (Or.inl ⟨by rfl, ?hy20⟩) (by assumption) ?rest20
              case hy20 => (intro w hSw; (try dsimp only at hSw); go_simp; try with_reducible rfl)
              try simp only [Act.put, List.setIfInBounds_toArray, List.set_cons_zero, List.set_cons_succ]
              refine wpAnyH_take (i := 7) (v := ?v21) rfl (by kernel_rfl) (by kernel_rfl) (by kernel_rfl) (fun _ _ _ h => h) (Or.inl ⟨by rfl, ?hy21⟩) (by assumption) ?rest21
              case hy21 => (intro w hSw; (try dsimp only at hSw); go_simp; try with_reducible rfl)
              try simp only [Act.put, List.setIfInBounds_toArray, List.set_cons_zero, List.set_cons_succ]
              refine wpAnyH_take (i := 8) (v := ?v22) rfl (by kernel_rfl) (by kernel_rfl) (by kernel_rfl) (fun _ _ _ h => h) (Or.inl ⟨by rfl, ?hy22⟩) (by assumption) ?rest22
              case hy22 => (intro w hSw; (try dsimp only at hSw); go_simp; try with_reducible rfl)
              try simp only [Act.put, List.setIfInBounds_toArray, List.set_cons_zero, List.set_cons_succ]
              refine wpAnyH_ready (rs := [5, 9]) (by kernel_rfl) (by simp) ?_
              refine ready_consW ({ dst := some 90, op := Op.load 3 (Operand.tmp 89), type := 3, pos := "walk.go:163", after := #[{ on := 4, ground := Ground.data }], guard := none }) rfl rfl (fun K hK => ?_) ?_
              · clear hHeld
                have d0 := (HL0.out.cell hpm).1
                have e0 := (HL0.out.cell hpm).2
                rw [HLP.out] at d0
                refine wp_valW (v := ?vl3) (w2 := V0) ?hl3 ?_
                case hl3 => (go_simp; try with_reducible rfl)
                clear d0 e0
                refine hK.out _ _ (by first | exact q0 | exact cell_other q0 (fun e => n1 e.symm)) (fun hHeld => ?_)
                clear hK K
                try simp only [Act.put, List.setIfInBounds_toArray, List.set_cons_zero, List.set_cons_succ]
                refine wpAnyH_ready (rs := [9]) (by kernel_rfl) (by simp) ?_
                refine ready_consW ({ dst := some 94, op := Op.load 3 (Operand.tmp 93), type := 3, pos := "walk.go:163", after := #[{ on := 8, ground := Ground.data }], guard := none }) rfl rfl (fun K hK => ?_) ?_
                · clear hHeld
                  have d0 := (HL0.out.cell hvm).1
                  have e0 := (HL0.out.cell hvm).2
                  rw [HLV.out] at d0
                  refine wp_valW (v := ?vl4) (w2 := V0) ?hl4 ?_
                  case hl4 => (go_simp; try with_reducible rfl)
                  clear d0 e0
                  refine hK.out _ _ (by first | exact q0 | exact cell_other q0 (fun e => n1 e.symm)) (fun hHeld => ?_)
                  clear hK K
                  try simp only [Act.put, List.setIfInBounds_toArray, List.set_cons_zero, List.set_cons_succ]
                  refine wpAnyH_ready (rs := [10]) (by kernel_rfl) (by simp) ?_
                  refine ready_consW ({ dst := some 95, op := Op.call { callee := Callee.builtin Builtin.min, args := #[Operand.tmp 90, Operand.tmp 94], argTypes := #[3, 3] }, type := 3, pos := "walk.go:163", after := #[{ on := 5, ground := Ground.data }, { on := 9, ground := Ground.data }], guard := none }) rfl rfl (fun K hK => ?_) ?_
                  · clear hHeld
                    go_simp
                    rw [HMN.out]
                    refine hK.out _ _ (by first | exact q0 | exact cell_other q0 (fun e => n1 e.symm)) (fun hHeld => ?_)
                    clear hK K
                    try simp only [List.setIfInBounds_toArray, List.set_cons_zero, List.set_cons_succ]
                    refine wpAnyH_take (i := 11) (v := ?v23) rfl (by kernel_rfl) (by kernel_rfl) (by kernel_rfl) (fun _ _ _ h => h) (Or.inl ⟨by rfl, ?hy23⟩) (by assumption) ?rest23
                    case hy23 => (intro w hSw; (try dsimp only at hSw); go_simp; try with_reducible rfl)
                    try simp only [Act.put, List.setIfInBounds_toArray, List.set_cons_zero, List.set_cons_succ]
                    refine wpAnyH_ready (rs := [12]) (by kernel_rfl) (by simp) ?_
                    refine ready_consW ({ dst := none, op := Op.store 3 (Operand.tmp 96) (Operand.tmp 95), type := 0, pos := "walk.go:163", after := #[{ on := 11, ground := Ground.data }, { on := 10, ground := Ground.data }, { on := 0, ground := Ground.phase }, { on := 1, ground := Ground.phase }, { on := 2, ground := Ground.phase }, { on := 3, ground := Ground.phase }, { on := 4, ground := Ground.phase }, { on := 5, ground := Ground.phase }, { on := 6, ground := Ground.phase }, { on := 7, ground := Ground.phase }, { on := 8, ground := Ground.phase }, { on := 9, ground := Ground.phase }, { on := 10, ground := Ground.phase }], guard := none }) rfl rfl (fun K hK => ?_) ?_
                    · clear hHeld
                      have d0 := (HL0.out.cell hpm).1
                      have e0 := (HL0.out.cell hpm).2
                      go_simp
                      clear d0 e0
                      refine hK.out _ _ (by first | exact q0 | exact cell_other q0 (fun e => n1 e.symm)) (fun hHeld => ?_)
                      clear hK K
                      try simp only [List.setIfInBounds_toArray, List.set_cons_zero, List.set_cons_succ]
                      refine wpAnyH_done (by kernel_rfl) ?_ _
                      clear hHeld
                      obtain ⟨Z, hZ⟩ : ∃ Z, Z = V0.setCell ⟨gl, par es D v, none⟩ (.int .i64 M) := ⟨_, rfl⟩
                      have z1 : FrameW W Z (fun i => i = gl) := by rw [hZ]; exact HF0.out.trans (FrameW.set _ _ _ rfl)
                      have z2 : IRow Z W0.heap.size gl m (lowF es D m (pre ++ [⟨(xj, (v : Int)), x0, x1⟩])) := by rw [hZ, HSN.out, HSJ.out]; exact HL0.out.set _ M
                      rw [← hZ]
                      clear hZ q0
                      gi_wp2
                      rw [World.size_alloc]
                      exact HEND.out _ z1 z2
                    exact AllReadyH.nil
                  exact AllReadyH.nil
                exact AllReadyH.nil
              refine ready_consW ({ dst := some 94, op := Op.load 3 (Operand.tmp 93), type := 3, pos := "walk.go:163", after := #[{ on := 8, ground := Ground.data }], guard := none }) rfl rfl (fun K hK => ?_) ?_
              · clear hHeld
                have d0 := (HL0.out.cell hvm).1
                have e0 := (HL0.out.cell hvm).2
                rw [HLV.out] at d0
                refine wp_valW (v := ?vl5) (w2 := V0) ?hl5 ?_
                case hl5 => (go_simp; try with_reducible rfl)
                clear d0 e0
                refine hK.out _ _ (by first | exact q0 | exact cell_other q0 (fun e => n1 e.symm)) (fun hHeld => ?_)
                clear hK K
                try simp only [Act.put, List.setIfInBounds_toArray, List.set_cons_zero, List.set_cons_succ]
                refine wpAnyH_ready (rs := [5]) (by kernel_rfl) (by simp) ?_
                refine ready_consW ({ dst := some 90, op := Op.load 3 (Operand.tmp 89), type := 3, pos := "walk.go:163", after := #[{ on := 4, ground := Ground.data }], guard := none }) rfl rfl (fun K hK => ?_) ?_
                · clear hHeld
                  have d0 := (HL0.out.cell hpm).1
                  have e0 := (HL0.out.cell hpm).2
                  rw [HLP.out] at d0
                  refine wp_valW (v := ?vl6) (w2 := V0) ?hl6 ?_
                  case hl6 => (go_simp; try with_reducible rfl)
                  clear d0 e0
                  refine hK.out _ _ (by first | exact q0 | exact cell_other q0 (fun e => n1 e.symm)) (fun hHeld => ?_)
                  clear hK K
                  try simp only [Act.put, List.setIfInBounds_toArray, List.set_cons_zero, List.set_cons_succ]
                  refine wpAnyH_ready (rs := [10]) (by kernel_rfl) (by simp) ?_
                  refine ready_consW ({ dst := some 95, op := Op.call { callee := Callee.builtin Builtin.min, args := #[Operand.tmp 90, Operand.tmp 94], argTypes := #[3, 3] }, type := 3, pos := "walk.go:163", after := #[{ on := 5, ground := Ground.data }, { on := 9, ground := Ground.data }], guard := none }) rfl rfl (fun K hK => ?_) ?_
                  · clear hHeld
                    go_simp
                    rw [HMN.out]
                    refine hK.out _ _ (by first | exact q0 | exact cell_other q0 (fun e => n1 e.symm)) (fun hHeld => ?_)
                    clear hK K
                    try simp only [List.setIfInBounds_toArray, List.set_cons_zero, List.set_cons_succ]
                    refine wpAnyH_take (i := 11) (v := ?v24) rfl (by kernel_rfl) (by kernel_rfl) (by kernel_rfl) (fun _ _ _ h => h) (Or.inl ⟨by rfl, ?hy24⟩) (by assumption) ?rest24
                    case hy24 => (intro w hSw; (try dsimp only at hSw); go_simp; try with_reducible rfl)
                    try simp only [Act.put, List.setIfInBounds_toArray, List.set_cons_zero, List.set_cons_succ]
                    refine wpAnyH_ready (rs := [12]) (by kernel_rfl) (by simp) ?_
                    refine ready_consW ({ dst := none, op := Op.store 3 (Operand.tmp 96) (Operand.tmp 95), type := 0, pos := "walk.go:163", after := #[{ on := 11, ground := Ground.data }, { on := 10, ground := Ground.data }, { on := 0, ground := Ground.phase }, { on := 1, ground := Ground.phase }, { on := 2, ground := Ground.phase }, { on := 3, ground := Ground.phase }, { on := 4, ground := Ground.phase }, { on := 5, ground := Ground.phase }, { on := 6, ground := Ground.phase }, { on := 7, ground := Ground.phase }, { on := 8, ground := Ground.phase }, { on := 9, ground := Ground.phase }, { on := 10, ground := Ground.phase }], guard := none }) rfl rfl (fun K hK => ?_) ?_
                    · clear hHeld
                      have d0 := (HL0.out.cell hpm).1
                      have e0 := (HL0.out.cell hpm).2
                      go_simp
                      clear d0 e0
                      refine hK.out _ _ (by first | exact q0 | exact cell_other q0 (fun e => n1 e.symm)) (fun hHeld => ?_)
                      clear hK K
                      try simp only [List.setIfInBounds_toArray, List.set_cons_zero, List.set_cons_succ]
                      refine wpAnyH_done (by kernel_rfl) ?_ _
                      clear hHeld
                      obtain ⟨Z, hZ⟩ : ∃ Z, Z = V0.setCell ⟨gl, par es D v, none⟩ (.int .i64 M) := ⟨_, rfl⟩
                      have z1 : FrameW W Z (fun i => i = gl) := by rw [hZ]; exact HF0.out.trans (FrameW.set _ _ _ rfl)
                      have z2 : IRow Z W0.heap.size gl m (lowF es D m (pre ++ [⟨(xj, (v : Int)), x0, x1⟩])) := by rw [hZ, HSN.out, HSJ.out]; exact HL0.out.set _ M
                      rw [← hZ]
                      clear hZ q0
                      gi_wp2
                      rw [World.size_alloc]
                      exact HEND.out _ z1 z2
                    exact AllReadyH.nil
                  exact AllReadyH.nil
                exact AllReadyH.nil
              exact AllReadyH.nil
end Go.Proofs.Ytobkejnlkjieoaa
