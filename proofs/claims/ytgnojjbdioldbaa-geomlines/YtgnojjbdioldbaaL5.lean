/- The reference's Box, in every world. -/
import Derived.Test.YtgnojjbdioldbaaL3
import Derived.Test.YtgnojjbdioldbaaB3
import Derived.Deep.DeepCutAuto
namespace Go.Proofs.Ytgnojjbdioldbaa
open Go.RowKit Go.Sort
open Go

def rlo (ps : List Pt) (i : Nat) : Pt := if i = 0 then at' ps 0 else loN ps (i - 1)
def rhi (ps : List Pt) (i : Nat) : Pt := if i = 0 then at' ps 0 else hiN ps (i - 1)
theorem rlo_step (ps : List Pt) (i : Nat) : rlo ps (i + 1) = ⟨min (rlo ps i).x (at' ps i).x, min (rlo ps i).y (at' ps i).y⟩ := by
  cases i with
  | zero => simp [rlo, loN, mnN]
  | succ k => simp [rlo, loN, mnN]
theorem rhi_step (ps : List Pt) (i : Nat) : rhi ps (i + 1) = ⟨max (rhi ps i).x (at' ps i).x, max (rhi ps i).y (at' ps i).y⟩ := by
  cases i with
  | zero => simp [rhi, hiN, mxN]
  | succ k => simp [rhi, hiN, mxN]
theorem results_cc {fn : Func} {p q : Tmp} {ty ty2 : TypeId} (h : fn.results = #[.cell p ty, .cell q ty2]) (tmps : Array Value) (P : Program) (w : World) :
    (results fn tmps).run P w =
      ((asAddr (tmps.getD p undef)).run P w).andThen fun a w₁ => ((loadVar ty a).run P w₁).andThen fun v w₂ => ((asAddr (tmps.getD q undef)).run P w₂).andThen fun a' w₃ => ((loadVar ty2 a').run P w₃).andThen fun v' w₄ => .ok (.tuple #[v, v']) w₄ := by
  simp only [results, h]
  simp [Sem.run_bind, Result.andThen]
theorem ret_box2 {tmps : Array Value} {V : World} {g h : Nat} {lo hi : Pt} (h2 : tmps.getD 2 undef = .pointer (some ⟨g, 0, none⟩)) (h3 : tmps.getD 3 undef = .pointer (some ⟨h, 0, none⟩)) (k : Own2 V g h lo hi) :
    (results Try.f29 tmps).run Try.prog V = .ok (.tuple #[pv lo.x lo.y, pv hi.x hi.y]) V := by
  have e1 := results_cc (fn := Try.f29) (p := 2) (q := 3) (ty := 23) (ty2 := 23) Try.results29 tmps Try.prog V
  rw [e1, h2, h3, asA, Result.andThen_ok, load25 k.1, Result.andThen_ok, asA, Result.andThen_ok, load25 k.2, Result.andThen_ok]
theorem own_set {W : World} {g : Nat} {f : Pt} (h : Own W g f) (p : Pt) : Own ((W.setCell ⟨g, 0, none⟩ (.int .i64 p.x)).setCell ⟨g, 1, none⟩ (.int .i64 p.y)).drew g p := (h.set p).later (by go_grown)
theorem own_keep {W : World} {g k : Nat} {f : Pt} (h : Own W g f) (hne : k ≠ g) (u v : Value) : Own ((W.setCell ⟨k, 0, none⟩ u).setCell ⟨k, 1, none⟩ v).drew g f := (own_other (own_other h hne 0 u) hne 1 v).later (by go_grown)
set_option maxRecDepth 100000 in
set_option maxHeartbeats 8000000 in
theorem box29 (b off cap : Nat) (ps : List Pt) (w : World) (h1 : 0 < ps.length) (hl : ps.length ≤ 4096) (h : Lies w b off ps) : Calls Try.prog 29 #[.slice (some ⟨b, off, none⟩) ps.length cap] w fun e w' => e = .returned (.tuple #[pv (rlo ps ps.length).x (rlo ps ps.length).y, pv (rhi ps ps.length).x (rhi ps ps.length).y]) ∧ Below w.heap.size w w' := by
  obtain ⟨W, hW, hb, q⟩ := zeros w
  have HL := hide (h.later hb)
  have HB := hide hb
  have HQ := hide q
  obtain ⟨c0, c1⟩ := (h.later hb) 0 h1
  obtain ⟨x, hx⟩ : ∃ x, at' ps 0 = x := ⟨_, rfl⟩
  rw [hx, Nat.zero_mul, Nat.add_zero] at c0 c1
  have HX := hide hx
  have e1 : (0 : Int) < ps.length := by omega
  have SK : ∀ V, Below W.heap.size W V → V.cell? ⟨b, off, none⟩ = some (.int .i64 x.x) ∧ V.cell? ⟨b, off + 1, none⟩ = some (.int .i64 x.y) := fun V hB => ⟨later hB c0, later hB c1⟩
  have SK' := hide SK
  clear h hb q SK hx
  go_enter Try.func29, Try.ntmps29
  go_upto_region 1 with fail
  rw [← hW]
  clear hW
  go_cut [4, 5] (fun s4 s5 wx => ∃ ka kb, s4 = .pointer (some ⟨ka, 0, none⟩) ∧ s5 = .pointer (some ⟨kb, 0, none⟩) ∧ Hid (Own2 wx ka kb x x) ∧ Hid (Below W.heap.size W wx) ∧ Hid (W.heap.size ≤ ka ∧ W.heap.size ≤ kb ∧ ka ≠ kb))
  case first =>
    go_region_held3 (fun V => V.cell? ⟨b, off, none⟩ = some (.int .i64 x.x) ∧ V.cell? ⟨b, off + 1, none⟩ = some (.int .i64 x.y))
      (first | exact SK'.out _ (below_drewJ _) | exact SK'.out _ (by go_grown))
      (fail)
    all_goals
      rename_i hHeld
      clear hHeld
      go_wp2_with fail
      go_meet
      exact ⟨_, _, rfl, rfl, ⟨⟨by go_cell, by go_cell, by go_cell, by go_cell⟩, by go_cell, by go_cell, by go_cell, by go_cell⟩, by show Below _ _ _; go_grown, by show _ ∧ _; omega⟩
  case rest =>
    obtain ⟨ka, kb, rfl, rfl, HO, HBx, HK⟩ := hcut
    clear c0 c1 SK'
    go_wp2_with fail
    go_loopw [6] (fun t wr => ∃ i : Nat, i ≤ ps.length ∧ t = .int .i64 i ∧ Hid (Below W.heap.size W wr) ∧ Hid (Own2 wr ka kb (rlo ps i) (rhi ps i))) (fun t _ => ps.length - (intOf t).toNat)
    case atStart => exact ⟨0, by omega, rfl, HBx.out, by show Own2 _ _ _ _ _; unfold rlo rhi; rw [if_pos rfl, if_pos rfl, HX.out]; exact HO.out⟩
    case round =>
      obtain ⟨i, hi, rfl, HBr, HO2⟩ := hrel
      by_cases hlt : i < ps.length
      · obtain ⟨c0, c1⟩ := HL.out.later HBr.out i hlt
        obtain ⟨y, hy⟩ : ∃ y, at' ps i = y := ⟨_, rfl⟩
        rw [hy] at c0 c1
        obtain ⟨⟨q0, q1, q2, q3⟩, q4, q5, q6, q7⟩ := HO2.out
        obtain ⟨f, hf⟩ : ∃ f, rlo ps i = f := ⟨_, rfl⟩
        obtain ⟨g, hg⟩ : ∃ g, rhi ps i = g := ⟨_, rfl⟩
        rw [hf] at q0 q1
        rw [hg] at q4 q5
        have i1 : (i : Int) < ps.length := by omega
        have i2 : (0 : Int) ≤ i := by omega
        have hbk : b < W.heap.size := block_lt_of_cell ((HL.out i hlt).1)
        have nb : b ≠ ka := by have := HK.out; omega
        have nb2 : b ≠ kb := by have := HK.out; omega
        have nk : ka ≠ kb := HK.out.2.2
        have HYI := hide hy
        have HLO := hide (rlo_step ps i)
        have HHI := hide (rhi_step ps i)
        rw [hf, hy] at HLO
        rw [hg, hy] at HHI
        rw [hf, hg] at HO2
        clear hy hf hg
        go_upto_region 5 with fail
        go_cut [6] (fun s6 wx => s6 = .int .i64 i ∧ Hid (Own wx ka (rlo ps (i + 1))) ∧ Hid (Own wx kb g) ∧ Hid (Below W.heap.size W wx))
        case first =>
          go_region
          go_wp2_with fail
          go_meet
          refine ⟨rfl, ?_, ?_, ?_⟩
          · show Own _ _ _
            rw [HLO.out]
            exact own_set HO2.out.1 ⟨min f.x y.x, min f.y y.y⟩
          · exact own_keep HO2.out.2 nk _ _
          · exact Below.trans ((HBr.out.setCell HK.out.1 _).setCell HK.out.1 _) ((below_drewJ _).mono (((HBr.out.setCell HK.out.1 _).setCell HK.out.1 _).size))
        case rest =>
          obtain ⟨rfl, HU1, HU2, HBU⟩ := hcut
          clear c0 c1 q0 q1 q2 q3 q4 q5 q6 q7 HO2 HBr HLO
          obtain ⟨c0, c1⟩ := HL.out.later HBU.out i hlt
          rw [HYI.out] at c0 c1
          obtain ⟨q4, q5, q6, q7⟩ := HU2.out
          go_upto_region 6 with fail
          obtain ⟨w6, hw6⟩ : ∃ w6, w6 = wc := ⟨_, rfl⟩
          rw [← hw6] at HU1 HU2 HBU c0 c1 q4 q5 q6 q7 ⊢
          clear hw6
          go_region
          obtain ⟨V, hV⟩ : ∃ V, V = ((w6.setCell ⟨kb, 0, none⟩ (.int .i64 (max g.x y.x))).setCell ⟨kb, 1, none⟩ (.int .i64 (max g.y y.y))).drew := ⟨_, rfl⟩
          have HV2 : Hid (Own V kb (rhi ps (i + 1))) := by show Own _ _ _; rw [hV, HHI.out]; exact own_set HU2.out ⟨max g.x y.x, max g.y y.y⟩
          have HV1 : Hid (Own V ka (rlo ps (i + 1))) := by show Own _ _ _; rw [hV]; exact own_keep HU1.out (Ne.symm nk) _ _
          have HBV : Hid (Below W.heap.size W V) := by show Below _ _ _; rw [hV]; exact Below.trans ((HBU.out.setCell HK.out.2.1 _).setCell HK.out.2.1 _) ((below_drewJ _).mono (((HBU.out.setCell HK.out.2.1 _).setCell HK.out.2.1 _).size))
          rw [← hV]
          clear hV c0 c1 q4 q5 q6 q7 HU1 HU2 HBU HHI HYI nb nb2 nk hbk
          go_wp2
          go_roundw
          case rel => exact ⟨i + 1, by omega, by go_num, HBV.out, HV1.out, HV2.out⟩
          case measure => simp [intOf]; omega
      · have hin : i = ps.length := by omega
        subst hin
        have HQ2 := hide (HQ.out.later HBr.out)
        have HB3 := hide (below_stepJ HB.out HBr.out)
        have h2 : w.heap.size + 1 < W.heap.size := block_lt_of_cell HQ.out.2.1
        obtain ⟨⟨q0, q1, q2, q3⟩, q4, q5, q6, q7⟩ := HO2.out
        obtain ⟨⟨r0, r1, r2, r3⟩, r4, r5, r6, r7⟩ := HQ2.out
        obtain ⟨f, hf⟩ : ∃ f, rlo ps ps.length = f := ⟨_, rfl⟩
        obtain ⟨g, hg⟩ : ∃ g, rhi ps ps.length = g := ⟨_, rfl⟩
        rw [hf] at q0 q1 HO2
        rw [hg] at q4 q5 HO2
        have HF := hide hf
        have HG := hide hg
        have n1 : ka ≠ w.heap.size := by have := HK.out; omega
        have n2 : ka ≠ w.heap.size + 1 := by have := HK.out; omega
        have n3 : kb ≠ w.heap.size := by have := HK.out; omega
        have n4 : kb ≠ w.heap.size + 1 := by have := HK.out; omega
        clear hf hg
        go_wp2_with fail
        go_region
        obtain ⟨V, hV, kV, bV⟩ := set4 HQ2.out (by omega) f g
        rw [← hV]
        have kV' := kV.later (W' := V.drew) (below_drewJ _)
        have bV' : Below w.heap.size w V.drew := below_drewN (n := 1) (bV w.heap.size w (by omega) (by omega) HB3.out)
        clear hV bV kV q0 q1 q2 q3 q4 q5 q6 q7 r0 r1 r2 r3 r4 r5 r6 r7
        go_wp2
        exact bodyPost_ret (ret_box2 rfl rfl kV') rfl ⟨by rw [HF.out, HG.out], bV'⟩
end Go.Proofs.Ytgnojjbdioldbaa
