/- The document's Look. -/
import Derived.Test.YtmmbbfmkhbengaaV2
import Derived.Deep.DeepCutAuto
import Derived.Deep.RegionHeld3
namespace Go.Proofs.Ytmmbbfmkhbengaa
open Go.RowKit Go.Sort
open Go


/-- The box of what is told of a net. -/
def LB (w : World) (k : Nat) (a b c d : Int) (s : Bool) : Prop := w.ownsRow 0 54 5 (.slice (some ⟨k, 0, none⟩) 1 1) 1 [.int .i64 a, .int .i64 b, .int .i64 c, .int .i64 d, .bool s]
theorem LB.cells {w : World} {k : Nat} {a b c d : Int} {s : Bool} (h : LB w k a b c d s) : w.cell? ⟨k, 0, none⟩ = some (.int .i64 a) ∧ w.cell? ⟨k, 1, none⟩ = some (.int .i64 b) ∧ w.cell? ⟨k, 2, none⟩ = some (.int .i64 c) ∧ w.cell? ⟨k, 3, none⟩ = some (.int .i64 d) ∧ w.cell? ⟨k, 4, none⟩ = some (.bool s) ∧ w.frozen? ⟨k, 0, none⟩ = false ∧ w.frozen? ⟨k, 1, none⟩ = false ∧ w.frozen? ⟨k, 2, none⟩ = false ∧ w.frozen? ⟨k, 3, none⟩ = false ∧ w.frozen? ⟨k, 4, none⟩ = false :=
  ⟨World.ownsRow.cellAt h 0 (by omega), World.ownsRow.cellAt h 1 (by omega), World.ownsRow.cellAt h 2 (by omega), World.ownsRow.cellAt h 3 (by omega), World.ownsRow.cellAt h 4 (by omega), World.ownsRow.frozenAt h 0, World.ownsRow.frozenAt h 1, World.ownsRow.frozenAt h 2, World.ownsRow.frozenAt h 3, World.ownsRow.frozenAt h 4⟩
theorem LB.later {w w' : World} {k : Nat} {a b c d : Int} {s : Bool} (h : LB w k a b c d s) (hb : Below w.heap.size w w') : LB w' k a b c d s := World.ownsRow.kept h (grown_below hb) (Or.inr (by simp [Value.ownBlock]))
theorem LB.other {w : World} {k j i : Nat} {a b c d : Int} {s : Bool} (h : LB w k a b c d s) (hne : j ≠ k) (v : Value) : LB (w.setCell ⟨j, i, none⟩ v) k a b c d s := ownsRow_setCell_other (a := ⟨j, i, none⟩) h (by simp [Value.ownBlock]; omega) v
theorem LB.set0 {w : World} {k : Nat} {a b c d : Int} {s : Bool} (h : LB w k a b c d s) (x : Int) : LB (w.setCell ⟨k, 0, none⟩ (.int .i64 x)) k x b c d s := (World.ownsRow.stored h 0 _).1
theorem LB.set1 {w : World} {k : Nat} {a b c d : Int} {s : Bool} (h : LB w k a b c d s) (x : Int) : LB (w.setCell ⟨k, 1, none⟩ (.int .i64 x)) k a x c d s := (World.ownsRow.stored h 1 _).1
theorem LB.set2 {w : World} {k : Nat} {a b c d : Int} {s : Bool} (h : LB w k a b c d s) (x : Int) : LB (w.setCell ⟨k, 2, none⟩ (.int .i64 x)) k a b x d s := (World.ownsRow.stored h 2 _).1
theorem LB.set3 {w : World} {k : Nat} {a b c d : Int} {s : Bool} (h : LB w k a b c d s) (x : Int) : LB (w.setCell ⟨k, 3, none⟩ (.int .i64 x)) k a b c x s := (World.ownsRow.stored h 3 _).1
theorem LB.set4 {w : World} {k : Nat} {a b c d : Int} {s : Bool} (h : LB w k a b c d s) (x : Bool) : LB (w.setCell ⟨k, 4, none⟩ (.bool x)) k a b c d x := (World.ownsRow.stored h 4 _).1
theorem LB.made (w : World) : LB (w.alloc (.cells #[.int .i64 0, .int .i64 0, .int .i64 0, .int .i64 0, .bool false] 54)) w.heap.size 0 0 0 0 false :=
  World.ownsRow_lit w #[.int .i64 0, .int .i64 0, .int .i64 0, .int .i64 0, .bool false] 1 (Nat.zero_le _) (by unfold maxLen; omega) rfl
theorem ret_look1 {fn : Func} {t : Tmp} (hr : fn.results = #[.cell t 54]) {tmps : Array Value} {V : World} {k : Nat} {a b c d : Int} {s : Bool} (h2 : tmps.getD t undef = .pointer (some ⟨k, 0, none⟩)) (h : LB V k a b c d s) :
    (results fn tmps).run Try.prog V = .ok (.agg #[.int .i64 a, .int .i64 b, .int .i64 c, .int .i64 d, .bool s]) V := by
  obtain ⟨m0, m1, m2, m3, m4, _⟩ := h.cells
  have l0 : (load ⟨k, 0, none⟩).run Try.prog V = .ok (.int .i64 a) V := by simp [go_sem, m0]
  have l1 : (load ⟨k, 1, none⟩).run Try.prog V = .ok (.int .i64 b) V := by simp [go_sem, m1]
  have l2 : (load ⟨k, 2, none⟩).run Try.prog V = .ok (.int .i64 c) V := by simp [go_sem, m2]
  have l3 : (load ⟨k, 3, none⟩).run Try.prog V = .ok (.int .i64 d) V := by simp [go_sem, m3]
  have l4 : (load ⟨k, 4, none⟩).run Try.prog V = .ok (.bool s) V := by simp [go_sem, m4]
  rw [results_c hr, h2, asA, Result.andThen_ok]
  simp only [loadVar, Sem.run_bind, Try.isAgg54, Result.andThen_ok, if_true, Try.sizeOf54]
  simp only [loadCells, go_sem]
  simp only [Sem.run_bind, Nat.zero_add, l0, l1, l2, l3, l4, Result.andThen_ok, Sem.run_pure]
  rfl
def lpN (es : List Pt) : Nat → Int
  | 0 => 0
  | i + 1 => lpN es i + if (at' es i).x = (at' es i).y then 1 else 0
def pcN (es : List Pt) : Nat → Int
  | 0 => 0
  | i + 1 => pcN es i + if parB es i then 1 else 0
def leN (d : List Int) : Nat → Int
  | 0 => 0
  | v + 1 => if v = 0 ∨ iat d v < leN d v then iat d v else leN d v
def grN (d : List Int) : Nat → Int
  | 0 => 0
  | v + 1 => if grN d v < iat d v then iat d v else grN d v
theorem lpN_in (es : List Pt) : ∀ i : Nat, 0 ≤ lpN es i ∧ lpN es i ≤ i
  | 0 => by simp [lpN]
  | i + 1 => by
    have := lpN_in es i
    simp only [lpN]
    split <;> omega
theorem pcN_in (es : List Pt) : ∀ i : Nat, 0 ≤ pcN es i ∧ pcN es i ≤ i
  | 0 => by simp [pcN]
  | i + 1 => by
    have := pcN_in es i
    simp only [pcN]
    split <;> omega
def lookV (es : List Pt) (m : Nat) : Value := .agg #[.int .i64 (lpN es es.length), .int .i64 (pcN es es.length), .int .i64 (leN (degN es m es.length) m), .int .i64 (grN (degN es m es.length) m), .bool (decide (lpN es es.length = 0) && decide (pcN es es.length = 0))]
set_option maxRecDepth 100000 in
set_option maxHeartbeats 8000000 in
theorem look18 (m : Nat) (p : Option Addr) (es : List Pt) (cap : Nat) (w : World) (h : Has w p es) (hm : netB m es = true) : Calls Try.prog 42 #[nv m p es.length cap] w fun e w' => e = .returned (lookV es m) ∧ Below w.heap.size w w' := by
  obtain ⟨_, hm1, hes, _⟩ := netB_is hm
  have HM := hide hm
  clear hm
  obtain ⟨U, hU⟩ : ∃ U, U = ((w.alloc (nbx m p es.length cap)).alloc (.cells #[.int .i64 0, .int .i64 0, .int .i64 0, .int .i64 0, .bool false] 54)).alloc (.cells #[.int .i64 0, .int .i64 0, .int .i64 0, .int .i64 0, .bool false] 54) := ⟨_, rfl⟩
  have HBU : Hid (Below w.heap.size w U) := by show Below _ _ _; rw [hU]; go_grown
  have HNU : Hid (NOwn U w.heap.size m p es.length cap) := by show NOwn _ _ _ _ _ _; rw [hU]; exact ⟨by unfold nbx; go_cell, by unfold nbx; go_cell, by unfold nbx; go_cell, by unfold nbx; go_cell⟩
  have HZU : Hid (LB U (w.heap.size + 1) 0 0 0 0 false) := by
    show LB _ _ _ _ _ _ _
    rw [hU]
    have := (LB.made (w.alloc (nbx m p es.length cap))).later (w' := ((w.alloc (nbx m p es.length cap)).alloc (.cells #[.int .i64 0, .int .i64 0, .int .i64 0, .int .i64 0, .bool false] 54)).alloc (.cells #[.int .i64 0, .int .i64 0, .int .i64 0, .int .i64 0, .bool false] 54)) (by go_grown)
    simp at this
    exact this
  have HKU : Hid (LB U (w.heap.size + 1 + 1) 0 0 0 0 false) := by
    show LB _ _ _ _ _ _ _
    rw [hU]
    have := LB.made ((w.alloc (nbx m p es.length cap)).alloc (.cells #[.int .i64 0, .int .i64 0, .int .i64 0, .int .i64 0, .bool false] 54))
    simp at this
    exact this
  have HH := hide h
  clear h
  go_enter Try.func42, Try.ntmps42
  go_wp2_with fail
  rw [← hU]
  clear hU
  obtain ⟨k1, hk1⟩ : ∃ k1, w.heap.size = k1 := ⟨_, rfl⟩
  obtain ⟨k2, hk2⟩ : ∃ k2, k1 + 1 = k2 := ⟨_, rfl⟩
  obtain ⟨k3, hk3e⟩ : ∃ k3, k2 + 1 = k3 := ⟨_, rfl⟩
  rw [hk1] at HNU HZU HKU ⊢
  rw [hk2] at HZU HKU ⊢
  rw [hk3e] at HKU ⊢
  have n13 : k3 ≠ k1 := by omega
  have n23 : k3 ≠ k2 := by omega
  have hk3 : w.heap.size ≤ k3 := by omega
  have hk2w : w.heap.size ≤ k2 := by omega
  clear hk1 hk2 hk3e
  go_loopw [4] (fun t wr => ∃ i : Nat, i ≤ es.length ∧ t = .int .i64 i ∧ Hid (Below w.heap.size w wr) ∧ Hid (NOwn wr k1 m p es.length cap) ∧ Hid (LB wr k2 0 0 0 0 false) ∧ Hid (LB wr k3 (lpN es i) (pcN es i) 0 0 false)) (fun t _ => es.length - (intOf t).toNat)
  case atStart => exact ⟨0, by omega, rfl, HBU.out, HNU.out, HZU.out, HKU.out⟩
  case round =>
    obtain ⟨i, hi, rfl, HBr, HN, HZ, HK⟩ := hrel
    obtain ⟨q0, q1, _, _⟩ := HN.out
    by_cases hlt : i < es.length
    · rcases HH.out.later HBr.out with h | ⟨b, off, hpe, hL⟩
      · subst h; simp at hlt
      rw [hpe] at q1
      have HPE := hide hpe
      clear hpe
      obtain ⟨c0, c1⟩ := hL i hlt
      have HLP : Hid (lpN es (i + 1) = lpN es i + if (at' es i).x = (at' es i).y then 1 else 0) := rfl
      have HPC : Hid (pcN es (i + 1) = pcN es i + if parB es i then 1 else 0) := rfl
      obtain ⟨x, hx⟩ : ∃ x, at' es i = x := ⟨_, rfl⟩
      rw [hx] at c0 c1 HLP
      clear hx hL
      have i1 : (i : Int) < es.length := by omega
      have i2 : (0 : Int) ≤ i := by omega
      by_cases hxy : x.x = x.y
      · have hb : (x.x == x.y) = true := by simpa using hxy
        rw [if_pos hxy] at HLP
        have bl := lpN_in es i
        go_wp2_with fail
        go_quiet (fail)
        clear c0 c1 q0 q1 hb hxy
        obtain ⟨Z1, hZ1⟩ : ∃ Z1, Z1 = wr.drewN nq := ⟨_, rfl⟩
        have hbZ : Below wr.heap.size wr Z1 := by rw [hZ1]; exact below_drewN (Below.refl _ _)
        have HK1 := hide (HK.out.later hbZ)
        have HN1 := hide (HN.out.later hbZ)
        have HZ1 := hide (HZ.out.later hbZ)
        have HB1 := hide (below_step HBr.out hbZ)
        rw [← hZ1]
        clear hZ1 hbZ
        obtain ⟨m0, m1, m2, m3, m4, g0, g1, g2, g3, g4⟩ := HK1.out.cells
        obtain ⟨Z2, hZ2⟩ : ∃ Z2, Z2 = Z1.setCell ⟨k3, 0, none⟩ (.int .i64 (lpN es i + 1)) := ⟨_, rfl⟩
        have H2K : Hid (LB Z2 k3 (lpN es i + 1) (pcN es i) 0 0 false) := by show LB _ _ _ _ _ _ _; rw [hZ2]; exact HK1.out.set0 _
        have H2N : Hid (NOwn Z2 k1 m p es.length cap) := by show NOwn _ _ _ _ _ _; rw [hZ2]; exact HN1.out.other n13 _
        have H2Z : Hid (LB Z2 k2 0 0 0 0 false) := by show LB _ _ _ _ _ _ _; rw [hZ2]; exact HZ1.out.other n23 _
        have H2B : Hid (Below w.heap.size w Z2) := by show Below _ _ _; rw [hZ2]; exact HB1.out.setCell hk3 _
        have HLD : Hid (lpN es (i + 1) = lpN es i + 1) := HLP
        obtain ⟨a0, a1, _, _⟩ := HN1.out
        clear HK1 HN1 HZ1 HB1
        have P := hide (par39 m p es cap i Z2 (HH.out.later H2B.out) hlt (by omega))
        go_wp2_with fail
        rw [← hZ2]
        clear hZ2
        refine P.out.mono ?_
        rintro e w3 ⟨rfl, hb3⟩
        have HB3 := hide (below_step H2B.out hb3)
        have HN3 := hide (H2N.out.later hb3)
        have HK3 := hide (H2K.out.later hb3)
        have HZ3 := hide (H2Z.out.later hb3)
        clear hb3 P a0 a1 m0 m1 m2 m3 m4 g0 g1 g2 g3 g4
        obtain ⟨m0, m1, m2, m3, m4, g0, g1, g2, g3, g4⟩ := HK3.out.cells
        cases hp : parB es i
        · have HPD : Hid (pcN es (i + 1) = pcN es i) := by show _ = _; rw [HPC.out, hp]; simp
          go_wp2
          go_roundw
          case rel => exact ⟨i + 1, by omega, by go_num, HB3.out, HN3.out, HZ3.out, by show LB _ _ _ _ _ _ _; rw [HLD.out, HPD.out]; exact HK3.out⟩
          case measure => simp [intOf]; omega
        · have HPD : Hid (pcN es (i + 1) = pcN es i + 1) := by show _ = _; rw [HPC.out, hp]; simp
          have bp := pcN_in es i
          go_wp2
          go_roundw
          case rel => exact ⟨i + 1, by omega, by go_num, HB3.out.setCell hk3 _, HN3.out.other n13 _, HZ3.out.other n23 _, by show LB _ _ _ _ _ _ _; rw [HLD.out, HPD.out]; exact HK3.out.set1 _⟩
          case measure => simp [intOf]; omega
      · have hb : (x.x == x.y) = false := by simpa using hxy
        rw [if_neg hxy, Int.add_zero] at HLP
        have HLD : Hid (lpN es (i + 1) = lpN es i) := HLP
        go_wp2_with fail
        go_quiet (fail)
        clear c0 c1 q0 q1 hb hxy
        obtain ⟨Z1, hZ1⟩ : ∃ Z1, Z1 = wr.drewN nq := ⟨_, rfl⟩
        have hbZ : Below wr.heap.size wr Z1 := by rw [hZ1]; exact below_drewN (Below.refl _ _)
        have H2K := hide (HK.out.later hbZ)
        have H2N := hide (HN.out.later hbZ)
        have H2Z := hide (HZ.out.later hbZ)
        have H2B := hide (below_step HBr.out hbZ)
        rw [← hZ1]
        clear hZ1 hbZ
        obtain ⟨a0, a1, _, _⟩ := H2N.out
        have P := hide (par39 m p es cap i Z1 (HH.out.later H2B.out) hlt (by omega))
        go_wp2_with fail
        refine P.out.mono ?_
        rintro e w3 ⟨rfl, hb3⟩
        have HB3 := hide (below_step H2B.out hb3)
        have HN3 := hide (H2N.out.later hb3)
        have HK3 := hide (H2K.out.later hb3)
        have HZ3 := hide (H2Z.out.later hb3)
        clear hb3 P a0 a1
        obtain ⟨m0, m1, m2, m3, m4, g0, g1, g2, g3, g4⟩ := HK3.out.cells
        cases hp : parB es i
        · have HPD : Hid (pcN es (i + 1) = pcN es i) := by show _ = _; rw [HPC.out, hp]; simp
          go_wp2
          go_roundw
          case rel => exact ⟨i + 1, by omega, by go_num, HB3.out, HN3.out, HZ3.out, by show LB _ _ _ _ _ _ _; rw [HLD.out, HPD.out]; exact HK3.out⟩
          case measure => simp [intOf]; omega
        · have HPD : Hid (pcN es (i + 1) = pcN es i + 1) := by show _ = _; rw [HPC.out, hp]; simp
          have bp := pcN_in es i
          go_wp2
          go_roundw
          case rel => exact ⟨i + 1, by omega, by go_num, HB3.out.setCell hk3 _, HN3.out.other n13 _, HZ3.out.other n23 _, by show LB _ _ _ _ _ _ _; rw [HLD.out, HPD.out]; exact HK3.out.set1 _⟩
          case measure => simp [intOf]; omega
    · have hin : i = es.length := by omega
      subst hin
      have D := hide (degrees40 m p es cap wr (HH.out.later HBr.out) HM.out)
      go_wp2_with fail
      refine D.out.mono ?_
      rintro e w4 ⟨g, rfl, hR, hb4⟩
      have HR := hide hR
      have HB4 := hide (below_step HBr.out hb4)
      have HK4 := hide (HK.out.later hb4)
      have HZ4 := hide (HZ.out.later hb4)
      have hgl := hR.lt
      have hk3l : k3 < wr.heap.size := block_lt_of_cell HK.out.cells.1
      have ng : k3 ≠ g := by omega
      clear hR hb4 hgl hk3l D q0 q1 HN HZ HK
      obtain ⟨a, ha⟩ : ∃ a, lpN es es.length = a := ⟨_, rfl⟩
      obtain ⟨c, hc⟩ : ∃ c, pcN es es.length = c := ⟨_, rfl⟩
      obtain ⟨L, hL⟩ : ∃ L, degN es m es.length = L := ⟨_, rfl⟩
      obtain ⟨B, hB⟩ : ∃ B, wr.heap.size = B := ⟨_, rfl⟩
      have HV : Hid (lookV es m = .agg #[.int .i64 a, .int .i64 c, .int .i64 (leN L m), .int .i64 (grN L m), .bool (decide (a = 0) && decide (c = 0))]) := by show _ = _; unfold lookV; rw [ha, hc, hL]
      rw [ha, hc] at HK4
      rw [hL, hB] at HR
      clear ha hc hL hB
      go_wp2_with fail
      go_loopw [6] (fun t wr => ∃ v : Nat, v ≤ m ∧ t = .int .i64 v ∧ Hid (Below w.heap.size w wr) ∧ Hid (IRow wr B g m L) ∧ Hid (LB wr k2 0 0 0 0 false) ∧ Hid (LB wr k3 a c (leN L v) (grN L v) false)) (fun t _ => m - (intOf t).toNat)
      case atStart => exact ⟨0, by omega, rfl, HB4.out, HR.out, HZ4.out, HK4.out⟩
      case round =>
        obtain ⟨v, hv, rfl, HBv, HRv, HZv, HKv⟩ := hrel
        by_cases hvm : v < m
        · obtain ⟨d0, f0⟩ := HRv.out.cell (j := v) hvm
          have HLE : Hid (leN L (v + 1) = if v = 0 ∨ iat L v < leN L v then iat L v else leN L v) := rfl
          have HGR : Hid (grN L (v + 1) = if grN L v < iat L v then iat L v else grN L v) := rfl
          obtain ⟨y, hy⟩ : ∃ y, iat L v = y := ⟨_, rfl⟩
          obtain ⟨le, hle⟩ : ∃ le, leN L v = le := ⟨_, rfl⟩
          obtain ⟨gr, hgr⟩ : ∃ gr, grN L v = gr := ⟨_, rfl⟩
          rw [hy] at d0 HLE HGR
          rw [hle] at HLE HKv
          rw [hgr] at HGR HKv
          have HY := hide hy
          clear hy hle hgr
          obtain ⟨m0, m1, m2, m3, m4, g0, g1, g2, g3, g4⟩ := HKv.out.cells
          have i1 : (v : Int) < m := by omega
          have i2 : (0 : Int) ≤ v := by omega
          by_cases hv0 : v = 0
          · rw [if_pos (Or.inl hv0)] at HLE
            have hvb : ((v : Int) == 0) = true := by simp [hv0]
            have HV0 := hide hv0
            clear hv0
            have D0 := cell_regrown d0
            have M2 := cell_regrown m2
            go_wp2_with fail
            refine wp_region_quiet_below (by kernel_rfl) (by kernel_rfl) ?_
            repeat (go_big_quiet_step (fail))
            refine wpQuiet_nil ?_
            intro x1 hw'
            have hb1 : Below wr.heap.size wr x1 := by
              obtain ⟨⟨dq, osq⟩, hw''⟩ := hw'
              rw [hw'']
              exact below_regrown wr dq osq
            have HR1 := hide (HRv.out.later hb1)
            have HZ1 := hide (HZv.out.later hb1)
            have HK1 := hide (HKv.out.later hb1)
            have HB1 := hide (below_step HBv.out hb1)
            clear hw' hb1 d0 f0 m0 m1 m2 m3 m4 g0 g1 g2 g3 g4 D0 M2 HRv HZv HKv HBv
            obtain ⟨X2, hX2⟩ : ∃ X2, X2 = x1.setCell ⟨k3, 2, none⟩ (.int .i64 y) := ⟨_, rfl⟩
            have HK2 : Hid (LB X2 k3 a c y gr false) := by show LB _ _ _ _ _ _ _; rw [hX2]; exact HK1.out.set2 _
            have HZ2 : Hid (LB X2 k2 0 0 0 0 false) := by show LB _ _ _ _ _ _ _; rw [hX2]; exact HZ1.out.other n23 _
            have HR2 : Hid (IRow X2 B g m L) := by show IRow _ _ _ _ _; rw [hX2]; exact irow_other HR1.out ng _
            have HB2 : Hid (Below w.heap.size w X2) := by show Below _ _ _; rw [hX2]; exact HB1.out.setCell hk3 _
            obtain ⟨d0, f0⟩ := HR1.out.cell (j := v) hvm
            rw [HY.out] at d0
            obtain ⟨m0, m1, m2, m3, m4, g0, g1, g2, g3, g4⟩ := HK1.out.cells
            go_upto_region 15 with fail
            rw [← hX2]
            clear hX2 d0 f0 m0 m1 m2 m3 m4 g0 g1 g2 g3 g4
            clear HR1 HZ1 HK1 HB1
            obtain ⟨d0, f0⟩ := HR2.out.cell (j := v) hvm
            rw [HY.out] at d0
            obtain ⟨m0, m1, m2, m3, m4, g0, g1, g2, g3, g4⟩ := HK2.out.cells
            go_region
            obtain ⟨V, hV⟩ : ∃ V, V = (X2.setCell ⟨k3, 3, none⟩ (.int .i64 (if gr < y then y else gr))).drew := ⟨_, rfl⟩
            have HK5 : Hid (LB V k3 a c y (if gr < y then y else gr) false) := by show LB _ _ _ _ _ _ _; rw [hV]; exact (HK2.out.set3 _).later (below_drew _)
            have HZ5 : Hid (LB V k2 0 0 0 0 false) := by show LB _ _ _ _ _ _ _; rw [hV]; exact (HZ2.out.other n23 _).later (below_drew _)
            have HR5 : Hid (IRow V B g m L) := by show IRow _ _ _ _ _; rw [hV]; exact (irow_other HR2.out ng _).later (below_drew _)
            have HB5 : Hid (Below w.heap.size w V) := by show Below _ _ _; rw [hV]; exact below_step (HB2.out.setCell hk3 _) (below_drew _)
            rw [← hV]
            clear hV HK2 HZ2 HR2 HB2 d0 f0 m0 m1 m2 m3 m4 g0 g1 g2 g3 g4
            rw [← HGR.out, ← HLE.out] at HK5
            go_wp2
            go_roundw
            case rel =>
              first
              | exact ⟨v + 1, by omega, by go_num, HB5.out, HR5.out, HZ5.out, HK5.out⟩
              | (repeat apply Exists.intro
                 exact ⟨⟨v + 1, by omega, by go_num, HB5.out, HR5.out, HZ5.out, HK5.out⟩, rfl⟩)
            case measure => simp [intOf]; omega
          · have hvb : ((v : Int) == 0) = false := by simp [hv0]
            by_cases hyl : y < le
            · rw [if_pos (Or.inr hyl)] at HLE
              have hyb : decide (y < le) = true := by simp [hyl]
              clear hv0 hyl
              have D0 := cell_regrown d0
              have M2 := cell_regrown m2
              go_wp2_with fail
              refine wp_region_quiet_below (by kernel_rfl) (by kernel_rfl) ?_
              repeat (go_big_quiet_step (fail))
              refine wpQuiet_nil ?_
              intro x1 hw'
              have hb1 : Below wr.heap.size wr x1 := by
                obtain ⟨⟨dq, osq⟩, hw''⟩ := hw'
                rw [hw'']
                exact below_regrown wr dq osq
              have HR1 := hide (HRv.out.later hb1)
              have HZ1 := hide (HZv.out.later hb1)
              have HK1 := hide (HKv.out.later hb1)
              have HB1 := hide (below_step HBv.out hb1)
              clear hw' hb1 d0 f0 m0 m1 m2 m3 m4 g0 g1 g2 g3 g4 D0 M2 HRv HZv HKv HBv
              obtain ⟨X2, hX2⟩ : ∃ X2, X2 = x1.setCell ⟨k3, 2, none⟩ (.int .i64 y) := ⟨_, rfl⟩
              have HK2 : Hid (LB X2 k3 a c y gr false) := by show LB _ _ _ _ _ _ _; rw [hX2]; exact HK1.out.set2 _
              have HZ2 : Hid (LB X2 k2 0 0 0 0 false) := by show LB _ _ _ _ _ _ _; rw [hX2]; exact HZ1.out.other n23 _
              have HR2 : Hid (IRow X2 B g m L) := by show IRow _ _ _ _ _; rw [hX2]; exact irow_other HR1.out ng _
              have HB2 : Hid (Below w.heap.size w X2) := by show Below _ _ _; rw [hX2]; exact HB1.out.setCell hk3 _
              obtain ⟨d0, f0⟩ := HR1.out.cell (j := v) hvm
              rw [HY.out] at d0
              obtain ⟨m0, m1, m2, m3, m4, g0, g1, g2, g3, g4⟩ := HK1.out.cells
              go_upto_region 15 with fail
              rw [← hX2]
              clear hX2 d0 f0 m0 m1 m2 m3 m4 g0 g1 g2 g3 g4
              clear HR1 HZ1 HK1 HB1
              obtain ⟨d0, f0⟩ := HR2.out.cell (j := v) hvm
              rw [HY.out] at d0
              obtain ⟨m0, m1, m2, m3, m4, g0, g1, g2, g3, g4⟩ := HK2.out.cells
              go_region
              obtain ⟨V, hV⟩ : ∃ V, V = (X2.setCell ⟨k3, 3, none⟩ (.int .i64 (if gr < y then y else gr))).drew := ⟨_, rfl⟩
              have HK5 : Hid (LB V k3 a c y (if gr < y then y else gr) false) := by show LB _ _ _ _ _ _ _; rw [hV]; exact (HK2.out.set3 _).later (below_drew _)
              have HZ5 : Hid (LB V k2 0 0 0 0 false) := by show LB _ _ _ _ _ _ _; rw [hV]; exact (HZ2.out.other n23 _).later (below_drew _)
              have HR5 : Hid (IRow V B g m L) := by show IRow _ _ _ _ _; rw [hV]; exact (irow_other HR2.out ng _).later (below_drew _)
              have HB5 : Hid (Below w.heap.size w V) := by show Below _ _ _; rw [hV]; exact below_step (HB2.out.setCell hk3 _) (below_drew _)
              rw [← hV]
              clear hV HK2 HZ2 HR2 HB2 d0 f0 m0 m1 m2 m3 m4 g0 g1 g2 g3 g4
              rw [← HGR.out, ← HLE.out] at HK5
              go_wp2
              go_roundw
              case rel =>
                first
                | exact ⟨v + 1, by omega, by go_num, HB5.out, HR5.out, HZ5.out, HK5.out⟩
                | (repeat apply Exists.intro
                   exact ⟨⟨v + 1, by omega, by go_num, HB5.out, HR5.out, HZ5.out, HK5.out⟩, rfl⟩)
              case measure => simp [intOf]; omega
            · rw [if_neg (by omega)] at HLE
              have hyb : decide (y < le) = false := by simp; omega
              clear hv0 hyl
              have D0 := cell_regrown d0
              have M2 := cell_regrown m2
              go_wp2_with fail
              refine wp_region_quiet_below (by kernel_rfl) (by kernel_rfl) ?_
              repeat (go_big_quiet_step (fail))
              refine wpQuiet_nil ?_
              intro x1 hw'
              have hb1 : Below wr.heap.size wr x1 := by
                obtain ⟨⟨dq, osq⟩, hw''⟩ := hw'
                rw [hw'']
                exact below_regrown wr dq osq
              have HR1 := hide (HRv.out.later hb1)
              have HZ1 := hide (HZv.out.later hb1)
              have HK1 := hide (HKv.out.later hb1)
              have HB1 := hide (below_step HBv.out hb1)
              clear hw' hb1 d0 f0 m0 m1 m2 m3 m4 g0 g1 g2 g3 g4 D0 M2 HRv HZv HKv HBv
              obtain ⟨X2, hX2⟩ : ∃ X2, X2 = x1 := ⟨_, rfl⟩
              go_upto_region 15 with fail
              rw [← hX2] at HR1 HZ1 HK1 HB1 ⊢
              have HK2 := HK1
              have HZ2 := HZ1
              have HR2 := HR1
              have HB2 := HB1
              clear hX2
              clear HR1 HZ1 HK1 HB1
              obtain ⟨d0, f0⟩ := HR2.out.cell (j := v) hvm
              rw [HY.out] at d0
              obtain ⟨m0, m1, m2, m3, m4, g0, g1, g2, g3, g4⟩ := HK2.out.cells
              go_region
              obtain ⟨V, hV⟩ : ∃ V, V = (X2.setCell ⟨k3, 3, none⟩ (.int .i64 (if gr < y then y else gr))).drew := ⟨_, rfl⟩
              have HK5 : Hid (LB V k3 a c le (if gr < y then y else gr) false) := by show LB _ _ _ _ _ _ _; rw [hV]; exact (HK2.out.set3 _).later (below_drew _)
              have HZ5 : Hid (LB V k2 0 0 0 0 false) := by show LB _ _ _ _ _ _ _; rw [hV]; exact (HZ2.out.other n23 _).later (below_drew _)
              have HR5 : Hid (IRow V B g m L) := by show IRow _ _ _ _ _; rw [hV]; exact (irow_other HR2.out ng _).later (below_drew _)
              have HB5 : Hid (Below w.heap.size w V) := by show Below _ _ _; rw [hV]; exact below_step (HB2.out.setCell hk3 _) (below_drew _)
              rw [← hV]
              clear hV HK2 HZ2 HR2 HB2 d0 f0 m0 m1 m2 m3 m4 g0 g1 g2 g3 g4
              rw [← HGR.out, ← HLE.out] at HK5
              go_wp2
              go_roundw
              case rel =>
                first
                | exact ⟨v + 1, by omega, by go_num, HB5.out, HR5.out, HZ5.out, HK5.out⟩
                | (repeat apply Exists.intro
                   exact ⟨⟨v + 1, by omega, by go_num, HB5.out, HR5.out, HZ5.out, HK5.out⟩, rfl⟩)
              case measure => simp [intOf]; omega
        · have hin : v = m := by omega
          rw [hin] at HKv
          clear hin
          have hvb : ¬ (v : Int) < m := by omega
          obtain ⟨le, hle⟩ : ∃ le, leN L m = le := ⟨_, rfl⟩
          obtain ⟨gr, hgr⟩ : ∃ gr, grN L m = gr := ⟨_, rfl⟩
          rw [hle, hgr] at HKv HV
          clear hle hgr
          obtain ⟨m0, m1, m2, m3, m4, g0, g1, g2, g3, g4⟩ := HKv.out.cells
          obtain ⟨z0, z1, z2, z3, z4, y0, y1, y2, y3, y4⟩ := HZv.out.cells
          by_cases ha0 : a = 0
          · subst ha0
            by_cases hc0 : c = 0
            · subst hc0
              obtain ⟨V, hV⟩ : ∃ V, V = (((((wr.setCell ⟨k3, 4, none⟩ (.bool true)).setCell ⟨k2, 0, none⟩ (.int .i64 0)).setCell ⟨k2, 1, none⟩ (.int .i64 0)).setCell ⟨k2, 2, none⟩ (.int .i64 le)).setCell ⟨k2, 3, none⟩ (.int .i64 gr)).setCell ⟨k2, 4, none⟩ (.bool true) := ⟨_, rfl⟩
              have HKV : Hid (LB V k2 0 0 le gr true) := by show LB _ _ _ _ _ _ _; rw [hV]; exact (((((HZv.out.other n23 _).set0 _).set1 _).set2 _).set3 _).set4 _
              have HBV : Hid (Below w.heap.size w V) := by show Below _ _ _; rw [hV]; exact (((((HBv.out.setCell hk3 _).setCell hk2w _).setCell hk2w _).setCell hk2w _).setCell hk2w _).setCell hk2w _
              go_wp2
              rw [← hV]
              exact bodyPost_ret (ret_look1 Try.results42 rfl HKV.out) rfl ⟨by rw [HV.out]; simp, HBV.out⟩
            · have e2 : (c == 0) = false := by simpa using hc0
              obtain ⟨V, hV⟩ : ∃ V, V = (((((wr.setCell ⟨k3, 4, none⟩ (.bool false)).setCell ⟨k2, 0, none⟩ (.int .i64 0)).setCell ⟨k2, 1, none⟩ (.int .i64 c)).setCell ⟨k2, 2, none⟩ (.int .i64 le)).setCell ⟨k2, 3, none⟩ (.int .i64 gr)).setCell ⟨k2, 4, none⟩ (.bool false) := ⟨_, rfl⟩
              have HKV : Hid (LB V k2 0 c le gr false) := by show LB _ _ _ _ _ _ _; rw [hV]; exact (((((HZv.out.other n23 _).set0 _).set1 _).set2 _).set3 _).set4 _
              have HBV : Hid (Below w.heap.size w V) := by show Below _ _ _; rw [hV]; exact (((((HBv.out.setCell hk3 _).setCell hk2w _).setCell hk2w _).setCell hk2w _).setCell hk2w _).setCell hk2w _
              go_wp2
              rw [← hV]
              exact bodyPost_ret (ret_look1 Try.results42 rfl HKV.out) rfl ⟨by rw [HV.out]; simp [hc0], HBV.out⟩
          · have e1 : (a == 0) = false := by simpa using ha0
            obtain ⟨V, hV⟩ : ∃ V, V = (((((wr.setCell ⟨k3, 4, none⟩ (.bool false)).setCell ⟨k2, 0, none⟩ (.int .i64 a)).setCell ⟨k2, 1, none⟩ (.int .i64 c)).setCell ⟨k2, 2, none⟩ (.int .i64 le)).setCell ⟨k2, 3, none⟩ (.int .i64 gr)).setCell ⟨k2, 4, none⟩ (.bool false) := ⟨_, rfl⟩
            have HKV : Hid (LB V k2 a c le gr false) := by show LB _ _ _ _ _ _ _; rw [hV]; exact (((((HZv.out.other n23 _).set0 _).set1 _).set2 _).set3 _).set4 _
            have HBV : Hid (Below w.heap.size w V) := by show Below _ _ _; rw [hV]; exact (((((HBv.out.setCell hk3 _).setCell hk2w _).setCell hk2w _).setCell hk2w _).setCell hk2w _).setCell hk2w _
            go_wp2
            rw [← hV]
            exact bodyPost_ret (ret_look1 Try.results42 rfl HKV.out) rfl ⟨by rw [HV.out]; simp [ha0], HBV.out⟩
end Go.Proofs.Ytmmbbfmkhbengaa
