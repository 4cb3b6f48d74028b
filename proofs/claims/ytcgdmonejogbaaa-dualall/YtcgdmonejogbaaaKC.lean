/- Apart: the lists that were kept, each written full by its number, still hold their own marks. -/
import Derived.Test.YtcgdmonejogbaaaKA
open List renaming setIfInBounds_toArray → lD, set_cons_zero → lE, set_cons_succ → lF
namespace Go.Proofs.Ytcgdmonejogbaaa
open Go.RowKit Go.Sort
open Go
/-- A bag of lists, however long. -/
structure Bg (w : World) (B k : Nat) (lv : Value) (n : Nat) (rv : Nat → Value) (L : Nat → List Int) (sz : Nat) : Prop where
  box : w.ownsRow 0 37 2 (.slice (some ⟨k, 0, none⟩) 1 1) 1 [lv, .int .i64 sz]
  kB : B ≤ k
  lst : w.ownsRow B 44 1 lv n ((List.range n).map rv)
  uniq : ∀ u v j, u < n → v < n → (rv u).ownBlock = some j → (rv v).ownBlock = some j → u = v
  own : ∀ v, v < n → IOwns w B (rv v) (L v)
variable {w w' : World} {B k n sz gl cl a : Nat} {lv v' : Value} {rv : Nat → Value} {L : Nat → List Int} {L' : List Int}
theorem Bag.bg (h : Bag w B k lv n rv L sz) : Bg w B k lv n rv L sz := ⟨h.box, h.kB, h.lst, h.uniq, h.own⟩
theorem Bg.later (h : Bg w B k lv n rv L sz) (hb : Below w.heap.size w w') : Bg w' B k lv n rv L sz :=
  ⟨World.ownsRow.kept h.box (grown_below hb) (Or.inr (by simp [Value.ownBlock])), h.kB, World.ownsRow.kept h.lst (grown_below hb) (by cases lv.ownBlock <;> simp), h.uniq, fun v hv => (h.own v hv).later hb⟩
theorem Bg.cell (h : Bg w B k lv n rv L sz) : w.cell? ⟨k, 0, none⟩ = some lv := World.ownsRow.cellAt h.box 0 (by omega)
theorem Bg.row (h : Bg w B k (.slice (some ⟨gl, 0, none⟩) n cl) n rv L sz) (ha : a < n) : w.cell? ⟨gl, a, none⟩ = some (rv a) ∧ w.frozen? ⟨gl, a, none⟩ = false := by
  refine ⟨?_, World.ownsRow.frozenAt h.lst a⟩
  rw [World.ownsRow.cellAt h.lst a (by omega)]
  simp [ha]
theorem Bg.rk (h : Bg w B k lv n rv L sz) {v : Nat} (hv : v < n) : (rv v).ownBlock ≠ some k := by
  obtain ⟨cur, hk⟩ := row_kind h.box
  exact row_apart hk (h.own v hv) (by decide)
theorem Bg.put (h : Bg w B k (.slice (some ⟨gl, 0, none⟩) n cl) n rv L sz) (ha : a < n) (o : IOwns w' B v' L') (gr : w.grownBy w' (rv a).ownBlock) (hv : v'.ownBlock = (rv a).ownBlock ∨ v'.ownBlock = some w.heap.size) :
    Bg (w'.setCell ⟨gl, a, none⟩ v') B k (.slice (some ⟨gl, 0, none⟩) n cl) n (upd rv a v') (upd L a L') sz ∧ w'.cell? ⟨gl, a, none⟩ = some (rv a) ∧ w'.frozen? ⟨gl, a, none⟩ = false ∧ gl < w'.heap.size ∧ w'.cell? ⟨k, 0, none⟩ = some (.slice (some ⟨gl, 0, none⟩) n cl) ∧ k ≠ gl := by
  obtain ⟨h0, hkB, h1, h2, h3⟩ := id h
  obtain ⟨cur, hg⟩ := row_kind h1
  have hap : (rv a).ownBlock ≠ some gl := row_apart hg (h3 a ha) (by decide)
  have h1' := World.ownsRow.kept h1 gr (Or.inr (fun e => hap e.symm))
  have h0' := World.ownsRow.kept h0 gr (Or.inr (fun e => h.rk ha e.symm))
  obtain ⟨cur', hg'⟩ := row_kind h1'
  have hkg : (Value.slice (some ⟨k, 0, none⟩) 1 1).ownBlock ≠ some gl := row_apart hg' h0' (by decide)
  have cell : w'.cell? ⟨gl, a, none⟩ = some (rv a) := by rw [World.ownsRow.cellAt h1' a (by omega)]; simp [ha]
  refine ⟨⟨ownsRow_setCell_other (a := ⟨gl, a, none⟩) h0' hkg _, hkB, ?_, ?_, ?_⟩, cell, World.ownsRow.frozenAt h1' a, (World.ownsRow.lt h1' gl rfl).2, World.ownsRow.cellAt h0' 0 (by omega), fun e => hkg (by rw [← e]; rfl)⟩
  · have q := (World.ownsRow.stored h1' a v').1
    rw [show ((List.range n).map (upd rv a v')) = ((List.range n).map rv).set a v' from ?_]
    · exact q
    apply List.ext_getElem
    · simp
    intro i h4 h5
    simp only [List.getElem_map, List.getElem_range, List.getElem_set]
    by_cases hia : a = i
    · subst hia; simp [upd]
    · rw [if_neg hia, upd_other _ _ (fun e => hia e.symm)]
  · intro u v j hu hv' e1 e2
    by_cases hua : u = a <;> by_cases hva : v = a
    · omega
    · rw [hua, upd_same] at e1
      rw [upd_other _ _ hva] at e2
      rcases hv with h | h
      · rw [h] at e1
        rw [hua]
        exact h2 a v j ha hv' e1 e2
      · rw [h] at e1
        have := (World.ownsRow.lt (h3 v hv') j e2).2
        injection e1 with e1
        omega
    · rw [hva, upd_same] at e2
      rw [upd_other _ _ hua] at e1
      rcases hv with h | h
      · rw [h] at e2
        rw [hva]
        exact h2 u a j hu ha e1 e2
      · rw [h] at e2
        have := (World.ownsRow.lt (h3 u hu) j e1).2
        injection e2 with e2
        omega
    · rw [upd_other _ _ hua] at e1
      rw [upd_other _ _ hva] at e2
      exact h2 u v j hu hv' e1 e2
  · intro v hv'
    by_cases hva : v = a
    · rw [hva, upd_same, upd_same]
      exact ownsRow_setCell_other (a := ⟨gl, a, none⟩) o (row_apart hg' o (by decide)) _
    · rw [upd_other _ _ hva, upd_other _ _ hva]
      have k1 : IOwns w' B (rv v) (L v) := by
        refine World.ownsRow.kept (h3 v hv') gr ?_
        cases hb : (rv v).ownBlock with
        | none => exact Or.inl rfl
        | some j => exact Or.inr (fun e => hva (h2 v a j hv' ha hb e.symm))
      exact ownsRow_setCell_other (a := ⟨gl, a, none⟩) k1 (row_apart hg' k1 (by decide)) _
/-- A number written into one of the lists. -/
theorem Bg.store {ga ca j : Nat} {x : Int} (h : Bg w B k (.slice (some ⟨gl, 0, none⟩) n cl) n rv L sz) (ha : a < n) (hr : rv a = .slice (some ⟨ga, 0, none⟩) (L a).length ca) : Bg (w.setCell ⟨ga, j, none⟩ (.int .i64 x)) B k (.slice (some ⟨gl, 0, none⟩) n cl) n rv (upd L a ((L a).set j x)) sz := by
  obtain ⟨h0, hkB, h1, h2, h3⟩ := id h
  obtain ⟨cur, hg⟩ := row_kind h1
  have o := h3 a ha
  have hap : (rv a).ownBlock ≠ some gl := row_apart hg o (by decide)
  have hak := h.rk ha
  rw [hr] at o hap hak
  refine ⟨ownsRow_setCell_other (a := ⟨ga, j, none⟩) h0 (fun e => hak e.symm) _, hkB, ownsRow_setCell_other (a := ⟨ga, j, none⟩) h1 (fun e => hap e.symm) _, h2, fun v hv => ?_⟩
  by_cases hva : v = a
  · rw [hva, upd_same, hr]
    have := o.set j x
    rw [← List.length_set (i := j) (a := x)]
    exact this
  · rw [upd_other _ _ hva]
    refine ownsRow_setCell_other (a := ⟨ga, j, none⟩) (h3 v hv) (fun e => hva (h2 v a ga hv ha e ?_)) _
    rw [hr]; rfl
def rowLen (w : World) (g i : Nat) : Nat :=
  match w.cell? ⟨g, i, none⟩ with
  | some (.slice _ l _) => l
  | _ => 0
theorem rowLen_is (h : Bg w B k (.slice (some ⟨gl, 0, none⟩) n cl) n rv L sz) (ha : a < n) : rowLen w gl a = (L a).length := by
  obtain ⟨p, c, hv, _⟩ := IOwns.form (h.own a ha)
  unfold rowLen
  rw [(h.row ha).1, hv]
/-- What Apart has come to: the first i lists are full of their marks. -/
structure AI (w wr : World) (B k gl cl n i : Nat) (rv : Nat → Value) (L : Nat → List Int) (sz : Nat) : Prop where
  below : Below B w wr
  bg : Bg wr B k (.slice (some ⟨gl, 0, none⟩) n cl) n rv L sz
  full : ∀ j, j < i → L j = List.replicate (L j).length (-1000 - (j : Int))
  all : ∀ j, j < n → (L j).length ≤ 40000
  rest : ∀ j, i ≤ j → j < n → (L j).length ≤ 30000
theorem AI.later {wr wq : World} {i : Nat} (h : AI w wr B k gl cl n i rv L sz) (hb : Below wr.heap.size wr wq) (hB : B ≤ wr.heap.size) : AI w wq B k gl cl n i rv L sz :=
  ⟨Below.trans h.below (hb.mono hB), h.bg.later hb, h.full, h.all, h.rest⟩
/-- While list i is under way: it may be longer. -/
structure AJ (w wr : World) (B k gl cl n i : Nat) (rv : Nat → Value) (L : Nat → List Int) (sz : Nat) : Prop where
  below : Below B w wr
  bg : Bg wr B k (.slice (some ⟨gl, 0, none⟩) n cl) n rv L sz
  full : ∀ j, j < i → L j = List.replicate (L j).length (-1000 - (j : Int))
  all : ∀ j, j < n → (L j).length ≤ 40000
  rest : ∀ j, i < j → j < n → (L j).length ≤ 30000
set_option maxRecDepth 100000 in
set_option maxHeartbeats 8000000 in
theorem apart24 {lv0 : Value} {n sz : Nat} {rv0 : Nat → Value} {L0 : Nat → List Int} (B k : Nat) (w : World) (hbag : Bag w B k lv0 n rv0 L0 sz) (hB : B ≤ w.heap.size) :
    Calls Try.prog 32 #[.pointer (some ⟨k, 0, none⟩)] w fun e w' => e = .returned (.bool true) ∧ Below B w w' := by
  have hnn : n ≤ 1048576 := by have := hbag.cnt; have := hbag.big; omega
  rcases Nat.eq_zero_or_pos n with hn0 | hn0
  · -- no list
    subst hn0
    have x0 := hbag.cells.1
    obtain ⟨pl, ll, cl, rfl, hll⟩ : ∃ pl ll cl, lv0 = .slice pl ll cl ∧ ll = 0 := by
      rcases hbag.lst.2 with ⟨h1, _⟩ | ⟨g1, c1, _, h1, _⟩
      · exact ⟨_, _, _, h1, rfl⟩
      · exact ⟨_, _, _, h1, rfl⟩
    subst hll
    clear hbag
    go_enter Try.func32, Try.ntmps32
    go_wp2_with fail
    go_loopw [3] (fun t wr => t = .int .i64 0 ∧ wr = w) (fun _ _ => 0)
    case atStart => exact ⟨rfl, rfl⟩
    case round =>
      obtain ⟨rfl, hw⟩ := hrel
      have hw := hw.symm
      subst hw
      go_wp2_with fail
      go_loopw [6] (fun t wr => t = .int .i64 0 ∧ wr = w) (fun _ _ => 0)
      case atStart => exact ⟨rfl, rfl⟩
      case round =>
        obtain ⟨rfl, hw⟩ := hrel
        have hw := hw.symm
        subst hw
        go_wp2
        go_ret
        exact ⟨rfl, Below.refl _ _⟩
  obtain ⟨gl, cl, hlv, _, _⟩ := World.ownsRow.form hbag.lst hn0
  subst hlv
  have H0 : Hid (∃ rv L, AI w w B k gl cl n 0 rv L sz) := ⟨rv0, L0, Below.refl _ _, hbag.bg, fun j hj => by omega, fun j hj => by have := hbag.len j hj; omega, fun j _ hj => hbag.len j hj⟩
  have HBS := hide hB
  clear hbag hB
  go_enter Try.func32, Try.ntmps32
  go_wp2_with fail
  go_loopw [3] (fun t wr => ∃ i : Nat, i ≤ n ∧ t = .int .i64 i ∧ Hid (∃ rv L, AI w wr B k gl cl n i rv L sz)) (fun t _ => n - (intOf t).toNat)
  case atStart => exact ⟨0, by omega, rfl, H0.out⟩
  case round =>
    obtain ⟨i, hi, rfl, HR⟩ := hrel
    obtain ⟨rv, L, hA⟩ := HR.out
    have x0 := hA.bg.cell
    by_cases hlt : i < n
    · have i1 : (i : Int) < n := by omega
      have i2 : (0 : Int) ≤ i := by omega
      have c0 := (hA.bg.row hlt).1
      obtain ⟨pa, ca, hva, _, hca, _⟩ := IOwns.form (hA.bg.own i hlt)
      have hll := hA.rest i (Nat.le_refl _) hlt
      have HAI := hide hA
      rw [hva] at c0
      obtain ⟨ln, hln⟩ : ∃ ln, (L i).length = ln := ⟨_, rfl⟩
      rw [hln] at c0 hll hca
      clear hA HR hva hln H0
      have RM : ∀ dd os, Calls Try.prog 61 #[.int .i64 ln, .int .i64 ca] (grow (redrawn wr dd) os) fun e w'' => e = .returned (.int .i64 (roomI ln ca)) ∧ ∃ p : Regrown, w'' = grow (redrawn wr p.d) p.os := fun dd os => Calls.regrown_of (room47 ln ca _ (by omega) (by omega))
      have hr0 : roomI ln ca ≤ (ln : Int) + 2000 := by unfold roomI; split <;> omega
      obtain ⟨r, hr⟩ : ∃ r, roomI ln ca = r := ⟨_, rfl⟩
      rw [hr] at RM hr0
      have C0 := cell_regrown c0
      have X0 := cell_regrown x0
      clear hr
      go_upto_region 4 with fail
      refine wp_region_quiet_below (by kernel_rfl) (by kernel_rfl) ?_
      repeat (go_big_quiet_step (with_reducible exact RM _ _))
      refine wpQuiet_nil ?_
      intro X hw'
      have hb3 : Below wr.heap.size wr X := by
        obtain ⟨⟨dq, osq⟩, hw''⟩ := hw'
        rw [hw'']
        exact below_regrown wr dq osq
      have HAX : Hid (∃ rv L, AJ w X B k gl cl n i rv L sz) := by
        have q := HAI.out.later hb3 (Nat.le_trans HBS.out HAI.out.below.size)
        exact ⟨rv, L, q.below, q.bg, q.full, q.all, fun j h1 h2 => q.rest j (by omega) h2⟩
      clear hw' hb3 c0 C0 RM HAI X0 x0
      have hr1 : r ≤ 32000 := by omega
      clear hr0 hll hca
      go_wp2_with fail
      go_loopw [44] (fun _ wz => Hid (∃ rv L, AJ w wz B k gl cl n i rv L sz)) (fun _ wz => 50000 - rowLen wz gl i)
      case atStart => exact HAX.out
      case round =>
        obtain ⟨rv, L, hJ⟩ := hrel.out
        have HRL := hide (rowLen_is hJ.bg hlt)
        have x0 := hJ.bg.cell
        have c0 := (hJ.bg.row hlt).1
        obtain ⟨pa, ca, hva, _, hca, _⟩ := IOwns.form (hJ.bg.own i hlt)
        have hll := hJ.all i hlt
        have HJ := hide hJ
        have HVA := hide hva
        rw [hva] at c0
        obtain ⟨ln, hln⟩ : ∃ ln, (L i).length = ln := ⟨_, rfl⟩
        have HLN := hide hln
        rw [hln] at c0 hll hca
        clear hJ hrel hva hln HAX
        by_cases hlr : (ln : Int) < r
        · go_upto_region 6 with fail
          have bd : Below wr.heap.size wr wr.drew := below_drew _
          obtain ⟨V0, hV0⟩ : ∃ V, V = wr.drew := ⟨_, rfl⟩
          have HB0 : Hid (Below B w V0) := by show Below _ _ _; rw [hV0]; exact Below.trans HJ.out.below (bd.mono (Nat.le_trans HBS.out HJ.out.below.size))
          have HG0 : Hid (Bg V0 B k (.slice (some ⟨gl, 0, none⟩) n cl) n rv L sz) := by show Bg _ _ _ _ _ _ _ _; rw [hV0]; exact HJ.out.bg.later bd
          have q0 := HG0.out.cell
          clear x0 c0
          refine wp_region_held_drew (S := (fun W' => W'.cell? ⟨k, 0, none⟩ = some (.slice (some ⟨gl, 0, none⟩) n cl))) (by kernel_rfl) (by rw [← hV0]; exact q0) (fun hHeld => ?_)
          rw [← hV0] at hHeld ⊢
          clear hV0 bd
          refine wpAnyH_take (i := 0) (v := ?v1) rfl (by kernel_rfl) (by kernel_rfl) (by kernel_rfl) (fun _ _ _ h => h) (Or.inl ⟨by rfl, ?hy1⟩) (by assumption) ?rest1
          case hy1 => (intro w hSw; (try dsimp only at hSw); go_simp; try with_reducible rfl)
          try simp only [Act.put, lD]
          refine wpAnyH_take (i := 1) (v := ?v2) rfl (by kernel_rfl) (by kernel_rfl) (by kernel_rfl) (fun _ _ _ h => h) (Or.inl ⟨by rfl, ?hy2⟩) (by assumption) ?rest2
          case hy2 => (intro w hSw; (try dsimp only at hSw); go_simp; try with_reducible rfl)
          try simp only [Act.put]
          refine wpAnyH_take (i := 2) (v := ?v3) rfl (by kernel_rfl) (by kernel_rfl) (by kernel_rfl) (fun _ _ _ h => h) (Or.inl ⟨by rfl, ?hy3⟩) (by assumption) ?rest3
          case hy3 => (intro w hSw; (try dsimp only at hSw); go_simp; try with_reducible rfl)
          try simp only [Act.put]
          refine wpAnyH_take (i := 3) (v := ?v4) rfl (by kernel_rfl) (by kernel_rfl) (by kernel_rfl) (fun _ _ _ h => h) (Or.inl ⟨by rfl, ?hy4⟩) (by assumption) ?rest4
          case hy4 => (intro w hSw; (try dsimp only at hSw); go_simp; try with_reducible rfl)
          try simp only [Act.put]
          refine wpAnyH_take (i := 4) (v := ?v5) rfl (by kernel_rfl) (by kernel_rfl) (by kernel_rfl) (fun _ _ _ h => h) (Or.inl ⟨by rfl, ?hy5⟩) (by assumption) ?rest5
          case hy5 => (intro w hSw; (try dsimp only at hSw); go_simp; try with_reducible rfl)
          try simp only [Act.put]
          refine wpAnyH_take (i := 5) (v := ?v6) rfl (by kernel_rfl) (by kernel_rfl) (by kernel_rfl) (fun _ _ _ h => h) (Or.inl ⟨by rfl, ?hy6⟩) (by assumption) ?rest6
          case hy6 => (intro w hSw; (try dsimp only at hSw); go_simp; try with_reducible rfl)
          try simp only [Act.put]
          refine wpAnyH_take (i := 6) (v := ?v7) rfl (by kernel_rfl) (by kernel_rfl) (by kernel_rfl) (fun _ _ _ h => h) (Or.inl ⟨by rfl, ?hy7⟩) (by assumption) ?rest7
          case hy7 => (intro w hSw; (try dsimp only at hSw); go_simp; try with_reducible rfl)
          try simp only [Act.put]
          refine wpAnyH_take (i := 7) (v := ?v8) rfl (by kernel_rfl) (by kernel_rfl) (by kernel_rfl) (fun _ _ _ h => h) (Or.inl ⟨by rfl, ?hy8⟩) (by assumption) ?rest8
          case hy8 => (intro w hSw; (try dsimp only at hSw); go_simp; try with_reducible rfl)
          try simp only [Act.put]
          refine wpAnyH_take (i := 8) (v := ?v9) rfl (by kernel_rfl) (by kernel_rfl) (by kernel_rfl) (fun _ _ _ h => h) (Or.inl ⟨by rfl, ?hy9⟩) (by assumption) ?rest9
          case hy9 => (intro w hSw; (try dsimp only at hSw); go_simp; try with_reducible rfl)
          try simp only [Act.put]
          refine wpAnyH_take (i := 9) (v := ?v10) rfl (by kernel_rfl) (by kernel_rfl) (by kernel_rfl) (fun _ _ _ h => h) (Or.inl ⟨by rfl, ?hy10⟩) (by assumption) ?rest10
          case hy10 => (intro w hSw; (try dsimp only at hSw); go_simp; try with_reducible rfl)
          try simp only [Act.put]
          refine wpAnyH_take (i := 10) (v := ?v11) rfl (by kernel_rfl) (by kernel_rfl) (by kernel_rfl) (fun _ _ _ h => h) (Or.inl ⟨by rfl, ?hy11⟩) (by assumption) ?rest11
          case hy11 => (intro w hSw; (try dsimp only at hSw); go_simp; try with_reducible rfl)
          try simp only [Act.put]
          refine wpAnyH_ready (rs := [11, 12]) (by kernel_rfl) (by simp) ?_
          refine ready_cons ({ dst := some 55, op := Op.load 44 (Operand.tmp 54), type := 44, pos := "law.go:64", after := #[{ on := 10, ground := Ground.data }], guard := none }) rfl rfl (fun K hK => ?_) ?_
          · clear hHeld
            have d0 := (HG0.out.row hlt).1
            rw [HVA.out, HLN.out] at d0
            refine wp_val (v := ?vl1) (w2 := V0) ?hl1 ?_
            case hl1 => (go_simp; try with_reducible rfl)
            clear d0
            refine hK.out _ _ (by first | exact q0 | (dsimp only; exact q0) | exact cell_other q0 hkg) (fun hHeld => ?_)
            clear hK K
            try simp only [Act.put]
            refine wpAnyH_ready (rs := [12]) (by kernel_rfl) (by simp) ?_
            refine ready_cons ({ dst := some 56, op := Op.buildSlice 44 1 #[(0, Operand.const (Value.int IntKind.i64 0))], type := 44, pos := "law.go:64", after := #[], guard := none }) rfl rfl (fun K hK => ?_) ?_
            · clear hHeld
              go_simp
              obtain ⟨V1, hV⟩ : ∃ V, V = V0.alloc (.cells #[.int .i64 0] 3) := ⟨_, rfl⟩
              have hb2 : Below V0.heap.size V0 V1 := by rw [hV]; go_grown
              have HL1 : Hid (V1.cell? ⟨V0.heap.size, 0, none⟩ = some (.int .i64 0)) := by show _ = _; rw [hV]; exact one_int _ _
              rw [← hV]
              have HB1 : Hid (Below B w V1) := Below.trans HB0.out (hb2.mono (Nat.le_trans HBS.out HB0.out.size))
              have HG1 := hide (HG0.out.later hb2)
              clear hV hb2 q0
              have q0 := HG1.out.cell
              refine hK.out _ _ (by first | exact q0 | (dsimp only; exact q0) | exact cell_other q0 hkg) (fun hHeld => ?_)
              clear hK K
              try simp only [Act.put, lD, lE, lF]
              refine wpAnyH_ready (rs := [13]) (by kernel_rfl) (by simp) ?_
              refine ready_cons ({ dst := some 57, op := Op.call { callee := Callee.builtin Builtin.append, args := #[Operand.tmp 55, Operand.tmp 56], argTypes := #[44, 44] }, type := 44, pos := "law.go:64", after := #[{ on := 11, ground := Ground.data }, { on := 12, ground := Ground.data }], guard := none }) rfl rfl (fun K hK => ?_) ?_
              · clear hHeld
                have hrx := HG1.out.own i hlt
                obtain ⟨v1, V2, e4, o4, gr4, at4⟩ := append_int hrx HL1.out (Nat.le_trans HBS.out HB1.out.size) (by have := HLN.out; omega)
                obtain ⟨p1, l1, c1, rfl⟩ : ∃ p1 l1 c1, v1 = .slice p1 l1 c1 := by obtain ⟨p1, c1, h1, _⟩ := o4.form; exact ⟨_, _, _, h1⟩
                have HB2 : Hid (Below B w V2) := below_grown HB1.out hrx (Nat.le_refl _) (Nat.le_trans HBS.out HB1.out.size) gr4
                obtain ⟨g4, g5, g6, g7, g8, g9⟩ := HG1.out.put hlt o4 gr4 at4
                rw [HVA.out, HLN.out] at e4 g5
                have HG4 := hide g4
                have HGB : Hid (B ≤ gl) := (World.ownsRow.lt HG1.out.lst gl rfl).1
                have HE2 : Hid (gl < V2.heap.size ∧ V2.cell? ⟨gl, i, none⟩ = some (.slice pa ln ca) ∧ V2.frozen? ⟨gl, i, none⟩ = false) := ⟨g7, g5, g6⟩
                clear q0
                have q0 := g8
                have hkg := g9
                refine oper_append (.tmp 55) (.tmp 56) 44 (by rfl) 44 (by rfl) (.slice pa ln ca) (.slice (some ⟨V0.heap.size, 0, none⟩) 1 1) (.slice p1 l1 c1) V2 (by rfl) (by rfl) ?_ ?_
                with_reducible exact e4
                clear hrx o4 gr4 at4 e4 g4 g5 g6 g7 g8 g9
                refine hK.out _ _ (by first | exact q0 | (dsimp only; exact q0) | exact cell_other q0 hkg) (fun hHeld => ?_)
                clear hK K
                try simp only [Act.put, lD, lE, lF]
                refine wpAnyH_take (i := 14) (v := ?v12) rfl (by kernel_rfl) (by kernel_rfl) (by kernel_rfl) (fun _ _ _ h => h) (Or.inl ⟨by rfl, ?hy12⟩) (by assumption) ?rest12
                case hy12 => (intro w hSw; (try dsimp only at hSw); go_simp; try with_reducible rfl)
                try simp only [Act.put, lD]
                refine wpAnyH_ready (rs := [15]) (by kernel_rfl) (by simp) ?_
                refine ready_cons ({ dst := none, op := Op.store 44 (Operand.tmp 58) (Operand.tmp 57), type := 0, pos := "law.go:64", after := #[{ on := 14, ground := Ground.data }, { on := 13, ground := Ground.data }, { on := 13, ground := Ground.chain }, { on := 0, ground := Ground.phase }, { on := 1, ground := Ground.phase }, { on := 2, ground := Ground.phase }, { on := 3, ground := Ground.phase }, { on := 4, ground := Ground.phase }, { on := 5, ground := Ground.phase }, { on := 6, ground := Ground.phase }, { on := 7, ground := Ground.phase }, { on := 8, ground := Ground.phase }, { on := 9, ground := Ground.phase }, { on := 10, ground := Ground.phase }, { on := 11, ground := Ground.phase }, { on := 12, ground := Ground.phase }, { on := 13, ground := Ground.phase }], guard := none }) rfl rfl (fun K hK => ?_) ?_
                · clear hHeld
                  obtain ⟨hgl, d0, e0⟩ := HE2.out
                  go_simp
                  clear d0 e0
                  refine hK.out _ _ (by first | exact q0 | (dsimp only; exact q0) | exact cell_other q0 hkg) (fun hHeld => ?_)
                  clear hK K
                  try simp only [Act.put, lD, lE, lF]
                  refine wpAnyH_done (by kernel_rfl) ?_ _
                  clear hHeld
                  obtain ⟨Z, hZ⟩ : ∃ Z, Z = V2.setCell ⟨gl, i, none⟩ (.slice p1 l1 c1) := ⟨_, rfl⟩
                  rw [← hZ] at HG4
                  have HBZ : Hid (Below B w Z) := by show Below _ _ _; rw [hZ]; exact HB2.out.setCell HGB.out _
                  rw [← hZ]
                  have HZ : Hid (AJ w Z B k gl cl n i (upd rv i (.slice p1 l1 c1)) (upd L i (L i ++ [0])) sz) := by
                    refine ⟨HBZ.out, HG4.out, ?_, ?_, ?_⟩
                    · intro j hj; rw [upd_other _ _ (by omega)]; exact HJ.out.full j hj
                    · intro j hj
                      by_cases e : j = i
                      · rw [e, upd_same, List.length_append, HLN.out, List.length_cons, List.length_nil]; omega
                      · rw [upd_other _ _ e]; exact HJ.out.all j hj
                    · intro j h1 h2; rw [upd_other _ _ (by omega)]; exact HJ.out.rest j h1 h2
                  have HML : Hid (rowLen Z gl i = ln + 1) := by
                    show _ = _
                    rw [rowLen_is HZ.out.bg hlt, upd_same, List.length_append, HLN.out, List.length_cons, List.length_nil]
                  clear hZ HE2 HG4 HBZ HB0 HB1 HB2 HG0 HG1 HL1 q0 HGB hkg
                  go_wp2
                  go_roundw
                  case rel => exact ⟨_, _, HZ.out⟩
                  case measure => rw [HML.out, HRL.out, HLN.out]; omega
                exact AllReadyH.nil
              exact AllReadyH.nil
            exact AllReadyH.nil
          refine ready_cons ({ dst := some 56, op := Op.buildSlice 44 1 #[(0, Operand.const (Value.int IntKind.i64 0))], type := 44, pos := "law.go:64", after := #[], guard := none }) rfl rfl (fun K hK => ?_) ?_
          · clear hHeld
            go_simp
            obtain ⟨V1, hV⟩ : ∃ V, V = V0.alloc (.cells #[.int .i64 0] 3) := ⟨_, rfl⟩
            have hb2 : Below V0.heap.size V0 V1 := by rw [hV]; go_grown
            have HL1 : Hid (V1.cell? ⟨V0.heap.size, 0, none⟩ = some (.int .i64 0)) := by show _ = _; rw [hV]; exact one_int _ _
            rw [← hV]
            have HB1 : Hid (Below B w V1) := Below.trans HB0.out (hb2.mono (Nat.le_trans HBS.out HB0.out.size))
            have HG1 := hide (HG0.out.later hb2)
            clear hV hb2 q0
            have q0 := HG1.out.cell
            refine hK.out _ _ (by first | exact q0 | (dsimp only; exact q0) | exact cell_other q0 hkg) (fun hHeld => ?_)
            clear hK K
            try simp only [Act.put, lD, lE, lF]
            refine wpAnyH_ready (rs := [11]) (by kernel_rfl) (by simp) ?_
            refine ready_cons ({ dst := some 55, op := Op.load 44 (Operand.tmp 54), type := 44, pos := "law.go:64", after := #[{ on := 10, ground := Ground.data }], guard := none }) rfl rfl (fun K hK => ?_) ?_
            · clear hHeld
              have d0 := (HG1.out.row hlt).1
              rw [HVA.out, HLN.out] at d0
              refine wp_val (v := ?vl2) (w2 := V1) ?hl2 ?_
              case hl2 => (go_simp; try with_reducible rfl)
              clear d0
              refine hK.out _ _ (by first | exact q0 | (dsimp only; exact q0) | exact cell_other q0 hkg) (fun hHeld => ?_)
              clear hK K
              try simp only [Act.put, lD, lE, lF]
              refine wpAnyH_ready (rs := [13]) (by kernel_rfl) (by simp) ?_
              refine ready_cons ({ dst := some 57, op := Op.call { callee := Callee.builtin Builtin.append, args := #[Operand.tmp 55, Operand.tmp 56], argTypes := #[44, 44] }, type := 44, pos := "law.go:64", after := #[{ on := 11, ground := Ground.data }, { on := 12, ground := Ground.data }], guard := none }) rfl rfl (fun K hK => ?_) ?_
              · clear hHeld
                have hrx := HG1.out.own i hlt
                obtain ⟨v1, V2, e4, o4, gr4, at4⟩ := append_int hrx HL1.out (Nat.le_trans HBS.out HB1.out.size) (by have := HLN.out; omega)
                obtain ⟨p1, l1, c1, rfl⟩ : ∃ p1 l1 c1, v1 = .slice p1 l1 c1 := by obtain ⟨p1, c1, h1, _⟩ := o4.form; exact ⟨_, _, _, h1⟩
                have HB2 : Hid (Below B w V2) := below_grown HB1.out hrx (Nat.le_refl _) (Nat.le_trans HBS.out HB1.out.size) gr4
                obtain ⟨g4, g5, g6, g7, g8, g9⟩ := HG1.out.put hlt o4 gr4 at4
                rw [HVA.out, HLN.out] at e4 g5
                have HG4 := hide g4
                have HGB : Hid (B ≤ gl) := (World.ownsRow.lt HG1.out.lst gl rfl).1
                have HE2 : Hid (gl < V2.heap.size ∧ V2.cell? ⟨gl, i, none⟩ = some (.slice pa ln ca) ∧ V2.frozen? ⟨gl, i, none⟩ = false) := ⟨g7, g5, g6⟩
                clear q0
                have q0 := g8
                have hkg := g9
                refine oper_append (.tmp 55) (.tmp 56) 44 (by rfl) 44 (by rfl) (.slice pa ln ca) (.slice (some ⟨V0.heap.size, 0, none⟩) 1 1) (.slice p1 l1 c1) V2 (by rfl) (by rfl) ?_ ?_
                with_reducible exact e4
                clear hrx o4 gr4 at4 e4 g4 g5 g6 g7 g8 g9
                refine hK.out _ _ (by first | exact q0 | (dsimp only; exact q0) | exact cell_other q0 hkg) (fun hHeld => ?_)
                clear hK K
                try simp only [Act.put, lD, lE, lF]
                refine wpAnyH_take (i := 14) (v := ?v13) rfl (by kernel_rfl) (by kernel_rfl) (by kernel_rfl) (fun _ _ _ h => h) (Or.inl ⟨by rfl, ?hy13⟩) (by assumption) ?rest13
                case hy13 => (intro w hSw; (try dsimp only at hSw); go_simp; try with_reducible rfl)
                try simp only [Act.put, lD]
                refine wpAnyH_ready (rs := [15]) (by kernel_rfl) (by simp) ?_
                refine ready_cons ({ dst := none, op := Op.store 44 (Operand.tmp 58) (Operand.tmp 57), type := 0, pos := "law.go:64", after := #[{ on := 14, ground := Ground.data }, { on := 13, ground := Ground.data }, { on := 13, ground := Ground.chain }, { on := 0, ground := Ground.phase }, { on := 1, ground := Ground.phase }, { on := 2, ground := Ground.phase }, { on := 3, ground := Ground.phase }, { on := 4, ground := Ground.phase }, { on := 5, ground := Ground.phase }, { on := 6, ground := Ground.phase }, { on := 7, ground := Ground.phase }, { on := 8, ground := Ground.phase }, { on := 9, ground := Ground.phase }, { on := 10, ground := Ground.phase }, { on := 11, ground := Ground.phase }, { on := 12, ground := Ground.phase }, { on := 13, ground := Ground.phase }], guard := none }) rfl rfl (fun K hK => ?_) ?_
                · clear hHeld
                  obtain ⟨hgl, d0, e0⟩ := HE2.out
                  go_simp
                  clear d0 e0
                  refine hK.out _ _ (by first | exact q0 | (dsimp only; exact q0) | exact cell_other q0 hkg) (fun hHeld => ?_)
                  clear hK K
                  try simp only [Act.put, lD, lE, lF]
                  refine wpAnyH_done (by kernel_rfl) ?_ _
                  clear hHeld
                  obtain ⟨Z, hZ⟩ : ∃ Z, Z = V2.setCell ⟨gl, i, none⟩ (.slice p1 l1 c1) := ⟨_, rfl⟩
                  rw [← hZ] at HG4
                  have HBZ : Hid (Below B w Z) := by show Below _ _ _; rw [hZ]; exact HB2.out.setCell HGB.out _
                  rw [← hZ]
                  have HZ : Hid (AJ w Z B k gl cl n i (upd rv i (.slice p1 l1 c1)) (upd L i (L i ++ [0])) sz) := by
                    refine ⟨HBZ.out, HG4.out, ?_, ?_, ?_⟩
                    · intro j hj; rw [upd_other _ _ (by omega)]; exact HJ.out.full j hj
                    · intro j hj
                      by_cases e : j = i
                      · rw [e, upd_same, List.length_append, HLN.out, List.length_cons, List.length_nil]; omega
                      · rw [upd_other _ _ e]; exact HJ.out.all j hj
                    · intro j h1 h2; rw [upd_other _ _ (by omega)]; exact HJ.out.rest j h1 h2
                  have HML : Hid (rowLen Z gl i = ln + 1) := by
                    show _ = _
                    rw [rowLen_is HZ.out.bg hlt, upd_same, List.length_append, HLN.out, List.length_cons, List.length_nil]
                  clear hZ HE2 HG4 HBZ HB0 HB1 HB2 HG0 HG1 HL1 q0 HGB hkg
                  go_wp2
                  go_roundw
                  case rel => exact ⟨_, _, HZ.out⟩
                  case measure => rw [HML.out, HRL.out, HLN.out]; omega
                exact AllReadyH.nil
              exact AllReadyH.nil
            exact AllReadyH.nil
          exact AllReadyH.nil
        · go_wp2_with fail
          clear x0 c0 HRL HVA
          have HI0 : Hid (∃ rv L, AJ w wr B k gl cl n i rv L sz ∧ (L i).length = ln ∧ ∀ j, j < 0 → iat (L i) j = -1000 - (i : Int)) := ⟨rv, L, HJ.out, HLN.out, fun j hj => by omega⟩
          clear HJ HLN
          obtain ⟨w9, hw9⟩ : ∃ w9, w9 = wr := ⟨_, rfl⟩
          rw [← hw9] at HI0 ⊢
          clear hw9
          go_loopw [5] (fun t wy => ∃ q : Nat, q ≤ ln ∧ t = .int .i64 q ∧ Hid (∃ rv L, AJ w wy B k gl cl n i rv L sz ∧ (L i).length = ln ∧ ∀ j, j < q → iat (L i) j = -1000 - (i : Int))) (fun t _ => ln - (intOf t).toNat)
          case atStart => exact ⟨0, by omega, rfl, HI0.out⟩
          case round =>
            obtain ⟨q, hq, rfl, HQ⟩ := hrel
            obtain ⟨rv, L, hJ, hLl, hdone⟩ := HQ.out
            have x0 := hJ.bg.cell
            have c0 := (hJ.bg.row hlt).1
            by_cases hql : q < ln
            · obtain ⟨ga, ca2, hva, _, hgB, _⟩ := iowns_block (hJ.bg.own i hlt) (by omega)
              have o := hJ.bg.own i hlt
              rw [hva] at c0 o
              have d0 := IOwns.at_ o (j := q) (by omega)
              have f0 := IOwns.frozen o q
              have HST := hide (hJ.bg.store (j := q) (x := -1000 - (i : Int)) hlt hva)
              have HBW : Hid (Below B w (wr.setCell ⟨ga, q, none⟩ (.int .i64 (-1000 - (i : Int))))) := hJ.below.setCell hgB _
              have HJJ := hide hJ
              have HDN := hide hdone
              have HLL := hide hLl
              rw [hLl] at c0
              obtain ⟨y, hy⟩ : ∃ y, iat (L i) q = y := ⟨_, rfl⟩
              rw [hy] at d0
              have j1 : (q : Int) < ln := by omega
              have j2 : (0 : Int) ≤ q := by omega
              clear hJ hva hgB o hdone hLl HQ hy
              go_wp2
              go_roundw
              case rel =>
                refine ⟨q + 1, by omega, by go_num, rv, upd L i ((L i).set q (-1000 - (i : Int))), ⟨HBW.out, HST.out, ?_, ?_, ?_⟩, ?_, ?_⟩
                · intro j hj
                  rw [upd_other _ _ (by omega)]
                  exact HJJ.out.full j hj
                · intro j hj
                  by_cases e : j = i
                  · rw [e, upd_same, List.length_set]; exact HJJ.out.all i hlt
                  · rw [upd_other _ _ e]; exact HJJ.out.all j hj
                · intro j h1 h2
                  rw [upd_other _ _ (by omega)]
                  exact HJJ.out.rest j h1 h2
                · rw [upd_same, List.length_set]; exact HLL.out
                · intro j hj
                  rw [upd_same]
                  by_cases e : j = q
                  · rw [e, iat_put (by rw [HLL.out]; exact hql)]
                  · rw [iat_put_ne e]; exact HDN.out j (by omega)
              case measure => simp [intOf]; omega
            · have hqe : q = ln := by omega
              obtain ⟨pa2, ca2, hva, _, _, _⟩ := IOwns.form (hJ.bg.own i hlt)
              rw [hva, hLl] at c0
              have HJJ := hide hJ
              have HDN := hide hdone
              have HLL := hide hLl
              have j1 : ¬ (q : Int) < ln := by omega
              clear hJ hva hdone hLl HQ
              go_wp2
              go_roundw
              case rel =>
                refine ⟨i + 1, by omega, by go_num, rv, L, HJJ.out.below, HJJ.out.bg, ?_, HJJ.out.all, fun j h1 h2 => HJJ.out.rest j (by omega) h2⟩
                intro j hj
                by_cases e : j = i
                · subst e
                  apply List.ext_getElem
                  · simp
                  intro p h1 h2
                  have := HDN.out p (by have := HLL.out; omega)
                  unfold iat at this
                  rw [List.getD_eq_getElem?_getD, List.getElem?_eq_getElem h1] at this
                  rw [List.getElem_replicate]
                  exact this
                · exact HJJ.out.full j (by omega)
              case measure => simp [intOf]; omega
    · have i1 : ¬ (i : Int) < n := by omega
      have hin : i = n := by omega
      subst hin
      have HAI := hide hA
      clear hA HR H0
      go_wp2_with fail
      clear x0
      obtain ⟨V, hV⟩ : ∃ V, V = wr := ⟨_, rfl⟩
      rw [← hV] at HAI ⊢
      clear hV
      go_loopw [6] (fun t wy => ∃ p : Nat, p ≤ i ∧ t = .int .i64 p ∧ wy = V) (fun t _ => i - (intOf t).toNat)
      case atStart => exact ⟨0, by omega, rfl, rfl⟩
      case round =>
        obtain ⟨p, hp, rfl, hw⟩ := hrel
        have hw := hw.symm
        subst hw
        have x0 := HAI.out.bg.cell
        by_cases hpl : p < i
        · have j1 : (p : Int) < i := by omega
          have j2 : (0 : Int) ≤ p := by omega
          have hll := HAI.out.all p hpl
          go_wp2_with fail
          go_loopw [7] (fun t wz => ∃ q : Nat, q ≤ (L p).length ∧ t = .int .i64 q ∧ wz = V) (fun t _ => (L p).length - (intOf t).toNat)
          case atStart => exact ⟨0, by omega, rfl, rfl⟩
          case round =>
            obtain ⟨q, hq, rfl, hw⟩ := hrel
            have hw := hw.symm
            subst hw
            have c0 := (HAI.out.bg.row hpl).1
            obtain ⟨ln, hln⟩ : ∃ ln, (L p).length = ln := ⟨_, rfl⟩
            by_cases hql : q < (L p).length
            · obtain ⟨ga, ca2, hva, _, _, _⟩ := iowns_block (HAI.out.bg.own p hpl) (by omega)
              have o := HAI.out.bg.own p hpl
              rw [hva] at c0 o
              have d0 := IOwns.at_ o (j := q) (by omega)
              have hval : iat (L p) q = -1000 - (p : Int) := by
                have := HAI.out.full p hpl
                rw [this]
                unfold iat
                rw [List.getD_eq_getElem?_getD, List.getElem?_replicate, if_pos hql]
                rfl
              rw [hval] at d0
              have HLN := hide hln
              rw [hln] at c0 hll hq hql
              have j3 : (q : Int) < ln := by omega
              have j4 : (0 : Int) ≤ q := by omega
              have j5 : IntKind.i64.wrap (-1000 - (p : Int)) = -1000 - (p : Int) := IntWalk.i64_in _ (by omega)
              clear hva o hval hln
              go_wp2
              go_roundw
              case rel => exact ⟨q + 1, by have := HLN.out; omega, by go_num, by first | rfl | trivial⟩
              case measure => simp [intOf]; have := HLN.out; omega
            · obtain ⟨pa2, ca2, hva, _, _, _⟩ := IOwns.form (HAI.out.bg.own p hpl)
              rw [hva, hln] at c0
              rw [hln] at hq hql
              have j3 : ¬ (q : Int) < ln := by omega
              clear hva hln
              go_wp2
              go_roundw
              case rel => exact ⟨p + 1, by omega, by go_num, by first | rfl | trivial⟩
              case measure => simp [intOf]; omega
        · have j1 : ¬ (p : Int) < i := by omega
          go_wp2
          go_ret
          exact ⟨rfl, HAI.out.below⟩
end Go.Proofs.Ytcgdmonejogbaaa
