/- RotAll: its walk. -/
import Derived.Test.YtllkadgpkbaghaaKA
import Derived.Test.YtllkadgpkbaghaaY32
import Derived.Test.YtllkadgpkbaghaaY13
import Derived.Test.YtllkadgpkbaghaaL0
import Derived.Test.YtllkadgpkbaghaaT1
import Derived.Test.YtllkadgpkbaghaaT2
import Derived.Test.YtllkadgpkbaghaaT4
import Derived.Test.YtllkadgpkbaghaaR1
import Derived.Test.YtllkadgpkbaghaaRC
import Derived.Test.YtllkadgpkbaghaaY26
import Derived.Test.YtllkadgpkbaghaaU5
import Derived.Deep.DeepCutAuto
import Derived.Test.YtllkadgpkbaghaaY15
/- RotAll: what told and made answer, whatever the net and the rotation. -/
/- RotAll: made, over whatever answers there are. -/
/- RotAll: told, over whatever answers there are. -/
/- Lists that calls made between two sizes of the memory; keeping them. -/
/- Apart: the lists that were kept, each written full by its number, still hold their own marks. -/
namespace Go.Proofs.Ytllkadgpkbaghaa
open Go.RowKit Go.Sort
open Go



/-- A bag of lists, however long. -/
structure Bg (w : World) (B k : Nat) (lv : Value) (n : Nat) (rv : Nat → Value) (L : Nat → List Int) (sz : Nat) : Prop where
  box : w.ownsRow 0 36 2 (.slice (some ⟨k, 0, none⟩) 1 1) 1 [lv, .int .i64 sz]
  kB : B ≤ k
  lst : w.ownsRow B 27 1 lv n ((List.range n).map rv)
  uniq : ∀ u v j, u < n → v < n → (rv u).ownBlock = some j → (rv v).ownBlock = some j → u = v
  own : ∀ v, v < n → IOwns w B (rv v) (L v)
variable {w w' : World} {B k n sz gl cl a : Nat} {lv v' : Value} {rv : Nat → Value} {L : Nat → List Int} {L' : List Int}
theorem Bag.bg (h : Bag w B k lv n rv L sz) : Bg w B k lv n rv L sz := ⟨h.box, h.kB, h.lst, h.uniq, h.own⟩
theorem Bg.later (h : Bg w B k lv n rv L sz) (hb : Below w.heap.size w w') : Bg w' B k lv n rv L sz :=
  ⟨World.ownsRow.kept h.box (grown_below hb) (Or.inr (by simp [Value.ownBlock])), h.kB, World.ownsRow.kept h.lst (grown_below hb) (by cases lv.ownBlock <;> simp), h.uniq, fun v hv => (h.own v hv).later hb⟩
theorem Bg.cell (h : Bg w B k lv n rv L sz) : w.cell? ⟨k, 0, none⟩ = some lv := World.ownsRow.cellAt h.box 0 (by omega)
theorem Bg.row (h : Bg w B k (.slice (some ⟨gl, 0, none⟩) n cl) n rv L sz) (ha : a < n) : w.cell? ⟨gl, a, none⟩ = some (rv a) ∧ w.frozen? ⟨gl, a, none⟩ = false := by
  refine ⟨?_, World.ownsRow.frozenAt h.lst a⟩
  rw [World.ownsRow.cellAt h.lst a (by omega)]
  simp [ha]
theorem Bg.rk (h : Bg w B k lv n rv L sz) {v : Nat} (hv : v < n) : (rv v).ownBlock ≠ some k := by
  obtain ⟨cur, hk⟩ := row_kind h.box
  exact row_apart hk (h.own v hv) (by decide)
theorem Bg.put (h : Bg w B k (.slice (some ⟨gl, 0, none⟩) n cl) n rv L sz) (ha : a < n) (o : IOwns w' B v' L') (gr : w.grownBy w' (rv a).ownBlock) (hv : v'.ownBlock = (rv a).ownBlock ∨ v'.ownBlock = some w.heap.size) :
    Bg (w'.setCell ⟨gl, a, none⟩ v') B k (.slice (some ⟨gl, 0, none⟩) n cl) n (upd rv a v') (upd L a L') sz ∧ w'.cell? ⟨gl, a, none⟩ = some (rv a) ∧ w'.frozen? ⟨gl, a, none⟩ = false ∧ gl < w'.heap.size ∧ w'.cell? ⟨k, 0, none⟩ = some (.slice (some ⟨gl, 0, none⟩) n cl) ∧ k ≠ gl := by
  obtain ⟨h0, hkB, h1, h2, h3⟩ := id h
  obtain ⟨cur, hg⟩ := row_kind h1
  have hap : (rv a).ownBlock ≠ some gl := row_apart hg (h3 a ha) (by decide)
  have h1' := World.ownsRow.kept h1 gr (Or.inr (fun e => hap e.symm))
  have h0' := World.ownsRow.kept h0 gr (Or.inr (fun e => h.rk ha e.symm))
  obtain ⟨cur', hg'⟩ := row_kind h1'
  have hkg : (Value.slice (some ⟨k, 0, none⟩) 1 1).ownBlock ≠ some gl := row_apart hg' h0' (by decide)
  have cell : w'.cell? ⟨gl, a, none⟩ = some (rv a) := by rw [World.ownsRow.cellAt h1' a (by omega)]; simp [ha]
  refine ⟨⟨ownsRow_setCell_other (a := ⟨gl, a, none⟩) h0' hkg _, hkB, ?_, ?_, ?_⟩, cell, World.ownsRow.frozenAt h1' a, (World.ownsRow.lt h1' gl rfl).2, World.ownsRow.cellAt h0' 0 (by omega), fun e => hkg (by rw [← e]; rfl)⟩
  · have q := (World.ownsRow.stored h1' a v').1
    rw [show ((List.range n).map (upd rv a v')) = ((List.range n).map rv).set a v' from ?_]
    · exact q
    apply List.ext_getElem
    · simp
    intro i h4 h5
    simp only [List.getElem_map, List.getElem_range, List.getElem_set]
    by_cases hia : a = i
    · subst hia; simp [upd]
    · rw [if_neg hia, upd_other _ _ (fun e => hia e.symm)]
  · intro u v j hu hv' e1 e2
    by_cases hua : u = a <;> by_cases hva : v = a
    · omega
    · rw [hua, upd_same] at e1
      rw [upd_other _ _ hva] at e2
      rcases hv with h | h
      · rw [h] at e1
        rw [hua]
        exact h2 a v j ha hv' e1 e2
      · rw [h] at e1
        have := (World.ownsRow.lt (h3 v hv') j e2).2
        injection e1 with e1
        omega
    · rw [hva, upd_same] at e2
      rw [upd_other _ _ hua] at e1
      rcases hv with h | h
      · rw [h] at e2
        rw [hva]
        exact h2 u a j hu ha e1 e2
      · rw [h] at e2
        have := (World.ownsRow.lt (h3 u hu) j e1).2
        injection e2 with e2
        omega
    · rw [upd_other _ _ hua] at e1
      rw [upd_other _ _ hva] at e2
      exact h2 u v j hu hv' e1 e2
  · intro v hv'
    by_cases hva : v = a
    · rw [hva, upd_same, upd_same]
      exact ownsRow_setCell_other (a := ⟨gl, a, none⟩) o (row_apart hg' o (by decide)) _
    · rw [upd_other _ _ hva, upd_other _ _ hva]
      have k1 : IOwns w' B (rv v) (L v) := by
        refine World.ownsRow.kept (h3 v hv') gr ?_
        cases hb : (rv v).ownBlock with
        | none => exact Or.inl rfl
        | some j => exact Or.inr (fun e => hva (h2 v a j hv' ha hb e.symm))
      exact ownsRow_setCell_other (a := ⟨gl, a, none⟩) k1 (row_apart hg' k1 (by decide)) _
/-- A number written into one of the lists. -/
theorem Bg.store {ga ca j : Nat} {x : Int} (h : Bg w B k (.slice (some ⟨gl, 0, none⟩) n cl) n rv L sz) (ha : a < n) (hr : rv a = .slice (some ⟨ga, 0, none⟩) (L a).length ca) : Bg (w.setCell ⟨ga, j, none⟩ (.int .i64 x)) B k (.slice (some ⟨gl, 0, none⟩) n cl) n rv (upd L a ((L a).set j x)) sz := by
  obtain ⟨h0, hkB, h1, h2, h3⟩ := id h
  obtain ⟨cur, hg⟩ := row_kind h1
  have o := h3 a ha
  have hap : (rv a).ownBlock ≠ some gl := row_apart hg o (by decide)
  have hak := h.rk ha
  rw [hr] at o hap hak
  refine ⟨ownsRow_setCell_other (a := ⟨ga, j, none⟩) h0 (fun e => hak e.symm) _, hkB, ownsRow_setCell_other (a := ⟨ga, j, none⟩) h1 (fun e => hap e.symm) _, h2, fun v hv => ?_⟩
  by_cases hva : v = a
  · rw [hva, upd_same, hr]
    have := o.set j x
    rw [← List.length_set (i := j) (a := x)]
    exact this
  · rw [upd_other _ _ hva]
    refine ownsRow_setCell_other (a := ⟨ga, j, none⟩) (h3 v hv) (fun e => hva (h2 v a ga hv ha e ?_)) _
    rw [hr]; rfl
def rowLen (w : World) (g i : Nat) : Nat :=
  match w.cell? ⟨g, i, none⟩ with
  | some (.slice _ l _) => l
  | _ => 0
theorem rowLen_is (h : Bg w B k (.slice (some ⟨gl, 0, none⟩) n cl) n rv L sz) (ha : a < n) : rowLen w gl a = (L a).length := by
  obtain ⟨p, c, hv, _⟩ := IOwns.form (h.own a ha)
  unfold rowLen
  rw [(h.row ha).1, hv]
/-- What Apart has come to: the first i lists are full of their marks. -/
structure AI (w wr : World) (B k gl cl n i : Nat) (rv : Nat → Value) (L : Nat → List Int) (sz : Nat) : Prop where
  below : Below B w wr
  bg : Bg wr B k (.slice (some ⟨gl, 0, none⟩) n cl) n rv L sz
  full : ∀ j, j < i → L j = List.replicate (L j).length (-1000 - (j : Int))
  all : ∀ j, j < n → (L j).length ≤ 40000
  rest : ∀ j, i ≤ j → j < n → (L j).length ≤ 30000
theorem AI.later {wr wq : World} {i : Nat} (h : AI w wr B k gl cl n i rv L sz) (hb : Below wr.heap.size wr wq) (hB : B ≤ wr.heap.size) : AI w wq B k gl cl n i rv L sz :=
  ⟨Below.trans h.below (hb.mono hB), h.bg.later hb, h.full, h.all, h.rest⟩
/-- While list i is under way: it may be longer. -/
structure AJ (w wr : World) (B k gl cl n i : Nat) (rv : Nat → Value) (L : Nat → List Int) (sz : Nat) : Prop where
  below : Below B w wr
  bg : Bg wr B k (.slice (some ⟨gl, 0, none⟩) n cl) n rv L sz
  full : ∀ j, j < i → L j = List.replicate (L j).length (-1000 - (j : Int))
  all : ∀ j, j < n → (L j).length ≤ 40000
  rest : ∀ j, i < j → j < n → (L j).length ≤ 30000
set_option maxRecDepth 100000 in
set_option maxHeartbeats 8000000 in
theorem apart24 {lv0 : Value} {n sz : Nat} {rv0 : Nat → Value} {L0 : Nat → List Int} (B k : Nat) (w : World) (hbag : Bag w B k lv0 n rv0 L0 sz) (hB : B ≤ w.heap.size) :
    Calls Try.prog 18 #[.pointer (some ⟨k, 0, none⟩)] w fun e w' => e = .returned (.bool true) ∧ Below B w w' := by
  have hnn : n ≤ 1048576 := by have := hbag.cnt; have := hbag.big; omega
  rcases Nat.eq_zero_or_pos n with hn0 | hn0
  · -- no list
    subst hn0
    have x0 := hbag.cells.1
    obtain ⟨pl, ll, cl, rfl, hll⟩ : ∃ pl ll cl, lv0 = .slice pl ll cl ∧ ll = 0 := by
      rcases hbag.lst.2 with ⟨h1, _⟩ | ⟨g1, c1, _, h1, _⟩
      · exact ⟨_, _, _, h1, rfl⟩
      · exact ⟨_, _, _, h1, rfl⟩
    subst hll
    clear hbag
    go_enter Try.func18, Try.ntmps18
    go_wp2_with fail
    go_loopw [3] (fun t wr => t = .int .i64 0 ∧ wr = w) (fun _ _ => 0)
    case atStart => exact ⟨rfl, rfl⟩
    case round =>
      obtain ⟨rfl, hw⟩ := hrel
      have hw := hw.symm
      subst hw
      go_wp2_with fail
      go_loopw [6] (fun t wr => t = .int .i64 0 ∧ wr = w) (fun _ _ => 0)
      case atStart => exact ⟨rfl, rfl⟩
      case round =>
        obtain ⟨rfl, hw⟩ := hrel
        have hw := hw.symm
        subst hw
        go_wp2
        go_ret
        exact ⟨rfl, Below.refl _ _⟩
  obtain ⟨gl, cl, hlv, _, _⟩ := World.ownsRow.form hbag.lst hn0
  subst hlv
  have H0 : Hid (∃ rv L, AI w w B k gl cl n 0 rv L sz) := ⟨rv0, L0, Below.refl _ _, hbag.bg, fun j hj => by omega, fun j hj => by have := hbag.len j hj; omega, fun j _ hj => hbag.len j hj⟩
  have HBS := hide hB
  clear hbag hB
  go_enter Try.func18, Try.ntmps18
  go_wp2_with fail
  go_loopw [3] (fun t wr => ∃ i : Nat, i ≤ n ∧ t = .int .i64 i ∧ Hid (∃ rv L, AI w wr B k gl cl n i rv L sz)) (fun t _ => n - (intOf t).toNat)
  case atStart => exact ⟨0, by omega, rfl, H0.out⟩
  case round =>
    obtain ⟨i, hi, rfl, HR⟩ := hrel
    obtain ⟨rv, L, hA⟩ := HR.out
    have x0 := hA.bg.cell
    by_cases hlt : i < n
    · have i1 : (i : Int) < n := by omega
      have i2 : (0 : Int) ≤ i := by omega
      have c0 := (hA.bg.row hlt).1
      obtain ⟨pa, ca, hva, _, hca, _⟩ := IOwns.form (hA.bg.own i hlt)
      have hll := hA.rest i (Nat.le_refl _) hlt
      have HAI := hide hA
      rw [hva] at c0
      obtain ⟨ln, hln⟩ : ∃ ln, (L i).length = ln := ⟨_, rfl⟩
      rw [hln] at c0 hll hca
      clear hA HR hva hln H0
      have RM : ∀ dd os, Calls Try.prog 52 #[.int .i64 ln, .int .i64 ca] (grow (redrawn wr dd) os) fun e w'' => e = .returned (.int .i64 (roomI ln ca)) ∧ ∃ p : Regrown, w'' = grow (redrawn wr p.d) p.os := fun dd os => Calls.regrown_of (room47 ln ca _ (by omega) (by omega))
      have hr0 : roomI ln ca ≤ (ln : Int) + 2000 := by unfold roomI; split <;> omega
      obtain ⟨r, hr⟩ : ∃ r, roomI ln ca = r := ⟨_, rfl⟩
      rw [hr] at RM hr0
      have C0 := cell_regrown c0
      have X0 := cell_regrown x0
      clear hr
      go_upto_region 4 with fail
      refine wp_region_quiet_below (by kernel_rfl) (by kernel_rfl) ?_
      repeat (go_big_quiet_step (with_reducible exact RM _ _))
      refine wpQuiet_nil ?_
      intro X hw'
      have hb3 : Below wr.heap.size wr X := by
        obtain ⟨⟨dq, osq⟩, hw''⟩ := hw'
        rw [hw'']
        exact below_regrown wr dq osq
      have HAX : Hid (∃ rv L, AJ w X B k gl cl n i rv L sz) := by
        have q := HAI.out.later hb3 (Nat.le_trans HBS.out HAI.out.below.size)
        exact ⟨rv, L, q.below, q.bg, q.full, q.all, fun j h1 h2 => q.rest j (by omega) h2⟩
      clear hw' hb3 c0 C0 RM HAI X0 x0
      have hr1 : r ≤ 32000 := by omega
      clear hr0 hll hca
      go_wp2_with fail
      go_loopw [44] (fun _ wz => Hid (∃ rv L, AJ w wz B k gl cl n i rv L sz)) (fun _ wz => 50000 - rowLen wz gl i)
      case atStart => exact HAX.out
      case round =>
        obtain ⟨rv, L, hJ⟩ := hrel.out
        have HRL := hide (rowLen_is hJ.bg hlt)
        have x0 := hJ.bg.cell
        have c0 := (hJ.bg.row hlt).1
        obtain ⟨pa, ca, hva, _, hca, _⟩ := IOwns.form (hJ.bg.own i hlt)
        have hll := hJ.all i hlt
        have HJ := hide hJ
        have HVA := hide hva
        rw [hva] at c0
        obtain ⟨ln, hln⟩ : ∃ ln, (L i).length = ln := ⟨_, rfl⟩
        have HLN := hide hln
        rw [hln] at c0 hll hca
        clear hJ hrel hva hln HAX
        by_cases hlr : (ln : Int) < r
        · go_upto_region 6 with fail
          have bd : Below wr.heap.size wr wr.drew := below_drew _
          obtain ⟨V0, hV0⟩ : ∃ V, V = wr.drew := ⟨_, rfl⟩
          have HB0 : Hid (Below B w V0) := by show Below _ _ _; rw [hV0]; exact Below.trans HJ.out.below (bd.mono (Nat.le_trans HBS.out HJ.out.below.size))
          have HG0 : Hid (Bg V0 B k (.slice (some ⟨gl, 0, none⟩) n cl) n rv L sz) := by show Bg _ _ _ _ _ _ _ _; rw [hV0]; exact HJ.out.bg.later bd
          have q0 := HG0.out.cell
          clear x0 c0
          refine wp_region_held_drew (S := (fun W' => W'.cell? ⟨k, 0, none⟩ = some (.slice (some ⟨gl, 0, none⟩) n cl))) (by kernel_rfl) (by rw [← hV0]; exact q0) (fun hHeld => ?_)
          rw [← hV0] at hHeld ⊢
          clear hV0 bd
          refine wpAnyH_take (i := 0) (v := ?v1) rfl (by kernel_rfl) (by kernel_rfl) (by kernel_rfl) (fun _ _ _ h => h) (Or.inl ⟨by rfl, ?hy1⟩) (by assumption) ?rest1
          case hy1 => (intro w hSw; (try dsimp only at hSw); go_simp; try with_reducible rfl)
          try simp only [Act.put, List.setIfInBounds_toArray]
          refine wpAnyH_take (i := 1) (v := ?v2) rfl (by kernel_rfl) (by kernel_rfl) (by kernel_rfl) (fun _ _ _ h => h) (Or.inl ⟨by rfl, ?hy2⟩) (by assumption) ?rest2
          case hy2 => (intro w hSw; (try dsimp only at hSw); go_simp; try with_reducible rfl)
          try simp only [Act.put]
          refine wpAnyH_take (i := 2) (v := ?v3) rfl (by kernel_rfl) (by kernel_rfl) (by kernel_rfl) (fun _ _ _ h => h) (Or.inl ⟨by rfl, ?hy3⟩) (by assumption) ?rest3
          case hy3 => (intro w hSw; (try dsimp only at hSw); go_simp; try with_reducible rfl)
          try simp only [Act.put]
          refine wpAnyH_take (i := 3) (v := ?v4) rfl (by kernel_rfl) (by kernel_rfl) (by kernel_rfl) (fun _ _ _ h => h) (Or.inl ⟨by rfl, ?hy4⟩) (by assumption) ?rest4
          case hy4 => (intro w hSw; (try dsimp only at hSw); go_simp; try with_reducible rfl)
          try simp only [Act.put]
          refine wpAnyH_take (i := 4) (v := ?v5) rfl (by kernel_rfl) (by kernel_rfl) (by kernel_rfl) (fun _ _ _ h => h) (Or.inl ⟨by rfl, ?hy5⟩) (by assumption) ?rest5
          case hy5 => (intro w hSw; (try dsimp only at hSw); go_simp; try with_reducible rfl)
          try simp only [Act.put]
          refine wpAnyH_take (i := 5) (v := ?v6) rfl (by kernel_rfl) (by kernel_rfl) (by kernel_rfl) (fun _ _ _ h => h) (Or.inl ⟨by rfl, ?hy6⟩) (by assumption) ?rest6
          case hy6 => (intro w hSw; (try dsimp only at hSw); go_simp; try with_reducible rfl)
          try simp only [Act.put]
          refine wpAnyH_take (i := 6) (v := ?v7) rfl (by kernel_rfl) (by kernel_rfl) (by kernel_rfl) (fun _ _ _ h => h) (Or.inl ⟨by rfl, ?hy7⟩) (by assumption) ?rest7
          case hy7 => (intro w hSw; (try dsimp only at hSw); go_simp; try with_reducible rfl)
          try simp only [Act.put]
          refine wpAnyH_take (i := 7) (v := ?v8) rfl (by kernel_rfl) (by kernel_rfl) (by kernel_rfl) (fun _ _ _ h => h) (Or.inl ⟨by rfl, ?hy8⟩) (by assumption) ?rest8
          case hy8 => (intro w hSw; (try dsimp only at hSw); go_simp; try with_reducible rfl)
          try simp only [Act.put]
          refine wpAnyH_take (i := 8) (v := ?v9) rfl (by kernel_rfl) (by kernel_rfl) (by kernel_rfl) (fun _ _ _ h => h) (Or.inl ⟨by rfl, ?hy9⟩) (by assumption) ?rest9
          case hy9 => (intro w hSw; (try dsimp only at hSw); go_simp; try with_reducible rfl)
          try simp only [Act.put]
          refine wpAnyH_take (i := 9) (v := ?v10) rfl (by kernel_rfl) (by kernel_rfl) (by kernel_rfl) (fun _ _ _ h => h) (Or.inl ⟨by rfl, ?hy10⟩) (by assumption) ?rest10
          case hy10 => (intro w hSw; (try dsimp only at hSw); go_simp; try with_reducible rfl)
          try simp only [Act.put]
          refine wpAnyH_take (i := 10) (v := ?v11) rfl (by kernel_rfl) (by kernel_rfl) (by kernel_rfl) (fun _ _ _ h => h) (Or.inl ⟨by rfl, ?hy11⟩) (by assumption) ?rest11
          case hy11 => (intro w hSw; (try dsimp only at hSw); go_simp; try with_reducible rfl)
          try simp only [Act.put]
          refine wpAnyH_ready (rs := [11, 12]) (by kernel_rfl) (by simp) ?_
          refine ready_cons ({ dst := some 55, op := Op.load 27 (Operand.tmp 54), type := 27, pos := "law.go:64", after := #[{ on := 10, ground := Ground.data }], guard := none }) rfl rfl (fun K hK => ?_) ?_
          · clear hHeld
            have d0 := (HG0.out.row hlt).1
            rw [HVA.out, HLN.out] at d0
            refine wp_val (v := ?vl1) (w2 := V0) ?hl1 ?_
            case hl1 => (go_simp; try with_reducible rfl)
            clear d0
            refine hK.out _ _ (by first | exact q0 | (dsimp only; exact q0) | exact cell_other q0 hkg) (fun hHeld => ?_)
            clear hK K
            try simp only [Act.put]
            refine wpAnyH_ready (rs := [12]) (by kernel_rfl) (by simp) ?_
            refine ready_cons ({ dst := some 56, op := Op.buildSlice 27 1 #[(0, Operand.const (Value.int IntKind.i64 0))], type := 27, pos := "law.go:64", after := #[], guard := none }) rfl rfl (fun K hK => ?_) ?_
            · clear hHeld
              go_simp
              obtain ⟨V1, hV⟩ : ∃ V, V = V0.alloc (.cells #[.int .i64 0] 3) := ⟨_, rfl⟩
              have hb2 : Below V0.heap.size V0 V1 := by rw [hV]; go_grown
              have HL1 : Hid (V1.cell? ⟨V0.heap.size, 0, none⟩ = some (.int .i64 0)) := by show _ = _; rw [hV]; exact one_int _ _
              rw [← hV]
              have HB1 : Hid (Below B w V1) := Below.trans HB0.out (hb2.mono (Nat.le_trans HBS.out HB0.out.size))
              have HG1 := hide (HG0.out.later hb2)
              clear hV hb2 q0
              have q0 := HG1.out.cell
              refine hK.out _ _ (by first | exact q0 | (dsimp only; exact q0) | exact cell_other q0 hkg) (fun hHeld => ?_)
              clear hK K
              try simp only [Act.put, List.setIfInBounds_toArray, List.set_cons_zero, List.set_cons_succ]
              refine wpAnyH_ready (rs := [13]) (by kernel_rfl) (by simp) ?_
              refine ready_cons ({ dst := some 57, op := Op.call { callee := Callee.builtin Builtin.append, args := #[Operand.tmp 55, Operand.tmp 56], argTypes := #[27, 27] }, type := 27, pos := "law.go:64", after := #[{ on := 11, ground := Ground.data }, { on := 12, ground := Ground.data }], guard := none }) rfl rfl (fun K hK => ?_) ?_
              · clear hHeld
                have hrx := HG1.out.own i hlt
                obtain ⟨v1, V2, e4, o4, gr4, at4⟩ := append_int hrx HL1.out (Nat.le_trans HBS.out HB1.out.size) (by have := HLN.out; omega)
                obtain ⟨p1, l1, c1, rfl⟩ : ∃ p1 l1 c1, v1 = .slice p1 l1 c1 := by obtain ⟨p1, c1, h1, _⟩ := o4.form; exact ⟨_, _, _, h1⟩
                have HB2 : Hid (Below B w V2) := below_grown HB1.out hrx (Nat.le_refl _) (Nat.le_trans HBS.out HB1.out.size) gr4
                obtain ⟨g4, g5, g6, g7, g8, g9⟩ := HG1.out.put hlt o4 gr4 at4
                rw [HVA.out, HLN.out] at e4 g5
                have HG4 := hide g4
                have HGB : Hid (B ≤ gl) := (World.ownsRow.lt HG1.out.lst gl rfl).1
                have HE2 : Hid (gl < V2.heap.size ∧ V2.cell? ⟨gl, i, none⟩ = some (.slice pa ln ca) ∧ V2.frozen? ⟨gl, i, none⟩ = false) := ⟨g7, g5, g6⟩
                clear q0
                have q0 := g8
                have hkg := g9
                refine oper_append (.tmp 55) (.tmp 56) 27 (by rfl) 27 (by rfl) (.slice pa ln ca) (.slice (some ⟨V0.heap.size, 0, none⟩) 1 1) (.slice p1 l1 c1) V2 (by rfl) (by rfl) ?_ ?_
                with_reducible exact e4
                clear hrx o4 gr4 at4 e4 g4 g5 g6 g7 g8 g9
                refine hK.out _ _ (by first | exact q0 | (dsimp only; exact q0) | exact cell_other q0 hkg) (fun hHeld => ?_)
                clear hK K
                try simp only [Act.put, List.setIfInBounds_toArray, List.set_cons_zero, List.set_cons_succ]
                refine wpAnyH_take (i := 14) (v := ?v12) rfl (by kernel_rfl) (by kernel_rfl) (by kernel_rfl) (fun _ _ _ h => h) (Or.inl ⟨by rfl, ?hy12⟩) (by assumption) ?rest12
                case hy12 => (intro w hSw; (try dsimp only at hSw); go_simp; try with_reducible rfl)
                try simp only [Act.put, List.setIfInBounds_toArray]
                refine wpAnyH_ready (rs := [15]) (by kernel_rfl) (by simp) ?_
                refine ready_cons ({ dst := none, op := Op.store 27 (Operand.tmp 58) (Operand.tmp 57), type := 0, pos := "law.go:64", after := #[{ on := 14, ground := Ground.data }, { on := 13, ground := Ground.data }, { on := 13, ground := Ground.chain }, { on := 0, ground := Ground.phase }, { on := 1, ground := Ground.phase }, { on := 2, ground := Ground.phase }, { on := 3, ground := Ground.phase }, { on := 4, ground := Ground.phase }, { on := 5, ground := Ground.phase }, { on := 6, ground := Ground.phase }, { on := 7, ground := Ground.phase }, { on := 8, ground := Ground.phase }, { on := 9, ground := Ground.phase }, { on := 10, ground := Ground.phase }, { on := 11, ground := Ground.phase }, { on := 12, ground := Ground.phase }, { on := 13, ground := Ground.phase }], guard := none }) rfl rfl (fun K hK => ?_) ?_
                · clear hHeld
                  obtain ⟨hgl, d0, e0⟩ := HE2.out
                  go_simp
                  clear d0 e0
                  refine hK.out _ _ (by first | exact q0 | (dsimp only; exact q0) | exact cell_other q0 hkg) (fun hHeld => ?_)
                  clear hK K
                  try simp only [Act.put, List.setIfInBounds_toArray, List.set_cons_zero, List.set_cons_succ]
                  refine wpAnyH_done (by kernel_rfl) ?_ _
                  clear hHeld
                  obtain ⟨Z, hZ⟩ : ∃ Z, Z = V2.setCell ⟨gl, i, none⟩ (.slice p1 l1 c1) := ⟨_, rfl⟩
                  rw [← hZ] at HG4
                  have HBZ : Hid (Below B w Z) := by show Below _ _ _; rw [hZ]; exact HB2.out.setCell HGB.out _
                  rw [← hZ]
                  have HZ : Hid (AJ w Z B k gl cl n i (upd rv i (.slice p1 l1 c1)) (upd L i (L i ++ [0])) sz) := by
                    refine ⟨HBZ.out, HG4.out, ?_, ?_, ?_⟩
                    · intro j hj; rw [upd_other _ _ (by omega)]; exact HJ.out.full j hj
                    · intro j hj
                      by_cases e : j = i
                      · rw [e, upd_same, List.length_append, HLN.out, List.length_cons, List.length_nil]; omega
                      · rw [upd_other _ _ e]; exact HJ.out.all j hj
                    · intro j h1 h2; rw [upd_other _ _ (by omega)]; exact HJ.out.rest j h1 h2
                  have HML : Hid (rowLen Z gl i = ln + 1) := by
                    show _ = _
                    rw [rowLen_is HZ.out.bg hlt, upd_same, List.length_append, HLN.out, List.length_cons, List.length_nil]
                  clear hZ HE2 HG4 HBZ HB0 HB1 HB2 HG0 HG1 HL1 q0 HGB hkg
                  go_wp2
                  go_roundw
                  case rel => exact ⟨_, _, HZ.out⟩
                  case measure => rw [HML.out, HRL.out, HLN.out]; omega
                exact AllReadyH.nil
              exact AllReadyH.nil
            exact AllReadyH.nil
          refine ready_cons ({ dst := some 56, op := Op.buildSlice 27 1 #[(0, Operand.const (Value.int IntKind.i64 0))], type := 27, pos := "law.go:64", after := #[], guard := none }) rfl rfl (fun K hK => ?_) ?_
          · clear hHeld
            go_simp
            obtain ⟨V1, hV⟩ : ∃ V, V = V0.alloc (.cells #[.int .i64 0] 3) := ⟨_, rfl⟩
            have hb2 : Below V0.heap.size V0 V1 := by rw [hV]; go_grown
            have HL1 : Hid (V1.cell? ⟨V0.heap.size, 0, none⟩ = some (.int .i64 0)) := by show _ = _; rw [hV]; exact one_int _ _
            rw [← hV]
            have HB1 : Hid (Below B w V1) := Below.trans HB0.out (hb2.mono (Nat.le_trans HBS.out HB0.out.size))
            have HG1 := hide (HG0.out.later hb2)
            clear hV hb2 q0
            have q0 := HG1.out.cell
            refine hK.out _ _ (by first | exact q0 | (dsimp only; exact q0) | exact cell_other q0 hkg) (fun hHeld => ?_)
            clear hK K
            try simp only [Act.put, List.setIfInBounds_toArray, List.set_cons_zero, List.set_cons_succ]
            refine wpAnyH_ready (rs := [11]) (by kernel_rfl) (by simp) ?_
            refine ready_cons ({ dst := some 55, op := Op.load 27 (Operand.tmp 54), type := 27, pos := "law.go:64", after := #[{ on := 10, ground := Ground.data }], guard := none }) rfl rfl (fun K hK => ?_) ?_
            · clear hHeld
              have d0 := (HG1.out.row hlt).1
              rw [HVA.out, HLN.out] at d0
              refine wp_val (v := ?vl2) (w2 := V1) ?hl2 ?_
              case hl2 => (go_simp; try with_reducible rfl)
              clear d0
              refine hK.out _ _ (by first | exact q0 | (dsimp only; exact q0) | exact cell_other q0 hkg) (fun hHeld => ?_)
              clear hK K
              try simp only [Act.put, List.setIfInBounds_toArray, List.set_cons_zero, List.set_cons_succ]
              refine wpAnyH_ready (rs := [13]) (by kernel_rfl) (by simp) ?_
              refine ready_cons ({ dst := some 57, op := Op.call { callee := Callee.builtin Builtin.append, args := #[Operand.tmp 55, Operand.tmp 56], argTypes := #[27, 27] }, type := 27, pos := "law.go:64", after := #[{ on := 11, ground := Ground.data }, { on := 12, ground := Ground.data }], guard := none }) rfl rfl (fun K hK => ?_) ?_
              · clear hHeld
                have hrx := HG1.out.own i hlt
                obtain ⟨v1, V2, e4, o4, gr4, at4⟩ := append_int hrx HL1.out (Nat.le_trans HBS.out HB1.out.size) (by have := HLN.out; omega)
                obtain ⟨p1, l1, c1, rfl⟩ : ∃ p1 l1 c1, v1 = .slice p1 l1 c1 := by obtain ⟨p1, c1, h1, _⟩ := o4.form; exact ⟨_, _, _, h1⟩
                have HB2 : Hid (Below B w V2) := below_grown HB1.out hrx (Nat.le_refl _) (Nat.le_trans HBS.out HB1.out.size) gr4
                obtain ⟨g4, g5, g6, g7, g8, g9⟩ := HG1.out.put hlt o4 gr4 at4
                rw [HVA.out, HLN.out] at e4 g5
                have HG4 := hide g4
                have HGB : Hid (B ≤ gl) := (World.ownsRow.lt HG1.out.lst gl rfl).1
                have HE2 : Hid (gl < V2.heap.size ∧ V2.cell? ⟨gl, i, none⟩ = some (.slice pa ln ca) ∧ V2.frozen? ⟨gl, i, none⟩ = false) := ⟨g7, g5, g6⟩
                clear q0
                have q0 := g8
                have hkg := g9
                refine oper_append (.tmp 55) (.tmp 56) 27 (by rfl) 27 (by rfl) (.slice pa ln ca) (.slice (some ⟨V0.heap.size, 0, none⟩) 1 1) (.slice p1 l1 c1) V2 (by rfl) (by rfl) ?_ ?_
                with_reducible exact e4
                clear hrx o4 gr4 at4 e4 g4 g5 g6 g7 g8 g9
                refine hK.out _ _ (by first | exact q0 | (dsimp only; exact q0) | exact cell_other q0 hkg) (fun hHeld => ?_)
                clear hK K
                try simp only [Act.put, List.setIfInBounds_toArray, List.set_cons_zero, List.set_cons_succ]
                refine wpAnyH_take (i := 14) (v := ?v13) rfl (by kernel_rfl) (by kernel_rfl) (by kernel_rfl) (fun _ _ _ h => h) (Or.inl ⟨by rfl, ?hy13⟩) (by assumption) ?rest13
                case hy13 => (intro w hSw; (try dsimp only at hSw); go_simp; try with_reducible rfl)
                try simp only [Act.put, List.setIfInBounds_toArray]
                refine wpAnyH_ready (rs := [15]) (by kernel_rfl) (by simp) ?_
                refine ready_cons ({ dst := none, op := Op.store 27 (Operand.tmp 58) (Operand.tmp 57), type := 0, pos := "law.go:64", after := #[{ on := 14, ground := Ground.data }, { on := 13, ground := Ground.data }, { on := 13, ground := Ground.chain }, { on := 0, ground := Ground.phase }, { on := 1, ground := Ground.phase }, { on := 2, ground := Ground.phase }, { on := 3, ground := Ground.phase }, { on := 4, ground := Ground.phase }, { on := 5, ground := Ground.phase }, { on := 6, ground := Ground.phase }, { on := 7, ground := Ground.phase }, { on := 8, ground := Ground.phase }, { on := 9, ground := Ground.phase }, { on := 10, ground := Ground.phase }, { on := 11, ground := Ground.phase }, { on := 12, ground := Ground.phase }, { on := 13, ground := Ground.phase }], guard := none }) rfl rfl (fun K hK => ?_) ?_
                · clear hHeld
                  obtain ⟨hgl, d0, e0⟩ := HE2.out
                  go_simp
                  clear d0 e0
                  refine hK.out _ _ (by first | exact q0 | (dsimp only; exact q0) | exact cell_other q0 hkg) (fun hHeld => ?_)
                  clear hK K
                  try simp only [Act.put, List.setIfInBounds_toArray, List.set_cons_zero, List.set_cons_succ]
                  refine wpAnyH_done (by kernel_rfl) ?_ _
                  clear hHeld
                  obtain ⟨Z, hZ⟩ : ∃ Z, Z = V2.setCell ⟨gl, i, none⟩ (.slice p1 l1 c1) := ⟨_, rfl⟩
                  rw [← hZ] at HG4
                  have HBZ : Hid (Below B w Z) := by show Below _ _ _; rw [hZ]; exact HB2.out.setCell HGB.out _
                  rw [← hZ]
                  have HZ : Hid (AJ w Z B k gl cl n i (upd rv i (.slice p1 l1 c1)) (upd L i (L i ++ [0])) sz) := by
                    refine ⟨HBZ.out, HG4.out, ?_, ?_, ?_⟩
                    · intro j hj; rw [upd_other _ _ (by omega)]; exact HJ.out.full j hj
                    · intro j hj
                      by_cases e : j = i
                      · rw [e, upd_same, List.length_append, HLN.out, List.length_cons, List.length_nil]; omega
                      · rw [upd_other _ _ e]; exact HJ.out.all j hj
                    · intro j h1 h2; rw [upd_other _ _ (by omega)]; exact HJ.out.rest j h1 h2
                  have HML : Hid (rowLen Z gl i = ln + 1) := by
                    show _ = _
                    rw [rowLen_is HZ.out.bg hlt, upd_same, List.length_append, HLN.out, List.length_cons, List.length_nil]
                  clear hZ HE2 HG4 HBZ HB0 HB1 HB2 HG0 HG1 HL1 q0 HGB hkg
                  go_wp2
                  go_roundw
                  case rel => exact ⟨_, _, HZ.out⟩
                  case measure => rw [HML.out, HRL.out, HLN.out]; omega
                exact AllReadyH.nil
              exact AllReadyH.nil
            exact AllReadyH.nil
          exact AllReadyH.nil
        · go_wp2_with fail
          clear x0 c0 HRL HVA
          have HI0 : Hid (∃ rv L, AJ w wr B k gl cl n i rv L sz ∧ (L i).length = ln ∧ ∀ j, j < 0 → iat (L i) j = -1000 - (i : Int)) := ⟨rv, L, HJ.out, HLN.out, fun j hj => by omega⟩
          clear HJ HLN
          obtain ⟨w9, hw9⟩ : ∃ w9, w9 = wr := ⟨_, rfl⟩
          rw [← hw9] at HI0 ⊢
          clear hw9
          go_loopw [5] (fun t wy => ∃ q : Nat, q ≤ ln ∧ t = .int .i64 q ∧ Hid (∃ rv L, AJ w wy B k gl cl n i rv L sz ∧ (L i).length = ln ∧ ∀ j, j < q → iat (L i) j = -1000 - (i : Int))) (fun t _ => ln - (intOf t).toNat)
          case atStart => exact ⟨0, by omega, rfl, HI0.out⟩
          case round =>
            obtain ⟨q, hq, rfl, HQ⟩ := hrel
            obtain ⟨rv, L, hJ, hLl, hdone⟩ := HQ.out
            have x0 := hJ.bg.cell
            have c0 := (hJ.bg.row hlt).1
            by_cases hql : q < ln
            · obtain ⟨ga, ca2, hva, _, hgB, _⟩ := iowns_block (hJ.bg.own i hlt) (by omega)
              have o := hJ.bg.own i hlt
              rw [hva] at c0 o
              have d0 := IOwns.at_ o (j := q) (by omega)
              have f0 := IOwns.frozen o q
              have HST := hide (hJ.bg.store (j := q) (x := -1000 - (i : Int)) hlt hva)
              have HBW : Hid (Below B w (wr.setCell ⟨ga, q, none⟩ (.int .i64 (-1000 - (i : Int))))) := hJ.below.setCell hgB _
              have HJJ := hide hJ
              have HDN := hide hdone
              have HLL := hide hLl
              rw [hLl] at c0
              obtain ⟨y, hy⟩ : ∃ y, iat (L i) q = y := ⟨_, rfl⟩
              rw [hy] at d0
              have j1 : (q : Int) < ln := by omega
              have j2 : (0 : Int) ≤ q := by omega
              clear hJ hva hgB o hdone hLl HQ hy
              go_wp2
              go_roundw
              case rel =>
                refine ⟨q + 1, by omega, by go_num, rv, upd L i ((L i).set q (-1000 - (i : Int))), ⟨HBW.out, HST.out, ?_, ?_, ?_⟩, ?_, ?_⟩
                · intro j hj
                  rw [upd_other _ _ (by omega)]
                  exact HJJ.out.full j hj
                · intro j hj
                  by_cases e : j = i
                  · rw [e, upd_same, List.length_set]; exact HJJ.out.all i hlt
                  · rw [upd_other _ _ e]; exact HJJ.out.all j hj
                · intro j h1 h2
                  rw [upd_other _ _ (by omega)]
                  exact HJJ.out.rest j h1 h2
                · rw [upd_same, List.length_set]; exact HLL.out
                · intro j hj
                  rw [upd_same]
                  by_cases e : j = q
                  · rw [e, iat_put (by rw [HLL.out]; exact hql)]
                  · rw [iat_put_ne e]; exact HDN.out j (by omega)
              case measure => simp [intOf]; omega
            · have hqe : q = ln := by omega
              obtain ⟨pa2, ca2, hva, _, _, _⟩ := IOwns.form (hJ.bg.own i hlt)
              rw [hva, hLl] at c0
              have HJJ := hide hJ
              have HDN := hide hdone
              have HLL := hide hLl
              have j1 : ¬ (q : Int) < ln := by omega
              clear hJ hva hdone hLl HQ
              go_wp2
              go_roundw
              case rel =>
                refine ⟨i + 1, by omega, by go_num, rv, L, HJJ.out.below, HJJ.out.bg, ?_, HJJ.out.all, fun j h1 h2 => HJJ.out.rest j (by omega) h2⟩
                intro j hj
                by_cases e : j = i
                · subst e
                  apply List.ext_getElem
                  · simp
                  intro p h1 h2
                  have := HDN.out p (by have := HLL.out; omega)
                  unfold iat at this
                  rw [List.getD_eq_getElem?_getD, List.getElem?_eq_getElem h1] at this
                  rw [List.getElem_replicate]
                  exact this
                · exact HJJ.out.full j (by omega)
              case measure => simp [intOf]; omega
    · have i1 : ¬ (i : Int) < n := by omega
      have hin : i = n := by omega
      subst hin
      have HAI := hide hA
      clear hA HR H0
      go_wp2_with fail
      clear x0
      obtain ⟨V, hV⟩ : ∃ V, V = wr := ⟨_, rfl⟩
      rw [← hV] at HAI ⊢
      clear hV
      go_loopw [6] (fun t wy => ∃ p : Nat, p ≤ i ∧ t = .int .i64 p ∧ wy = V) (fun t _ => i - (intOf t).toNat)
      case atStart => exact ⟨0, by omega, rfl, rfl⟩
      case round =>
        obtain ⟨p, hp, rfl, hw⟩ := hrel
        have hw := hw.symm
        subst hw
        have x0 := HAI.out.bg.cell
        by_cases hpl : p < i
        · have j1 : (p : Int) < i := by omega
          have j2 : (0 : Int) ≤ p := by omega
          have hll := HAI.out.all p hpl
          go_wp2_with fail
          go_loopw [7] (fun t wz => ∃ q : Nat, q ≤ (L p).length ∧ t = .int .i64 q ∧ wz = V) (fun t _ => (L p).length - (intOf t).toNat)
          case atStart => exact ⟨0, by omega, rfl, rfl⟩
          case round =>
            obtain ⟨q, hq, rfl, hw⟩ := hrel
            have hw := hw.symm
            subst hw
            have c0 := (HAI.out.bg.row hpl).1
            obtain ⟨ln, hln⟩ : ∃ ln, (L p).length = ln := ⟨_, rfl⟩
            by_cases hql : q < (L p).length
            · obtain ⟨ga, ca2, hva, _, _, _⟩ := iowns_block (HAI.out.bg.own p hpl) (by omega)
              have o := HAI.out.bg.own p hpl
              rw [hva] at c0 o
              have d0 := IOwns.at_ o (j := q) (by omega)
              have hval : iat (L p) q = -1000 - (p : Int) := by
                have := HAI.out.full p hpl
                rw [this]
                unfold iat
                rw [List.getD_eq_getElem?_getD, List.getElem?_replicate, if_pos hql]
                rfl
              rw [hval] at d0
              have HLN := hide hln
              rw [hln] at c0 hll hq hql
              have j3 : (q : Int) < ln := by omega
              have j4 : (0 : Int) ≤ q := by omega
              have j5 : IntKind.i64.wrap (-1000 - (p : Int)) = -1000 - (p : Int) := IntWalk.i64_in _ (by omega)
              clear hva o hval hln
              go_wp2
              go_roundw
              case rel => exact ⟨q + 1, by have := HLN.out; omega, by go_num, by first | rfl | trivial⟩
              case measure => simp [intOf]; have := HLN.out; omega
            · obtain ⟨pa2, ca2, hva, _, _, _⟩ := IOwns.form (HAI.out.bg.own p hpl)
              rw [hva, hln] at c0
              rw [hln] at hq hql
              have j3 : ¬ (q : Int) < ln := by omega
              clear hva hln
              go_wp2
              go_roundw
              case rel => exact ⟨p + 1, by omega, by go_num, by first | rfl | trivial⟩
              case measure => simp [intOf]; omega
        · have j1 : ¬ (p : Int) < i := by omega
          go_wp2
          go_ret
          exact ⟨rfl, HAI.out.below⟩
end Go.Proofs.Ytllkadgpkbaghaa

/- law9's Twin and Kept: a rotation in memory of its own, marks behind each list and behind all. -/
/- KeepAll: the lists of a list are kept, in every world. -/
namespace Go.Proofs.Ytllkadgpkbaghaa
open Go.RowKit Go.Sort
open Go


/-- The blocks of the lists from the i-th on, and those of M. -/
def MFrom (M : Nat → Prop) (n : Nat) (rv : Nat → Value) (i : Nat) (b : Nat) : Prop := M b ∨ ∃ v, i ≤ v ∧ v < n ∧ (rv v).ownBlock = some b
theorem KBag.weak {N M M' : Nat → Prop} {w : World} {B k : Nat} (h : KBag N M w B k) (hm : ∀ b, M' b → M b) : KBag N M' w B k := by
  obtain ⟨lv, n, rv, L, sz, h1, h2, h3⟩ := h
  exact ⟨lv, n, rv, L, sz, h1, h2, fun u b hu hb hM => h3 u b hu hb (hm b hM)⟩
theorem KBag.weakN {N N' M : Nat → Prop} {w : World} {B k : Nat} (h : KBag N M w B k) (hm : ∀ b, N' b → N b) : KBag N' M w B k := by
  obtain ⟨lv, n, rv, L, sz, h1, h2, h3⟩ := h
  exact ⟨lv, n, rv, L, sz, h1, fun b hb hN => h2 b hb (hm b hN), h3⟩
theorem KBag.later {N M : Nat → Prop} {w w' : World} {B k : Nat} (h : KBag N M w B k) (hb : Below w.heap.size w w') : KBag N M w' B k := by
  obtain ⟨lv, n, rv, L, sz, h1, h2, h3⟩ := h
  exact ⟨lv, n, rv, L, sz, h1.later hb, h2, h3⟩
theorem heap_cell {w w' : World} {b o : Nat} (h : w'.heap[b]? = w.heap[b]?) : w'.cell? ⟨b, o, none⟩ = w.cell? ⟨b, o, none⟩ := by
  unfold World.cell?
  simp only [h]
structure KJ (N M : Nat → Prop) (w wr : World) (B k n : Nat) (rv : Nat → Value) (i : Nat) : Prop where
  bag : KBag N (MFrom M n rv i) wr B k
  below : Below B w wr
  kp : Kp w wr
  fr : ∀ b, N b → b ≠ k → wr.heap[b]? = w.heap[b]?
theorem KPost.refl {N M : Nat → Prop} {w : World} {B k : Nat} (h : KBag N M w B k) : KPost N M w B k w := ⟨h, Below.refl _ _, Kp.below (Below.refl _ _), fun _ _ _ => rfl⟩
set_option maxRecDepth 100000 in
set_option maxHeartbeats 8000000 in
theorem keepall20 {N M : Nat → Prop} (B k T : Nat) (p : Option Addr) (F : List (List Int)) (c : Nat) (rv : Nat → Value) (w : World) (hbag : KBag N (MFrom M F.length rv 0) w B k) (hB : B ≤ w.heap.size) (hBT : B ≤ T) (fb : FB w T (.slice p F.length c) F rv) (hlen : ∀ v, v < F.length → (lat F v).length ≤ 20000) (hFl : F.length ≤ 100000) (hNs : ∀ a, p = some a → N a.block) (hNl : ∀ b, N b → b < w.heap.size) (hNk : ¬ N k) (hMd : ∀ v b, v < F.length → (rv v).ownBlock = some b → ¬ M b) : Calls Try.prog 43 #[.pointer (some ⟨k, 0, none⟩), .slice p F.length c] w fun e w' => e = .returned (.tuple #[]) ∧ KPost N M w B k w' := by
  have HJ0 : Hid (KJ N M w w B k F.length rv 0) := ⟨hbag, Below.refl _ _, Kp.below (Below.refl _ _), fun _ _ _ => rfl⟩
  have HFB := hide fb
  have HBS := hide hB
  have HBT := hide hBT
  have HLEN := hide hlen
  have HNS := hide hNs
  have HNL := hide hNl
  have HNK := hide hNk
  have HMD := hide hMd
  clear hbag hB hBT fb hlen hNs hNl hMd hNk
  go_enter Try.func43, Try.ntmps43
  go_wp2_with fail
  go_loopw [4] (fun t wr => ∃ i : Nat, i ≤ F.length ∧ t = .int .i64 i ∧ Hid (KJ N M w wr B k F.length rv i)) (fun t _ => F.length - (intOf t).toNat)
  case atStart => exact ⟨0, by omega, rfl, HJ0.out⟩
  case round =>
    obtain ⟨i, hi, rfl, HJ⟩ := hrel
    clear HJ0
    by_cases hlt : i < F.length
    · have i1 : (i : Int) < F.length := by omega
      obtain ⟨g, hp⟩ : ∃ g, p = some ⟨g, 0, none⟩ := by
        obtain ⟨_, ⟨h1, h2⟩ | ⟨g1, c1, cur1, h1, _⟩⟩ := HFB.out.lst
        · omega
        · injection h1 with e1 _ _; exact ⟨g1, e1⟩
      subst hp
      have hgk : g ≠ k := fun e => HNK.out (by rw [← e]; exact HNS.out _ rfl)
      have c0 : wr.cell? ⟨g, i, none⟩ = some (rv i) := by
        rw [heap_cell (HJ.out.fr g (HNS.out _ rfl) hgk), World.ownsRow.cellAt HFB.out.lst i (by omega)]
        simp [hlt]
      have own : IOwns wr B (rv i) (lat F i) := by
        have o := (HFB.out.own i hlt).base HBT.out
        exact HJ.out.kp.row o (by decide) (by decide)
      obtain ⟨pa, ca, hva, _, _, _⟩ := own.form
      rw [hva] at c0
      have HVA := hide hva
      have HOW := hide own
      obtain ⟨la, hla⟩ : ∃ l, (lat F i).length = l := ⟨_, rfl⟩
      rw [hla] at c0 HVA
      have HLA := hide hla
      obtain ⟨V, hV⟩ : ∃ V, V = wr.alloc (.cells #[.slice pa la ca] 27) := ⟨_, rfl⟩
      have hbV : Below wr.heap.size wr V := by rw [hV]; go_grown
      have HARG : Hid (V.ownsRow wr.heap.size 27 1 (.slice (some ⟨wr.heap.size, 0, none⟩) 1 1) 1 ((List.range 1).map fun _ => rv i)) := by
        show World.ownsRow _ _ _ _ _ _ _
        rw [hV, HVA.out]
        exact ⟨rfl, Or.inr ⟨wr.heap.size, 1, _, rfl, Nat.le_refl _, heap_alloc_new wr _, Nat.le_refl _, by unfold maxLen; omega, rfl, rfl⟩⟩
      have KP : Calls Try.prog 44 #[.pointer (some ⟨k, 0, none⟩), .slice (some ⟨wr.heap.size, 0, none⟩) 1 1] V fun e w' => e = .returned (.tuple #[]) ∧ KPost N (MFrom M F.length rv (i + 1)) V B k w' := by
        obtain ⟨lv0, n0, rv0, L0, sz0, hb0, hn0, hm0⟩ := HJ.out.bag
        refine keep22 B k wr.heap.size 1 wr.heap.size (fun _ => rv i) (fun _ => lat F i) V (hb0.later hbV) (Nat.le_trans HBS.out (Nat.le_trans HJ.out.below.size hbV.size)) (Nat.le_trans HBS.out HJ.out.below.size) (by omega) HARG.out ?_ (fun j _ => HOW.out.later hbV) (fun j _ => HLEN.out i hlt) (fun a b _ ha hb _ _ => by omega) ?_ hn0 ?_ ?_ ?_
        · intro e
          have := (World.ownsRow.lt hb0.lst _ e).2
          omega
        · intro j u b _ hu hb hr
          exact hm0 u b hu hr (Or.inr ⟨i, Nat.le_refl _, hlt, hb⟩)
        · intro b hb
          have h1 := HNL.out b hb
          have h2 := HJ.out.below.size
          have h3 := hbV.size
          omega
        · intro u b hu hb hM
          refine hm0 u b hu hb ?_
          rcases hM with h | ⟨v, h1, h2, h3⟩
          · exact Or.inl h
          · exact Or.inr ⟨v, by omega, h2, h3⟩
        · intro j b _ hb hM
          rcases hM with h | ⟨v, h1, h2, h3⟩
          · exact HMD.out i b hlt hb h
          · have := HFB.out.uniq i v b hlt h2 hb h3
            omega
      have KP := hide KP
      have HBV := hide hbV
      clear own hva hla hbV
      go_upto_region 3 with fail
      go_wp2_with fail
      rw [← hV]
      refine KP.out.mono ?_
      rintro r w2 ⟨rfl, hbag2, hb2, hk2, hf2⟩
      have HJ2 : Hid (KJ N M w w2 B k F.length rv (i + 1)) := by
        refine ⟨hbag2, HJ.out.below.trans ((HBV.out.mono (Nat.le_trans HBS.out HJ.out.below.size)).trans hb2), (HJ.out.kp.trans (Kp.below HBV.out)).trans hk2, fun b hb hbk => ?_⟩
        rw [hf2 b hb hbk, HBV.out.block b (Nat.lt_of_lt_of_le (HNL.out b hb) HJ.out.below.size), HJ.out.fr b hb hbk]
      clear hV hbag2 hb2 hk2 hf2 KP HARG HJ c0
      go_wp2
      go_roundw
      case rel => exact ⟨i + 1, by omega, by go_num, HJ2.out⟩
      case measure => simp [intOf]; omega
    · have i1 : ¬ (i : Int) < F.length := by omega
      have HF : Hid (KPost N M w B k wr) := ⟨HJ.out.bag.weak fun b hb => Or.inl hb, HJ.out.below, HJ.out.kp, HJ.out.fr⟩
      clear HJ
      go_wp2
      go_end0
      exact ⟨rfl, HF.out⟩
end Go.Proofs.Ytllkadgpkbaghaa

namespace Go.Proofs.Ytllkadgpkbaghaa
open Go.RowKit Go.Sort
open Go

theorem append_intsB {w : World} {base : Nat} {v : Value} {l : List Int} (ho : IOwns w base v l) (p : Option Addr) (cap : Nat) (qs : List Int) (hnil : p = none → cap = 0) (hq : IHas w p qs) (hb : base ≤ w.heap.size) (hl : (l.length + qs.length) * 8 ≤ 140737488355328) :
    ∃ v' w', (Builtin.append_ #[27, 27] 27 #[v, .slice p qs.length cap]).run Try.prog w = .ok v' w' ∧ IOwns w' base v' (l ++ qs) ∧ w.grownBy w' v.ownBlock := by
  obtain ⟨i0, hi0, hz0, hz1, hz2⟩ := info_parts info3
  cases p with
  | none =>
    have hqs : qs = [] := by
      rcases hq with h | ⟨b, off, h, _⟩
      · exact h
      · cases h
    subst hqs
    rw [hnil rfl]
    exact ⟨v, w, run_append_owned_none (P := Try.prog) (w := w) base 27 27 3 i0 1 Try.underlying27 hi0 v l.length (icells l) ho, by rw [List.append_nil]; exact ho, grownBy_refl _ _⟩
  | some a =>
    have hnews : ∀ j u, (icells qs)[j]? = some u → w.cell? (a.add j) = some u := by
      rcases hq with h | ⟨b, off, h, hL⟩
      · subst h; intro j u hj; simp [icells] at hj
      · cases h
        intro j u hj
        rw [icells, List.getElem?_map] at hj
        cases hq2 : qs[j]? with
        | none => rw [hq2] at hj; cases hj
        | some x =>
          rw [hq2] at hj
          cases hj
          have hjl : j < qs.length := (List.getElem?_eq_some_iff.1 hq2).1
          rw [Go.WideShapes.add_plain, hL j hjl]
          unfold iat
          rw [List.getD_eq_getElem?_getD, hq2]
          rfl
    obtain ⟨v', w', h1, h2, h3, _⟩ := run_append_own (P := Try.prog) w base 27 27 3 i0 (.int .i64 0) 1 8 Try.underlying27 hi0 hz0 hz1 hz2 rfl (by decide) v l.length (icells l) ho a qs.length cap (icells qs) (by simp [icells]) hnews (by intro u hu; rw [icells, List.mem_map] at hu; obtain ⟨x, _, rfl⟩ := hu; rfl) (by unfold maxLen; omega) (by omega) hb
    refine ⟨v', w', h1, ?_, h3⟩
    unfold IOwns
    rw [List.length_append, show icells (l ++ qs) = icells l ++ icells qs by simp [icells]]
    exact h2
theorem append_intB {w : World} {base k : Nat} {v : Value} {l : List Int} {x : Int} (o : IOwns w base v l) (hk : w.cell? ⟨k, 0, none⟩ = some (.int .i64 x)) (hb : base ≤ w.heap.size) (hl : (l.length + 1) * 8 ≤ 140737488355328) :
    ∃ v' w', (Builtin.append_ #[27, 27] 27 #[v, .slice (some ⟨k, 0, none⟩) 1 1]).run Try.prog w = .ok v' w' ∧ IOwns w' base v' (l ++ [x]) ∧ w.grownBy w' v.ownBlock ∧ (v'.ownBlock = v.ownBlock ∨ v'.ownBlock = some w.heap.size) := by
  obtain ⟨i0, hi0, hz0, hz1, hz2⟩ := info_parts info3
  have hnews : ∀ j u, [Value.int .i64 x][j]? = some u → w.cell? ((⟨k, 0, none⟩ : Addr).add j) = some u := by
    intro j u hj
    cases j with
    | zero => simp at hj; subst hj; exact hk
    | succ k => simp at hj
  obtain ⟨v', w', h1, h2, h3, _, h5⟩ := run_append_own_at (P := Try.prog) w base 27 27 3 i0 (.int .i64 0) 1 8 Try.underlying27 hi0 hz0 hz1 hz2 rfl (by decide) v l.length (icells l) o ⟨k, 0, none⟩ 1 1 [.int .i64 x] rfl hnews (by simp [Value.oneCell']) (by unfold maxLen; omega) (by omega) hb
  exact ⟨v', w', h1, iowns_more h2, h3, h5⟩
theorem append_lst26 {w : World} {base g n : Nat} {v x : Value} {xs : List Value} (o : w.ownsRow base 27 1 v n xs) (hk : w.cell? ⟨g, 0, none⟩ = some x) (hx : x.oneCell' = true) (hb : base ≤ w.heap.size) (hl : (n + 1) * 24 ≤ 140737488355328) :
    ∃ v' w', (Builtin.append_ #[26, 26] 26 #[v, .slice (some ⟨g, 0, none⟩) 1 1]).run Try.prog w = .ok v' w' ∧ w'.ownsRow base 27 1 v' (n + 1) (xs ++ [x]) ∧ w.grownBy w' v.ownBlock ∧ (v'.ownBlock = v.ownBlock ∨ v'.ownBlock = some w.heap.size) := by
  obtain ⟨i0, hi0, hz0, hz1, hz2⟩ := info_parts info41
  have hnews : ∀ j u, [x][j]? = some u → w.cell? ((⟨g, 0, none⟩ : Addr).add j) = some u := by
    intro j u hj
    cases j with
    | zero => simp at hj; subst hj; exact hk
    | succ k => simp at hj
  obtain ⟨v', w', h1, h2, h3, _, h5⟩ := run_append_own_at (P := Try.prog) w base 26 26 27 i0 (.slice none 0 0) 1 24 Try.underlying26 hi0 hz0 hz1 hz2 rfl (by decide) v n xs o ⟨g, 0, none⟩ 1 1 [x] rfl hnews (by simp [hx]) (by unfold maxLen; omega) (by omega) hb
  exact ⟨v', w', h1, h2, h3, h5⟩
set_option maxRecDepth 100000 in
theorem FB.push26 {w : World} {B : Nat} {fv : Value} {F : List (List Int)} {rv : Nat → Value} {L : List Int} {a : Option Addr} {b c : Nat} (h : FB w B fv F rv) (hB : B ≤ w.heap.size) (hx : IOwns w B (.slice a b c) L) (hn : ∀ u j, u < F.length → (Value.slice a b c).ownBlock = some j → (rv u).ownBlock ≠ some j) (hl : (F.length + 1) * 24 ≤ 140737488355328) :
    ∃ p1 l1 c1 D, (Builtin.append_ #[26, 26] 26 #[fv, .slice (some ⟨w.heap.size, 0, none⟩) 1 1]).run Try.prog (w.alloc (.cells #[.slice a b c] 27)) = .ok (.slice p1 l1 c1) D ∧ l1 = F.length + 1 ∧ FB D B (.slice p1 l1 c1) (F ++ [L]) (upd rv F.length (.slice a b c)) ∧ Below B w D ∧ (∀ v l, IOwns w B v l → IOwns D B v l) := by
  have hb1 : Below w.heap.size w (w.alloc (.cells #[.slice a b c] 27)) := by go_grown
  have h1 := h.later hb1
  have hB1 : B ≤ (w.alloc (.cells #[.slice a b c] 27)).heap.size := Nat.le_trans hB hb1.size
  obtain ⟨v1, D, e1, o1, gr, at1⟩ := append_lst26 (g := w.heap.size) (x := .slice a b c) h1.lst (by go_cell) rfl hB1 (by omega)
  obtain ⟨p1, c1, hv1, _, _⟩ := World.ownsRow.form o1 (by omega)
  subst hv1
  have down : ∀ v l, IOwns (w.alloc (.cells #[.slice a b c] 27)) B v l → IOwns D B v l := fun v l o => by
    refine World.ownsRow.kept o gr ?_
    cases hb : v.ownBlock with
    | none => exact Or.inl rfl
    | some j => exact Or.inr (fun e => lst_apart h1.lst o e.symm hb)
  have hlen : (F ++ [L]).length = F.length + 1 := by simp
  refine ⟨some ⟨p1, 0, none⟩, F.length + 1, c1, D, e1, rfl, ⟨?_, ?_, ?_⟩, below_grown (hb1.mono hB) h1.lst (Nat.le_refl _) hB1 gr, fun v l o => down v l (o.later hb1)⟩
  · rw [hlen, show ((List.range (F.length + 1)).map (upd rv F.length (.slice a b c))) = (List.range F.length).map rv ++ [.slice a b c] from ?_]
    · exact o1
    rw [List.range_succ, List.map_append, List.map_cons, List.map_nil, upd_same]
    congr 1
    apply List.map_congr_left
    intro i hi
    have := List.mem_range.1 hi
    exact upd_other _ _ (by omega)
  · rw [hlen]
    intro u v j hu hv e2 e3
    by_cases hu' : u = F.length <;> by_cases hv' : v = F.length
    · omega
    · rw [hu', upd_same] at e2
      rw [upd_other _ _ hv'] at e3
      exact absurd e3 (hn v j (by omega) e2)
    · rw [hv', upd_same] at e3
      rw [upd_other _ _ hu'] at e2
      exact absurd e2 (hn u j (by omega) e3)
    · rw [upd_other _ _ hu'] at e2
      rw [upd_other _ _ hv'] at e3
      exact h.uniq u v j (by omega) (by omega) e2 e3
  · rw [hlen]
    intro v hv
    rw [lat_snoc]
    by_cases hv' : v = F.length
    · rw [hv', upd_same, if_neg (by omega), if_pos rfl]
      exact down _ _ (hx.later hb1)
    · rw [upd_other _ _ hv', if_pos (by omega)]
      exact down _ _ (h1.own v (by omega))

theorem own_form {w : World} {B : Nat} {v : Value} {l : List Int} (o : IOwns w B v l) (h : 0 < l.length) : ∃ g c, v = .slice (some ⟨g, 0, none⟩) l.length c ∧ l.length ≤ c := by
  obtain ⟨_, ⟨h1, h2⟩ | ⟨g, c, cur, h1, _, _, h4, _⟩⟩ := o
  · omega
  · exact ⟨g, c, h1, h4⟩
/-- The list without what stands last. -/
theorem own_less {w : World} {B g c : Nat} {l : List Int} {x : Int} (o : IOwns w B (.slice (some ⟨g, 0, none⟩) (l.length + 1) c) (l ++ [x])) : IOwns w B (.slice (some ⟨g, 0, none⟩) l.length c) l := by
  obtain ⟨h0, ⟨h1, h2⟩ | ⟨g1, c1, cur, h1, h2, h3, h4, h5, h6, h7⟩⟩ := o
  · simp at h2
  · injection h1 with e1 _ e3
    injection e1 with e1
    injection e1 with e1
    subst e1
    subst e3
    rw [List.length_append, List.length_singleton] at h4 h7
    refine ⟨by simp [icells], Or.inr ⟨g, c, cur, rfl, h2, h3, by omega, h5, h6, ?_⟩⟩
    have : (cur.toList.take ((l.length + 1) * 1)).take (l.length * 1) = (icells (l ++ [x])).take (l.length * 1) := by rw [h7]
    rw [List.take_take, Nat.min_eq_left (by omega)] at this
    rw [this]
    simp [icells]
/-- A list, a mark behind it. -/
def TMk (w : World) (B : Nat) (rs : List (List Int)) (rv : Nat → Value) (u : Nat) : Prop := ∃ gv cv, rv u = .slice (some ⟨gv, 0, none⟩) (lat rs u).length cv ∧ IOwns w B (.slice (some ⟨gv, 0, none⟩) ((lat rs u).length + 1) cv) (lat rs u ++ [-77])
structure TI (w : World) (B : Nat) (rs : List (List Int)) (v : Nat) (fv : Value) (rv : Nat → Value) : Prop where
  fb : FB w B fv (rs.take v) rv
  mks : ∀ u, u < v → TMk w B rs rv u
theorem lat_take {rs : List (List Int)} {u v : Nat} (hu : u < v) : lat (rs.take v) u = lat rs u := by
  unfold lat
  rw [List.getD_eq_getElem?_getD, List.getD_eq_getElem?_getD, List.getElem?_take, if_pos hu]
theorem TI.later {w w' : World} {B v : Nat} {rs : List (List Int)} {fv : Value} {rv : Nat → Value} (h : TI w B rs v fv rv) (hb : Below w.heap.size w w') : TI w' B rs v fv rv :=
  ⟨h.fb.later hb, fun u hu => by obtain ⟨gv, cv, h1, h2⟩ := h.mks u hu; exact ⟨gv, cv, h1, h2.later hb⟩⟩
theorem TI.step {w V : World} {B v gv cv la c3 : Nat} {p3 : Option Addr} {rs : List (List Int)} {rv : Nat → Value} (h : TI w B rs v (.slice p3 v c3) rv) (hb : Below w.heap.size w V) (hB : B ≤ w.heap.size) (hv : v < rs.length) (hla : (lat rs v).length = la) (o : IOwns V w.heap.size (.slice (some ⟨gv, 0, none⟩) (la + 1) cv) (lat rs v ++ [-77])) (hl : (rs.length + 1) * 24 ≤ 140737488355328) :
    ∃ p1 c1 D, (Builtin.append_ #[26, 26] 26 #[.slice p3 v c3, .slice (some ⟨V.heap.size, 0, none⟩) 1 1]).run Try.prog (V.alloc (.cells #[.slice (some ⟨gv, 0, none⟩) la cv] 27)) = .ok (.slice p1 (v + 1) c1) D ∧ TI D B rs (v + 1) (.slice p1 (v + 1) c1) (upd rv v (.slice (some ⟨gv, 0, none⟩) la cv)) ∧ Below B w D := by
  have h' := h.later hb
  have o1 := o
  rw [← hla] at o1
  have o2 := own_less o1
  rw [hla] at o2
  have hlt : (rs.take v).length = v := by rw [List.length_take]; omega
  have hgv := (World.ownsRow.lt o gv rfl).1
  obtain ⟨p1, l1, c1, D, e, el, fb, bd, dn⟩ := h'.fb.push26 (Nat.le_trans hB hb.size) (o2.base hB) (fun u j hu hj => by
    have e1 : gv = j := by simpa [Value.ownBlock] using hj
    rw [hlt] at hu
    intro hk
    have := (World.ownsRow.lt (h.fb.own u (by rw [hlt]; exact hu)) j hk).2
    omega) (by rw [hlt]; omega)
  rw [hlt] at el fb
  subst el
  refine ⟨p1, c1, D, e, ⟨?_, fun u hu => ?_⟩, (hb.mono hB).trans bd⟩
  · rw [lat_drop hv]; exact fb
  · by_cases huv : u = v
    · subst huv
      refine ⟨gv, cv, by rw [upd_same, hla], ?_⟩
      rw [hla]
      exact dn _ _ (o.base hB)
    · obtain ⟨g2, c2, a1, a2⟩ := h'.mks u (by omega)
      exact ⟨g2, c2, by rw [upd_other _ _ huv]; exact a1, dn _ _ a2⟩
theorem row_less {w : World} {B g c n e : Nat} {xs : List Value} {x : Value} (o : w.ownsRow B e 1 (.slice (some ⟨g, 0, none⟩) (n + 1) c) (n + 1) (xs ++ [x])) : w.ownsRow B e 1 (.slice (some ⟨g, 0, none⟩) n c) n xs := by
  obtain ⟨h0, ⟨h1, h2⟩ | ⟨g1, c1, cur, h1, h2, h3, h4, h5, h6, h7⟩⟩ := o
  · simp at h2
  · injection h1 with e1 _ e3
    injection e1 with e1
    injection e1 with e1
    subst e1
    subst e3
    rw [List.length_append, List.length_singleton] at h0
    refine ⟨by omega, Or.inr ⟨g, c, cur, rfl, h2, h3, by omega, h5, h6, ?_⟩⟩
    have : (cur.toList.take ((n + 1) * 1)).take (n * 1) = (xs ++ [x]).take (n * 1) := by rw [h7]
    rw [List.take_take, Nat.min_eq_left (by omega)] at this
    rw [this, List.take_append_of_le_length (by omega), List.take_of_length_le (by omega)]
/-- The twin of a rotation. -/
structure TwR (w : World) (B g c : Nat) (rs : List (List Int)) (rv : Nat → Value) : Prop where
  fb : FB w B (.slice (some ⟨g, 0, none⟩) rs.length c) rs rv
  cap : rs.length + 1 ≤ c
  mks : ∀ u, u < rs.length → TMk w B rs rv u
  top : ∃ gm, w.cell? ⟨g, rs.length, none⟩ = some (.slice (some ⟨gm, 0, none⟩) 1 1) ∧ w.cell? ⟨gm, 0, none⟩ = some (.int .i64 (-78))
theorem TwR.later {w w' : World} {B g c : Nat} {rs : List (List Int)} {rv : Nat → Value} (h : TwR w B g c rs rv) (hb : Below w.heap.size w w') : TwR w' B g c rs rv :=
  ⟨h.fb.later hb, h.cap, fun u hu => by obtain ⟨gv, cv, h1, h2⟩ := h.mks u hu; exact ⟨gv, cv, h1, h2.later hb⟩, by obtain ⟨gm, h1, h2⟩ := h.top; exact ⟨gm, Ytllkadgpkbaghaa.later hb h1, Ytllkadgpkbaghaa.later hb h2⟩⟩
theorem TI.top {w : World} {B c3 : Nat} {p3 : Option Addr} {rs : List (List Int)} {rv : Nat → Value} (h : TI w B rs rs.length (.slice p3 rs.length c3) rv) (hB : B ≤ w.heap.size) (hl : (rs.length + 1) * 24 ≤ 140737488355328) :
    ∃ g c1 rv' D, (Builtin.append_ #[26, 26] 26 #[.slice p3 rs.length c3, .slice (some ⟨w.heap.size + 1, 0, none⟩) 1 1]).run Try.prog ((w.alloc (.cells #[.int .i64 (-78)] 3)).alloc (.cells #[.slice (some ⟨w.heap.size, 0, none⟩) 1 1] 27)) = .ok (.slice (some ⟨g, 0, none⟩) (rs.length + 1) c1) D ∧ TwR D B g c1 rs rv' ∧ Below B w D := by
  obtain ⟨V, hV⟩ : ∃ V, V = w.alloc (.cells #[.int .i64 (-78)] 3) := ⟨_, rfl⟩
  have hb : Below w.heap.size w V := by rw [hV]; go_grown
  have hs : V.heap.size = w.heap.size + 1 := by rw [hV]; simp
  have o : IOwns V w.heap.size (.slice (some ⟨w.heap.size, 0, none⟩) 1 1) [-78] := by
    rw [hV]
    exact ⟨rfl, Or.inr ⟨w.heap.size, 1, _, rfl, Nat.le_refl _, heap_alloc_new w _, Nat.le_refl _, by unfold maxLen; omega, rfl, rfl⟩⟩
  have h' := h.later hb
  obtain ⟨p1, l1, c1, D, e, el, fb, bd, dn⟩ := h'.fb.push26 (Nat.le_trans hB hb.size) (o.base hB) (fun u j hu hj => by
    have e1 : w.heap.size = j := by simpa [Value.ownBlock] using hj
    intro hk
    have := (World.ownsRow.lt (h.fb.own u hu) j hk).2
    omega) (by rw [List.length_take]; omega)
  rw [List.take_length] at el fb
  subst el
  obtain ⟨g, c, hp, hc⟩ : ∃ g c, Value.slice p1 (rs.length + 1) c1 = .slice (some ⟨g, 0, none⟩) (rs.length + 1) c ∧ rs.length + 1 ≤ c := by
    obtain ⟨_, ⟨h1, h2⟩ | ⟨g, c, cur, h1, _, _, h4, _⟩⟩ := fb.lst
    · simp at h2
    · rw [List.length_append, List.length_singleton] at h1 h4; exact ⟨g, c, h1, h4⟩
  injection hp with e1 _ e3
  subst e1
  subst e3
  rw [← hV, ← hs]
  have hlen : (rs ++ [[(-78 : Int)]]).length = rs.length + 1 := by simp
  refine ⟨g, c1, upd rv rs.length (.slice (some ⟨w.heap.size, 0, none⟩) 1 1), D, e, ⟨⟨?_, ?_, ?_⟩, hc, fun u hu => ?_, ?_⟩, (hb.mono hB).trans bd⟩
  · have l := fb.lst
    rw [hlen, List.range_succ, List.map_append, List.map_cons, List.map_nil] at l
    exact row_less l
  · intro u v j hu hv
    exact fb.uniq u v j (by rw [hlen]; omega) (by rw [hlen]; omega)
  · intro v hv
    have := fb.own v (by rw [hlen]; omega)
    rw [lat_snoc, if_pos hv] at this
    exact this
  · obtain ⟨g2, c2, a1, a2⟩ := h'.mks u hu
    refine ⟨g2, c2, ?_, dn _ _ a2⟩
    rw [upd_other _ _ (by omega)]
    exact a1
  · refine ⟨w.heap.size, ?_, ?_⟩
    · have l0 := fb.lst
      rw [hlen] at l0
      have l := World.ownsRow.cellAt l0 rs.length (by omega)
      rw [l]
      simp [upd_same]
    · have o2 : IOwns D B (.slice (some ⟨w.heap.size, 0, none⟩) 1 1) [-78] := dn _ _ (o.base hB)
      have := IOwns.at_ (l := [(-78 : Int)]) o2 (j := 0) (by simp)
      exact this
set_option maxRecDepth 100000 in
set_option maxHeartbeats 16000000 in
theorem twin13 (q : Option Addr) (rs : List (List Int)) (cq : Nat) (w : World) (hr : RHas w q rs) (hn : (rs.length + 1) * 24 ≤ 140737488355328) (hl : ∀ v, v < rs.length → ((lat rs v).length + 1) * 8 ≤ 140737488355328) : Calls Try.prog 12 #[.slice q rs.length cq] w fun e w' => ∃ g c rv, e = .returned (.slice (some ⟨g, 0, none⟩) rs.length c) ∧ TwR w' w.heap.size g c rs rv ∧ Below w.heap.size w w' := by
  have HR := hide hr
  have HLL := hide hl
  have HT0 : Hid (TI w w.heap.size rs 0 (.slice none 0 0) (fun _ => .slice none 0 0)) := ⟨FB.nil _ _, fun u hu => by omega⟩
  clear hr hl
  go_enter Try.func12, Try.ntmps12
  go_wp2_with fail
  go_loopw [3, 4] (fun t3 t4 wr => ∃ (v : Nat) (p3 : Option Addr) (c3 : Nat) (rv : Nat → Value), v ≤ rs.length ∧ t4 = .int .i64 v ∧ t3 = .slice p3 v c3 ∧ Hid (Below w.heap.size w wr) ∧ Hid (TI wr w.heap.size rs v (.slice p3 v c3) rv)) (fun _ t4 _ => rs.length - (intOf t4).toNat)
  case atStart => exact ⟨0, none, 0, _, by omega, rfl, rfl, Below.refl _ _, HT0.out⟩
  case round =>
    obtain ⟨v, p3, c3, rv, hv, rfl, rfl, HBWr, HTR⟩ := hrel
    clear HT0
    by_cases hvr : v < rs.length
    · have e1 : (v : Int) < rs.length := by omega
      obtain ⟨bR, oR, aR, kR, rfl, cR, mR, _, hkR, hnR⟩ := HR.out.at_ hvr
      obtain ⟨la, hla⟩ : ∃ l, (lat rs v).length = l := ⟨_, rfl⟩
      rw [hla] at cR hkR
      have hlb := HLL.out v hvr
      rw [hla] at hlb
      have HLA := hide hla
      have HNR := hide hnR
      have HBW : Hid (w.heap.size ≤ wr.heap.size) := HBWr.out.size
      have HS2 : Hid (∀ V, Below w.heap.size wr V → V.cell? ⟨bR, oR + v, none⟩ = some (.slice aR la kR)) := fun V hV => later (HBWr.out.trans hV) cR
      have HS : Hid (∀ V, Below wr.heap.size wr V → V.cell? ⟨bR, oR + v, none⟩ = some (.slice aR la kR)) := fun V hV => HS2.out V (hV.mono HBW.out)
      have HIR : Hid (∀ V, Below wr.heap.size wr V → IHas V aR (lat rs v)) := fun V hV => (mR.later HBWr.out).later hV
      clear hla hnR cR mR
      go_upto_region 5 with fail
      have s0 := HS.out _ (below_drew wr)
      refine wp_region_held_drew (S := (fun V => V.cell? ⟨bR, oR + v, none⟩ = some (.slice aR la kR))) (by kernel_rfl) s0 (fun hHeld => ?_)
      obtain ⟨V0, hV0⟩ : ∃ V, V = wr.drew := ⟨_, rfl⟩
      have HB0 : Hid (Below wr.heap.size wr V0) := by show Below _ _ _; rw [hV0]; exact below_drew _
      rw [← hV0] at hHeld s0 ⊢
      clear hV0
      refine wpAnyH_take (i := 0) (v := ?v1) rfl (by kernel_rfl) (by kernel_rfl) (by kernel_rfl) (fun _ _ _ h => h) (Or.inl ⟨by rfl, ?hy1⟩) (by assumption) ?rest1
      case hy1 => (intro w hSw; (try dsimp only at hSw); go_simp; try with_reducible rfl)
      try simp only [Act.put, List.getElem_toArray, List.getElem_cons_zero, List.setIfInBounds_toArray, List.set_cons_zero, List.set_cons_succ]
      refine wpAnyH_take (i := 1) (v := ?v2) rfl (by kernel_rfl) (by kernel_rfl) (by kernel_rfl) (fun _ _ _ h => h) (Or.inl ⟨by rfl, ?hy2⟩) (by assumption) ?rest2
      case hy2 => (intro w hSw; (try dsimp only at hSw); go_simp; try with_reducible rfl)
      try simp only [Act.put, List.getElem_toArray, List.getElem_cons_zero, List.getElem_cons_succ, List.setIfInBounds_toArray, List.set_cons_zero, List.set_cons_succ]
      refine wpAnyH_take (i := 2) (v := ?v3) rfl (by kernel_rfl) (by kernel_rfl) (by kernel_rfl) (fun _ _ _ h => h) (Or.inl ⟨by rfl, ?hy3⟩) (by assumption) ?rest3
      case hy3 => (intro w hSw; (try dsimp only at hSw); go_simp; try with_reducible rfl)
      try simp only [Act.put, List.getElem_toArray, List.getElem_cons_zero, List.getElem_cons_succ, List.setIfInBounds_toArray, List.set_cons_zero, List.set_cons_succ]
      refine wpAnyH_take (i := 3) (v := ?v4) rfl (by kernel_rfl) (by kernel_rfl) (by kernel_rfl) (fun _ _ _ h => h) (Or.inl ⟨by rfl, ?hy4⟩) (by assumption) ?rest4
      case hy4 => (intro w hSw; (try dsimp only at hSw); go_simp; try with_reducible rfl)
      try simp only [Act.put, List.getElem_toArray, List.getElem_cons_zero, List.getElem_cons_succ, List.setIfInBounds_toArray, List.set_cons_zero, List.set_cons_succ]
      refine wpAnyH_take (i := 4) (v := ?v5) rfl (by kernel_rfl) (by kernel_rfl) (by kernel_rfl) (fun _ _ _ h => h) (Or.inl ⟨by rfl, ?hy5⟩) (by assumption) ?rest5
      case hy5 => (intro w hSw; (try dsimp only at hSw); go_simp; try with_reducible rfl)
      try simp only [Act.put, List.getElem_toArray, List.getElem_cons_zero, List.getElem_cons_succ, List.setIfInBounds_toArray, List.set_cons_zero, List.set_cons_succ]
      refine wpAnyH_take (i := 8) (v := ?v6) rfl (by kernel_rfl) (by kernel_rfl) (by kernel_rfl) (fun _ _ _ h => h) (Or.inl ⟨by rfl, ?hy6⟩) (by assumption) ?rest6
      case hy6 => (intro w hSw; (try dsimp only at hSw); go_simp; try with_reducible rfl)
      try simp only [Act.put, List.getElem_toArray, List.getElem_cons_zero, List.getElem_cons_succ, List.setIfInBounds_toArray, List.set_cons_zero, List.set_cons_succ]
      refine wpAnyH_take (i := 9) (v := ?v7) rfl (by kernel_rfl) (by kernel_rfl) (by kernel_rfl) (fun _ _ _ h => h) (Or.inl ⟨by rfl, ?hy7⟩) (by assumption) ?rest7
      case hy7 => (intro w hSw; (try dsimp only at hSw); go_simp; try with_reducible rfl)
      try simp only [Act.put, List.getElem_toArray, List.getElem_cons_zero, List.getElem_cons_succ, List.setIfInBounds_toArray, List.set_cons_zero, List.set_cons_succ]
      refine wpAnyH_take (i := 10) (v := ?v8) rfl (by kernel_rfl) (by kernel_rfl) (by kernel_rfl) (fun _ _ _ h => h) (Or.inl ⟨by rfl, ?hy8⟩) (by assumption) ?rest8
      case hy8 => (intro w hSw; (try dsimp only at hSw); go_simp; try with_reducible rfl)
      try simp only [Act.put, List.getElem_toArray, List.getElem_cons_zero, List.getElem_cons_succ, List.setIfInBounds_toArray, List.set_cons_zero, List.set_cons_succ]
      refine wpAnyH_take (i := 11) (v := ?v9) rfl (by kernel_rfl) (by kernel_rfl) (by kernel_rfl) (fun _ _ _ h => h) (Or.inl ⟨by rfl, ?hy9⟩) (by assumption) ?rest9
      case hy9 => (intro w hSw; (try dsimp only at hSw); go_simp; try with_reducible rfl)
      try simp only [Act.put, List.getElem_toArray, List.getElem_cons_zero, List.getElem_cons_succ, List.setIfInBounds_toArray, List.set_cons_zero, List.set_cons_succ]
      refine wpAnyH_take (i := 12) (v := ?v10) rfl (by kernel_rfl) (by kernel_rfl) (by kernel_rfl) (fun _ _ _ h => h) (Or.inl ⟨by rfl, ?hy10⟩) (by assumption) ?rest10
      case hy10 => (intro w hSw; (try dsimp only at hSw); go_simp; try with_reducible rfl)
      try simp only [Act.put, List.getElem_toArray, List.getElem_cons_zero, List.getElem_cons_succ, List.setIfInBounds_toArray, List.set_cons_zero, List.set_cons_succ]
      refine wpAnyH_ready (rs := [5, 6]) (by kernel_rfl) (by simp) ?_
      refine ready_cons ({ dst := some 16, op := Op.call { callee := Callee.builtin Builtin.append, args := #[Operand.const (Value.slice none 0 0), Operand.tmp 15], argTypes := #[27, 27] }, type := 27, pos := "law.go:27", after := #[{ on := 4, ground := Ground.data }], guard := none }) rfl rfl (fun K hK => ?_) ?_
      · clear hHeld
        obtain ⟨v1, V1, e1, o1, g1⟩ := append_intsB (IOwns.nil V0 V0.heap.size) aR kR (lat rs v) HNR.out (HIR.out V0 HB0.out) (Nat.le_refl _) (by have := HLA.out; simp; omega)
        rw [List.nil_append] at o1
        have hb2 : Below V0.heap.size V0 V1 := below_grown (Below.refl _ _) (IOwns.nil V0 V0.heap.size) (Nat.le_refl _) (Nat.le_refl _) g1
        have HB1 := hide (HB0.out.trans (hb2.mono HB0.out.size))
        have HO1 : Hid (IOwns V1 wr.heap.size v1 (lat rs v)) := o1.base HB0.out.size
        rw [HLA.out] at e1
        refine oper_append (.const (.slice none 0 0)) (.tmp 15) 27 rfl 27 rfl (.slice none 0 0) (.slice aR la kR) v1 V1 (by rfl) (by rfl) ?_ ?_
        with_reducible exact e1
        clear e1 g1 o1 hb2
        clear s0
        have s0 := HS.out _ HB1.out
        refine hK.out _ _ (by first | with_reducible exact s0 | (dsimp only; with_reducible exact s0)) (fun hHeld => ?_)
        clear hK K
        try simp only [Act.put, List.setIfInBounds_toArray, List.set_cons_zero, List.set_cons_succ]
        refine wpAnyH_ready (rs := [6]) (by kernel_rfl) (by simp) ?_
        refine ready_cons ({ dst := some 17, op := Op.buildSlice 27 1 #[(0, Operand.const (Value.int IntKind.i64 (-77)))], type := 27, pos := "law.go:27", after := #[], guard := none }) rfl rfl (fun K hK => ?_) ?_
        · clear hHeld
          go_simp
          obtain ⟨V2, hV⟩ : ∃ V, V = V1.alloc (.cells #[.int .i64 (-77)] 3) := ⟨_, rfl⟩
          obtain ⟨kl, hkl⟩ : ∃ k, V1.heap.size = k := ⟨_, rfl⟩
          have hb2 : Below V1.heap.size V1 V2 := by rw [hV]; go_grown
          have HL2 : Hid (V2.cell? ⟨kl, 0, none⟩ = some (.int .i64 (-77))) := by show _ = _; rw [hV, ← hkl]; go_cell
          rw [← hV, hkl]
          have HB2 := hide (HB1.out.trans (hb2.mono HB1.out.size))
          have HO2 := hide (HO1.out.later hb2)
          clear hV hb2 hkl
          clear s0
          have s0 := HS.out _ HB2.out
          refine hK.out _ _ (by first | with_reducible exact s0 | (dsimp only; with_reducible exact s0)) (fun hHeld => ?_)
          clear hK K
          try simp only [Act.put, List.getElem_toArray, List.getElem_cons_zero, List.getElem_cons_succ, List.setIfInBounds_toArray, List.set_cons_zero, List.set_cons_succ]
          refine wpAnyH_ready (rs := [7]) (by kernel_rfl) (by simp) ?_
          refine ready_cons ({ dst := some 18, op := Op.call { callee := Callee.builtin Builtin.append, args := #[Operand.tmp 16, Operand.tmp 17], argTypes := #[27, 27] }, type := 27, pos := "law.go:27", after := #[{ on := 5, ground := Ground.data }, { on := 6, ground := Ground.data }, { on := 5, ground := Ground.chain }], guard := none }) rfl rfl (fun K hK => ?_) ?_
          · clear hHeld
            obtain ⟨v2, V3, e2, o2, g2, _⟩ := append_intB HO2.out HL2.out HB2.out.size (by have := HLA.out; omega)
            obtain ⟨gv, cv, hv2, hcv⟩ := own_form o2 (by simp)
            rw [List.length_append, List.length_singleton, HLA.out] at hv2 hcv
            subst hv2
            have HB3 : Hid (Below wr.heap.size wr V3) := below_grown HB2.out HO2.out (Nat.le_refl _) HB2.out.size g2
            have HO3 := hide o2
            refine oper_append (.tmp 16) (.tmp 17) 27 rfl 27 rfl v1 (.slice (some ⟨kl, 0, none⟩) 1 1) (.slice (some ⟨gv, 0, none⟩) (la + 1) cv) V3 (by rfl) (by rfl) ?_ ?_
            with_reducible exact e2
            clear e2 g2 o2
            have z1 : la ≤ cv := by omega
            have z2 : (la : Int) ≤ cv := by omega
            have z3 : ¬ cv = 0 := by omega
            have z4 : ¬ (cv : Int) = 0 := by omega
            clear s0
            have s0 := HS.out _ HB3.out
            refine hK.out _ _ (by first | with_reducible exact s0 | (dsimp only; with_reducible exact s0)) (fun hHeld => ?_)
            clear hK K
            try simp only [Act.put, List.setIfInBounds_toArray, List.set_cons_zero, List.set_cons_succ]
            refine wpAnyH_take (i := 13) (v := ?v11) rfl (by kernel_rfl) (by kernel_rfl) (by kernel_rfl) (fun _ _ _ h => h) (Or.inl ⟨by rfl, ?hy11⟩) (by assumption) ?rest11
            case hy11 => (intro w hSw; (try dsimp only at hSw); go_simp; try with_reducible rfl)
            try simp only [Act.put, List.getElem_toArray, List.getElem_cons_zero, List.getElem_cons_succ, List.setIfInBounds_toArray, List.set_cons_zero, List.set_cons_succ]
            refine wpAnyH_ready (rs := [14]) (by kernel_rfl) (by simp) ?_
            refine ready_cons ({ dst := some 25, op := Op.buildSlice 26 1 #[(0, Operand.tmp 24)], type := 26, pos := "law.go:27", after := #[{ on := 13, ground := Ground.data }], guard := none }) rfl rfl (fun K hK => ?_) ?_
            · clear hHeld
              go_simp
              obtain ⟨p1, c1, V5, e5, t5, b5⟩ := HTR.out.step HB3.out HBW.out hvr HLA.out HO3.out (by omega)
              obtain ⟨V4, hV⟩ : ∃ V, V = V3.alloc (.cells #[.slice (some ⟨gv, 0, none⟩) la cv] 27) := ⟨_, rfl⟩
              have hb2 : Below V3.heap.size V3 V4 := by rw [hV]; go_grown
              have HB4 := hide (HB3.out.trans (hb2.mono HB3.out.size))
              have HT5 := hide t5
              have HB5 := hide b5
              obtain ⟨kb, hkb⟩ : ∃ k, V3.heap.size = k := ⟨_, rfl⟩
              rw [← hV, hkb] at e5
              rw [← hV, hkb]
              clear hV hb2 hkb t5 b5
              clear s0
              have s0 := HS.out _ HB4.out
              refine hK.out _ _ (by first | with_reducible exact s0 | (dsimp only; with_reducible exact s0)) (fun hHeld => ?_)
              clear hK K
              try simp only [Act.put, List.getElem_toArray, List.getElem_cons_zero, List.getElem_cons_succ, List.setIfInBounds_toArray, List.set_cons_zero, List.set_cons_succ]
              refine wpAnyH_ready (rs := [15]) (by kernel_rfl) (by simp) ?_
              refine ready_cons ({ dst := some 26, op := Op.call { callee := Callee.builtin Builtin.append, args := #[Operand.tmp 11, Operand.tmp 25], argTypes := #[26, 26] }, type := 26, pos := "law.go:27", after := #[{ on := 0, ground := Ground.data }, { on := 14, ground := Ground.data }, { on := 7, ground := Ground.chain }], guard := none }) rfl rfl (fun K hK => ?_) ?_
              · clear hHeld
                refine oper_append (.tmp 11) (.tmp 25) 26 rfl 26 rfl (.slice p3 v c3) (.slice (some ⟨kb, 0, none⟩) 1 1) (.slice p1 (v + 1) c1) V5 (by rfl) (by rfl) ?_ ?_
                with_reducible exact e5
                clear e5
                clear s0
                have s0 := HS2.out _ HB5.out
                refine hK.out _ _ (by first | with_reducible exact s0 | (dsimp only; with_reducible exact s0)) (fun hHeld => ?_)
                clear hK K
                try simp only [Act.put, List.setIfInBounds_toArray, List.set_cons_zero, List.set_cons_succ]
                refine wpAnyH_take (i := 16) (v := ?v12) rfl (by kernel_rfl) (by kernel_rfl) (by kernel_rfl) (fun _ _ _ h => h) (Or.inl ⟨by rfl, ?hy12⟩) (by assumption) ?rest12
                case hy12 => (intro w hSw; (try dsimp only at hSw); go_simp; try with_reducible rfl)
                try simp only [Act.put, List.getElem_toArray, List.getElem_cons_zero, List.getElem_cons_succ, List.setIfInBounds_toArray, List.set_cons_zero, List.set_cons_succ]
                refine wpAnyH_done (by kernel_rfl) ?_ _
                clear hHeld
                go_wp2
                go_roundw
                case rel => exact ⟨v + 1, p1, c1, _, by omega, by go_num, rfl, HBWr.out.trans HB5.out, HT5.out⟩
                case measure => simp [intOf]; omega
              exact AllReadyH.nil
            exact AllReadyH.nil
          exact AllReadyH.nil
        exact AllReadyH.nil
      refine ready_cons ({ dst := some 17, op := Op.buildSlice 27 1 #[(0, Operand.const (Value.int IntKind.i64 (-77)))], type := 27, pos := "law.go:27", after := #[], guard := none }) rfl rfl (fun K hK => ?_) ?_
      · clear hHeld
        go_simp
        obtain ⟨V1, hV⟩ : ∃ V, V = V0.alloc (.cells #[.int .i64 (-77)] 3) := ⟨_, rfl⟩
        obtain ⟨kl, hkl⟩ : ∃ k, V0.heap.size = k := ⟨_, rfl⟩
        have hb2 : Below V0.heap.size V0 V1 := by rw [hV]; go_grown
        have HL1 : Hid (V1.cell? ⟨kl, 0, none⟩ = some (.int .i64 (-77))) := by show _ = _; rw [hV, ← hkl]; go_cell
        rw [← hV, hkl]
        have HB1 := hide (HB0.out.trans (hb2.mono HB0.out.size))
        clear hV hb2 hkl
        clear s0
        have s0 := HS.out _ HB1.out
        refine hK.out _ _ (by first | with_reducible exact s0 | (dsimp only; with_reducible exact s0)) (fun hHeld => ?_)
        clear hK K
        try simp only [Act.put, List.getElem_toArray, List.getElem_cons_zero, List.getElem_cons_succ, List.setIfInBounds_toArray, List.set_cons_zero, List.set_cons_succ]
        refine wpAnyH_ready (rs := [5]) (by kernel_rfl) (by simp) ?_
        refine ready_cons ({ dst := some 16, op := Op.call { callee := Callee.builtin Builtin.append, args := #[Operand.const (Value.slice none 0 0), Operand.tmp 15], argTypes := #[27, 27] }, type := 27, pos := "law.go:27", after := #[{ on := 4, ground := Ground.data }], guard := none }) rfl rfl (fun K hK => ?_) ?_
        · clear hHeld
          obtain ⟨v1, V2, e1, o1, g1⟩ := append_intsB (IOwns.nil V1 V1.heap.size) aR kR (lat rs v) HNR.out (HIR.out V1 HB1.out) (Nat.le_refl _) (by have := HLA.out; simp; omega)
          rw [List.nil_append] at o1
          have hb2 : Below V1.heap.size V1 V2 := below_grown (Below.refl _ _) (IOwns.nil V1 V1.heap.size) (Nat.le_refl _) (Nat.le_refl _) g1
          have HB2 := hide (HB1.out.trans (hb2.mono HB1.out.size))
          have HO2 : Hid (IOwns V2 wr.heap.size v1 (lat rs v)) := o1.base HB1.out.size
          have HL2 := hide (later hb2 HL1.out)
          rw [HLA.out] at e1
          refine oper_append (.const (.slice none 0 0)) (.tmp 15) 27 rfl 27 rfl (.slice none 0 0) (.slice aR la kR) v1 V2 (by rfl) (by rfl) ?_ ?_
          with_reducible exact e1
          clear e1 g1 o1 hb2
          clear s0
          have s0 := HS.out _ HB2.out
          refine hK.out _ _ (by first | with_reducible exact s0 | (dsimp only; with_reducible exact s0)) (fun hHeld => ?_)
          clear hK K
          try simp only [Act.put, List.setIfInBounds_toArray, List.set_cons_zero, List.set_cons_succ]
          refine wpAnyH_ready (rs := [7]) (by kernel_rfl) (by simp) ?_
          refine ready_cons ({ dst := some 18, op := Op.call { callee := Callee.builtin Builtin.append, args := #[Operand.tmp 16, Operand.tmp 17], argTypes := #[27, 27] }, type := 27, pos := "law.go:27", after := #[{ on := 5, ground := Ground.data }, { on := 6, ground := Ground.data }, { on := 5, ground := Ground.chain }], guard := none }) rfl rfl (fun K hK => ?_) ?_
          · clear hHeld
            obtain ⟨v2, V3, e2, o2, g2, _⟩ := append_intB HO2.out HL2.out HB2.out.size (by have := HLA.out; omega)
            obtain ⟨gv, cv, hv2, hcv⟩ := own_form o2 (by simp)
            rw [List.length_append, List.length_singleton, HLA.out] at hv2 hcv
            subst hv2
            have HB3 : Hid (Below wr.heap.size wr V3) := below_grown HB2.out HO2.out (Nat.le_refl _) HB2.out.size g2
            have HO3 := hide o2
            refine oper_append (.tmp 16) (.tmp 17) 27 rfl 27 rfl v1 (.slice (some ⟨kl, 0, none⟩) 1 1) (.slice (some ⟨gv, 0, none⟩) (la + 1) cv) V3 (by rfl) (by rfl) ?_ ?_
            with_reducible exact e2
            clear e2 g2 o2
            have z1 : la ≤ cv := by omega
            have z2 : (la : Int) ≤ cv := by omega
            have z3 : ¬ cv = 0 := by omega
            have z4 : ¬ (cv : Int) = 0 := by omega
            clear s0
            have s0 := HS.out _ HB3.out
            refine hK.out _ _ (by first | with_reducible exact s0 | (dsimp only; with_reducible exact s0)) (fun hHeld => ?_)
            clear hK K
            try simp only [Act.put, List.setIfInBounds_toArray, List.set_cons_zero, List.set_cons_succ]
            refine wpAnyH_take (i := 13) (v := ?v13) rfl (by kernel_rfl) (by kernel_rfl) (by kernel_rfl) (fun _ _ _ h => h) (Or.inl ⟨by rfl, ?hy13⟩) (by assumption) ?rest13
            case hy13 => (intro w hSw; (try dsimp only at hSw); go_simp; try with_reducible rfl)
            try simp only [Act.put, List.getElem_toArray, List.getElem_cons_zero, List.getElem_cons_succ, List.setIfInBounds_toArray, List.set_cons_zero, List.set_cons_succ]
            refine wpAnyH_ready (rs := [14]) (by kernel_rfl) (by simp) ?_
            refine ready_cons ({ dst := some 25, op := Op.buildSlice 26 1 #[(0, Operand.tmp 24)], type := 26, pos := "law.go:27", after := #[{ on := 13, ground := Ground.data }], guard := none }) rfl rfl (fun K hK => ?_) ?_
            · clear hHeld
              go_simp
              obtain ⟨p1, c1, V5, e5, t5, b5⟩ := HTR.out.step HB3.out HBW.out hvr HLA.out HO3.out (by omega)
              obtain ⟨V4, hV⟩ : ∃ V, V = V3.alloc (.cells #[.slice (some ⟨gv, 0, none⟩) la cv] 27) := ⟨_, rfl⟩
              have hb2 : Below V3.heap.size V3 V4 := by rw [hV]; go_grown
              have HB4 := hide (HB3.out.trans (hb2.mono HB3.out.size))
              have HT5 := hide t5
              have HB5 := hide b5
              obtain ⟨kb, hkb⟩ : ∃ k, V3.heap.size = k := ⟨_, rfl⟩
              rw [← hV, hkb] at e5
              rw [← hV, hkb]
              clear hV hb2 hkb t5 b5
              clear s0
              have s0 := HS.out _ HB4.out
              refine hK.out _ _ (by first | with_reducible exact s0 | (dsimp only; with_reducible exact s0)) (fun hHeld => ?_)
              clear hK K
              try simp only [Act.put, List.getElem_toArray, List.getElem_cons_zero, List.getElem_cons_succ, List.setIfInBounds_toArray, List.set_cons_zero, List.set_cons_succ]
              refine wpAnyH_ready (rs := [15]) (by kernel_rfl) (by simp) ?_
              refine ready_cons ({ dst := some 26, op := Op.call { callee := Callee.builtin Builtin.append, args := #[Operand.tmp 11, Operand.tmp 25], argTypes := #[26, 26] }, type := 26, pos := "law.go:27", after := #[{ on := 0, ground := Ground.data }, { on := 14, ground := Ground.data }, { on := 7, ground := Ground.chain }], guard := none }) rfl rfl (fun K hK => ?_) ?_
              · clear hHeld
                refine oper_append (.tmp 11) (.tmp 25) 26 rfl 26 rfl (.slice p3 v c3) (.slice (some ⟨kb, 0, none⟩) 1 1) (.slice p1 (v + 1) c1) V5 (by rfl) (by rfl) ?_ ?_
                with_reducible exact e5
                clear e5
                clear s0
                have s0 := HS2.out _ HB5.out
                refine hK.out _ _ (by first | with_reducible exact s0 | (dsimp only; with_reducible exact s0)) (fun hHeld => ?_)
                clear hK K
                try simp only [Act.put, List.setIfInBounds_toArray, List.set_cons_zero, List.set_cons_succ]
                refine wpAnyH_take (i := 16) (v := ?v14) rfl (by kernel_rfl) (by kernel_rfl) (by kernel_rfl) (fun _ _ _ h => h) (Or.inl ⟨by rfl, ?hy14⟩) (by assumption) ?rest14
                case hy14 => (intro w hSw; (try dsimp only at hSw); go_simp; try with_reducible rfl)
                try simp only [Act.put, List.getElem_toArray, List.getElem_cons_zero, List.getElem_cons_succ, List.setIfInBounds_toArray, List.set_cons_zero, List.set_cons_succ]
                refine wpAnyH_done (by kernel_rfl) ?_ _
                clear hHeld
                go_wp2
                go_roundw
                case rel => exact ⟨v + 1, p1, c1, _, by omega, by go_num, rfl, HBWr.out.trans HB5.out, HT5.out⟩
                case measure => simp [intOf]; omega
              exact AllReadyH.nil
            exact AllReadyH.nil
          exact AllReadyH.nil
        exact AllReadyH.nil
      exact AllReadyH.nil
    · have hve : v = rs.length := by omega
      have e1 : ¬ (v : Int) < rs.length := by omega
      rw [hve] at HTR ⊢
      clear hve hv hvr e1
      have e1 : ¬ (rs.length : Int) < rs.length := by omega
      go_upto_region 6 with fail
      obtain ⟨g, c1, rv', D, ea, htw, bD⟩ := HTR.out.top HBWr.out.size (by omega)
      have HTW := hide htw
      have HBD := hide (HBWr.out.trans bD)
      have z1 : rs.length ≤ c1 := by have := htw.cap; omega
      have z2 : (rs.length : Int) ≤ c1 := by omega
      have z3 : ¬ c1 = 0 := by have := htw.cap; omega
      clear htw bD HTR HBWr
      go_wp2_with (at_builtin; refine wpList_run_append rfl (.tmp 27) (.tmp 29) 26 rfl 26 rfl _ _ _ D rfl rfl ea ?_)
      go_ret
      exact ⟨g, c1, rfl, ⟨rv', HTW.out⟩, HBD.out⟩
set_option maxRecDepth 100000 in
set_option maxHeartbeats 16000000 in
theorem kept23 (B g c : Nat) (rv : Nat → Value) (q : Option Addr) (rs : List (List Int)) (cq : Nat) (w : World) (ht : TwR w B g c rs rv) (hr : RHas w q rs) (hn : (rs.length + 1) * 24 ≤ 140737488355328) (hl : ∀ v, v < rs.length → ((lat rs v).length + 1) * 8 ≤ 140737488355328) : Calls Try.prog 17 #[.slice (some ⟨g, 0, none⟩) rs.length c, .slice q rs.length cq] w fun e w' => e = .returned (.bool true) ∧ Below w.heap.size w w' := by
  have LS := hide (lists29 (some ⟨g, 0, none⟩) q rs rs c cq w (by unfold maxLen; omega) (ht.fb.has fun v hv => by have := hl v hv; unfold maxLen; omega) hr)
  rw [decide_eq_true rfl] at LS
  have HT := hide ht
  have HR := hide hr
  have HLL := hide hl
  have hcap := ht.cap
  clear ht hr hl
  go_enter Try.func17, Try.ntmps17
  go_wp2_with fail
  refine LS.out.mono ?_
  rintro r w1 ⟨rfl, hb1⟩
  have HB1 := hide hb1
  have HT1 := hide (HT.out.later hb1)
  have HR1 := hide (HR.out.later hb1)
  obtain ⟨gm, c0, c1⟩ := HT1.out.top
  have d1 : IntKind.i64.wrap ((rs.length : Int) + 1) = rs.length + 1 := by rw [IntKind.wrap_i64]; omega
  have z1 : (rs.length : Int) + 1 ≤ c := by omega
  have z3 : ¬ c = 0 := by omega
  have z4 : (rs.length : Int) < (rs.length : Int) + 1 := by omega
  clear hb1 LS HT HR
  go_wp2_with fail
  clear c0 c1
  go_loopw [5] (fun t5 wr => ∃ v : Nat, v ≤ rs.length ∧ t5 = .int .i64 v ∧ Hid (Below w1.heap.size w1 wr)) (fun t5 _ => rs.length - (intOf t5).toNat)
  case atStart => exact ⟨0, by omega, rfl, Below.refl _ _⟩
  case round =>
    obtain ⟨v, hv, rfl, HBr⟩ := hrel
    by_cases hlt : v < rs.length
    · have e1 : (v : Int) < rs.length := by omega
      have ht := HT1.out.later HBr.out
      obtain ⟨bR, oR, aR, kR, rfl, cR, _, _, _, _⟩ := (HR1.out.later HBr.out).at_ hlt
      obtain ⟨gv, cv, a1, a2⟩ := ht.mks v hlt
      have c0 : wr.cell? ⟨g, v, none⟩ = some (rv v) := by
        rw [World.ownsRow.cellAt ht.fb.lst v (by omega)]
        simp [hlt]
      rw [a1] at c0
      have hlb := HLL.out v hlt
      have c2 : wr.cell? ⟨gv, (lat rs v).length, none⟩ = some (.int .i64 (-77)) := by
        have hll : (lat rs v ++ [(-77 : Int)]).length = (lat rs v).length + 1 := by simp
        rw [← hll] at a2
        have := a2.at_ (j := (lat rs v).length) (by simp)
        rw [this]
        simp [iat]
      have hcv : (lat rs v).length + 1 ≤ cv := by
        obtain ⟨_, ⟨h1, _⟩ | ⟨_, c4, _, h1, _, _, h4, _⟩⟩ := a2
        · cases h1
        · injection h1 with _ _ e3
          rw [List.length_append, List.length_singleton] at h4
          omega
      obtain ⟨la, hla⟩ : ∃ l, (lat rs v).length = l := ⟨_, rfl⟩
      rw [hla] at c0 c2 hcv cR hlb
      have d2 : IntKind.i64.wrap ((la : Int) + 1) = la + 1 := by rw [IntKind.wrap_i64]; omega
      have y1 : (la : Int) + 1 ≤ cv := by omega
      have y3 : ¬ cv = 0 := by omega
      have y4 : (la : Int) < (la : Int) + 1 := by omega
      have y5 : (0 : Int) ≤ (la : Int) + 1 := by omega
      have C0 := cell_regrown c0
      have C2 := cell_regrown c2
      have CR := cell_regrown cR
      clear ht a1 a2 hla
      go_upto_region 6 with fail
      refine wp_region_quiet_below (by kernel_rfl) (by kernel_rfl) ?_
      repeat (go_big_quiet_step (fail))
      refine wpQuiet_nil ?_
      intro v1 hw'
      have hbv1 : Below wr.heap.size wr v1 := by
        obtain ⟨⟨dq, osq⟩, hw''⟩ := hw'
        rw [hw'']
        exact below_regrown wr dq osq
      have HBv1 := hide (below_step HBr.out hbv1)
      clear hw' hbv1 C0 C2 CR c0 c2 cR
      go_wp2
      go_roundw
      case rel => exact ⟨v + 1, by omega, by go_num, HBv1.out⟩
      case measure => simp [intOf]; omega
    · have e1 : ¬ (v : Int) < rs.length := by omega
      go_wp2
      go_ret
      exact ⟨rfl, below_step HB1.out HBr.out⟩
end Go.Proofs.Ytllkadgpkbaghaa

namespace Go.Proofs.Ytllkadgpkbaghaa
open Go.RowKit Go.Sort
open Go
def Rng (a z i : Nat) : Prop := a ≤ i ∧ i < z
theorem own_same {w w' : World} {B e sz n : Nat} {v : Value} {xs : List Value} (h : w.ownsRow B e sz v n xs) (hs : ∀ g, v.ownBlock = some g → w'.heap[g]? = w.heap[g]?) : w'.ownsRow B e sz v n xs := by
  obtain ⟨h0, h1 | ⟨g, c, cur, a1, a2, a3, a4⟩⟩ := h
  · exact ⟨h0, Or.inl h1⟩
  · refine ⟨h0, Or.inr ⟨g, c, cur, a1, a2, ?_, a4⟩⟩
    rw [hs g (by rw [a1]; rfl)]
    exact a3
/-- A list of lists, its blocks between a and b. -/
structure LB (w : World) (a b : Nat) (p : Option Addr) (F : List (List Int)) (c : Nat) (rv : Nat → Value) : Prop where
  fb : FB w a (.slice p F.length c) F rv
  sp : ∀ x, p = some x → x.block < b
  row : ∀ v j, v < F.length → (rv v).ownBlock = some j → j < b
theorem LB.of {w : World} {a c : Nat} {p : Option Addr} {F : List (List Int)} {rv : Nat → Value} (h : FB w a (.slice p F.length c) F rv) : LB w a w.heap.size p F c rv :=
  ⟨h, fun x hx => by subst hx; exact (World.ownsRow.lt h.lst x.block rfl).2, fun v j hv hj => (World.ownsRow.lt (h.own v hv) j hj).2⟩
theorem LB.later {w w' : World} {a b c : Nat} {p : Option Addr} {F : List (List Int)} {rv : Nat → Value} (h : LB w a b p F c rv) (hb : Below w.heap.size w w') : LB w' a b p F c rv := ⟨h.fb.later hb, h.sp, h.row⟩
theorem LB.same {w w' : World} {a b c s z : Nat} {p : Option Addr} {F : List (List Int)} {rv : Nat → Value} (h : LB w a b p F c rv) (hs : ∀ i, Rng s z i → w'.heap[i]? = w.heap[i]?) (h1 : s ≤ a) (h2 : b ≤ z) : LB w' a b p F c rv := by
  refine ⟨⟨own_same h.fb.lst fun g hg => hs g ?_, h.fb.uniq, fun v hv => own_same (h.fb.own v hv) fun g hg => hs g ?_⟩, h.sp, h.row⟩
  · have := (World.ownsRow.lt h.fb.lst g hg).1
    have h3 : g < b := by
      cases p with
      | none => simp [Value.ownBlock] at hg
      | some x => have := h.sp x rfl; have e : x.block = g := by simpa [Value.ownBlock] using hg
                  omega
    exact ⟨by omega, by omega⟩
  · have := (World.ownsRow.lt (h.fb.own v hv) g hg).1
    have := h.row v g hv hg
    exact ⟨by omega, by omega⟩
theorem LB.has {w : World} {a b c : Nat} {p : Option Addr} {F : List (List Int)} {rv : Nat → Value} (h : LB w a b p F c rv) (hl : ∀ v, v < F.length → (lat F v).length ≤ 20000) : RHas w p F := h.fb.has fun v hv => by have := hl v hv; unfold maxLen; omega
theorem rows_lb {w : World} {B g n : Nat} {rv : Nat → Value} {F : List (List Int)} (h : Rows w B g n rv (fun v => lat F v)) (hn : F.length = n) : LB w B w.heap.size (some ⟨g, 0, none⟩) F n rv := LB.of ⟨by rw [hn]; exact h.1, by rw [hn]; exact h.2.1, by rw [hn]; exact h.2.2⟩
theorem LB.nil (w : World) (a b : Nat) : LB w a b none [] 0 (fun _ => .slice none 0 0) := ⟨FB.nil _ _, fun x hx => by simp at hx, fun v j hv => by simp at hv⟩
/-- A bag, whatever it holds. -/
def BagE (w : World) (B k : Nat) : Prop := ∃ lv n rv L sz, Bag w B k lv n rv L sz
theorem BagE.start {w x : World} {B k s z : Nat} (h : BagE w B k) (hb : Below w.heap.size w x) (hs : w.heap.size ≤ s) : KBag (Rng s z) (Rng s z) x B k := by
  obtain ⟨lv, n, rv, L, sz, b⟩ := h
  refine ⟨lv, n, rv, L, sz, b.later hb, fun g hg hN => ?_, fun u g hu hg hM => ?_⟩
  · have := (World.ownsRow.lt b.lst g hg).2
    have := hN.1
    omega
  · have := (World.ownsRow.lt (b.own u hu) g hg).2
    have := hM.1
    omega
theorem KBag.any {N M : Nat → Prop} {w : World} {B k : Nat} (h : KBag N M w B k) : BagE w B k := by
  obtain ⟨lv, n, rv, L, sz, b, _⟩ := h
  exact ⟨lv, n, rv, L, sz, b⟩
theorem BagE.k {w : World} {B k : Nat} (h : BagE w B k) : B ≤ k ∧ k < w.heap.size := by
  obtain ⟨lv, n, rv, L, sz, b⟩ := h
  exact ⟨b.kB, (World.ownsRow.lt b.box k rfl).2⟩
/-- What keeping leaves: all between s and z, and all below B. -/
structure KeptS (s z B k : Nat) (M : Nat → Prop) (V V' : World) : Prop where
  bag : KBag (Rng s z) M V' B k
  below : Below B V V'
  same : ∀ i, Rng s z i → V'.heap[i]? = V.heap[i]?
  size : V.heap.size ≤ V'.heap.size
theorem KPost.keptS {s z B k : Nat} {M : Nat → Prop} {V V' : World} (h : KPost (Rng s z) M V B k V') (hk : ¬ Rng s z k) : KeptS s z B k M V V' := ⟨h.1, h.2.1, fun i hi => h.2.2.2 i hi fun e => hk (by rw [← e]; exact hi), h.2.1.size⟩
theorem KeptS.trans {s z B k : Nat} {M M' : Nat → Prop} {V V' V'' : World} (h : KeptS s z B k M V V') (h' : KeptS s z B k M' V' V'') : KeptS s z B k M' V V'' := ⟨h'.bag, h.below.trans h'.below, fun i hi => (h'.same i hi).trans (h.same i hi), Nat.le_trans h.size h'.size⟩
/-- All lists of a list are kept. -/
theorem keepall_rng (s z a b B k : Nat) (p : Option Addr) (F : List (List Int)) (c : Nat) (rv : Nat → Value) (V : World) (hbag : KBag (Rng s z) (Rng a z) V B k) (hl : LB V a b p F c rv) (hlen : ∀ v, v < F.length → (lat F v).length ≤ 20000) (hF : F.length ≤ 100000) (h1 : s ≤ a) (h3 : b ≤ z) (hab : a ≤ b) (hz : z ≤ V.heap.size) (hB : B ≤ s) (hk : k < s) : Calls Try.prog 43 #[.pointer (some ⟨k, 0, none⟩), .slice p F.length c] V fun e w' => e = .returned (.tuple #[]) ∧ KeptS s z B k (Rng b z) V w' := by
  have hkr : ¬ Rng s z k := fun h => by have := h.1; omega
  refine (keepall20 (N := Rng s z) (M := Rng b z) B k a p F c rv V (hbag.weak ?_) (by omega) (by omega) hl.fb hlen hF ?_ (fun i hi => by have := hi.2; omega) hkr ?_).mono fun e w' ⟨he, hp⟩ => ⟨he, hp.keptS hkr⟩
  · rintro i (h | ⟨v, _, hv, hj⟩)
    · exact ⟨by have := h.1; omega, h.2⟩
    · have := (World.ownsRow.lt (hl.fb.own v hv) i hj).1
      have := hl.row v i hv hj
      exact ⟨by omega, by omega⟩
  · intro x hx
    subst hx
    have := (World.ownsRow.lt hl.fb.lst x.block rfl).1
    have := hl.sp x rfl
    exact ⟨by omega, by omega⟩
  · intro v j hv hj hM
    have := hl.row v j hv hj
    have := hM.1
    omega
/-- A list is kept. -/
theorem keepone_rng (s z a b B k : Nat) (p : Option Addr) (L : List Int) (c : Nat) (V : World) (hbag : KBag (Rng s z) (Rng a z) V B k) (ho : IOwns V a (.slice p L.length c) L) (hlt : ∀ j, (Value.slice p L.length c).ownBlock = some j → j < b) (hlen : L.length ≤ 20000) (h1 : s ≤ a) (h3 : b ≤ z) (hab : a ≤ b) (hz : z ≤ V.heap.size) (hB : B ≤ s) (hk : k < s) : Calls Try.prog 44 #[.pointer (some ⟨k, 0, none⟩), .slice (some ⟨V.heap.size, 0, none⟩) 1 1] (V.alloc (.cells #[.slice p L.length c] 27)) fun e w' => e = .returned (.tuple #[]) ∧ KeptS s z B k (Rng b z) V w' := by
  have hkr : ¬ Rng s z k := fun h => by have := h.1; omega
  obtain ⟨V1, hV⟩ : ∃ V1, V1 = V.alloc (.cells #[.slice p L.length c] 27) := ⟨_, rfl⟩
  have hb : Below V.heap.size V V1 := by rw [hV]; go_grown
  have ho1 := ho.later hb
  have harg : V1.ownsRow V.heap.size 27 1 (.slice (some ⟨V.heap.size, 0, none⟩) 1 1) 1 ((List.range 1).map fun _ => Value.slice p L.length c) := by
    rw [hV]
    exact ⟨rfl, Or.inr ⟨V.heap.size, 1, _, rfl, Nat.le_refl _, heap_alloc_new V _, Nat.le_refl _, by unfold maxLen; omega, rfl, rfl⟩⟩
  rw [← hV]
  obtain ⟨lv0, n0, rv0, L0, sz0, hb0, hn0, hm0⟩ := hbag
  have hblk : ∀ j, (Value.slice p L.length c).ownBlock = some j → Rng a z j ∧ j < b := fun j hj => by
    have := (World.ownsRow.lt ho j hj).1
    have := hlt j hj
    exact ⟨⟨by omega, by omega⟩, by omega⟩
  refine (keep22 (N := Rng s z) (M := Rng b z) B k V.heap.size 1 V.heap.size (fun _ => .slice p L.length c) (fun _ => L) V1 (hb0.later hb) (by have := hb.size; omega) (by omega) (by omega) harg ?_ (fun j _ => ho1.base (by omega)) (fun j _ => hlen) (fun i j _ hi hj _ _ => by omega) ?_ hn0 ?_ ?_ ?_).mono fun e w' ⟨he, hp⟩ => ⟨he, ?_⟩
  · intro e
    have := (World.ownsRow.lt hb0.lst _ e).2
    omega
  · intro j u i _ hu hi hr
    exact hm0 u i hu hr (hblk i hi).1
  · intro i hi
    have := hi.2
    have := hb.size
    omega
  · intro u i hu hi hM
    exact hm0 u i hu hi ⟨by have := hM.1; omega, hM.2⟩
  · intro j i _ hi hM
    have := (hblk i hi).2
    have := hM.1
    omega
  · have q := hp.keptS hkr
    exact ⟨q.bag, (hb.mono (by omega)).trans q.below, fun i hi => (q.same i hi).trans (hb.block i (by have := hi.2; omega)), Nat.le_trans hb.size q.size⟩
end Go.Proofs.Ytllkadgpkbaghaa

namespace Go.Proofs.Ytllkadgpkbaghaa
open Go.RowKit Go.Sort
open Go
theorem two_boxes (w : World) (n : Int) (p : Option Addr) (l c : Nat) (n' : Int) (p' : Option Addr) (l' c' : Nat) : ∃ W, W = (w.alloc (nbx n p l c)).alloc (nbx n' p' l' c') ∧ Below w.heap.size w W ∧ NOwn W w.heap.size n p l c ∧ NOwn W (w.heap.size + 1) n' p' l' c' :=
  ⟨_, rfl, by go_grown, ⟨by go_cell, by go_cell, by simp [go_sem], by simp [go_sem]⟩, by go_cell, by go_cell, by simp [go_sem], by simp [go_sem]⟩
theorem heap_frozen {w w' : World} {b o : Nat} (h : w'.heap[b]? = w.heap[b]?) : w'.frozen? ⟨b, o, none⟩ = w.frozen? ⟨b, o, none⟩ := by
  unfold World.frozen?
  simp only [h]
theorem nown_same {w w' : World} {g : Nat} {n : Int} {p : Option Addr} {l c : Nat} (h : NOwn w g n p l c) (hs : w'.heap[g]? = w.heap[g]?) : NOwn w' g n p l c := by
  obtain ⟨h0, h1, h2, h3⟩ := h
  exact ⟨(heap_cell hs).trans h0, (heap_cell hs).trans h1, (heap_frozen hs).trans h2, (heap_frozen hs).trans h3⟩
theorem below_step_W0 {a b c : World} (h : Below a.heap.size a b) (k : Below b.heap.size b c) : Below a.heap.size a c := below_step h k
theorem own_has {w : World} {B c : Nat} {p : Option Addr} {l : List Int} (o : IOwns w B (.slice p l.length c) l) : IHas w p l := by
  obtain ⟨p', c', e, h, _⟩ := o.form
  injection e with e1 _ _
  subst e1
  exact h
theorem BagE.later {w w' : World} {B k : Nat} (h : BagE w B k) (hb : Below w.heap.size w w') : BagE w' B k := by
  obtain ⟨lv, n, rv, L, sz, b⟩ := h
  exact ⟨lv, n, rv, L, sz, b.later hb⟩
set_option maxRecDepth 100000 in
set_option maxHeartbeats 32000000 in
theorem told_c (W0 : World) (k : Nat) (n : Int) (ph pg : Option Addr) (es : List Pt) (ch cg : Nat) (qt qr : Option Addr) (rs : List (List Int)) (ct cr : Nat) (G : Int) (FO MO CO XO : List (List Int)) (OO : List Int)
    (C1 : ∀ V, Below W0.heap.size W0 V → Calls Try.prog 21 #[nv n ph es.length ch, .slice qt rs.length ct] V fun e w' => ∃ p1 c1 rv, e = .returned (.tuple #[.slice p1 FO.length c1, .int .i64 0]) ∧ LB w' V.heap.size w'.heap.size p1 FO c1 rv ∧ Below V.heap.size V w')
    (C2 : ∀ V, Below W0.heap.size W0 V → Calls Try.prog 40 #[nv n ph es.length ch, .slice qt rs.length ct] V fun e w' => ∃ p1 c1, e = .returned (.tuple #[.slice p1 OO.length c1, .int .i64 0]) ∧ IOwns w' V.heap.size (.slice p1 OO.length c1) OO ∧ Below V.heap.size V w')
    (C3 : ∀ V, Below W0.heap.size W0 V → Calls Try.prog 22 #[nv n ph es.length ch, .slice qt rs.length ct] V fun e w' => e = .returned (.tuple #[.int .i64 G, .int .i64 0]) ∧ Below V.heap.size V w')
    (C4 : ∀ V, Below W0.heap.size W0 V → Calls Try.prog 27 #[nv n ph es.length ch, .slice qt rs.length ct] V fun e w' => ∃ p1 c1 rv, e = .returned (.tuple #[.slice p1 MO.length c1, .int .i64 0]) ∧ LB w' V.heap.size w'.heap.size p1 MO c1 rv ∧ Below V.heap.size V w')
    (C5 : ∀ V, Below W0.heap.size W0 V → Calls Try.prog 28 #[nv n ph es.length ch, .slice qt rs.length ct] V fun e w' => ∃ p1 c1 rv, e = .returned (.tuple #[.slice p1 CO.length c1, .int .i64 0]) ∧ LB w' V.heap.size w'.heap.size p1 CO c1 rv ∧ Below V.heap.size V w')
    (C6 : ∀ V, Below W0.heap.size W0 V → Calls Try.prog 41 #[nv n ph es.length ch] V fun e w' => ∃ p1 c1 rv, e = .returned (.tuple #[.slice p1 XO.length c1, .int .i64 0]) ∧ LB w' V.heap.size w'.heap.size p1 XO c1 rv ∧ Below V.heap.size V w')
    (MY : ∀ V, Below W0.heap.size W0 V → Calls Try.prog 36 #[nv n pg es.length cg] V fun e w' => e = .returned (.bool (true)) ∧ Below V.heap.size V w')
    (R6 : ∀ V, Below W0.heap.size W0 V → Calls Try.prog 42 #[nv n pg es.length cg] V fun e w' => ∃ p1 c1, e = .returned (.slice p1 XO.length c1) ∧ RHas w' p1 XO ∧ Below V.heap.size V w')
    (R1 : ∀ V, Below W0.heap.size W0 V → Calls Try.prog 45 #[nv n pg es.length cg, .slice qr rs.length cr] V fun e w' => ∃ p1 c1, e = .returned (.slice p1 FO.length c1) ∧ RHas w' p1 FO ∧ Below V.heap.size V w')
    (R2 : ∀ V, Below W0.heap.size W0 V → Calls Try.prog 46 #[nv n pg es.length cg, .slice qr rs.length cr] V fun e w' => ∃ p1 c1, e = .returned (.slice p1 OO.length c1) ∧ IHas w' p1 OO ∧ Below V.heap.size V w')
    (R3 : ∀ V, Below W0.heap.size W0 V → Calls Try.prog 47 #[nv n pg es.length cg, .slice qr rs.length cr] V fun e w' => e = .returned (.int .i64 G) ∧ Below V.heap.size V w')
    (R4 : ∀ V, Below W0.heap.size W0 V → Calls Try.prog 48 #[.slice qr rs.length cr] V fun e w' => ∃ p1 c1, e = .returned (.slice p1 MO.length c1) ∧ RHas w' p1 MO ∧ Below V.heap.size V w')
    (R5 : ∀ V, Below W0.heap.size W0 V → Calls Try.prog 49 #[.slice qr rs.length cr] V fun e w' => ∃ p1 c1, e = .returned (.slice p1 CO.length c1) ∧ RHas w' p1 CO ∧ Below V.heap.size V w')
    (B1 : ∀ v, v < FO.length → (lat FO v).length ≤ 20000) (B4 : ∀ v, v < MO.length → (lat MO v).length ≤ 20000) (B5 : ∀ v, v < CO.length → (lat CO v).length ≤ 20000) (B6 : ∀ v, v < XO.length → (lat XO v).length ≤ 20000) (B2 : OO.length ≤ 20000) (b1 : FO.length ≤ 20000) (b4 : MO.length ≤ 20000) (b5 : CO.length ≤ 20000) (b6 : XO.length ≤ 20000)
    (w : World) (hw : Below W0.heap.size W0 w) (hbag : BagE w W0.heap.size k) :
    Calls Try.prog 14 #[nv n ph es.length ch, .slice qt rs.length ct, nv n pg es.length cg, .slice qr rs.length cr, .int .i64 0, .pointer (some ⟨k, 0, none⟩)] w fun e w' => e = .returned (.bool true) ∧ Below W0.heap.size W0 w' ∧ BagE w' W0.heap.size k := by
  obtain ⟨W, hW, hbW, aH, aG⟩ := two_boxes w n ph es.length ch n pg es.length cg
  have HWS : Hid (W.heap.size = w.heap.size + 2) := by show _ = _; rw [hW]; simp
  have HC1 := hide C1
  have HC2 := hide C2
  have HC3 := hide C3
  have HC4 := hide C4
  have HC5 := hide C5
  have HC6 := hide C6
  have HMY := hide MY
  have HR6 := hide R6
  have HR1 := hide R1
  have HR2 := hide R2
  have HR3 := hide R3
  have HR4 := hide R4
  have HR5 := hide R5
  have HB1 := hide B1
  have HB4 := hide B4
  have HB5 := hide B5
  have HB6 := hide B6
  have HW0 := hide hw
  have HBAG := hide hbag
  have HBW := hide hbW
  have HAH := hide aH
  have HAG := hide aG
  have HKK : Hid (k < w.heap.size) := hbag.k.2
  obtain ⟨s, hs⟩ : ∃ s, w.heap.size = s := ⟨_, rfl⟩
  have HWB : Hid (W0.heap.size ≤ s) := by show _ ≤ _; rw [← hs]; exact hw.size
  clear C1 C2 C3 C4 C5 C6 MY B1 B4 B5 B6 hw hbag hbW aH aG R6 R1 R2 R3 R4 R5 
  go_enter Try.func14, Try.ntmps14
  go_wp2_with fail
  rw [← hW]
  clear hW
  rw [hs] at HAH HAG
  try rw [hs]
  have HSS := hide hs
  have HBT0 := hide (HW0.out.trans (HBW.out.mono HW0.out.size))
  have HV0 : Hid (Below W.heap.size W W) := Below.refl _ _
  clear hs
  obtain ⟨q0, q1, _, _⟩ := HAH.out.later HV0.out
  have K1 := hide (HC1.out W HBT0.out)
  go_wp2_with fail
  refine K1.out.mono ?_
  rintro r x1 ⟨pa, ca, rva, rfl, hl, hb⟩
  have HE1 := hide hb
  have HV1 := hide (below_step HV0.out hb)
  have HBT1 := hide (below_step HBT0.out hb)
  have HL1 := hide hl
  clear hb hl K1 q0 q1
  obtain ⟨q0, q1, _, _⟩ := HAH.out.later HV1.out
  have K2 := hide (HC2.out x1 HBT1.out)
  go_wp2_with fail
  refine K2.out.mono ?_
  rintro r x2 ⟨po, co, rfl, hl, hb⟩
  have HE2 := hide hb
  have HV2 := hide (below_step HV1.out hb)
  have HBT2 := hide (below_step HBT1.out hb)
  have HL2 := hide hl
  have HO2 : Hid (∀ j, (Value.slice po OO.length co).ownBlock = some j → j < x2.heap.size) := fun j hj => (World.ownsRow.lt hl j hj).2
  clear hb hl K2 q0 q1
  obtain ⟨q0, q1, _, _⟩ := HAH.out.later HV2.out
  have K3 := hide (HC3.out x2 HBT2.out)
  go_wp2_with fail
  refine K3.out.mono ?_
  rintro r x3 ⟨rfl, hb⟩
  have HE3 := hide hb
  have HV3 := hide (below_step HV2.out hb)
  have HBT3 := hide (below_step HBT2.out hb)
  clear hb K3 q0 q1
  obtain ⟨q0, q1, _, _⟩ := HAH.out.later HV3.out
  have K4 := hide (HC4.out x3 HBT3.out)
  go_wp2_with fail
  refine K4.out.mono ?_
  rintro r x4 ⟨pm, cm, rvm, rfl, hl, hb⟩
  have HE4 := hide hb
  have HV4 := hide (below_step HV3.out hb)
  have HBT4 := hide (below_step HBT3.out hb)
  have HL4 := hide hl
  clear hb hl K4 q0 q1
  obtain ⟨q0, q1, _, _⟩ := HAH.out.later HV4.out
  have K5 := hide (HC5.out x4 HBT4.out)
  go_wp2_with fail
  refine K5.out.mono ?_
  rintro r x5 ⟨pc, cc, rvc, rfl, hl, hb⟩
  have HE5 := hide hb
  have HV5 := hide (below_step HV4.out hb)
  have HBT5 := hide (below_step HBT4.out hb)
  have HL5 := hide hl
  clear hb hl K5 q0 q1
  obtain ⟨q0, q1, _, _⟩ := HAH.out.later HV5.out
  have K6 := hide (HC6.out x5 HBT5.out)
  go_wp2_with fail
  refine K6.out.mono ?_
  rintro r x6 ⟨px, cx, rvx, rfl, hl, hb⟩
  have HE6 := hide hb
  have HV6 := hide (below_step HV5.out hb)
  have HBT6 := hide (below_step HBT5.out hb)
  have HL6 := hide hl
  clear hb hl K6 q0 q1
  obtain ⟨g0, g1, _, _⟩ := HAG.out.later HV6.out
  have K7 := hide (HMY.out x6 HBT6.out)
  go_wp2_with fail
  refine K7.out.mono ?_
  rintro r x7 ⟨rfl, hb⟩
  have HE7 := hide hb
  have HV7 := hide (below_step HV6.out hb)
  have HBT7 := hide (below_step HBT6.out hb)
  clear hb K7 g0 g1
  obtain ⟨g0, g1, _, _⟩ := HAG.out.later HV7.out
  have K8 := hide (HR6.out x7 HBT7.out)
  go_wp2_with fail
  refine K8.out.mono ?_
  rintro r x8 ⟨p8, c8, rfl, hh, hb⟩
  have HE8 := hide hb
  have HV8 := hide (below_step HV7.out hb)
  have HBT8 := hide (below_step HBT7.out hb)
  have K9 := hide (lists29 px p8 XO XO cx c8 x8 (by unfold maxLen; omega) ((HL6.out.later (below_step HE7.out hb)).has HB6.out) hh)
  rw [decide_eq_true rfl] at K9
  clear hb hh K8 g0 g1
  go_wp2_with fail
  refine K9.out.mono ?_
  rintro r y0 ⟨rfl, hb⟩
  have HF6 := hide (below_step HE7.out (below_step HE8.out hb))
  have HBTy := hide (below_step HBT8.out hb)
  have HVy := hide (below_step HV8.out hb)
  clear hb K9
  have HF5 := hide (below_step HE6.out HF6.out)
  have HF4 := hide (below_step HE5.out HF5.out)
  have HF3 := hide (below_step HE4.out HF4.out)
  have HF2 := hide (below_step HE3.out HF3.out)
  have HF1 := hide (below_step HE2.out HF2.out)
  have HZ1 := hide (HL1.out.later HF1.out)
  have HZ4 := hide (HL4.out.later HF4.out)
  have HZ5 := hide (HL5.out.later HF5.out)
  have HZ6 := hide (HL6.out.later HF6.out)
  have HZ2 := hide (HL2.out.later HF2.out)
  obtain ⟨z, hz⟩ : ∃ z, x6.heap.size = z := ⟨_, rfl⟩
  obtain ⟨a1, ha1⟩ : ∃ z, W.heap.size = z := ⟨_, rfl⟩
  obtain ⟨e1, he1⟩ : ∃ z, x1.heap.size = z := ⟨_, rfl⟩
  obtain ⟨e2, he2⟩ : ∃ z, x2.heap.size = z := ⟨_, rfl⟩
  obtain ⟨e3, he3⟩ : ∃ z, x3.heap.size = z := ⟨_, rfl⟩
  obtain ⟨e4, he4⟩ : ∃ z, x4.heap.size = z := ⟨_, rfl⟩
  obtain ⟨e5, he5⟩ : ∃ z, x5.heap.size = z := ⟨_, rfl⟩
  have HORD : Hid (W0.heap.size ≤ s ∧ k < s ∧ s + 2 ≤ a1 ∧ a1 ≤ e1 ∧ e1 ≤ e2 ∧ e2 ≤ e3 ∧ e3 ≤ e4 ∧ e4 ≤ e5 ∧ e5 ≤ z ∧ z ≤ y0.heap.size) := by
    have f1 := HE1.out.size; have f2 := HE2.out.size; have f3 := HE3.out.size; have f4 := HE4.out.size; have f5 := HE5.out.size; have f6 := HE6.out.size; have f7 := HF6.out.size; have f8 := HWB.out; have f9 := HKK.out; have f10 := HSS.out; have f11 := HWS.out
    exact ⟨f8, by omega, by omega, by omega, by omega, by omega, by omega, by omega, by omega, by omega⟩
  rw [ha1, he1] at HZ1
  rw [he1] at HZ2
  rw [he2] at HO2
  rw [he3, he4] at HZ4
  rw [he4, he5] at HZ5
  rw [he5, hz] at HZ6
  have HKB : Hid (KBag (Rng s z) (Rng a1 z) y0 W0.heap.size k) := by
    refine (HBAG.out.start (s := s) (z := z) (below_step HBW.out HVy.out) (by rw [HSS.out]; exact Nat.le_refl _)).weak fun i hi => ⟨by have := hi.1; have := HORD.out; omega, hi.2⟩
  clear hz ha1 he1 he2 he3 he4 he5
  have P1 := hide (keepall_rng s z a1 e1 W0.heap.size k pa FO ca rva y0 HKB.out HZ1.out HB1.out (by omega) (by have := HORD.out; omega) (by have := HORD.out; omega) (by have := HORD.out; omega) (by have := HORD.out; have := Nat.le_refl y0.heap.size; omega) (by have := HORD.out; omega) (by have := HORD.out; omega))
  go_wp2_with fail
  refine P1.out.mono ?_
  rintro r k1 ⟨rfl, hk1⟩
  have HQ1 := hide hk1
  clear hk1 P1
  have HU2 : Hid (IOwns k1 e1 (.slice po OO.length co) OO) := own_same HZ2.out fun g hg => HQ1.out.same g ⟨by have := (World.ownsRow.lt HZ2.out g hg).1; have := HORD.out; omega, by have := HO2.out g hg; have := HORD.out; omega⟩
  have P2 := hide (keepone_rng s z e1 e2 W0.heap.size k po OO co k1 HQ1.out.bag HU2.out HO2.out (by omega) (by have := HORD.out; omega) (by have := HORD.out; omega) (by have := HORD.out; omega) (by have := HORD.out; have := HQ1.out.size; omega) (by have := HORD.out; omega) (by have := HORD.out; omega))
  go_wp2_with fail
  refine P2.out.mono ?_
  rintro r k2 ⟨rfl, hk2⟩
  have HQ2 := hide (HQ1.out.trans hk2)
  clear hk2 P2
  have HU4 : Hid (LB k2 e3 e4 pm MO cm rvm) := HZ4.out.same HQ2.out.same (by have := HORD.out; omega) (by have := HORD.out; omega)
  have P3 := hide (keepall_rng s z e3 e4 W0.heap.size k pm MO cm rvm k2 (HQ2.out.bag.weak fun i hi => ⟨by have := hi.1; have := HORD.out; omega, hi.2⟩) HU4.out HB4.out (by omega) (by have := HORD.out; omega) (by have := HORD.out; omega) (by have := HORD.out; omega) (by have := HORD.out; have := HQ2.out.size; omega) (by have := HORD.out; omega) (by have := HORD.out; omega))
  go_wp2_with fail
  refine P3.out.mono ?_
  rintro r k3 ⟨rfl, hk3⟩
  have HQ3 := hide (HQ2.out.trans hk3)
  clear hk3 P3
  have HU5 : Hid (LB k3 e4 e5 pc CO cc rvc) := HZ5.out.same HQ3.out.same (by have := HORD.out; omega) (by have := HORD.out; omega)
  have P4 := hide (keepall_rng s z e4 e5 W0.heap.size k pc CO cc rvc k3 HQ3.out.bag HU5.out HB5.out (by omega) (by have := HORD.out; omega) (by have := HORD.out; omega) (by have := HORD.out; omega) (by have := HORD.out; have := HQ3.out.size; omega) (by have := HORD.out; omega) (by have := HORD.out; omega))
  go_wp2_with fail
  refine P4.out.mono ?_
  rintro r k4 ⟨rfl, hk4⟩
  have HQ4 := hide (HQ3.out.trans hk4)
  clear hk4 P4
  have HU6 : Hid (LB k4 e5 z px XO cx rvx) := HZ6.out.same HQ4.out.same (by have := HORD.out; omega) (by have := HORD.out; omega)
  have P5 := hide (keepall_rng s z e5 z W0.heap.size k px XO cx rvx k4 HQ4.out.bag HU6.out HB6.out (by omega) (by have := HORD.out; omega) (by have := HORD.out; omega) (by have := HORD.out; omega) (by have := HORD.out; have := HQ4.out.size; omega) (by have := HORD.out; omega) (by have := HORD.out; omega))
  go_wp2_with fail
  refine P5.out.mono ?_
  rintro r k5 ⟨rfl, hk5⟩
  have HQ5 := hide (HQ4.out.trans hk5)
  clear hk5 P5
  have HBG5 : Hid (BagE k5 W0.heap.size k) := HQ5.out.bag.any
  have HBT9 := hide (HBTy.out.trans HQ5.out.below)
  have HG5 : Hid (NOwn k5 (s + 1) n pg es.length cg) := nown_same (HAG.out.later HVy.out) (HQ5.out.same (s + 1) ⟨by omega, by have := HORD.out; omega⟩)
  have HM1 : Hid (LB k5 a1 e1 pa FO ca rva) := HZ1.out.same HQ5.out.same (by have := HORD.out; omega) (by have := HORD.out; omega)
  have HM2 : Hid (IOwns k5 e1 (.slice po OO.length co) OO) := own_same HZ2.out fun g hg => HQ5.out.same g ⟨by have := (World.ownsRow.lt HZ2.out g hg).1; have := HORD.out; omega, by have := HO2.out g hg; have := HORD.out; omega⟩
  have HM4 : Hid (LB k5 e3 e4 pm MO cm rvm) := HZ4.out.same HQ5.out.same (by have := HORD.out; omega) (by have := HORD.out; omega)
  have HM5 : Hid (LB k5 e4 e5 pc CO cc rvc) := HZ5.out.same HQ5.out.same (by have := HORD.out; omega) (by have := HORD.out; omega)
  have HR0 : Hid (Below k5.heap.size k5 k5) := Below.refl _ _
  obtain ⟨g0, g1, _, _⟩ := HG5.out.later HR0.out
  have T1 := hide (HR1.out k5 (below_step_W0 HBT9.out HR0.out))
  go_wp2_with fail
  refine T1.out.mono ?_
  rintro r v1 ⟨pr, cr_, rfl, hh, hb⟩
  have HH_ := hide hh
  have HR1_ := hide (below_step HR0.out hb)
  clear hh hb T1 g0 g1
  have T2 := hide (lists29 pa pr FO FO ca cr_ v1 (by unfold maxLen; omega) ((HM1.out.later HR1_.out).has HB1.out) HH_.out)
  rw [decide_eq_true rfl] at T2
  go_wp2_with fail
  refine T2.out.mono ?_
  rintro r v2 ⟨rfl, hb⟩
  have HR2_ := hide (below_step HR1_.out hb)
  clear hb T2 HH_
  obtain ⟨g0, g1, _, _⟩ := HG5.out.later HR2_.out
  have T3 := hide (HR2.out v2 (below_step_W0 HBT9.out HR2_.out))
  go_wp2_with fail
  refine T3.out.mono ?_
  rintro r v3 ⟨pr, cr_, rfl, hh, hb⟩
  have HH_ := hide hh
  have HR3_ := hide (below_step HR2_.out hb)
  clear hh hb T3 g0 g1
  have T4 := hide (ints30 po pr OO OO co cr_ v3 (by unfold maxLen; omega) (own_has (HM2.out.later HR3_.out)) HH_.out)
  rw [decide_eq_true rfl] at T4
  go_wp2_with fail
  refine T4.out.mono ?_
  rintro r v4 ⟨rfl, hb⟩
  have HR4_ := hide (below_step HR3_.out hb)
  clear hb T4 HH_
  obtain ⟨g0, g1, _, _⟩ := HG5.out.later HR4_.out
  have T5 := hide (HR3.out v4 (below_step_W0 HBT9.out HR4_.out))
  go_wp2_with fail
  refine T5.out.mono ?_
  rintro r v5 ⟨rfl, hb⟩
  have HR5_ := hide (below_step HR4_.out hb)
  clear hb T5 g0 g1
  have T6 := hide (HR4.out v5 (below_step_W0 HBT9.out HR5_.out))
  go_wp2_with fail
  refine T6.out.mono ?_
  rintro r v6 ⟨pr, cr_, rfl, hh, hb⟩
  have HH_ := hide hh
  have HR6_ := hide (below_step HR5_.out hb)
  clear hh hb T6
  have T7 := hide (lists29 pm pr MO MO cm cr_ v6 (by unfold maxLen; omega) ((HM4.out.later HR6_.out).has HB4.out) HH_.out)
  rw [decide_eq_true rfl] at T7
  go_wp2_with fail
  refine T7.out.mono ?_
  rintro r v7 ⟨rfl, hb⟩
  have HR7_ := hide (below_step HR6_.out hb)
  clear hb T7 HH_
  have T8 := hide (HR5.out v7 (below_step_W0 HBT9.out HR7_.out))
  go_wp2_with fail
  refine T8.out.mono ?_
  rintro r v8 ⟨pr, cr_, rfl, hh, hb⟩
  have HH_ := hide hh
  have HR8_ := hide (below_step HR7_.out hb)
  clear hh hb T8
  have T9 := hide (lists29 pc pr CO CO cc cr_ v8 (by unfold maxLen; omega) ((HM5.out.later HR8_.out).has HB5.out) HH_.out)
  rw [decide_eq_true rfl] at T9
  go_wp2_with fail
  refine T9.out.mono ?_
  rintro r v9 ⟨rfl, hb⟩
  have HR9_ := hide (below_step HR8_.out hb)
  clear hb T9 HH_
  have HBE := hide (below_step_W0 HBT9.out HR9_.out)
  have HGE := hide (HBG5.out.later HR9_.out)
  clear HM1 HM2 HM4 HM5
  go_wp2
  go_ret
  exact ⟨rfl, HBE.out, HGE.out⟩
set_option maxRecDepth 100000 in
set_option maxHeartbeats 32000000 in
theorem told_b (W0 : World) (k : Nat) (n : Int) (ph pg : Option Addr) (es : List Pt) (ch cg : Nat) (qt qr : Option Addr) (rs : List (List Int)) (ct cr : Nat) (x : Int) (G : Int) (FO MO CO XO : List (List Int)) (OO : List Int)
    (C1 : ∀ V, Below W0.heap.size W0 V → Calls Try.prog 21 #[nv n ph es.length ch, .slice qt rs.length ct] V fun e w' => ∃ p1 c1 rv, e = .returned (.tuple #[.slice p1 FO.length c1, .int .i64 x]) ∧ LB w' V.heap.size w'.heap.size p1 FO c1 rv ∧ Below V.heap.size V w')
    (C2 : ∀ V, Below W0.heap.size W0 V → Calls Try.prog 40 #[nv n ph es.length ch, .slice qt rs.length ct] V fun e w' => ∃ p1 c1, e = .returned (.tuple #[.slice p1 OO.length c1, .int .i64 x]) ∧ IOwns w' V.heap.size (.slice p1 OO.length c1) OO ∧ Below V.heap.size V w')
    (C3 : ∀ V, Below W0.heap.size W0 V → Calls Try.prog 22 #[nv n ph es.length ch, .slice qt rs.length ct] V fun e w' => e = .returned (.tuple #[.int .i64 G, .int .i64 x]) ∧ Below V.heap.size V w')
    (C4 : ∀ V, Below W0.heap.size W0 V → Calls Try.prog 27 #[nv n ph es.length ch, .slice qt rs.length ct] V fun e w' => ∃ p1 c1 rv, e = .returned (.tuple #[.slice p1 MO.length c1, .int .i64 x]) ∧ LB w' V.heap.size w'.heap.size p1 MO c1 rv ∧ Below V.heap.size V w')
    (C5 : ∀ V, Below W0.heap.size W0 V → Calls Try.prog 28 #[nv n ph es.length ch, .slice qt rs.length ct] V fun e w' => ∃ p1 c1 rv, e = .returned (.tuple #[.slice p1 CO.length c1, .int .i64 x]) ∧ LB w' V.heap.size w'.heap.size p1 CO c1 rv ∧ Below V.heap.size V w')
    (C6 : ∀ V, Below W0.heap.size W0 V → Calls Try.prog 41 #[nv n ph es.length ch] V fun e w' => ∃ p1 c1 rv, e = .returned (.tuple #[.slice p1 XO.length c1, .int .i64 0]) ∧ LB w' V.heap.size w'.heap.size p1 XO c1 rv ∧ Below V.heap.size V w')
    (MY : ∀ V, Below W0.heap.size W0 V → Calls Try.prog 36 #[nv n pg es.length cg] V fun e w' => e = .returned (.bool (true)) ∧ Below V.heap.size V w')
    (R6 : ∀ V, Below W0.heap.size W0 V → Calls Try.prog 42 #[nv n pg es.length cg] V fun e w' => ∃ p1 c1, e = .returned (.slice p1 XO.length c1) ∧ RHas w' p1 XO ∧ Below V.heap.size V w')
    (B1 : ∀ v, v < FO.length → (lat FO v).length ≤ 20000) (B4 : ∀ v, v < MO.length → (lat MO v).length ≤ 20000) (B5 : ∀ v, v < CO.length → (lat CO v).length ≤ 20000) (B6 : ∀ v, v < XO.length → (lat XO v).length ≤ 20000) (B2 : OO.length ≤ 20000) (b1 : FO.length ≤ 20000) (b4 : MO.length ≤ 20000) (b5 : CO.length ≤ 20000) (b6 : XO.length ≤ 20000)
    (hx : x ≠ 0) (h0 : FO.length = 0 ∧ OO.length = 0 ∧ G = 0 ∧ MO.length = 0 ∧ CO.length = 0) (w : World) (hw : Below W0.heap.size W0 w) (hbag : BagE w W0.heap.size k) :
    Calls Try.prog 14 #[nv n ph es.length ch, .slice qt rs.length ct, nv n pg es.length cg, .slice qr rs.length cr, .int .i64 x, .pointer (some ⟨k, 0, none⟩)] w fun e w' => e = .returned (.bool true) ∧ Below W0.heap.size W0 w' ∧ BagE w' W0.heap.size k := by
  obtain ⟨W, hW, hbW, aH, aG⟩ := two_boxes w n ph es.length ch n pg es.length cg
  have HWS : Hid (W.heap.size = w.heap.size + 2) := by show _ = _; rw [hW]; simp
  have HC1 := hide C1
  have HC2 := hide C2
  have HC3 := hide C3
  have HC4 := hide C4
  have HC5 := hide C5
  have HC6 := hide C6
  have HMY := hide MY
  have HR6 := hide R6
  have HB1 := hide B1
  have HB4 := hide B4
  have HB5 := hide B5
  have HB6 := hide B6
  have HW0 := hide hw
  have HBAG := hide hbag
  have HBW := hide hbW
  have HAH := hide aH
  have HAG := hide aG
  have HKK : Hid (k < w.heap.size) := hbag.k.2
  obtain ⟨s, hs⟩ : ∃ s, w.heap.size = s := ⟨_, rfl⟩
  have HWB : Hid (W0.heap.size ≤ s) := by show _ ≤ _; rw [← hs]; exact hw.size
  have t1 : (x != x) = false := by simp
  have t2 : (x == 0) = false := by simp [hx]
  have t3 : (x != 0) = true := by simp [hx]
  have H0 := hide h0
  clear C1 C2 C3 C4 C5 C6 MY B1 B4 B5 B6 hw hbag hbW aH aG R6 h0 
  go_enter Try.func14, Try.ntmps14
  go_wp2_with fail
  rw [← hW]
  clear hW
  rw [hs] at HAH HAG
  try rw [hs]
  have HSS := hide hs
  have HBT0 := hide (HW0.out.trans (HBW.out.mono HW0.out.size))
  have HV0 : Hid (Below W.heap.size W W) := Below.refl _ _
  clear hs
  obtain ⟨q0, q1, _, _⟩ := HAH.out.later HV0.out
  have K1 := hide (HC1.out W HBT0.out)
  go_wp2_with fail
  refine K1.out.mono ?_
  rintro r x1 ⟨pa, ca, rva, rfl, hl, hb⟩
  have HE1 := hide hb
  have HV1 := hide (below_step HV0.out hb)
  have HBT1 := hide (below_step HBT0.out hb)
  have HL1 := hide hl
  clear hb hl K1 q0 q1
  obtain ⟨q0, q1, _, _⟩ := HAH.out.later HV1.out
  have K2 := hide (HC2.out x1 HBT1.out)
  go_wp2_with fail
  refine K2.out.mono ?_
  rintro r x2 ⟨po, co, rfl, hl, hb⟩
  have HE2 := hide hb
  have HV2 := hide (below_step HV1.out hb)
  have HBT2 := hide (below_step HBT1.out hb)
  have HL2 := hide hl
  have HO2 : Hid (∀ j, (Value.slice po OO.length co).ownBlock = some j → j < x2.heap.size) := fun j hj => (World.ownsRow.lt hl j hj).2
  clear hb hl K2 q0 q1
  obtain ⟨q0, q1, _, _⟩ := HAH.out.later HV2.out
  have K3 := hide (HC3.out x2 HBT2.out)
  go_wp2_with fail
  refine K3.out.mono ?_
  rintro r x3 ⟨rfl, hb⟩
  have HE3 := hide hb
  have HV3 := hide (below_step HV2.out hb)
  have HBT3 := hide (below_step HBT2.out hb)
  clear hb K3 q0 q1
  obtain ⟨q0, q1, _, _⟩ := HAH.out.later HV3.out
  have K4 := hide (HC4.out x3 HBT3.out)
  go_wp2_with fail
  refine K4.out.mono ?_
  rintro r x4 ⟨pm, cm, rvm, rfl, hl, hb⟩
  have HE4 := hide hb
  have HV4 := hide (below_step HV3.out hb)
  have HBT4 := hide (below_step HBT3.out hb)
  have HL4 := hide hl
  clear hb hl K4 q0 q1
  obtain ⟨q0, q1, _, _⟩ := HAH.out.later HV4.out
  have K5 := hide (HC5.out x4 HBT4.out)
  go_wp2_with fail
  refine K5.out.mono ?_
  rintro r x5 ⟨pc, cc, rvc, rfl, hl, hb⟩
  have HE5 := hide hb
  have HV5 := hide (below_step HV4.out hb)
  have HBT5 := hide (below_step HBT4.out hb)
  have HL5 := hide hl
  clear hb hl K5 q0 q1
  obtain ⟨q0, q1, _, _⟩ := HAH.out.later HV5.out
  have K6 := hide (HC6.out x5 HBT5.out)
  go_wp2_with fail
  refine K6.out.mono ?_
  rintro r x6 ⟨px, cx, rvx, rfl, hl, hb⟩
  have HE6 := hide hb
  have HV6 := hide (below_step HV5.out hb)
  have HBT6 := hide (below_step HBT5.out hb)
  have HL6 := hide hl
  clear hb hl K6 q0 q1
  obtain ⟨g0, g1, _, _⟩ := HAG.out.later HV6.out
  have K7 := hide (HMY.out x6 HBT6.out)
  go_wp2_with fail
  refine K7.out.mono ?_
  rintro r x7 ⟨rfl, hb⟩
  have HE7 := hide hb
  have HV7 := hide (below_step HV6.out hb)
  have HBT7 := hide (below_step HBT6.out hb)
  clear hb K7 g0 g1
  obtain ⟨g0, g1, _, _⟩ := HAG.out.later HV7.out
  have K8 := hide (HR6.out x7 HBT7.out)
  go_wp2_with fail
  refine K8.out.mono ?_
  rintro r x8 ⟨p8, c8, rfl, hh, hb⟩
  have HE8 := hide hb
  have HV8 := hide (below_step HV7.out hb)
  have HBT8 := hide (below_step HBT7.out hb)
  have K9 := hide (lists29 px p8 XO XO cx c8 x8 (by unfold maxLen; omega) ((HL6.out.later (below_step HE7.out hb)).has HB6.out) hh)
  rw [decide_eq_true rfl] at K9
  clear hb hh K8 g0 g1
  go_wp2_with fail
  refine K9.out.mono ?_
  rintro r y0 ⟨rfl, hb⟩
  have HF6 := hide (below_step HE7.out (below_step HE8.out hb))
  have HBTy := hide (below_step HBT8.out hb)
  have HVy := hide (below_step HV8.out hb)
  clear hb K9
  have HF5 := hide (below_step HE6.out HF6.out)
  have HF4 := hide (below_step HE5.out HF5.out)
  have HF3 := hide (below_step HE4.out HF4.out)
  have HF2 := hide (below_step HE3.out HF3.out)
  have HF1 := hide (below_step HE2.out HF2.out)
  have HZ1 := hide (HL1.out.later HF1.out)
  have HZ4 := hide (HL4.out.later HF4.out)
  have HZ5 := hide (HL5.out.later HF5.out)
  have HZ6 := hide (HL6.out.later HF6.out)
  have HZ2 := hide (HL2.out.later HF2.out)
  obtain ⟨z, hz⟩ : ∃ z, x6.heap.size = z := ⟨_, rfl⟩
  obtain ⟨a1, ha1⟩ : ∃ z, W.heap.size = z := ⟨_, rfl⟩
  obtain ⟨e1, he1⟩ : ∃ z, x1.heap.size = z := ⟨_, rfl⟩
  obtain ⟨e2, he2⟩ : ∃ z, x2.heap.size = z := ⟨_, rfl⟩
  obtain ⟨e3, he3⟩ : ∃ z, x3.heap.size = z := ⟨_, rfl⟩
  obtain ⟨e4, he4⟩ : ∃ z, x4.heap.size = z := ⟨_, rfl⟩
  obtain ⟨e5, he5⟩ : ∃ z, x5.heap.size = z := ⟨_, rfl⟩
  have HORD : Hid (W0.heap.size ≤ s ∧ k < s ∧ s + 2 ≤ a1 ∧ a1 ≤ e1 ∧ e1 ≤ e2 ∧ e2 ≤ e3 ∧ e3 ≤ e4 ∧ e4 ≤ e5 ∧ e5 ≤ z ∧ z ≤ y0.heap.size) := by
    have f1 := HE1.out.size; have f2 := HE2.out.size; have f3 := HE3.out.size; have f4 := HE4.out.size; have f5 := HE5.out.size; have f6 := HE6.out.size; have f7 := HF6.out.size; have f8 := HWB.out; have f9 := HKK.out; have f10 := HSS.out; have f11 := HWS.out
    exact ⟨f8, by omega, by omega, by omega, by omega, by omega, by omega, by omega, by omega, by omega⟩
  rw [ha1, he1] at HZ1
  rw [he1] at HZ2
  rw [he2] at HO2
  rw [he3, he4] at HZ4
  rw [he4, he5] at HZ5
  rw [he5, hz] at HZ6
  have HKB : Hid (KBag (Rng s z) (Rng a1 z) y0 W0.heap.size k) := by
    refine (HBAG.out.start (s := s) (z := z) (below_step HBW.out HVy.out) (by rw [HSS.out]; exact Nat.le_refl _)).weak fun i hi => ⟨by have := hi.1; have := HORD.out; omega, hi.2⟩
  clear hz ha1 he1 he2 he3 he4 he5
  have P1 := hide (keepall_rng s z a1 e1 W0.heap.size k pa FO ca rva y0 HKB.out HZ1.out HB1.out (by omega) (by have := HORD.out; omega) (by have := HORD.out; omega) (by have := HORD.out; omega) (by have := HORD.out; have := Nat.le_refl y0.heap.size; omega) (by have := HORD.out; omega) (by have := HORD.out; omega))
  go_wp2_with fail
  refine P1.out.mono ?_
  rintro r k1 ⟨rfl, hk1⟩
  have HQ1 := hide hk1
  clear hk1 P1
  have HU2 : Hid (IOwns k1 e1 (.slice po OO.length co) OO) := own_same HZ2.out fun g hg => HQ1.out.same g ⟨by have := (World.ownsRow.lt HZ2.out g hg).1; have := HORD.out; omega, by have := HO2.out g hg; have := HORD.out; omega⟩
  have P2 := hide (keepone_rng s z e1 e2 W0.heap.size k po OO co k1 HQ1.out.bag HU2.out HO2.out (by omega) (by have := HORD.out; omega) (by have := HORD.out; omega) (by have := HORD.out; omega) (by have := HORD.out; have := HQ1.out.size; omega) (by have := HORD.out; omega) (by have := HORD.out; omega))
  go_wp2_with fail
  refine P2.out.mono ?_
  rintro r k2 ⟨rfl, hk2⟩
  have HQ2 := hide (HQ1.out.trans hk2)
  clear hk2 P2
  have HU4 : Hid (LB k2 e3 e4 pm MO cm rvm) := HZ4.out.same HQ2.out.same (by have := HORD.out; omega) (by have := HORD.out; omega)
  have P3 := hide (keepall_rng s z e3 e4 W0.heap.size k pm MO cm rvm k2 (HQ2.out.bag.weak fun i hi => ⟨by have := hi.1; have := HORD.out; omega, hi.2⟩) HU4.out HB4.out (by omega) (by have := HORD.out; omega) (by have := HORD.out; omega) (by have := HORD.out; omega) (by have := HORD.out; have := HQ2.out.size; omega) (by have := HORD.out; omega) (by have := HORD.out; omega))
  go_wp2_with fail
  refine P3.out.mono ?_
  rintro r k3 ⟨rfl, hk3⟩
  have HQ3 := hide (HQ2.out.trans hk3)
  clear hk3 P3
  have HU5 : Hid (LB k3 e4 e5 pc CO cc rvc) := HZ5.out.same HQ3.out.same (by have := HORD.out; omega) (by have := HORD.out; omega)
  have P4 := hide (keepall_rng s z e4 e5 W0.heap.size k pc CO cc rvc k3 HQ3.out.bag HU5.out HB5.out (by omega) (by have := HORD.out; omega) (by have := HORD.out; omega) (by have := HORD.out; omega) (by have := HORD.out; have := HQ3.out.size; omega) (by have := HORD.out; omega) (by have := HORD.out; omega))
  go_wp2_with fail
  refine P4.out.mono ?_
  rintro r k4 ⟨rfl, hk4⟩
  have HQ4 := hide (HQ3.out.trans hk4)
  clear hk4 P4
  have HU6 : Hid (LB k4 e5 z px XO cx rvx) := HZ6.out.same HQ4.out.same (by have := HORD.out; omega) (by have := HORD.out; omega)
  have P5 := hide (keepall_rng s z e5 z W0.heap.size k px XO cx rvx k4 HQ4.out.bag HU6.out HB6.out (by omega) (by have := HORD.out; omega) (by have := HORD.out; omega) (by have := HORD.out; omega) (by have := HORD.out; have := HQ4.out.size; omega) (by have := HORD.out; omega) (by have := HORD.out; omega))
  go_wp2_with fail
  refine P5.out.mono ?_
  rintro r k5 ⟨rfl, hk5⟩
  have HQ5 := hide (HQ4.out.trans hk5)
  clear hk5 P5
  have HBG5 : Hid (BagE k5 W0.heap.size k) := HQ5.out.bag.any
  have HBT9 := hide (HBTy.out.trans HQ5.out.below)
  obtain ⟨z1, z2, z3, z4, z5⟩ := H0.out
  subst z3
  have i1 : (FO.length : Int) = 0 := by omega
  have i2 : (OO.length : Int) = 0 := by omega
  have i4 : (MO.length : Int) = 0 := by omega
  have i5 : (CO.length : Int) = 0 := by omega
  clear z1 z2 z4 z5
  go_wp2
  go_ret
  exact ⟨rfl, HBT9.out, HBG5.out⟩
set_option maxRecDepth 100000 in
set_option maxHeartbeats 32000000 in
theorem told_a (W0 : World) (k : Nat) (n : Int) (ph pg : Option Addr) (es : List Pt) (ch cg : Nat) (qt qr : Option Addr) (rs : List (List Int)) (ct cr : Nat) (x : Int) (G : Int) (FO MO CO XO : List (List Int)) (OO : List Int)
    (C1 : ∀ V, Below W0.heap.size W0 V → Calls Try.prog 21 #[nv n ph es.length ch, .slice qt rs.length ct] V fun e w' => ∃ p1 c1 rv, e = .returned (.tuple #[.slice p1 FO.length c1, .int .i64 x]) ∧ LB w' V.heap.size w'.heap.size p1 FO c1 rv ∧ Below V.heap.size V w')
    (C2 : ∀ V, Below W0.heap.size W0 V → Calls Try.prog 40 #[nv n ph es.length ch, .slice qt rs.length ct] V fun e w' => ∃ p1 c1, e = .returned (.tuple #[.slice p1 OO.length c1, .int .i64 x]) ∧ IOwns w' V.heap.size (.slice p1 OO.length c1) OO ∧ Below V.heap.size V w')
    (C3 : ∀ V, Below W0.heap.size W0 V → Calls Try.prog 22 #[nv n ph es.length ch, .slice qt rs.length ct] V fun e w' => e = .returned (.tuple #[.int .i64 G, .int .i64 x]) ∧ Below V.heap.size V w')
    (C4 : ∀ V, Below W0.heap.size W0 V → Calls Try.prog 27 #[nv n ph es.length ch, .slice qt rs.length ct] V fun e w' => ∃ p1 c1 rv, e = .returned (.tuple #[.slice p1 MO.length c1, .int .i64 x]) ∧ LB w' V.heap.size w'.heap.size p1 MO c1 rv ∧ Below V.heap.size V w')
    (C5 : ∀ V, Below W0.heap.size W0 V → Calls Try.prog 28 #[nv n ph es.length ch, .slice qt rs.length ct] V fun e w' => ∃ p1 c1 rv, e = .returned (.tuple #[.slice p1 CO.length c1, .int .i64 x]) ∧ LB w' V.heap.size w'.heap.size p1 CO c1 rv ∧ Below V.heap.size V w')
    (C6 : ∀ V, Below W0.heap.size W0 V → Calls Try.prog 41 #[nv n ph es.length ch] V fun e w' => ∃ p1 c1 rv, e = .returned (.tuple #[.slice p1 XO.length c1, .int .i64 1]) ∧ LB w' V.heap.size w'.heap.size p1 XO c1 rv ∧ Below V.heap.size V w')
    (MY : ∀ V, Below W0.heap.size W0 V → Calls Try.prog 36 #[nv n pg es.length cg] V fun e w' => e = .returned (.bool (false)) ∧ Below V.heap.size V w')
    (B1 : ∀ v, v < FO.length → (lat FO v).length ≤ 20000) (B4 : ∀ v, v < MO.length → (lat MO v).length ≤ 20000) (B5 : ∀ v, v < CO.length → (lat CO v).length ≤ 20000) (B6 : ∀ v, v < XO.length → (lat XO v).length ≤ 20000) (B2 : OO.length ≤ 20000) (b1 : FO.length ≤ 20000) (b4 : MO.length ≤ 20000) (b5 : CO.length ≤ 20000) (b6 : XO.length ≤ 20000)
    (hx : x ≠ 0) (h0 : FO.length = 0 ∧ OO.length = 0 ∧ G = 0 ∧ MO.length = 0 ∧ CO.length = 0) (hX0 : XO.length = 0) (w : World) (hw : Below W0.heap.size W0 w) (hbag : BagE w W0.heap.size k) :
    Calls Try.prog 14 #[nv n ph es.length ch, .slice qt rs.length ct, nv n pg es.length cg, .slice qr rs.length cr, .int .i64 x, .pointer (some ⟨k, 0, none⟩)] w fun e w' => e = .returned (.bool true) ∧ Below W0.heap.size W0 w' ∧ BagE w' W0.heap.size k := by
  obtain ⟨W, hW, hbW, aH, aG⟩ := two_boxes w n ph es.length ch n pg es.length cg
  have HWS : Hid (W.heap.size = w.heap.size + 2) := by show _ = _; rw [hW]; simp
  have HC1 := hide C1
  have HC2 := hide C2
  have HC3 := hide C3
  have HC4 := hide C4
  have HC5 := hide C5
  have HC6 := hide C6
  have HMY := hide MY
  have HB1 := hide B1
  have HB4 := hide B4
  have HB5 := hide B5
  have HB6 := hide B6
  have HW0 := hide hw
  have HBAG := hide hbag
  have HBW := hide hbW
  have HAH := hide aH
  have HAG := hide aG
  have HKK : Hid (k < w.heap.size) := hbag.k.2
  obtain ⟨s, hs⟩ : ∃ s, w.heap.size = s := ⟨_, rfl⟩
  have HWB : Hid (W0.heap.size ≤ s) := by show _ ≤ _; rw [← hs]; exact hw.size
  have t1 : (x != x) = false := by simp
  have t2 : (x == 0) = false := by simp [hx]
  have t3 : (x != 0) = true := by simp [hx]
  have H0 := hide h0
  have HX0 := hide hX0
  clear C1 C2 C3 C4 C5 C6 MY B1 B4 B5 B6 hw hbag hbW aH aG hX0 h0 
  go_enter Try.func14, Try.ntmps14
  go_wp2_with fail
  rw [← hW]
  clear hW
  rw [hs] at HAH HAG
  try rw [hs]
  have HSS := hide hs
  have HBT0 := hide (HW0.out.trans (HBW.out.mono HW0.out.size))
  have HV0 : Hid (Below W.heap.size W W) := Below.refl _ _
  clear hs
  obtain ⟨q0, q1, _, _⟩ := HAH.out.later HV0.out
  have K1 := hide (HC1.out W HBT0.out)
  go_wp2_with fail
  refine K1.out.mono ?_
  rintro r x1 ⟨pa, ca, rva, rfl, hl, hb⟩
  have HE1 := hide hb
  have HV1 := hide (below_step HV0.out hb)
  have HBT1 := hide (below_step HBT0.out hb)
  have HL1 := hide hl
  clear hb hl K1 q0 q1
  obtain ⟨q0, q1, _, _⟩ := HAH.out.later HV1.out
  have K2 := hide (HC2.out x1 HBT1.out)
  go_wp2_with fail
  refine K2.out.mono ?_
  rintro r x2 ⟨po, co, rfl, hl, hb⟩
  have HE2 := hide hb
  have HV2 := hide (below_step HV1.out hb)
  have HBT2 := hide (below_step HBT1.out hb)
  have HL2 := hide hl
  have HO2 : Hid (∀ j, (Value.slice po OO.length co).ownBlock = some j → j < x2.heap.size) := fun j hj => (World.ownsRow.lt hl j hj).2
  clear hb hl K2 q0 q1
  obtain ⟨q0, q1, _, _⟩ := HAH.out.later HV2.out
  have K3 := hide (HC3.out x2 HBT2.out)
  go_wp2_with fail
  refine K3.out.mono ?_
  rintro r x3 ⟨rfl, hb⟩
  have HE3 := hide hb
  have HV3 := hide (below_step HV2.out hb)
  have HBT3 := hide (below_step HBT2.out hb)
  clear hb K3 q0 q1
  obtain ⟨q0, q1, _, _⟩ := HAH.out.later HV3.out
  have K4 := hide (HC4.out x3 HBT3.out)
  go_wp2_with fail
  refine K4.out.mono ?_
  rintro r x4 ⟨pm, cm, rvm, rfl, hl, hb⟩
  have HE4 := hide hb
  have HV4 := hide (below_step HV3.out hb)
  have HBT4 := hide (below_step HBT3.out hb)
  have HL4 := hide hl
  clear hb hl K4 q0 q1
  obtain ⟨q0, q1, _, _⟩ := HAH.out.later HV4.out
  have K5 := hide (HC5.out x4 HBT4.out)
  go_wp2_with fail
  refine K5.out.mono ?_
  rintro r x5 ⟨pc, cc, rvc, rfl, hl, hb⟩
  have HE5 := hide hb
  have HV5 := hide (below_step HV4.out hb)
  have HBT5 := hide (below_step HBT4.out hb)
  have HL5 := hide hl
  clear hb hl K5 q0 q1
  obtain ⟨q0, q1, _, _⟩ := HAH.out.later HV5.out
  have K6 := hide (HC6.out x5 HBT5.out)
  go_wp2_with fail
  refine K6.out.mono ?_
  rintro r x6 ⟨px, cx, rvx, rfl, hl, hb⟩
  have HE6 := hide hb
  have HV6 := hide (below_step HV5.out hb)
  have HBT6 := hide (below_step HBT5.out hb)
  have HL6 := hide hl
  clear hb hl K6 q0 q1
  obtain ⟨g0, g1, _, _⟩ := HAG.out.later HV6.out
  have K7 := hide (HMY.out x6 HBT6.out)
  go_wp2_with fail
  refine K7.out.mono ?_
  rintro r x7 ⟨rfl, hb⟩
  have HE7 := hide hb
  have HV7 := hide (below_step HV6.out hb)
  have HBT7 := hide (below_step HBT6.out hb)
  clear hb K7 g0 g1
  have t9 : ((XO.length : Int) != 0) = false := by rw [show (XO.length : Int) = 0 from by have := HX0.out; omega]; rfl
  obtain ⟨y0, hy0⟩ : ∃ z, z = x7 := ⟨_, rfl⟩
  subst hy0
  have HF6 := hide HE7.out
  have HBTy := hide HBT7.out
  have HVy := hide HV7.out
  have HF5 := hide (below_step HE6.out HF6.out)
  have HF4 := hide (below_step HE5.out HF5.out)
  have HF3 := hide (below_step HE4.out HF4.out)
  have HF2 := hide (below_step HE3.out HF3.out)
  have HF1 := hide (below_step HE2.out HF2.out)
  have HZ1 := hide (HL1.out.later HF1.out)
  have HZ4 := hide (HL4.out.later HF4.out)
  have HZ5 := hide (HL5.out.later HF5.out)
  have HZ6 := hide (HL6.out.later HF6.out)
  have HZ2 := hide (HL2.out.later HF2.out)
  obtain ⟨z, hz⟩ : ∃ z, x6.heap.size = z := ⟨_, rfl⟩
  obtain ⟨a1, ha1⟩ : ∃ z, W.heap.size = z := ⟨_, rfl⟩
  obtain ⟨e1, he1⟩ : ∃ z, x1.heap.size = z := ⟨_, rfl⟩
  obtain ⟨e2, he2⟩ : ∃ z, x2.heap.size = z := ⟨_, rfl⟩
  obtain ⟨e3, he3⟩ : ∃ z, x3.heap.size = z := ⟨_, rfl⟩
  obtain ⟨e4, he4⟩ : ∃ z, x4.heap.size = z := ⟨_, rfl⟩
  obtain ⟨e5, he5⟩ : ∃ z, x5.heap.size = z := ⟨_, rfl⟩
  have HORD : Hid (W0.heap.size ≤ s ∧ k < s ∧ s + 2 ≤ a1 ∧ a1 ≤ e1 ∧ e1 ≤ e2 ∧ e2 ≤ e3 ∧ e3 ≤ e4 ∧ e4 ≤ e5 ∧ e5 ≤ z ∧ z ≤ y0.heap.size) := by
    have f1 := HE1.out.size; have f2 := HE2.out.size; have f3 := HE3.out.size; have f4 := HE4.out.size; have f5 := HE5.out.size; have f6 := HE6.out.size; have f7 := HF6.out.size; have f8 := HWB.out; have f9 := HKK.out; have f10 := HSS.out; have f11 := HWS.out
    exact ⟨f8, by omega, by omega, by omega, by omega, by omega, by omega, by omega, by omega, by omega⟩
  rw [ha1, he1] at HZ1
  rw [he1] at HZ2
  rw [he2] at HO2
  rw [he3, he4] at HZ4
  rw [he4, he5] at HZ5
  rw [he5, hz] at HZ6
  have HKB : Hid (KBag (Rng s z) (Rng a1 z) y0 W0.heap.size k) := by
    refine (HBAG.out.start (s := s) (z := z) (below_step HBW.out HVy.out) (by rw [HSS.out]; exact Nat.le_refl _)).weak fun i hi => ⟨by have := hi.1; have := HORD.out; omega, hi.2⟩
  clear hz ha1 he1 he2 he3 he4 he5
  have P1 := hide (keepall_rng s z a1 e1 W0.heap.size k pa FO ca rva y0 HKB.out HZ1.out HB1.out (by omega) (by have := HORD.out; omega) (by have := HORD.out; omega) (by have := HORD.out; omega) (by have := HORD.out; have := Nat.le_refl y0.heap.size; omega) (by have := HORD.out; omega) (by have := HORD.out; omega))
  go_wp2_with fail
  refine P1.out.mono ?_
  rintro r k1 ⟨rfl, hk1⟩
  have HQ1 := hide hk1
  clear hk1 P1
  have HU2 : Hid (IOwns k1 e1 (.slice po OO.length co) OO) := own_same HZ2.out fun g hg => HQ1.out.same g ⟨by have := (World.ownsRow.lt HZ2.out g hg).1; have := HORD.out; omega, by have := HO2.out g hg; have := HORD.out; omega⟩
  have P2 := hide (keepone_rng s z e1 e2 W0.heap.size k po OO co k1 HQ1.out.bag HU2.out HO2.out (by omega) (by have := HORD.out; omega) (by have := HORD.out; omega) (by have := HORD.out; omega) (by have := HORD.out; have := HQ1.out.size; omega) (by have := HORD.out; omega) (by have := HORD.out; omega))
  go_wp2_with fail
  refine P2.out.mono ?_
  rintro r k2 ⟨rfl, hk2⟩
  have HQ2 := hide (HQ1.out.trans hk2)
  clear hk2 P2
  have HU4 : Hid (LB k2 e3 e4 pm MO cm rvm) := HZ4.out.same HQ2.out.same (by have := HORD.out; omega) (by have := HORD.out; omega)
  have P3 := hide (keepall_rng s z e3 e4 W0.heap.size k pm MO cm rvm k2 (HQ2.out.bag.weak fun i hi => ⟨by have := hi.1; have := HORD.out; omega, hi.2⟩) HU4.out HB4.out (by omega) (by have := HORD.out; omega) (by have := HORD.out; omega) (by have := HORD.out; omega) (by have := HORD.out; have := HQ2.out.size; omega) (by have := HORD.out; omega) (by have := HORD.out; omega))
  go_wp2_with fail
  refine P3.out.mono ?_
  rintro r k3 ⟨rfl, hk3⟩
  have HQ3 := hide (HQ2.out.trans hk3)
  clear hk3 P3
  have HU5 : Hid (LB k3 e4 e5 pc CO cc rvc) := HZ5.out.same HQ3.out.same (by have := HORD.out; omega) (by have := HORD.out; omega)
  have P4 := hide (keepall_rng s z e4 e5 W0.heap.size k pc CO cc rvc k3 HQ3.out.bag HU5.out HB5.out (by omega) (by have := HORD.out; omega) (by have := HORD.out; omega) (by have := HORD.out; omega) (by have := HORD.out; have := HQ3.out.size; omega) (by have := HORD.out; omega) (by have := HORD.out; omega))
  go_wp2_with fail
  refine P4.out.mono ?_
  rintro r k4 ⟨rfl, hk4⟩
  have HQ4 := hide (HQ3.out.trans hk4)
  clear hk4 P4
  have HU6 : Hid (LB k4 e5 z px XO cx rvx) := HZ6.out.same HQ4.out.same (by have := HORD.out; omega) (by have := HORD.out; omega)
  have P5 := hide (keepall_rng s z e5 z W0.heap.size k px XO cx rvx k4 HQ4.out.bag HU6.out HB6.out (by omega) (by have := HORD.out; omega) (by have := HORD.out; omega) (by have := HORD.out; omega) (by have := HORD.out; have := HQ4.out.size; omega) (by have := HORD.out; omega) (by have := HORD.out; omega))
  go_wp2_with fail
  refine P5.out.mono ?_
  rintro r k5 ⟨rfl, hk5⟩
  have HQ5 := hide (HQ4.out.trans hk5)
  clear hk5 P5
  have HBG5 : Hid (BagE k5 W0.heap.size k) := HQ5.out.bag.any
  have HBT9 := hide (HBTy.out.trans HQ5.out.below)
  obtain ⟨z1, z2, z3, z4, z5⟩ := H0.out
  subst z3
  have i1 : (FO.length : Int) = 0 := by omega
  have i2 : (OO.length : Int) = 0 := by omega
  have i4 : (MO.length : Int) = 0 := by omega
  have i5 : (CO.length : Int) = 0 := by omega
  clear z1 z2 z4 z5
  go_wp2
  go_ret
  exact ⟨rfl, HBT9.out, HBG5.out⟩
end Go.Proofs.Ytllkadgpkbaghaa

namespace Go.Proofs.Ytllkadgpkbaghaa
open Go.RowKit Go.Sort
open Go
theorem same_self (n : Int) (a : List Pt) : sameB n n a a = true := by simp [sameB]
/-- Edges, their block between a and b. -/
structure EB (w : World) (a b : Nat) (p : Option Addr) (E : List Pt) : Prop where
  has : Has w p E
  blk : ∀ x, p = some x → a ≤ x.block ∧ x.block < b
theorem EB.later {w w' : World} {a b : Nat} {p : Option Addr} {E : List Pt} (h : EB w a b p E) (hb : Below w.heap.size w w') : EB w' a b p E := ⟨h.has.later hb, h.blk⟩
theorem EB.same {w w' : World} {a b s z : Nat} {p : Option Addr} {E : List Pt} (h : EB w a b p E) (hs : ∀ i, Rng s z i → w'.heap[i]? = w.heap[i]?) (h1 : s ≤ a) (h2 : b ≤ z) : Has w' p E := by
  rcases h.has with h0 | ⟨g, off, hp, hl⟩
  · exact Or.inl h0
  · refine Or.inr ⟨g, off, hp, fun j hj => ?_⟩
    obtain ⟨x1, x2⟩ := hl j hj
    have := h.blk _ hp
    have hg := hs g ⟨Nat.le_trans h1 this.1, Nat.lt_of_lt_of_le this.2 h2⟩
    exact ⟨(heap_cell hg).trans x1, (heap_cell hg).trans x2⟩
set_option maxRecDepth 100000 in
set_option maxHeartbeats 32000000 in
theorem made_c (W0 : World) (k : Nat) (n : Int) (ph pg : Option Addr) (es : List Pt) (ch cg : Nat) (qt qr : Option Addr) (rs : List (List Int)) (ct cr : Nat) (pk po : Option Addr) (lk lo : List Int) (ck co : Nat) (y1 y2 : Int) (sN mN : Int) (sE mE : List Pt) (SO QO : List (List Int))
    (C1 : ∀ V, Below W0.heap.size W0 V → Calls Try.prog 30 #[nv n ph es.length ch, .slice qt rs.length ct, .slice pk lk.length ck] V fun e w' => ∃ pe ce p1 c1 rv, e = .returned (.tuple #[nv sN pe sE.length ce, .slice p1 SO.length c1, .int .i64 y1]) ∧ EB w' V.heap.size w'.heap.size pe sE ∧ LB w' V.heap.size w'.heap.size p1 SO c1 rv ∧ Below V.heap.size V w')
    (C2 : ∀ V, Below W0.heap.size W0 V → Calls Try.prog 31 #[nv n ph es.length ch, .slice qt rs.length ct, .slice po lo.length co] V fun e w' => ∃ pe ce p1 c1 rv, e = .returned (.tuple #[nv mN pe mE.length ce, .slice p1 QO.length c1, .int .i64 y2]) ∧ EB w' V.heap.size w'.heap.size pe mE ∧ LB w' V.heap.size w'.heap.size p1 QO c1 rv ∧ Below V.heap.size V w')
    (R1 : ∀ V, Below W0.heap.size W0 V → Calls Try.prog 50 #[nv n pg es.length cg, .slice qr rs.length cr, .slice pk lk.length ck] V fun e w' => ∃ pe ce p1 c1, e = .returned (.tuple #[nv sN pe sE.length ce, .slice p1 SO.length c1, .int .i64 y1]) ∧ Has w' pe sE ∧ RHas w' p1 SO ∧ Below V.heap.size V w')
    (R2 : ∀ V, Below W0.heap.size W0 V → Calls Try.prog 51 #[nv n pg es.length cg, .slice qr rs.length cr, .slice po lo.length co] V fun e w' => ∃ pe ce p1 c1, e = .returned (.tuple #[nv mN pe mE.length ce, .slice p1 QO.length c1, .int .i64 y2]) ∧ Has w' pe mE ∧ RHas w' p1 QO ∧ Below V.heap.size V w')
    (B1 : ∀ v, v < SO.length → (lat SO v).length ≤ 20000) (B2 : ∀ v, v < QO.length → (lat QO v).length ≤ 20000) (b1 : SO.length ≤ 20000) (b2 : QO.length ≤ 20000) (b3 : sE.length ≤ 20000) (b4 : mE.length ≤ 20000)
    (w : World) (hw : Below W0.heap.size W0 w) (hbag : BagE w W0.heap.size k) :
    Calls Try.prog 15 #[nv n ph es.length ch, .slice qt rs.length ct, nv n pg es.length cg, .slice qr rs.length cr, .slice pk lk.length ck, .slice po lo.length co, .int .i64 0, .pointer (some ⟨k, 0, none⟩)] w fun e w' => e = .returned (.bool true) ∧ Below W0.heap.size W0 w' ∧ BagE w' W0.heap.size k := by
  obtain ⟨W, hW, hbW, aH, aG⟩ := two_boxes w n ph es.length ch n pg es.length cg
  have HWS : Hid (W.heap.size = w.heap.size + 2) := by show _ = _; rw [hW]; simp
  have HC1 := hide C1
  have HC2 := hide C2
  have HR1 := hide R1
  have HR2 := hide R2
  have HB1 := hide B1
  have HB2 := hide B2
  have HW0 := hide hw
  have HBAG := hide hbag
  have HBW := hide hbW
  have HAH := hide aH
  have HAG := hide aG
  have HKK : Hid (k < w.heap.size) := hbag.k.2
  obtain ⟨s, hs⟩ : ∃ s, w.heap.size = s := ⟨_, rfl⟩
  have HWB : Hid (W0.heap.size ≤ s) := by show _ ≤ _; rw [← hs]; exact hw.size
  clear C1 C2 R1 R2 B1 B2 hw hbag hbW aH aG
  go_enter Try.func15, Try.ntmps15
  go_wp2_with fail
  rw [← hW]
  clear hW
  rw [hs] at HAH HAG
  try rw [hs]
  have HSS := hide hs
  have HBT0 := hide (HW0.out.trans (HBW.out.mono HW0.out.size))
  clear hs
  obtain ⟨q0, q1, _, _⟩ := HAH.out
  have K1 := hide (HC1.out W HBT0.out)
  go_wp2_with fail
  refine K1.out.mono ?_
  rintro r x1 ⟨pe1, ce1, p1, c1, rv1, rfl, hE, hl, hb⟩
  have HE1 := hide hb
  have HX1 := hide hE
  have HL1 := hide hl
  clear hb hE hl K1 q0 q1
  go_upto_region 2 with fail
  obtain ⟨kb1, hkb1⟩ : ∃ k, x1.heap.size = k := ⟨_, rfl⟩
  obtain ⟨U1, hU1⟩ : ∃ U, U = x1.alloc (nbx sN pe1 sE.length ce1) := ⟨_, rfl⟩
  have hbU1 : Below x1.heap.size x1 U1 := by rw [hU1]; go_grown
  have HKU1 : Hid (NOwn U1 kb1 sN pe1 sE.length ce1) := by show NOwn _ _ _ _ _ _; rw [hU1, ← hkb1]; exact ⟨by go_cell, by go_cell, by simp [go_sem], by simp [go_sem]⟩
  have HSIU1 : Hid (U1.heap.size = kb1 + 1) := by show _ = _; rw [hU1, ← hkb1]; simp
  have HKIU1 := hide hkb1
  rw [← hU1]
  try rw [hkb1]
  have HBBU1 := hide hbU1
  clear hU1 hbU1 hkb1
  have HV1 := hide (below_step HE1.out HBBU1.out)
  have HBT1 := hide (below_step HBT0.out HV1.out)
  obtain ⟨q0, q1, _, _⟩ := HAH.out.later HV1.out
  have K2 := hide (HC2.out U1 HBT1.out)
  go_wp2_with fail
  refine K2.out.mono ?_
  rintro r x2 ⟨pe2, ce2, p2, c2, rv2, rfl, hE, hl, hb⟩
  have HE2 := hide hb
  have HX2 := hide hE
  have HL2 := hide hl
  clear hb hE hl K2 q0 q1
  go_upto_region 3 with fail
  obtain ⟨kb2, hkb2⟩ : ∃ k, x2.heap.size = k := ⟨_, rfl⟩
  obtain ⟨y0, hy0⟩ : ∃ U, U = x2.alloc (nbx mN pe2 mE.length ce2) := ⟨_, rfl⟩
  have hby0 : Below x2.heap.size x2 y0 := by rw [hy0]; go_grown
  have HKy0 : Hid (NOwn y0 kb2 mN pe2 mE.length ce2) := by show NOwn _ _ _ _ _ _; rw [hy0, ← hkb2]; exact ⟨by go_cell, by go_cell, by simp [go_sem], by simp [go_sem]⟩
  have HSIy0 : Hid (y0.heap.size = kb2 + 1) := by show _ = _; rw [hy0, ← hkb2]; simp
  have HKIy0 := hide hkb2
  rw [← hy0]
  try rw [hkb2]
  have HBBy0 := hide hby0
  clear hy0 hby0 hkb2
  have HF2 := hide HBBy0.out
  have HF1 := hide (below_step HBBU1.out (below_step HE2.out HF2.out))
  have HFU := hide (below_step HE2.out HF2.out)
  have HVy := hide (below_step HV1.out HFU.out)
  have HBTy := hide (below_step HBT1.out HFU.out)
  have HZ1 := hide (HL1.out.later HF1.out)
  have HZ2 := hide (HL2.out.later HF2.out)
  obtain ⟨z, hz⟩ : ∃ z, y0.heap.size = z := ⟨_, rfl⟩
  obtain ⟨a1, ha1⟩ : ∃ z, W.heap.size = z := ⟨_, rfl⟩
  obtain ⟨a2, ha2⟩ : ∃ z, U1.heap.size = z := ⟨_, rfl⟩
  have HORD : Hid (W0.heap.size ≤ s ∧ k < s ∧ s + 2 ≤ a1 ∧ a1 ≤ kb1 ∧ kb1 + 1 = a2 ∧ a2 ≤ kb2 ∧ kb2 + 1 = z ∧ z ≤ y0.heap.size) := by
    have f1 := HE1.out.size; have f2 := HE2.out.size; have f8 := HWB.out; have f9 := HKK.out; have f10 := HSS.out; have f11 := HWS.out; have f12 := HSIU1.out; have f13 := HSIy0.out; have f14 := HKIU1.out; have f15 := HKIy0.out
    exact ⟨f8, by omega, by omega, by omega, by omega, by omega, by omega, by omega⟩
  rw [ha1, HKIU1.out] at HZ1 HX1
  rw [ha2, HKIy0.out] at HZ2 HX2
  have HKB : Hid (KBag (Rng s z) (Rng a1 z) y0 W0.heap.size k) := by
    refine (HBAG.out.start (s := s) (z := z) (below_step HBW.out HVy.out) (by rw [HSS.out]; exact Nat.le_refl _)).weak fun i hi => ⟨by have := hi.1; have := HORD.out; omega, hi.2⟩
  clear hz ha1 ha2
  have P1 := hide (keepall_rng s z a1 kb1 W0.heap.size k p1 SO c1 rv1 y0 HKB.out HZ1.out HB1.out (by omega) (by have := HORD.out; omega) (by have := HORD.out; omega) (by have := HORD.out; omega) (by have := HORD.out; omega) (by have := HORD.out; omega) (by have := HORD.out; omega))
  go_wp2_with fail
  refine P1.out.mono ?_
  rintro r k1 ⟨rfl, hk1⟩
  have HQ1 := hide hk1
  clear hk1 P1
  have HU2 : Hid (LB k1 a2 kb2 p2 QO c2 rv2) := HZ2.out.same HQ1.out.same (by have := HORD.out; omega) (by have := HORD.out; omega)
  have P2 := hide (keepall_rng s z a2 kb2 W0.heap.size k p2 QO c2 rv2 k1 (HQ1.out.bag.weak fun i hi => ⟨by have := hi.1; have := HORD.out; omega, hi.2⟩) HU2.out HB2.out (by omega) (by have := HORD.out; omega) (by have := HORD.out; omega) (by have := HORD.out; omega) (by have := HORD.out; have := HQ1.out.size; omega) (by have := HORD.out; omega) (by have := HORD.out; omega))
  go_wp2_with fail
  refine P2.out.mono ?_
  rintro r k5 ⟨rfl, hk2⟩
  have HQ5 := hide (HQ1.out.trans hk2)
  clear hk2 P2
  have HBG5 : Hid (BagE k5 W0.heap.size k) := HQ5.out.bag.any
  have HBT9 := hide (HBTy.out.trans HQ5.out.below)
  have HN1 : Hid (NOwn k5 kb1 sN pe1 sE.length ce1) := nown_same (HKU1.out.later HFU.out) (HQ5.out.same kb1 ⟨by have := HORD.out; omega, by have := HORD.out; omega⟩)
  have HN2 : Hid (NOwn k5 kb2 mN pe2 mE.length ce2) := nown_same HKy0.out (HQ5.out.same kb2 ⟨by have := HORD.out; omega, by have := HORD.out; omega⟩)
  have HG5 : Hid (NOwn k5 (s + 1) n pg es.length cg) := nown_same (HAG.out.later HVy.out) (HQ5.out.same (s + 1) ⟨by omega, by have := HORD.out; omega⟩)
  have HM1 : Hid (LB k5 a1 kb1 p1 SO c1 rv1) := HZ1.out.same HQ5.out.same (by have := HORD.out; omega) (by have := HORD.out; omega)
  have HM2 : Hid (LB k5 a2 kb2 p2 QO c2 rv2) := HZ2.out.same HQ5.out.same (by have := HORD.out; omega) (by have := HORD.out; omega)
  have HS1 : Hid (Has k5 pe1 sE) := (HX1.out.later HF1.out).same HQ5.out.same (by have := HORD.out; omega) (by have := HORD.out; omega)
  have HS2 : Hid (Has k5 pe2 mE) := (HX2.out.later HF2.out).same HQ5.out.same (by have := HORD.out; omega) (by have := HORD.out; omega)
  obtain ⟨g0, g1, _, _⟩ := HG5.out
  have T1 := hide (HR1.out k5 HBT9.out)
  go_wp2_with fail
  refine T1.out.mono ?_
  rintro r v1 ⟨pe3, ce3, p3, c3, rfl, hE, hh, hb⟩
  have HA3 := hide hE
  have HB3 := hide hh
  have HR1_ := hide hb
  clear hE hh hb T1 g0 g1
  go_upto_region 8 with fail
  obtain ⟨kb3, hkb3⟩ : ∃ k, v1.heap.size = k := ⟨_, rfl⟩
  obtain ⟨U3, hU3⟩ : ∃ U, U = v1.alloc (nbx sN pe3 sE.length ce3) := ⟨_, rfl⟩
  have hbU3 : Below v1.heap.size v1 U3 := by rw [hU3]; go_grown
  have HKU3 : Hid (NOwn U3 kb3 sN pe3 sE.length ce3) := by show NOwn _ _ _ _ _ _; rw [hU3, ← hkb3]; exact ⟨by go_cell, by go_cell, by simp [go_sem], by simp [go_sem]⟩
  have HSIU3 : Hid (U3.heap.size = kb3 + 1) := by show _ = _; rw [hU3, ← hkb3]; simp
  have HKIU3 := hide hkb3
  rw [← hU3]
  try rw [hkb3]
  have HBBU3 := hide hbU3
  clear hU3 hbU3 hkb3
  have HR2_ := hide (below_step HR1_.out HBBU3.out)
  obtain ⟨g0, g1, _, _⟩ := HG5.out.later HR2_.out
  have T2 := hide (HR2.out U3 (below_step HBT9.out HR2_.out))
  go_wp2_with fail
  refine T2.out.mono ?_
  rintro r v2 ⟨pe4, ce4, p4, c4, rfl, hE, hh, hb⟩
  have HA4 := hide hE
  have HB4 := hide hh
  have HE4 := hide hb
  clear hE hh hb T2 g0 g1
  go_upto_region 9 with fail
  obtain ⟨kb4, hkb4⟩ : ∃ k, v2.heap.size = k := ⟨_, rfl⟩
  obtain ⟨U4, hU4⟩ : ∃ U, U = v2.alloc (nbx mN pe4 mE.length ce4) := ⟨_, rfl⟩
  have hbU4 : Below v2.heap.size v2 U4 := by rw [hU4]; go_grown
  have HKU4 : Hid (NOwn U4 kb4 mN pe4 mE.length ce4) := by show NOwn _ _ _ _ _ _; rw [hU4, ← hkb4]; exact ⟨by go_cell, by go_cell, by simp [go_sem], by simp [go_sem]⟩
  have HSIU4 : Hid (U4.heap.size = kb4 + 1) := by show _ = _; rw [hU4, ← hkb4]; simp
  have HKIU4 := hide hkb4
  rw [← hU4]
  try rw [hkb4]
  have HBBU4 := hide hbU4
  clear hU4 hbU4 hkb4
  have HW3 := hide (below_step HE4.out HBBU4.out)
  have HW1 := hide (below_step HBBU3.out HW3.out)
  have HW5 := hide (below_step HR2_.out HW3.out)
  have HC0 : Hid (Below U4.heap.size U4 U4) := Below.refl _ _
  have t5 : (y1 == y1) = true := by simp
  have t6 : (y2 == y2) = true := by simp
  obtain ⟨n0, n1, _, _⟩ := HN1.out.later (below_step HW5.out HC0.out)
  obtain ⟨m0, m1, _, _⟩ := (HKU3.out.later HW3.out).later HC0.out
  have S0 := hide (same22 sN sN pe1 pe3 sE sE ce1 ce3 U4 (by omega) (HS1.out.later (below_step HW5.out HC0.out)) ((HA3.out.later HW1.out).later HC0.out))
  rw [same_self] at S0
  go_wp2_with fail
  refine S0.out.mono ?_
  rintro r u1 ⟨rfl, hb⟩
  have HC1 := hide (below_step HC0.out hb)
  clear hb S0 n0 n1 m0 m1
  have S1 := hide (lists29 p1 p3 SO SO c1 c3 u1 (by unfold maxLen; omega) ((HM1.out.later (below_step HW5.out HC1.out)).has HB1.out) ((HB3.out.later HW1.out).later HC1.out))
  rw [decide_eq_true rfl] at S1
  go_wp2_with fail
  refine S1.out.mono ?_
  rintro r u2 ⟨rfl, hb⟩
  have HC2 := hide (below_step HC1.out hb)
  clear hb S1
  obtain ⟨n0, n1, _, _⟩ := HN2.out.later (below_step HW5.out HC2.out)
  obtain ⟨m0, m1, _, _⟩ := HKU4.out.later HC2.out
  have S2 := hide (same22 mN mN pe2 pe4 mE mE ce2 ce4 u2 (by omega) (HS2.out.later (below_step HW5.out HC2.out)) ((HA4.out.later HBBU4.out).later HC2.out))
  rw [same_self] at S2
  go_wp2_with fail
  refine S2.out.mono ?_
  rintro r u3 ⟨rfl, hb⟩
  have HC3 := hide (below_step HC2.out hb)
  clear hb S2 n0 n1 m0 m1
  have S3 := hide (lists29 p2 p4 QO QO c2 c4 u3 (by unfold maxLen; omega) ((HM2.out.later (below_step HW5.out HC3.out)).has HB2.out) ((HB4.out.later HBBU4.out).later HC3.out))
  rw [decide_eq_true rfl] at S3
  go_wp2_with fail
  refine S3.out.mono ?_
  rintro r u4 ⟨rfl, hb⟩
  have HC4 := hide (below_step HC3.out hb)
  clear hb S3
  have HBE := hide (below_step HBT9.out (below_step HW5.out HC4.out))
  have HGE := hide (HBG5.out.later (below_step HW5.out HC4.out))
  clear HM1 HM2 HS1 HS2
  go_wp2
  go_ret
  exact ⟨rfl, HBE.out, HGE.out⟩
set_option maxRecDepth 100000 in
set_option maxHeartbeats 32000000 in
theorem made_b (W0 : World) (k : Nat) (n : Int) (ph pg : Option Addr) (es : List Pt) (ch cg : Nat) (qt qr : Option Addr) (rs : List (List Int)) (ct cr : Nat) (pk po : Option Addr) (lk lo : List Int) (ck co : Nat) (x : Int) (sN mN : Int) (sE mE : List Pt) (SO QO : List (List Int))
    (C1 : ∀ V, Below W0.heap.size W0 V → Calls Try.prog 30 #[nv n ph es.length ch, .slice qt rs.length ct, .slice pk lk.length ck] V fun e w' => ∃ pe ce p1 c1 rv, e = .returned (.tuple #[nv sN pe sE.length ce, .slice p1 SO.length c1, .int .i64 x]) ∧ EB w' V.heap.size w'.heap.size pe sE ∧ LB w' V.heap.size w'.heap.size p1 SO c1 rv ∧ Below V.heap.size V w')
    (C2 : ∀ V, Below W0.heap.size W0 V → Calls Try.prog 31 #[nv n ph es.length ch, .slice qt rs.length ct, .slice po lo.length co] V fun e w' => ∃ pe ce p1 c1 rv, e = .returned (.tuple #[nv mN pe mE.length ce, .slice p1 QO.length c1, .int .i64 x]) ∧ EB w' V.heap.size w'.heap.size pe mE ∧ LB w' V.heap.size w'.heap.size p1 QO c1 rv ∧ Below V.heap.size V w')
    (B1 : ∀ v, v < SO.length → (lat SO v).length ≤ 20000) (B2 : ∀ v, v < QO.length → (lat QO v).length ≤ 20000) (b1 : SO.length ≤ 20000) (b2 : QO.length ≤ 20000)
    (hx : x ≠ 0) (h0 : sN = 0 ∧ mN = 0 ∧ SO.length = 0 ∧ QO.length = 0) (w : World) (hw : Below W0.heap.size W0 w) (hbag : BagE w W0.heap.size k) :
    Calls Try.prog 15 #[nv n ph es.length ch, .slice qt rs.length ct, nv n pg es.length cg, .slice qr rs.length cr, .slice pk lk.length ck, .slice po lo.length co, .int .i64 x, .pointer (some ⟨k, 0, none⟩)] w fun e w' => e = .returned (.bool true) ∧ Below W0.heap.size W0 w' ∧ BagE w' W0.heap.size k := by
  obtain ⟨W, hW, hbW, aH, aG⟩ := two_boxes w n ph es.length ch n pg es.length cg
  have HWS : Hid (W.heap.size = w.heap.size + 2) := by show _ = _; rw [hW]; simp
  have HC1 := hide C1
  have HC2 := hide C2
  have HB1 := hide B1
  have HB2 := hide B2
  have HW0 := hide hw
  have HBAG := hide hbag
  have HBW := hide hbW
  have HAH := hide aH
  have HAG := hide aG
  have HKK : Hid (k < w.heap.size) := hbag.k.2
  obtain ⟨s, hs⟩ : ∃ s, w.heap.size = s := ⟨_, rfl⟩
  have HWB : Hid (W0.heap.size ≤ s) := by show _ ≤ _; rw [← hs]; exact hw.size
  have t1 : (x == x) = true := by simp
  have t3 : (x != 0) = true := by simp [hx]
  have t4 : (x == 0) = false := by simp [hx]
  have H0 := hide h0
  clear C1 C2 h0 B1 B2 hw hbag hbW aH aG
  go_enter Try.func15, Try.ntmps15
  go_wp2_with fail
  rw [← hW]
  clear hW
  rw [hs] at HAH HAG
  try rw [hs]
  have HSS := hide hs
  have HBT0 := hide (HW0.out.trans (HBW.out.mono HW0.out.size))
  clear hs
  obtain ⟨q0, q1, _, _⟩ := HAH.out
  have K1 := hide (HC1.out W HBT0.out)
  go_wp2_with fail
  refine K1.out.mono ?_
  rintro r x1 ⟨pe1, ce1, p1, c1, rv1, rfl, hE, hl, hb⟩
  have HE1 := hide hb
  have HX1 := hide hE
  have HL1 := hide hl
  clear hb hE hl K1 q0 q1
  go_upto_region 2 with fail
  obtain ⟨kb1, hkb1⟩ : ∃ k, x1.heap.size = k := ⟨_, rfl⟩
  obtain ⟨U1, hU1⟩ : ∃ U, U = x1.alloc (nbx sN pe1 sE.length ce1) := ⟨_, rfl⟩
  have hbU1 : Below x1.heap.size x1 U1 := by rw [hU1]; go_grown
  have HKU1 : Hid (NOwn U1 kb1 sN pe1 sE.length ce1) := by show NOwn _ _ _ _ _ _; rw [hU1, ← hkb1]; exact ⟨by go_cell, by go_cell, by simp [go_sem], by simp [go_sem]⟩
  have HSIU1 : Hid (U1.heap.size = kb1 + 1) := by show _ = _; rw [hU1, ← hkb1]; simp
  have HKIU1 := hide hkb1
  rw [← hU1]
  try rw [hkb1]
  have HBBU1 := hide hbU1
  clear hU1 hbU1 hkb1
  have HV1 := hide (below_step HE1.out HBBU1.out)
  have HBT1 := hide (below_step HBT0.out HV1.out)
  obtain ⟨q0, q1, _, _⟩ := HAH.out.later HV1.out
  have K2 := hide (HC2.out U1 HBT1.out)
  go_wp2_with fail
  refine K2.out.mono ?_
  rintro r x2 ⟨pe2, ce2, p2, c2, rv2, rfl, hE, hl, hb⟩
  have HE2 := hide hb
  have HX2 := hide hE
  have HL2 := hide hl
  clear hb hE hl K2 q0 q1
  go_upto_region 3 with fail
  obtain ⟨kb2, hkb2⟩ : ∃ k, x2.heap.size = k := ⟨_, rfl⟩
  obtain ⟨y0, hy0⟩ : ∃ U, U = x2.alloc (nbx mN pe2 mE.length ce2) := ⟨_, rfl⟩
  have hby0 : Below x2.heap.size x2 y0 := by rw [hy0]; go_grown
  have HKy0 : Hid (NOwn y0 kb2 mN pe2 mE.length ce2) := by show NOwn _ _ _ _ _ _; rw [hy0, ← hkb2]; exact ⟨by go_cell, by go_cell, by simp [go_sem], by simp [go_sem]⟩
  have HSIy0 : Hid (y0.heap.size = kb2 + 1) := by show _ = _; rw [hy0, ← hkb2]; simp
  have HKIy0 := hide hkb2
  rw [← hy0]
  try rw [hkb2]
  have HBBy0 := hide hby0
  clear hy0 hby0 hkb2
  have HF2 := hide HBBy0.out
  have HF1 := hide (below_step HBBU1.out (below_step HE2.out HF2.out))
  have HFU := hide (below_step HE2.out HF2.out)
  have HVy := hide (below_step HV1.out HFU.out)
  have HBTy := hide (below_step HBT1.out HFU.out)
  have HZ1 := hide (HL1.out.later HF1.out)
  have HZ2 := hide (HL2.out.later HF2.out)
  obtain ⟨z, hz⟩ : ∃ z, y0.heap.size = z := ⟨_, rfl⟩
  obtain ⟨a1, ha1⟩ : ∃ z, W.heap.size = z := ⟨_, rfl⟩
  obtain ⟨a2, ha2⟩ : ∃ z, U1.heap.size = z := ⟨_, rfl⟩
  have HORD : Hid (W0.heap.size ≤ s ∧ k < s ∧ s + 2 ≤ a1 ∧ a1 ≤ kb1 ∧ kb1 + 1 = a2 ∧ a2 ≤ kb2 ∧ kb2 + 1 = z ∧ z ≤ y0.heap.size) := by
    have f1 := HE1.out.size; have f2 := HE2.out.size; have f8 := HWB.out; have f9 := HKK.out; have f10 := HSS.out; have f11 := HWS.out; have f12 := HSIU1.out; have f13 := HSIy0.out; have f14 := HKIU1.out; have f15 := HKIy0.out
    exact ⟨f8, by omega, by omega, by omega, by omega, by omega, by omega, by omega⟩
  rw [ha1, HKIU1.out] at HZ1 HX1
  rw [ha2, HKIy0.out] at HZ2 HX2
  have HKB : Hid (KBag (Rng s z) (Rng a1 z) y0 W0.heap.size k) := by
    refine (HBAG.out.start (s := s) (z := z) (below_step HBW.out HVy.out) (by rw [HSS.out]; exact Nat.le_refl _)).weak fun i hi => ⟨by have := hi.1; have := HORD.out; omega, hi.2⟩
  clear hz ha1 ha2
  have P1 := hide (keepall_rng s z a1 kb1 W0.heap.size k p1 SO c1 rv1 y0 HKB.out HZ1.out HB1.out (by omega) (by have := HORD.out; omega) (by have := HORD.out; omega) (by have := HORD.out; omega) (by have := HORD.out; omega) (by have := HORD.out; omega) (by have := HORD.out; omega))
  go_wp2_with fail
  refine P1.out.mono ?_
  rintro r k1 ⟨rfl, hk1⟩
  have HQ1 := hide hk1
  clear hk1 P1
  have HU2 : Hid (LB k1 a2 kb2 p2 QO c2 rv2) := HZ2.out.same HQ1.out.same (by have := HORD.out; omega) (by have := HORD.out; omega)
  have P2 := hide (keepall_rng s z a2 kb2 W0.heap.size k p2 QO c2 rv2 k1 (HQ1.out.bag.weak fun i hi => ⟨by have := hi.1; have := HORD.out; omega, hi.2⟩) HU2.out HB2.out (by omega) (by have := HORD.out; omega) (by have := HORD.out; omega) (by have := HORD.out; omega) (by have := HORD.out; have := HQ1.out.size; omega) (by have := HORD.out; omega) (by have := HORD.out; omega))
  go_wp2_with fail
  refine P2.out.mono ?_
  rintro r k5 ⟨rfl, hk2⟩
  have HQ5 := hide (HQ1.out.trans hk2)
  clear hk2 P2
  have HBG5 : Hid (BagE k5 W0.heap.size k) := HQ5.out.bag.any
  have HBT9 := hide (HBTy.out.trans HQ5.out.below)
  have HN1 : Hid (NOwn k5 kb1 sN pe1 sE.length ce1) := nown_same (HKU1.out.later HFU.out) (HQ5.out.same kb1 ⟨by have := HORD.out; omega, by have := HORD.out; omega⟩)
  have HN2 : Hid (NOwn k5 kb2 mN pe2 mE.length ce2) := nown_same HKy0.out (HQ5.out.same kb2 ⟨by have := HORD.out; omega, by have := HORD.out; omega⟩)
  obtain ⟨z1, z2, z3, z4⟩ := H0.out
  subst z1
  subst z2
  have i1 : (SO.length : Int) = 0 := by omega
  have i2 : (QO.length : Int) = 0 := by omega
  clear z3 z4
  obtain ⟨n0, n1, _, _⟩ := HN1.out
  obtain ⟨m0, m1, _, _⟩ := HN2.out
  go_wp2
  go_ret
  exact ⟨rfl, HBT9.out, HBG5.out⟩
end Go.Proofs.Ytllkadgpkbaghaa

/- The document's Sub of a rotation, in every world. -/
/- The document's Sub and Moved of nets, carried from the net seat. -/
namespace Go.Proofs.Ytllkadgpkbaghaa
open Go.RowKit Go.Sort
open Go

set_option maxRecDepth 100000 in
set_option maxHeartbeats 4000000 in
theorem chosen52 (p : Option Addr) (l : List Int) (cap : Nat) (n : Int) (w : World) (hl : l.length ≤ maxLen) (h : IHas w p l) : Calls Try.prog 82 #[.slice p l.length cap, .int .i64 n] w fun e w' => e = .returned (.int .i64 (errL l n)) ∧ Below w.heap.size w w' := by
  have HH := hide h
  clear h
  unfold maxLen at hl
  go_enter Try.func82, Try.ntmps82
  go_wp2_with fail
  go_loopw [5] (fun t wr => ∃ k : Nat, k ≤ l.length ∧ t = .int .i64 k ∧ Hid (Below w.heap.size w wr) ∧ Hid (∀ j, j < k → chk l n j = 0)) (fun t _ => l.length - (intOf t).toNat)
  case atStart => exact ⟨0, by omega, rfl, Below.refl _ _, fun j hj => by omega⟩
  case round =>
    obtain ⟨k, hk, rfl, HB, HC⟩ := hrel
    by_cases hlk : k < l.length
    · rcases HH.out.later HB.out with h | ⟨b, off, rfl, hL⟩
      · subst h; simp at hlk
      have cl := hL k hlk
      have HLL := hide hL
      have hchk : Hid (chk l n k = if belowB (iat l k) n then (if metB l k then 18 else 0) else 2) := rfl
      have hbx : Hid (belowB (iat l k) n = (decide (0 ≤ iat l k) && decide (iat l k < n))) := rfl
      obtain ⟨x, hx⟩ : ∃ x, iat l k = x := ⟨_, rfl⟩
      rw [hx] at cl hbx hchk
      have HX := hide hx
      clear hL hx
      by_cases hx0 : x < 0
      · have hE : Hid (errL l n = 2) := by
          have h2 : chk l n k = 2 := by rw [hchk.out, hbx.out, if_neg (by simp; omega)]
          show _ = _
          unfold errL; rw [errN_first HC.out (by rw [h2]; omega) _ hlk, h2]
        go_wp2
        go_ret
        exact ⟨retI (by rw [hE.out]), HB.out⟩
      by_cases hxn : n ≤ x
      · have hE : Hid (errL l n = 2) := by
          have h2 : chk l n k = 2 := by rw [hchk.out, hbx.out, if_neg (by simp; omega)]
          show _ = _
          unfold errL; rw [errN_first HC.out (by rw [h2]; omega) _ hlk, h2]
        go_wp2
        go_ret
        exact ⟨retI (by rw [hE.out]), HB.out⟩
      have hbt : Hid (belowB x n = true) := by show _ = _; rw [hbx.out]; simp; omega
      go_wp2_with fail
      obtain ⟨w1, rfl⟩ : ∃ w1, w1 = wr := ⟨wr, rfl⟩
      go_loopw [6] (fun t wr => ∃ i : Nat, i ≤ k ∧ t = .int .i64 i ∧ Hid (Below w1.heap.size w1 wr) ∧ Hid (∀ j, j < i → iat l j ≠ x)) (fun t _ => k - (intOf t).toNat)
      case atStart => exact ⟨0, by omega, rfl, Below.refl _ _, fun j hj => by omega⟩
      case round =>
        obtain ⟨i, hi, rfl, HBi, HNi⟩ := hrel
        by_cases hik : i < k
        · have d0 := HLL.out.later HBi.out i (by omega)
          have d1 := HLL.out.later HBi.out k hlk
          rw [HX.out] at d1
          obtain ⟨y, hy⟩ : ∃ y, iat l i = y := ⟨_, rfl⟩
          rw [hy] at d0
          have i1 : (i : Int) < l.length := by omega
          have i2 : (0 : Int) ≤ i := by omega
          have i3 : (k : Int) < l.length := by omega
          have i4 : (0 : Int) ≤ k := by omega
          clear cl
          by_cases hyx : y = x
          · subst hyx
            have hE : Hid (errL l n = 18) := by
              have h2 : chk l n k = 18 := by rw [hchk.out, hbt.out, if_pos rfl, metB_yes hik (by rw [hy, HX.out]), if_pos rfl]
              show _ = _
              unfold errL; rw [errN_first HC.out (by rw [h2]; omega) _ hlk, h2]
            go_wp2_with fail
            go_quiet (fail)
            go_wp2
            go_ret
            exact ⟨retI (by rw [hE.out]), Below.trans HB.out (below_drewN (HBi.out.mono HB.out.size))⟩
          · have hyb : (y == x) = false := by simpa using hyx
            go_wp2_with fail
            go_quiet (fail)
            go_wp2
            go_roundw
            case rel => exact ⟨i + 1, by omega, by go_num, below_drewN HBi.out, more HNi.out (by rw [hy]; exact hyx)⟩
            case measure => simp [intOf]; omega
        · have hin : i = k := by omega
          subst hin
          have h2 : Hid (chk l n i = 0) := by show _ = _; rw [hchk.out, hbt.out, if_pos rfl, metB_of_no (by rw [HX.out]; exact HNi.out)]; rfl
          go_wp2
          go_roundw
          case rel => exact ⟨i + 1, by omega, by go_num, Below.trans HB.out (HBi.out.mono HB.out.size), more HC.out h2.out⟩
          case measure => simp [intOf]; omega
    · have hin : k = l.length := by omega
      subst hin
      have hE : Hid (errL l n = 0) := errN_zero _ HC.out
      go_wp2
      go_ret
      exact ⟨retI (by rw [hE.out]), HB.out⟩
set_option maxRecDepth 100000 in
set_option maxHeartbeats 4000000 in
theorem copy53 (n : Int) (p : Option Addr) (es : List Pt) (cp : Nat) (w : World) (hnil : p = none → cp = 0) (hl : es.length ≤ 90000) (h : Has w p es) : Calls Try.prog 83 #[nv n p es.length cp] w fun e w' => ∃ q c, e = .returned (nv n q es.length c) ∧ Owns w' w.heap.size (.slice q es.length c) es ∧ Below w.heap.size w w' := by
  obtain ⟨W, hW, hb, a0, b0⟩ := two_nets w n p es.length cp
  have HB := hide hb
  have HA := hide a0
  have HN := hide b0
  have hws : w.heap.size + 1 < W.heap.size := block_lt_of_cell b0.1
  obtain ⟨v1, D1, e1, o1, gr1⟩ := append_prs (w := W.drew) (base := W.heap.size) (v := .slice none 0 0) (l := []) (Owns.nil _ _) p cp es hnil ((h.later hb).later (below_drew _)) (by simp) (by simp; omega)
  have hb1 : Below W.heap.size W D1 := below_grown (w := W.drew) (below_drew _) (Owns.nil W.drew W.heap.size) (Nat.le_refl _) (by simp) gr1
  rw [List.nil_append] at o1
  obtain ⟨q, c, rfl, _, _, _, _⟩ := o1.form
  have HO1 := hide o1
  have HB1 := hide (below_step hb hb1)
  have HN1 := hide (b0.later hb1)
  have HA1 := hide (a0.later hb1)
  clear hb h o1 gr1 hb1
  obtain ⟨q0, q1, _, _⟩ := a0
  obtain ⟨r0, r1, r2, r3⟩ := HN1.out
  clear b0
  go_enter Try.func83, Try.ntmps83
  go_wp2_with fail
  rw [← hW]
  clear hW
  go_region_held3 (fun W => W.cell? ⟨w.heap.size, 0, none⟩ = some (.int .i64 n) ∧ W.cell? ⟨w.heap.size, 1, none⟩ = some (.slice p es.length cp))
    (first | exact ⟨HA.out.1, HA.out.2.1⟩ | exact ⟨HA1.out.1, HA1.out.2.1⟩ | exact ⟨other2 HA1.out.1 (by simp), other2 HA1.out.2.1 (by simp)⟩)
    (first | (refine step_run_append (by rfl) (.const (.slice none 0 0)) (.tmp 6) 22 (by rfl) 22 (by rfl) (.slice none 0 0) (.slice p es.length cp) (.slice q es.length c) D1 (by rfl) (by rfl) ?_ ?_; with_reducible exact e1))
  rename_i hHeld
  clear hHeld
  obtain ⟨V, hV⟩ : ∃ V, V = (D1.setCell ⟨w.heap.size + 1, 0, none⟩ (.int .i64 n)).setCell ⟨w.heap.size + 1, 1, none⟩ (.slice q es.length c) := ⟨_, rfl⟩
  have kV : NOwn V (w.heap.size + 1) n q es.length c := by rw [hV]; exact HN1.out.set _ _ _ _
  have bV : Below w.heap.size w V := by rw [hV]; exact (HB1.out.setCell (by simp) _).setCell (by simp) _
  have oV : Owns V w.heap.size (.slice q es.length c) es := by rw [hV]; exact (owns_other (owns_other HO1.out hws _) hws _).base HB.out.size
  rw [← hV]
  go_wp2_with fail
  exact bodyPost_ret (ret_net1 Try.results83 rfl kV) rfl ⟨q, c, rfl, oV, bV⟩
/-- One edge behind the others, in a list of the call's own. -/
theorem app1 {w : World} {B : Nat} {v : Value} {l : List Pt} (o : Owns w B v l) (x y : Int) (hB : B ≤ w.heap.size) (hl : l.length ≤ 90000) : ∃ v' w', (Builtin.append_ #[22, 22] 22 #[v, .slice (some ⟨w.heap.size, 0, none⟩) 1 1]).run Try.prog (w.alloc (.cells #[.int .i64 x, .int .i64 y] 64)) = .ok v' w' ∧ Owns w' B v' (l ++ [⟨x, y⟩]) ∧ (w.alloc (.cells #[.int .i64 x, .int .i64 y] 64)).grownBy w' v.ownBlock ∧ Below B w w' := by
  have o' : Owns (w.alloc (.cells #[.int .i64 x, .int .i64 y] 64)) B v l := o.later (by go_grown)
  have hL : Lies (w.alloc (.cells #[.int .i64 x, .int .i64 y] 64)) w.heap.size 0 [⟨x, y⟩] := by
    intro j hj
    simp at hj
    subst hj
    exact ⟨by simp only [at', List.getD_cons_zero]; go_cell, by simp only [at', List.getD_cons_zero]; go_cell⟩
  obtain ⟨v', w', e1, o1, gr⟩ := append_prs o' (some ⟨w.heap.size, 0, none⟩) 1 [⟨x, y⟩] (fun h => by cases h) (Or.inr ⟨_, _, rfl, hL⟩) (by simp; omega) (by simp; omega)
  exact ⟨v', w', e1, o1, gr, below_grown (w := w.alloc (.cells #[.int .i64 x, .int .i64 y] 64)) ((Below.refl _ _).alloc hB _) o' (Nat.le_refl _) (by simp; omega) gr⟩
theorem wp_append {P : Program} {w : World} {o : Oper} {a : Act} {K : Act → World → Prop} {Q : Exit → Act → World → Prop} (s x : Operand) (t : TypeId)
    (ho : o.op = .call { callee := .builtin .append, args := #[s, x], argTypes := #[t, t] }) (ty : TypeId) (hty : o.type = ty) (vs vx v' : Value) (w' : World) (hs : a.eval s = vs) (hx : a.eval x = vx)
    (hr : (Builtin.append_ #[t, t] ty #[vs, vx]).run P w = .ok v' w') (h : K (a.put o.dst v') w') : Oper.wp P o a w K Q := by
  subst hty
  unfold Oper.wp execOp
  simp only [ho, resolve, invoke, builtin, Sem.run_bind, Sem.run_pure, Result.andThen_ok, List.map_toArray, List.map_cons, List.map_nil, hs, hx, hr]
  exact h
theorem nown_set1 {W : World} {g : Nat} {n : Int} {p : Option Addr} {l c : Nat} (h : NOwn W g n p l c) (p' : Option Addr) (l' c' : Nat) : NOwn (W.setCell ⟨g, 1, none⟩ (.slice p' l' c')) g n p' l' c' := by
  obtain ⟨q0, q1, q2, q3⟩ := h
  refine ⟨?_, ?_, ?_, ?_⟩
  all_goals go_cell
theorem nown_below {W W' : World} {B g : Nat} {n : Int} {p : Option Addr} {l c : Nat} (h : NOwn W g n p l c) (hb : Below B W W') (hg : g < B) : NOwn W' g n p l c := by
  obtain ⟨q0, q1, q2, q3⟩ := h
  exact ⟨(hb.cell (p := ⟨g, 0, none⟩) hg).trans q0, (hb.cell (p := ⟨g, 1, none⟩) hg).trans q1, (hb.frozen (p := ⟨g, 0, none⟩) hg).trans q2, (hb.frozen (p := ⟨g, 1, none⟩) hg).trans q3⟩
theorem pick_more (es : List Pt) (l : List Int) {i : Nat} (hi : i < l.length) : pick es (l.take (i + 1)) = pick es (l.take i) ++ [at' es (iat l i).toNat] := by
  unfold pick iat
  rw [List.take_add_one, List.map_append, List.getElem?_eq_getElem hi, List.getD_eq_getElem?_getD, List.getElem?_eq_getElem hi]
  rfl
set_option maxRecDepth 100000 in
set_option maxHeartbeats 8000000 in
theorem sub50 (n : Int) (p q : Option Addr) (es : List Pt) (l : List Int) (cp cq : Nat) (w : World) (hlen : l.length ≤ 90000) (hc : errL l es.length = 0) (hin : ∀ j, j < l.length → 0 ≤ iat l j ∧ iat l j < es.length) (h : Has w p es) (hq : IHas w q l) : Calls Try.prog 71 #[nv n p es.length cp, .slice q l.length cq] w fun e w' => ∃ q' c, e = .returned (.tuple #[nv n q' l.length c, .int .i64 0]) ∧ Owns w' w.heap.size (.slice q' l.length c) (pick es l) ∧ Below w.heap.size w w' := by
  obtain ⟨W, hW, hb, a0, b0⟩ := two_nets w n p es.length cp
  have C1 := hide (chosen52 q l cq es.length W (by unfold maxLen; omega) (hq.later hb))
  rw [hc] at C1
  have HH := hide (h.later hb)
  have HQ := hide (hq.later hb)
  have HB := hide hb
  have HA := hide a0
  have HN := hide b0
  have hWs : W.heap.size = w.heap.size + 1 + 1 := by rw [hW]; simp
  have HWS := hide hWs
  clear h hq hb a0 b0 hc hWs
  go_enter Try.func71, Try.ntmps71
  go_wp2_with fail
  rw [← hW]
  clear hW
  refine C1.out.mono ?_
  rintro e w1 ⟨rfl, hb1⟩
  have HA1 := hide (HA.out.later hb1)
  have HB1 := hide hb1
  clear C1 hb1
  obtain ⟨q0, q1, _, _⟩ := HA1.out
  go_upto_region 5 with fail
  obtain ⟨X, hX, hbX, xN⟩ := one_net w1 n none 0 0
  have HX := hide (below_step HB1.out hbX)
  have hXs : X.heap.size = w1.heap.size + 1 := by rw [hX]; simp
  have hkw : W.heap.size ≤ w1.heap.size := HB1.out.size
  rw [← hX]
  obtain ⟨kb, hkb⟩ : ∃ kb, w1.heap.size = kb := ⟨_, rfl⟩
  rw [hkb] at xN hXs hkw ⊢
  have HXN := hide xN
  have HXS := hide hXs
  have HKB := hide hkw
  clear hX hbX xN hXs hkw hkb q0 q1 HA1 HB1
  obtain ⟨kw, hkw⟩ : ∃ k, w.heap.size = k := ⟨_, rfl⟩
  have HKW := hide hkw
  rw [hkw] at HA HN HWS ⊢
  clear hkw
  go_wp2_with fail
  go_loopw [8] (fun t wr => ∃ i : Nat, i ≤ l.length ∧ t = .int .i64 i ∧ ∃ q' c', Hid (Below W.heap.size W wr ∧ kb + 1 ≤ wr.heap.size ∧ NOwn wr kb n q' i c' ∧ Owns wr (kb + 1) (.slice q' i c') (pick es (l.take i)))) (fun t _ => l.length - (intOf t).toNat)
  case atStart => exact ⟨0, by omega, rfl, none, 0, HX.out, by rw [HXS.out]; omega, HXN.out, Owns.nil _ _⟩
  case round =>
    obtain ⟨i, hi, rfl, q', c', HR⟩ := hrel
    have hA := HA.out.later HR.out.1
    obtain ⟨y0, y1, y2, y3⟩ := HR.out.2.2.1
    by_cases hlt : i < l.length
    · obtain ⟨x0, x1⟩ := hin i hlt
      have HPK := hide (pick_more es l hlt)
      rcases HQ.out with hz | ⟨b2, off2, rfl, hL2⟩
      · subst hz; simp at hlt
      have c2 := hL2 i hlt
      obtain ⟨x, hx⟩ : ∃ x : Nat, iat l i = x := ⟨(iat l i).toNat, by omega⟩
      rw [hx] at c2 x0 x1
      rw [hx, Int.toNat_natCast] at HPK
      rcases HH.out with hz | ⟨b, off, rfl, hL⟩
      · subst hz; simp at x1; omega
      obtain ⟨c3, c4⟩ := hL x (by omega)
      have hpl : (pick es (l.take i)).length = i := by rw [pick_length, List.length_take]; omega
      obtain ⟨V0, hV0⟩ : ∃ V, V = wr.drew := ⟨_, rfl⟩
      have bd : Below wr.heap.size wr V0 := by rw [hV0]; exact below_drew _
      have HB0 := hide (below_step HR.out.1 bd)
      have HN0 := hide (HR.out.2.2.1.later bd)
      have z0 : kb + 1 ≤ V0.heap.size := Nat.le_trans HR.out.2.1 bd.size
      have o0 : Owns V0 (kb + 1) (.slice q' (pick es (l.take i)).length c') (pick es (l.take i)) := by rw [hpl]; exact HR.out.2.2.2.later bd
      obtain ⟨v', D, e1, o1, gr1, hbD⟩ := app1 o0 (at' es x).x (at' es x).y z0 (by rw [hpl]; omega)
      obtain ⟨q1, c1, rfl, _, _, _, _⟩ := o1.form
      rw [List.length_append, hpl] at e1 o1
      simp only [List.length_cons, List.length_nil, Nat.zero_add] at e1 o1
      obtain ⟨V1, hV1⟩ : ∃ V, V = V0.alloc (.cells #[.int .i64 (at' es x).x, .int .i64 (at' es x).y] 64) := ⟨_, rfl⟩
      have b1 : Below V0.heap.size V0 V1 := by rw [hV1]; go_grown
      have HBD : Hid (Below W.heap.size W D) := Below.trans HB0.out (hbD.mono (by have := HKB.out; omega))
      have HND := hide (nown_below HN0.out hbD (by omega))
      have HBK0 : Hid (V0.cell? ⟨kb, 1, none⟩ = some (.slice q' i c')) := HN0.out.2.1
      have HBK1 : Hid (V1.cell? ⟨kb, 1, none⟩ = some (.slice q' i c')) := later b1 HN0.out.2.1
      have HDK : Hid (D.cell? ⟨kb, 1, none⟩ = some (.slice q' i c') ∧ D.frozen? ⟨kb, 1, none⟩ = false) := ⟨HND.out.2.1, HND.out.2.2.2⟩
      have HS : ∀ V, Below W.heap.size W V → (V.cell? ⟨kw, 1, none⟩ = some (.slice (some ⟨b, off, none⟩) es.length cp) ∧ V.cell? ⟨b2, off2 + i, none⟩ = some (.int .i64 x) ∧ V.cell? ⟨b, off + x * 2, none⟩ = some (.int .i64 (at' es x).x) ∧ V.cell? ⟨b, off + x * 2 + 1, none⟩ = some (.int .i64 (at' es x).y)) := fun V hV => ⟨(HA.out.later hV).2.1, later hV c2, later hV c3, later hV c4⟩
      have HS1 := hide (HS V1 (below_step HB0.out b1))
      have HS2 := hide (HS D HBD.out)
      obtain ⟨s0, s1, s2, s3⟩ := HS V0 HB0.out
      have nk0 : kw ≠ kb := by have := HKB.out; have := HWS.out; omega
      have nk1 : b2 ≠ kb := by have : b2 < W.heap.size := block_lt_of_cell c2; have := HKB.out; omega
      have nk2 : b ≠ kb := by have : b < W.heap.size := block_lt_of_cell c3; have := HKB.out; omega
      have HO1 := hide o1
      have HV1 := hide hV1
      rw [← hV1] at e1
      have i1 : (i : Int) < l.length := by omega
      have i2 : (x : Int) < es.length := by omega
      clear hL2 c2 hL c3 c4 bd z0 o0 o1 gr1 hbD hV1 b1 HS hx hpl hA y0 y1 y2 y3 HB0 HN0
      go_wp2_with fail
      refine wp_region_held_drew (S := (fun W' => W'.cell? ⟨kw, 1, none⟩ = some (.slice (some ⟨b, off, none⟩) es.length cp) ∧ W'.cell? ⟨b2, off2 + i, none⟩ = some (.int .i64 x) ∧ W'.cell? ⟨b, off + x * 2, none⟩ = some (.int .i64 (at' es x).x) ∧ W'.cell? ⟨b, off + x * 2 + 1, none⟩ = some (.int .i64 (at' es x).y))) (by kernel_rfl) (by rw [← hV0]; exact ⟨s0, s1, s2, s3⟩) (fun hHeld => ?_)
      rw [← hV0] at hHeld ⊢
      clear hV0
      change wpAnyH Try.prog .any _ _ _ 14 #[false, false, false, false, false, false, false, false, false, false, false, false, false, false] _ _
      refine wpAnyH_take (i := 0) (v := ?v1) rfl (by kernel_rfl) (by kernel_rfl) (by kernel_rfl) (fun _ _ _ h => h) (Or.inl ⟨by rfl, ?hy1⟩) (by assumption) ?rest1
      case hy1 => (intro w hSw; (try dsimp only at hSw); go_simp; try with_reducible rfl)
      try simp only [Act.put, List.setIfInBounds_toArray, List.set_cons_zero]
      refine wpAnyH_take (i := 2) (v := ?v2) rfl (by kernel_rfl) (by kernel_rfl) (by kernel_rfl) (fun _ _ _ h => h) (Or.inl ⟨by rfl, ?hy2⟩) (by assumption) ?rest2
      case hy2 => (intro w hSw; (try dsimp only at hSw); go_simp; try with_reducible rfl)
      try simp only [Act.put, List.setIfInBounds_toArray, List.set_cons_zero, List.set_cons_succ]
      refine wpAnyH_take (i := 3) (v := ?v3) rfl (by kernel_rfl) (by kernel_rfl) (by kernel_rfl) (fun _ _ _ h => h) (Or.inl ⟨by rfl, ?hy3⟩) (by assumption) ?rest3
      case hy3 => (intro w hSw; (try dsimp only at hSw); go_simp; try with_reducible rfl)
      try simp only [Act.put, List.setIfInBounds_toArray, List.set_cons_zero, List.set_cons_succ]
      refine wpAnyH_take (i := 4) (v := ?v4) rfl (by kernel_rfl) (by kernel_rfl) (by kernel_rfl) (fun _ _ _ h => h) (Or.inl ⟨by rfl, ?hy4⟩) (by assumption) ?rest4
      case hy4 => (intro w hSw; (try dsimp only at hSw); go_simp; try with_reducible rfl)
      try simp only [Act.put, List.setIfInBounds_toArray, List.set_cons_zero, List.set_cons_succ]
      refine wpAnyH_take (i := 5) (v := ?v5) rfl (by kernel_rfl) (by kernel_rfl) (by kernel_rfl) (fun _ _ _ h => h) (Or.inl ⟨by rfl, ?hy5⟩) (by assumption) ?rest5
      case hy5 => (intro w hSw; (try dsimp only at hSw); go_simp; try with_reducible rfl)
      try simp only [Act.put, List.setIfInBounds_toArray, List.set_cons_zero, List.set_cons_succ]
      refine wpAnyH_take (i := 6) (v := ?v6) rfl (by kernel_rfl) (by kernel_rfl) (by kernel_rfl) (fun _ _ _ h => h) (Or.inl ⟨by rfl, ?hy6⟩) (by assumption) ?rest6
      case hy6 => (intro w hSw; (try dsimp only at hSw); go_simp; try with_reducible rfl)
      try simp only [Act.put, List.setIfInBounds_toArray, List.set_cons_zero, List.set_cons_succ]
      refine wpAnyH_take (i := 7) (v := ?v7) rfl (by kernel_rfl) (by kernel_rfl) (by kernel_rfl) (fun _ _ _ h => h) (Or.inl ⟨by rfl, ?hy7⟩) (by assumption) ?rest7
      case hy7 => (intro w hSw; (try dsimp only at hSw); go_simp; try with_reducible rfl)
      try simp only [Act.put, List.setIfInBounds_toArray, List.set_cons_zero, List.set_cons_succ]
      refine wpAnyH_take (i := 8) (v := ?v8) rfl (by kernel_rfl) (by kernel_rfl) (by kernel_rfl) (fun _ _ _ h => h) (Or.inl ⟨by rfl, ?hy8⟩) (by assumption) ?rest8
      case hy8 => (intro w hSw; (try dsimp only at hSw); go_simp; try with_reducible rfl)
      try simp only [Act.put, List.setIfInBounds_toArray, List.set_cons_zero, List.set_cons_succ]
      refine wpAnyH_take (i := 9) (v := ?v9) rfl (by kernel_rfl) (by kernel_rfl) (by kernel_rfl) (fun _ _ _ h => h) (Or.inl ⟨by rfl, ?hy9⟩) (by assumption) ?rest9
      case hy9 => (intro w hSw; (try dsimp only at hSw); go_simp; try with_reducible rfl)
      try simp only [Act.put, List.setIfInBounds_toArray, List.set_cons_zero, List.set_cons_succ]
      refine wpAnyH_ready (rs := [1, 10]) (by kernel_rfl) (by simp) ?_
      refine ready_cons ({ dst := some 28, op := Op.load 22 (Operand.tmp 27), type := 22, pos := "ref.go:169", after := #[{ on := 0, ground := Ground.data }], guard := none }) rfl rfl (fun K hK => ?_) ?_
      · clear hHeld
        have d0 := HBK0.out
        refine wp_val (v := ?vl1) (w2 := V0) ?hl1 ?_
        case hl1 => (go_simp; try with_reducible rfl)
        clear d0
        refine hK.out _ _ (by first | exact ⟨s0, s1, s2, s3⟩ | exact ⟨cell_other s0 nk0, cell_other s1 nk1, cell_other s2 nk2, cell_other s3 nk2⟩) (fun hHeld => ?_)
        clear hK K
        try simp only [Act.put, List.setIfInBounds_toArray, List.set_cons_zero, List.set_cons_succ]
        refine wpAnyH_ready (rs := [10]) (by kernel_rfl) (by simp) ?_
        refine ready_cons ({ dst := some 37, op := Op.buildSlice 22 1 #[(0, Operand.tmp 36)], type := 22, pos := "ref.go:169", after := #[{ on := 9, ground := Ground.data }], guard := none }) rfl rfl (fun K hK => ?_) ?_
        · clear hHeld
          go_simp
          rw [← HV1.out]
          clear s0 s1 s2 s3
          obtain ⟨s0, s1, s2, s3⟩ := HS1.out
          refine hK.out _ _ (by first | exact ⟨s0, s1, s2, s3⟩ | exact ⟨cell_other s0 nk0, cell_other s1 nk1, cell_other s2 nk2, cell_other s3 nk2⟩) (fun hHeld => ?_)
          clear hK K
          try simp only [List.setIfInBounds_toArray, List.set_cons_zero, List.set_cons_succ]
          refine wpAnyH_ready (rs := [11]) (by kernel_rfl) (by simp) ?_
          refine ready_cons ({ dst := some 38, op := Op.call { callee := Callee.builtin Builtin.append, args := #[Operand.tmp 28, Operand.tmp 37], argTypes := #[22, 22] }, type := 22, pos := "ref.go:169", after := #[{ on := 1, ground := Ground.data }, { on := 10, ground := Ground.data }], guard := none }) rfl rfl (fun K hK => ?_) ?_
          · clear hHeld
            clear s0 s1 s2 s3
            obtain ⟨s0, s1, s2, s3⟩ := HS2.out
            refine wp_append (.tmp 28) (.tmp 37) 22 (by rfl) 22 (by rfl) (.slice q' i c') (.slice (some ⟨V0.heap.size, 0, none⟩) 1 1) (.slice q1 (i + 1) c1) D (by rfl) (by rfl) ?_ ?_
            with_reducible exact e1
            refine hK.out _ _ (by first | exact ⟨s0, s1, s2, s3⟩ | exact ⟨cell_other s0 nk0, cell_other s1 nk1, cell_other s2 nk2, cell_other s3 nk2⟩) (fun hHeld => ?_)
            clear hK K
            try simp only [Act.put, List.setIfInBounds_toArray, List.set_cons_zero, List.set_cons_succ]
            refine wpAnyH_take (i := 12) (v := ?v10) rfl (by kernel_rfl) (by kernel_rfl) (by kernel_rfl) (fun _ _ _ h => h) (Or.inl ⟨by rfl, ?hy10⟩) (by assumption) ?rest10
            case hy10 => (intro w hSw; (try dsimp only at hSw); go_simp; try with_reducible rfl)
            try simp only [Act.put, List.setIfInBounds_toArray, List.set_cons_zero, List.set_cons_succ]
            refine wpAnyH_ready (rs := [13]) (by kernel_rfl) (by simp) ?_
            refine ready_cons ({ dst := none, op := Op.store 22 (Operand.tmp 39) (Operand.tmp 38), type := 0, pos := "ref.go:169", after := #[{ on := 12, ground := Ground.data }, { on := 11, ground := Ground.data }, { on := 11, ground := Ground.chain }, { on := 0, ground := Ground.phase }, { on := 1, ground := Ground.phase }, { on := 2, ground := Ground.phase }, { on := 3, ground := Ground.phase }, { on := 4, ground := Ground.phase }, { on := 5, ground := Ground.phase }, { on := 6, ground := Ground.phase }, { on := 7, ground := Ground.phase }, { on := 8, ground := Ground.phase }, { on := 9, ground := Ground.phase }, { on := 10, ground := Ground.phase }, { on := 11, ground := Ground.phase }], guard := none }) rfl rfl (fun K hK => ?_) ?_
            · clear hHeld
              have d0 := HDK.out.1
              have d1 := HDK.out.2
              go_simp
              clear d0 d1
              refine hK.out _ _ (by first | exact ⟨s0, s1, s2, s3⟩ | exact ⟨cell_other s0 nk0, cell_other s1 nk1, cell_other s2 nk2, cell_other s3 nk2⟩) (fun hHeld => ?_)
              clear hK K
              try simp only [List.setIfInBounds_toArray, List.set_cons_zero, List.set_cons_succ]
              refine wpAnyH_done (by kernel_rfl) ?_ _
              clear hHeld
              obtain ⟨E, hE⟩ : ∃ E, E = D.setCell ⟨kb, 1, none⟩ (.slice q1 (i + 1) c1) := ⟨_, rfl⟩
              have nE : NOwn E kb n q1 (i + 1) c1 := by rw [hE]; exact nown_set1 HND.out _ _ _
              have oE : Owns E (kb + 1) (.slice q1 (i + 1) c1) (pick es (l.take (i + 1))) := by rw [hE, HPK.out]; exact owns_other HO1.out (by omega) _
              have bE : Below W.heap.size W E := by rw [hE]; exact HBD.out.setCell (p := ⟨kb, 1, none⟩) HKB.out _
              have zE : kb + 1 ≤ E.heap.size := by have := block_lt_of_cell nE.1; exact this
              rw [← hE]
              have HREL := hide (And.intro bE (And.intro zE (And.intro nE oE)))
              clear hE nE oE bE zE s0 s1 s2 s3
              go_wp2
              go_roundw
              case rel => exact ⟨i + 1, by omega, by go_num, q1, c1, HREL.out⟩
              case measure => simp [intOf]; omega
            exact AllReadyH.nil
          exact AllReadyH.nil
        exact AllReadyH.nil
      refine ready_cons ({ dst := some 37, op := Op.buildSlice 22 1 #[(0, Operand.tmp 36)], type := 22, pos := "ref.go:169", after := #[{ on := 9, ground := Ground.data }], guard := none }) rfl rfl (fun K hK => ?_) ?_
      · clear hHeld
        go_simp
        rw [← HV1.out]
        clear s0 s1 s2 s3
        obtain ⟨s0, s1, s2, s3⟩ := HS1.out
        refine hK.out _ _ (by first | exact ⟨s0, s1, s2, s3⟩ | exact ⟨cell_other s0 nk0, cell_other s1 nk1, cell_other s2 nk2, cell_other s3 nk2⟩) (fun hHeld => ?_)
        clear hK K
        try simp only [List.setIfInBounds_toArray, List.set_cons_zero, List.set_cons_succ]
        refine wpAnyH_ready (rs := [1]) (by kernel_rfl) (by simp) ?_
        refine ready_cons ({ dst := some 28, op := Op.load 22 (Operand.tmp 27), type := 22, pos := "ref.go:169", after := #[{ on := 0, ground := Ground.data }], guard := none }) rfl rfl (fun K hK => ?_) ?_
        · clear hHeld
          have d0 := HBK1.out
          refine wp_val (v := ?vl2) (w2 := V1) ?hl2 ?_
          case hl2 => (go_simp; try with_reducible rfl)
          clear d0
          refine hK.out _ _ (by first | exact ⟨s0, s1, s2, s3⟩ | exact ⟨cell_other s0 nk0, cell_other s1 nk1, cell_other s2 nk2, cell_other s3 nk2⟩) (fun hHeld => ?_)
          clear hK K
          try simp only [Act.put, List.setIfInBounds_toArray, List.set_cons_zero, List.set_cons_succ]
          refine wpAnyH_ready (rs := [11]) (by kernel_rfl) (by simp) ?_
          refine ready_cons ({ dst := some 38, op := Op.call { callee := Callee.builtin Builtin.append, args := #[Operand.tmp 28, Operand.tmp 37], argTypes := #[22, 22] }, type := 22, pos := "ref.go:169", after := #[{ on := 1, ground := Ground.data }, { on := 10, ground := Ground.data }], guard := none }) rfl rfl (fun K hK => ?_) ?_
          · clear hHeld
            clear s0 s1 s2 s3
            obtain ⟨s0, s1, s2, s3⟩ := HS2.out
            refine wp_append (.tmp 28) (.tmp 37) 22 (by rfl) 22 (by rfl) (.slice q' i c') (.slice (some ⟨V0.heap.size, 0, none⟩) 1 1) (.slice q1 (i + 1) c1) D (by rfl) (by rfl) ?_ ?_
            with_reducible exact e1
            refine hK.out _ _ (by first | exact ⟨s0, s1, s2, s3⟩ | exact ⟨cell_other s0 nk0, cell_other s1 nk1, cell_other s2 nk2, cell_other s3 nk2⟩) (fun hHeld => ?_)
            clear hK K
            try simp only [Act.put, List.setIfInBounds_toArray, List.set_cons_zero, List.set_cons_succ]
            refine wpAnyH_take (i := 12) (v := ?v11) rfl (by kernel_rfl) (by kernel_rfl) (by kernel_rfl) (fun _ _ _ h => h) (Or.inl ⟨by rfl, ?hy11⟩) (by assumption) ?rest11
            case hy11 => (intro w hSw; (try dsimp only at hSw); go_simp; try with_reducible rfl)
            try simp only [Act.put, List.setIfInBounds_toArray, List.set_cons_zero, List.set_cons_succ]
            refine wpAnyH_ready (rs := [13]) (by kernel_rfl) (by simp) ?_
            refine ready_cons ({ dst := none, op := Op.store 22 (Operand.tmp 39) (Operand.tmp 38), type := 0, pos := "ref.go:169", after := #[{ on := 12, ground := Ground.data }, { on := 11, ground := Ground.data }, { on := 11, ground := Ground.chain }, { on := 0, ground := Ground.phase }, { on := 1, ground := Ground.phase }, { on := 2, ground := Ground.phase }, { on := 3, ground := Ground.phase }, { on := 4, ground := Ground.phase }, { on := 5, ground := Ground.phase }, { on := 6, ground := Ground.phase }, { on := 7, ground := Ground.phase }, { on := 8, ground := Ground.phase }, { on := 9, ground := Ground.phase }, { on := 10, ground := Ground.phase }, { on := 11, ground := Ground.phase }], guard := none }) rfl rfl (fun K hK => ?_) ?_
            · clear hHeld
              have d0 := HDK.out.1
              have d1 := HDK.out.2
              go_simp
              clear d0 d1
              refine hK.out _ _ (by first | exact ⟨s0, s1, s2, s3⟩ | exact ⟨cell_other s0 nk0, cell_other s1 nk1, cell_other s2 nk2, cell_other s3 nk2⟩) (fun hHeld => ?_)
              clear hK K
              try simp only [List.setIfInBounds_toArray, List.set_cons_zero, List.set_cons_succ]
              refine wpAnyH_done (by kernel_rfl) ?_ _
              clear hHeld
              obtain ⟨E, hE⟩ : ∃ E, E = D.setCell ⟨kb, 1, none⟩ (.slice q1 (i + 1) c1) := ⟨_, rfl⟩
              have nE : NOwn E kb n q1 (i + 1) c1 := by rw [hE]; exact nown_set1 HND.out _ _ _
              have oE : Owns E (kb + 1) (.slice q1 (i + 1) c1) (pick es (l.take (i + 1))) := by rw [hE, HPK.out]; exact owns_other HO1.out (by omega) _
              have bE : Below W.heap.size W E := by rw [hE]; exact HBD.out.setCell (p := ⟨kb, 1, none⟩) HKB.out _
              have zE : kb + 1 ≤ E.heap.size := by have := block_lt_of_cell nE.1; exact this
              rw [← hE]
              have HREL := hide (And.intro bE (And.intro zE (And.intro nE oE)))
              clear hE nE oE bE zE s0 s1 s2 s3
              go_wp2
              go_roundw
              case rel => exact ⟨i + 1, by omega, by go_num, q1, c1, HREL.out⟩
              case measure => simp [intOf]; omega
            exact AllReadyH.nil
          exact AllReadyH.nil
        exact AllReadyH.nil
      exact AllReadyH.nil
    · have hie : i = l.length := by omega
      subst hie
      have HNr := hide (HN.out.later HR.out.1)
      obtain ⟨c0, c1, c2, c3⟩ := HNr.out
      have HO := hide HR.out.2.2.2
      rw [List.take_length] at HO
      have nk : kw + 1 ≠ kb := by have := HKB.out; have := HWS.out; omega
      go_wp2_with fail
      have hkw1 : kw + 1 < W.heap.size := by have := HWS.out; omega
      have hkb1 : kw + 1 < kb + 1 := by have := HKB.out; omega
      refine bodyPost_ret (ret_net Try.results71 rfl rfl (HNr.out.set _ _ _ _)) rfl ⟨q', c', rfl, ?_, ?_⟩
      · exact (owns_other (owns_other HO.out hkb1 _) hkb1 _).base (by rw [HKW.out]; omega)
      · rw [HKW.out]
        have := below_step HB.out HR.out.1
        rw [HKW.out] at this
        exact (this.setCell (p := ⟨kw + 1, 0, none⟩) (by simp) _).setCell (p := ⟨kw + 1, 1, none⟩) (by simp) _
set_option maxRecDepth 100000 in
set_option maxHeartbeats 8000000 in
/-- The document's Sub, where it refuses. -/
theorem sub44no (n : Int) (p q : Option Addr) (es : List Pt) (l : List Int) (cp cq : Nat) (w : World) (hlen : l.length ≤ 90000) (hc : errL l es.length ≠ 0) (hq : IHas w q l) : Calls Try.prog 71 #[nv n p es.length cp, .slice q l.length cq] w fun e w' => e = .returned (.tuple #[nv 0 none 0 0, .int .i64 (errL l es.length)]) ∧ Below w.heap.size w w' := by
  obtain ⟨W, hW, hb, a0, b0⟩ := two_nets w n p es.length cp
  have C1 := hide (chosen52 q l cq es.length W (by unfold maxLen; omega) (hq.later hb))
  have HB := hide hb
  have HN := hide b0
  obtain ⟨er, her⟩ : ∃ er, errL l es.length = er := ⟨_, rfl⟩
  rw [her] at hc C1 ⊢
  have t1 : (er == 0) = false := by simp [hc]
  have t2 : (er != 0) = true := by simp [hc]
  clear hq hb a0 b0 her
  go_enter Try.func71, Try.ntmps71
  go_wp2_with fail
  rw [← hW]
  clear hW
  refine C1.out.mono ?_
  rintro e w1 ⟨rfl, hb1⟩
  have HB1 := hide (below_step HB.out hb1)
  have HN1 := hide (HN.out.later hb1)
  obtain ⟨n0, n1, n2, n3⟩ := HN1.out
  clear C1 hb1
  go_wp2_with fail
  refine bodyPost_ret (ret_net Try.results71 rfl rfl (by first | exact HN1.out | exact HN1.out.set _ _ _ _)) rfl ⟨rfl, ?_⟩
  first | exact HB1.out | exact (HB1.out.setCell (p := ⟨w.heap.size + 1, 0, none⟩) (by simp) _).setCell (p := ⟨w.heap.size + 1, 1, none⟩) (by simp) _

def RMovedPost (n : Int) (es : List Pt) (l : List Int) (w : World) (e : Ending) (w' : World) : Prop :=
  (movE n es l = 0 ∧ ∃ q c, e = .returned (.tuple #[nv n q es.length c, .int .i64 0]) ∧ Owns w' w.heap.size (.slice q es.length c) (rename es l)) ∨ (movE n es l ≠ 0 ∧ e = .returned (.tuple #[nv 0 none 0 0, .int .i64 (movE n es l)]))
set_option maxRecDepth 100000 in
set_option maxHeartbeats 8000000 in
theorem moved23 (n : Int) (p q : Option Addr) (es : List Pt) (l : List Int) (cp cq : Nat) (w : World) (hm : netB n es = true) (hnil : p = none → cp = 0) (hl : l.length ≤ maxLen) (h : Has w p es) (k : IHas w q l) : Calls Try.prog 72 #[nv n p es.length cp, .slice q l.length cq] w fun e w' => RMovedPost n es l w e w' ∧ Below w.heap.size w w' := by
  obtain ⟨W, hW, hb, a0, b0⟩ := two_nets w n p es.length cp
  have HH := hide (h.later hb)
  have HK := hide (k.later hb)
  have HB := hide hb
  have HA := hide a0
  have HN := hide b0
  obtain ⟨n0, n1, hes, hends⟩ := netB_is hm
  have HE := hide hends
  obtain ⟨q0, q1, _, _⟩ := a0
  obtain ⟨r0, r1, r2, r3⟩ := b0
  clear h k hb hends
  unfold maxLen at hl
  by_cases hln : (l.length : Int) = n
  · obtain ⟨m, rfl⟩ : ∃ m : Nat, n = m := ⟨n.toNat, by omega⟩
    have hbe : ((l.length : Int) == (m : Int)) = true := by simpa using hln
    have hbn : ((l.length : Int) != (m : Int)) = false := by simpa using hln
    have HLN := hide hln
    have hlm : l.length ≤ 1024 := by omega
    clear hln
    go_enter Try.func72, Try.ntmps72
    go_wp2_with fail
    rw [← hW]
    clear hW
    go_wp2_with fail
    clear q0 q1 r0 r1 r2 r3
    go_loopw [6] (fun t wr => ∃ i : Nat, i ≤ l.length ∧ t = .int .i64 i ∧ Hid (Below W.heap.size W wr) ∧ Hid (∀ j, j < i → belowB (iat l j) m = true)) (fun t _ => l.length - (intOf t).toNat)
    case atStart => exact ⟨0, by omega, rfl, Below.refl _ _, fun j hj => by omega⟩
    case round =>
      obtain ⟨i, hi, rfl, HBr, HP⟩ := hrel
      obtain ⟨q0, q1, _, _⟩ := HA.out.later HBr.out
      have HN1 := hide (HN.out.later HBr.out)
      have HB1 := hide (below_step HB.out HBr.out)
      by_cases hlt : i < l.length
      · rcases HK.out.later HBr.out with h | ⟨bl, ol, rfl, hL⟩
        · subst h; simp at hlt
        have cl := hL i hlt
        have HS := hide (fun h => allBB_no (n := (m : Int)) hlt h)
        obtain ⟨x, hx⟩ : ∃ x, iat l i = x := ⟨_, rfl⟩
        have HX := hide hx
        rw [hx] at cl HS
        clear hL hx
        have i1 : (i : Int) < l.length := by omega
        have i2 : (0 : Int) ≤ i := by omega
        by_cases hx0 : x < 0
        · have hS : Hid (movE m es l = 2) := by
            show _ = _
            unfold movE
            rw [hm, if_pos rfl, if_neg (fun c => by rw [HS.out (by unfold belowB; simp; omega)] at c; exact absurd c.2 (by simp))]
          have g1 : decide (x < 0) = true := by simpa using hx0
          obtain ⟨r0, r1, r2, r3⟩ := HN1.out
          go_wp2_with fail
          go_quiet (fail)
          go_wp2
          exact bodyPost_ret (ret_net Try.results72 rfl rfl ((HN1.out.later (W' := wr.drewN nq) (below_drewN (Below.refl _ _))).set 0 none 0 0)) rfl ⟨Or.inr ⟨by rw [hS.out]; omega, by rw [hS.out]; rfl⟩, ((below_drewN HB1.out).setCell (by simp) _).setCell (by simp) _⟩
        have g1 : decide (x < 0) = false := by simpa using hx0
        by_cases hxn : (m : Int) ≤ x
        · have hS : Hid (movE m es l = 2) := by
            show _ = _
            unfold movE
            rw [hm, if_pos rfl, if_neg (fun c => by rw [HS.out (by unfold belowB; simp; omega)] at c; exact absurd c.2 (by simp))]
          have g2 : decide ((m : Int) ≤ x) = true := by simpa using hxn
          obtain ⟨r0, r1, r2, r3⟩ := HN1.out
          go_wp2_with fail
          go_quiet (fail)
          go_wp2
          exact bodyPost_ret (ret_net Try.results72 rfl rfl ((HN1.out.later (W' := wr.drewN nq) (below_drewN (Below.refl _ _))).set 0 none 0 0)) rfl ⟨Or.inr ⟨by rw [hS.out]; omega, by rw [hS.out]; rfl⟩, ((below_drewN HB1.out).setCell (by simp) _).setCell (by simp) _⟩
        have g2 : decide ((m : Int) ≤ x) = false := by simpa using hxn
        go_wp2_with fail
        go_quiet (fail)
        go_wp2
        go_roundw
        case rel => exact ⟨i + 1, by omega, by go_num, below_drewN HBr.out, more HP.out (by rw [HX.out]; unfold belowB; simp; omega)⟩
        case measure => simp [intOf]; omega
      · have hin : i = l.length := by omega
        subst hin
        have hAll : Hid (allBB l m = true) := allBB_yes HP.out
        have hE : Hid (movE m es l = errL l m) := by
          show _ = _
          unfold movE
          rw [hm, if_pos rfl, if_pos ⟨HLN.out, hAll.out⟩]
        have CH := hide (chosen52 q l cq m wr (by unfold maxLen; omega) (HK.out.later HBr.out))
        obtain ⟨X, hX⟩ : ∃ X, errL l m = X := ⟨_, rfl⟩
        rw [hX] at CH hE
        go_wp2_with fail
        refine CH.out.mono ?_
        rintro e w2 ⟨rfl, hb2⟩
        have HB2 := hide (below_step HB1.out hb2)
        have HN2 := hide (HN1.out.later hb2)
        have HA2 := hide ((HA.out.later HBr.out).later hb2)
        have HH2 := hide ((HH.out.later HBr.out).later hb2)
        have HK2 := hide ((HK.out.later HBr.out).later hb2)
        clear q0 q1 hb2 HA HN HB HH HK HN1 HB1 HBr HP CH
        by_cases hX0 : X = 0
        · subst hX0
          obtain ⟨q0, q1, _, _⟩ := HA2.out
          have CO := hide (copy53 m p es cp w2 hnil (by omega) HH2.out)
          go_wp2_with fail
          refine CO.out.mono ?_
          rintro e w3 ⟨p3, c3, rfl, o3, hb3⟩
          have HB3 := hide hb3
          have HO3 := hide o3
          clear q0 q1 o3 hb3 CO
          go_wp2_with fail
          obtain ⟨U, hU⟩ : ∃ U, U = w3.alloc (nbx m p3 es.length c3) := ⟨_, rfl⟩
          have hbU : Below w3.heap.size w3 U := by rw [hU]; go_grown
          have HS3 : Hid (NOwn U w3.heap.size m p3 es.length c3) := by show NOwn _ _ _ _ _ _; rw [hU]; exact ⟨by unfold nbx; go_cell, by unfold nbx; go_cell, by simp [go_sem, nbx], by simp [go_sem, nbx]⟩
          have HOU := hide (HO3.out.later hbU)
          have HBU := hide (below_step HB3.out hbU)
          rw [show w3.alloc (nbx m p3 es.length c3) = U from hU.symm]
          clear hU hbU
          have hz3 : w2.heap.size ≤ w3.heap.size := HB3.out.size
          have hB3 : Hid (∀ g, p3 = some ⟨g, 0, none⟩ → w2.heap.size ≤ g ∧ g < w3.heap.size) := fun g hg => by
            have := HO3.out
            rw [hg] at this
            exact World.ownsRow.lt this g rfl
          have hw2 : w.heap.size + 1 < w2.heap.size := block_lt_of_cell HN2.out.1
          clear hX
          go_loopw [9] (fun t wr => ∃ i : Nat, i ≤ es.length ∧ t = .int .i64 i ∧ Hid (Below w2.heap.size w2 wr) ∧ Hid (NOwn wr w3.heap.size m p3 es.length c3) ∧ Hid (w3.heap.size < wr.heap.size) ∧ Hid (∃ r : List Pt, r.length = es.length ∧ Owns wr w2.heap.size (.slice p3 r.length c3) r ∧ ∀ j, j < i → at' r j = at' (rename es l) j)) (fun t _ => es.length - (intOf t).toNat)
          case atStart => exact ⟨0, by omega, rfl, HBU.out, HS3.out, block_lt_of_cell HS3.out.1, es, rfl, HOU.out, fun j hj => by omega⟩
          case round =>
            obtain ⟨i, hi, rfl, HBr, HS, HZ, HR⟩ := hrel
            obtain ⟨r, hrl, hro, hall⟩ := HR.out
            have HRL := hide hrl
            have HRO := hide hro
            have HAL := hide hall
            clear hrl hro hall HR
            obtain ⟨s0, s1, _, _⟩ := HS.out
            by_cases hlt : i < es.length
            · obtain ⟨g, c', hg, _, _, _⟩ := owns_block HRO.out (by rw [HRL.out]; omega)
              simp only [Value.slice.injEq] at hg
              obtain ⟨hg, hg2, hg3⟩ := hg
              clear hg2 hg3
              subst hg
              obtain ⟨hg0, hg1⟩ := hB3.out g rfl
              have HRF := hide (World.ownsRow.frozenAt HRO.out)
              obtain ⟨c0, c1⟩ := HRO.out.lies i (by rw [HRL.out]; exact hlt)
              rw [Nat.zero_add] at c0 c1
              have c2 : wr.frozen? ⟨g, i * 2, none⟩ = false := HRF.out _
              have c3' : wr.frozen? ⟨g, i * 2 + 1, none⟩ = false := HRF.out _
              obtain ⟨q0, q1, _, _⟩ := HA2.out.later HBr.out
              obtain ⟨hx0, hx1, hy0, hy1⟩ := HE.out i hlt
              have HQ := hide (rename_at es l hlt)
              rcases HH2.out with h | ⟨be, oe, rfl, hE0⟩
              · subst h; simp at hlt
              have nE : be ≠ g := by have := block_lt_of_cell (hE0 i hlt).1; simp at this; omega
              obtain ⟨d0, d1⟩ := hE0.later HBr.out i hlt
              obtain ⟨z, hz⟩ : ∃ z, at' es i = z := ⟨_, rfl⟩
              rw [hz] at hx0 hx1 hy0 hy1 d0 d1 HQ
              obtain ⟨x, y⟩ := z
              simp only at hx0 hx1 hy0 hy1 d0 d1 HQ
              obtain ⟨xn, rfl⟩ : ∃ xn : Nat, x = xn := ⟨x.toNat, by omega⟩
              obtain ⟨yn, rfl⟩ : ∃ yn : Nat, y = yn := ⟨y.toNat, by omega⟩
              have hxn : xn < l.length := by have := HLN.out; omega
              have hyn : yn < l.length := by have := HLN.out; omega
              rcases HK2.out with h | ⟨bl, ol, rfl, hL0⟩
              · subst h; simp at hxn
              have nL : bl ≠ g := by have := block_lt_of_cell (hL0 xn hxn); simp at this; omega
              have cx := hL0.later HBr.out xn hxn
              have cy := hL0.later HBr.out yn hyn
              obtain ⟨u, hu⟩ : ∃ u, iat l xn = u := ⟨_, rfl⟩
              obtain ⟨v, hv⟩ : ∃ v, iat l yn = v := ⟨_, rfl⟩
              rw [hu] at cx
              rw [hv] at cy
              rw [Int.toNat_natCast, Int.toNat_natCast, hu, hv] at HQ
              have nW : w.heap.size ≠ g := by omega
              have nS : w3.heap.size ≠ g := by omega
              have i1 : (i : Int) < es.length := by omega
              have i2 : (0 : Int) ≤ i := by omega
              have x1 : (xn : Int) < l.length := by omega
              have y1 : (yn : Int) < l.length := by omega
              have x2 : (0 : Int) ≤ xn := by omega
              have y2 : (0 : Int) ≤ yn := by omega
              clear hE0 hL0 hu hv hz
              go_wp2_with fail
              have CC : Hid (wr.cell? ⟨w3.heap.size, 1, none⟩ = some (.slice (some ⟨g, 0, none⟩) es.length c3) ∧ wr.cell? ⟨w.heap.size, 1, none⟩ = some (.slice (some ⟨be, oe, none⟩) es.length cp) ∧ wr.cell? ⟨be, oe + i * 2, none⟩ = some (.int .i64 xn) ∧ wr.cell? ⟨be, oe + i * 2 + 1, none⟩ = some (.int .i64 yn) ∧ wr.cell? ⟨bl, ol + xn, none⟩ = some (.int .i64 u) ∧ wr.cell? ⟨bl, ol + yn, none⟩ = some (.int .i64 v)) := ⟨s1, q1, d0, d1, cx, cy⟩
              go_region_held3 (fun W => W.cell? ⟨w3.heap.size, 1, none⟩ = some (.slice (some ⟨g, 0, none⟩) es.length c3) ∧ W.cell? ⟨w.heap.size, 1, none⟩ = some (.slice (some ⟨be, oe, none⟩) es.length cp) ∧ W.cell? ⟨be, oe + i * 2, none⟩ = some (.int .i64 xn) ∧ W.cell? ⟨be, oe + i * 2 + 1, none⟩ = some (.int .i64 yn) ∧ W.cell? ⟨bl, ol + xn, none⟩ = some (.int .i64 u) ∧ W.cell? ⟨bl, ol + yn, none⟩ = some (.int .i64 v))
                (first | exact CC.out | exact ⟨other2 CC.out.1 nS, other2 CC.out.2.1 nW, other2 CC.out.2.2.1 nE, other2 CC.out.2.2.2.1 nE, other2 CC.out.2.2.2.2.1 nL, other2 CC.out.2.2.2.2.2 nL⟩)
                (first | fail)
              rename_i hHeld
              clear hHeld
              obtain ⟨V, hV⟩ : ∃ V, V = (wr.setCell ⟨g, i * 2, none⟩ (.int .i64 u)).setCell ⟨g, i * 2 + 1, none⟩ (.int .i64 v) := ⟨_, rfl⟩
              have HBV : Hid (Below w2.heap.size w2 V) := by show Below _ _ _; rw [hV]; exact (HBr.out.setCell hg0 _).setCell hg0 _
              have HSV : Hid (NOwn V w3.heap.size m (some ⟨g, 0, none⟩) es.length c3) := by show NOwn _ _ _ _ _ _; rw [hV]; exact (HS.out.other nS.symm _).other nS.symm _
              have HRV : Hid (Owns V w2.heap.size (.slice (some ⟨g, 0, none⟩) (r.set i ⟨u, v⟩).length c3) (r.set i ⟨u, v⟩)) := by show Owns _ _ _ _; rw [hV]; exact HRO.out.set i ⟨u, v⟩
              rw [← hV]
              clear hV CC c0 c1 c2 c3' q0 q1 d0 d1 cx cy s0 s1
              go_wp2
              go_roundw
              case rel =>
                refine ⟨i + 1, by omega, by go_num, below_drewN (n := 1) HBV.out, HSV.out.later (below_drew _), block_lt_of_cell (HSV.out.later (below_drew _)).1, r.set i ⟨u, v⟩, by rw [List.length_set]; exact HRL.out, HRV.out.later (below_drew _), more (fun j hj => ?_) ?_⟩
                · rw [at_set _ _ _ _ (by rw [HRL.out]; omega), if_neg (by omega)]; exact HAL.out j hj
                · rw [at_set _ _ _ _ (by rw [HRL.out]; omega), if_pos rfl, HQ.out]
              case measure => simp [intOf]; omega
            · have hin : i = es.length := by omega
              subst hin
              have e : Hid (r = rename es l) := at_ext (by rw [HRL.out, rename_length]) fun j hj => HAL.out j (by rw [HRL.out] at hj; exact hj)
              have HO : Hid (Owns wr w2.heap.size (.slice p3 es.length c3) (rename es l)) := by
                show Owns _ _ _ _
                have := HRO.out
                rw [HRL.out, e.out] at this
                exact this
              have HN4 := hide (HN2.out.later HBr.out)
              have HB4 := hide (below_step HB2.out HBr.out)
              obtain ⟨r0, r1, r2, r3⟩ := HN4.out
              go_wp2
              obtain ⟨V, hV⟩ : ∃ V, V = (wr.setCell ⟨w.heap.size + 1, 0, none⟩ (.int .i64 m)).setCell ⟨w.heap.size + 1, 1, none⟩ (.slice p3 es.length c3) := ⟨_, rfl⟩
              have kV : NOwn V (w.heap.size + 1) m p3 es.length c3 := by rw [hV]; exact HN4.out.set _ _ _ _
              have bV : Below w.heap.size w V := by rw [hV]; exact (HB4.out.setCell (by simp) _).setCell (by simp) _
              have oV : Owns V w.heap.size (.slice p3 es.length c3) (rename es l) := by rw [hV]; exact (owns_other (owns_other HO.out hw2 _) hw2 _).base HB2.out.size
              rw [← hV]
              exact bodyPost_ret (ret_net Try.results72 rfl rfl kV) rfl ⟨Or.inl ⟨hE.out, p3, c3, rfl, oV⟩, bV⟩
        · have hXb : (X == 0) = false := by simpa using hX0
          have hXn : (X != 0) = true := by simpa using hX0
          obtain ⟨r0, r1, r2, r3⟩ := HN2.out
          go_wp2
          exact bodyPost_ret (ret_net Try.results72 rfl rfl (HN2.out.set 0 none 0 0)) rfl ⟨Or.inr ⟨by rw [hE.out]; exact hX0, by rw [hE.out]; rfl⟩, (HB2.out.setCell (by simp) _).setCell (by simp) _⟩
  · have hS : Hid (movE n es l = 2) := by show _ = _; unfold movE; rw [hm, if_pos rfl, if_neg (fun c => hln c.1)]
    have hbe : ((l.length : Int) == n) = false := by simpa using hln
    have hbn : ((l.length : Int) != n) = true := by simpa using hln
    go_enter Try.func72, Try.ntmps72
    go_wp2_with fail
    rw [← hW]
    clear hW
    go_wp2
    exact bodyPost_ret (ret_net Try.results72 rfl rfl HN.out) rfl ⟨Or.inr ⟨by rw [hS.out]; omega, by rw [hS.out]; rfl⟩, HB.out⟩
end Go.Proofs.Ytllkadgpkbaghaa

namespace Go.Proofs.Ytllkadgpkbaghaa
open Go.RowKit Go.Sort
open Go
set_option maxRecDepth 100000 in
set_option maxHeartbeats 16000000 in
theorem sub50no (n : Int) (p : Option Addr) (es : List Pt) (cp : Nat) (q : Option Addr) (nr cq : Nat) (t : Option Addr) (l : List Int) (ct : Nat) (w : World) (hl : l.length ≤ 90000) (hk : IHas w t l) (hs : errL l es.length ≠ 0) : Calls Try.prog 50 #[nv n p es.length cp, .slice q nr cq, .slice t l.length ct] w fun e w' => e = .returned (.tuple #[nv 0 none 0 0, .slice none 0 0, .int .i64 (errL l es.length)]) ∧ Below w.heap.size w w' := by
  obtain ⟨W, hW, hb0, a0, b0⟩ := two_nets w n p es.length cp
  have M := hide (sub44no n p t es l cp ct W hl hs (hk.later hb0))
  have HB := hide hb0
  have HN := hide b0
  obtain ⟨q0, q1, _, _⟩ := a0
  obtain ⟨x, hx⟩ : ∃ x, errL l es.length = x := ⟨_, rfl⟩
  rw [hx] at M hs ⊢
  have t1 : (x == 0) = false := by simp [hs]
  clear hk hb0 b0 hx
  go_enter Try.func50, Try.ntmps50
  go_wp2_with fail
  rw [← hW]
  clear hW
  go_wp2_with fail
  refine M.out.mono ?_
  rintro e w1 ⟨rfl, hb1⟩
  have HB1 := hide (below_step HB.out hb1)
  have HN1 := hide (HN.out.later hb1)
  clear hb1 q0 q1 M
  go_upto_region 2 with fail
  obtain ⟨U, hU⟩ : ∃ U, U = w1.alloc (nbx 0 none 0 0) := ⟨_, rfl⟩
  have hbU : Below w1.heap.size w1 U := by rw [hU]; go_grown
  rw [← hU]
  have HBU := hide (below_step HB1.out hbU)
  have HNU := hide (HN1.out.later hbU)
  clear hU hbU
  obtain ⟨r0, r1, r2, r3⟩ := HNU.out
  go_wp2
  obtain ⟨V, hV⟩ : ∃ V, V = (U.setCell ⟨w.heap.size + 1, 0, none⟩ (.int .i64 0)).setCell ⟨w.heap.size + 1, 1, none⟩ (.slice none 0 0) := ⟨_, rfl⟩
  have kV : NOwn V (w.heap.size + 1) 0 none 0 0 := by rw [hV]; exact HNU.out.set 0 none 0 0
  have bV : Below w.heap.size w V := by rw [hV]; exact (HBU.out.setCell (by simp) _).setCell (by simp) _
  rw [← hV]
  exact bodyPost_ret (ret_net3 Try.results50 rfl rfl rfl kV) rfl ⟨rfl, bV⟩
theorem pl_in {l : List Int} {m j : Nat} (hs : errL l m = 0) (hj : j < m) : -1 ≤ iat (plN l m l.length) j ∧ iat (plN l m l.length) j < l.length := by
  obtain ⟨h1, h2⟩ := plN_at (l := l) (m := m) (i := l.length) (fun k hk => errN_all _ hs k hk) j hj
  by_cases h : ∃ k, k < l.length ∧ iat l k = (j : Int)
  · obtain ⟨k, hk, e⟩ := h
    have := h1 k hk e
    omega
  · have := h2 fun k hk e => h ⟨k, hk, e⟩
    omega
/-- Where the edges go, one more than their numbers. -/
def atN (l : List Int) (m i : Nat) : List Int := (plN l m i).map (· + 1)
theorem atN_length (l : List Int) (m i : Nat) : (atN l m i).length = m := by simp [atN, plN_length]
theorem atN_zero (l : List Int) (m : Nat) : atN l m 0 = List.replicate m 0 := by simp [atN, plN]
theorem atN_step (l : List Int) (m i : Nat) : (atN l m i).set (iat l i).toNat ((i : Int) + 1) = atN l m (i + 1) := by
  show _ = ((plN l m i).set (iat l i).toNat (i : Int)).map (· + 1)
  rw [List.map_set]
  rfl
theorem atN_at (l : List Int) {m i j : Nat} (hj : j < m) : iat (atN l m i) j = iat (plN l m i) j + 1 := by
  unfold atN
  rw [iat_map (fun x => x + 1) _ 0 (by rw [plN_length]; exact hj)]
  rfl
set_option maxRecDepth 100000 in
set_option maxHeartbeats 32000000 in
theorem sub50r (n : Nat) (p : Option Addr) (es : List Pt) (cp : Nat) (q : Option Addr) (rs : List (List Int)) (cq : Nat) (t : Option Addr) (l : List Int) (ct : Nat) (w : World) (h : Has w p es) (hr : RHas w q rs) (hl : l.length ≤ 90000) (hk : IHas w t l) (h0 : rotI n es rs = 0) (hs : errL l es.length = 0) : Calls Try.prog 50 #[nv n p es.length cp, .slice q rs.length cq, .slice t l.length ct] w fun e w' => ∃ q' c g5 rv, e = .returned (.tuple #[nv n q' l.length c, .slice (some ⟨g5, 0, none⟩) rs.length rs.length, .int .i64 0]) ∧ Has w' q' (pick es l) ∧ Rows w' w.heap.size g5 rs.length rv (fun v => turnL (rnL (plN l es.length l.length) (lat rs v))) ∧ Below w.heap.size w w' := by
  obtain ⟨W, hW, hb0, a0, b0⟩ := two_nets w n p es.length cp
  obtain ⟨n0, n1, hes, _⟩ := netB_is (rot_is h0).1
  have HBND : Hid (∀ j, j < l.length → 0 ≤ iat l j ∧ iat l j < es.length) := chosen_in hs
  have M := hide (sub50 n p t es l cp ct W hl hs HBND.out (h.later hb0) (hk.later hb0))
  obtain ⟨hrl, hrb⟩ := rot_bounds h0
  have HRB := hide hrb
  have HIN : Hid (∀ v, v < rs.length → ∀ j, j < (lat rs v).length → 0 ≤ iat (lat rs v) j ∧ iat (lat rs v) j < 2 * es.length) := fun v hv j hj => by have := (holds_iff.1 (rot_is h0).2.2).1 v hv _ (iat_mem hj); exact ⟨this.1, this.2.1⟩
  have HPL : Hid (∀ j, j < es.length → -1 ≤ iat (plN l es.length l.length) j ∧ iat (plN l es.length l.length) j < l.length) := fun j hj => pl_in hs hj
  have HK := hide (hk.later hb0)
  have HR := hide (hr.later hb0)
  have HB := hide hb0
  have HN := hide b0
  have HA := hide a0
  have HWS : Hid (W.heap.size = w.heap.size + 2) := by show _ = _; rw [hW]; simp
  obtain ⟨i0, hi0, hz0, hz1, hz2⟩ := info_parts info3
  obtain ⟨i1, hi1, hy0, hy1, hy2⟩ := info_parts info41
  obtain ⟨q0, q1, _, _⟩ := a0
  clear h hr hk hb0 b0 h0 hrb hs
  go_enter Try.func50, Try.ntmps50
  go_wp2_with fail
  rw [← hW]
  clear hW
  go_wp2_with fail
  refine M.out.mono ?_
  rintro r w1 ⟨qe, ce, rfl, ho, hb1⟩
  clear M q0 q1
  go_upto_region 2 with fail
  obtain ⟨kc, hkc⟩ : ∃ k, w1.heap.size = k := ⟨_, rfl⟩
  obtain ⟨U, hU⟩ : ∃ U, U = w1.alloc (nbx n qe l.length ce) := ⟨_, rfl⟩
  have hbU : Below w1.heap.size w1 U := by rw [hU]; go_grown
  have HKC : Hid (NOwn U kc n qe l.length ce) := by show NOwn _ _ _ _ _ _; rw [hU, ← hkc]; exact ⟨by go_cell, by go_cell, by simp [go_sem], by simp [go_sem]⟩
  rw [← hU]
  try rw [hkc]
  have hwu : Below W.heap.size W U := below_step hb1 hbU
  have HBU := hide (below_step HB.out hwu)
  have HNU := hide (HN.out.later hwu)
  have HAU := hide (HA.out.later hwu)
  have HKU := hide (HK.out.later hwu)
  have HRU := hide (HR.out.later hwu)
  have HPU : Hid (Has U qe (pick es l)) := by
    have hf := ho.form
    obtain ⟨p', c', e', hh, _⟩ := hf
    injection e' with e1 _ _
    subst e1
    exact hh.later hbU
  have HKN : Hid (kc ≠ w.heap.size + 1 ∧ w.heap.size + 1 < U.heap.size) := ⟨by have h1 := hb1.size; have h2 := HWS.out; omega, by have h1 := hwu.size; have h2 := HWS.out; omega⟩
  have HQE : Hid (∀ a, qe = some a → w.heap.size + 2 ≤ a.block) := fun a ha => by
    subst ha
    have h1 := (World.ownsRow.lt ho a.block rfl).1
    have h2 := HWS.out
    omega
  clear hU hbU hkc ho hb1 hwu HK HR HN HA HB
  obtain ⟨q0, q1, _, _⟩ := HAU.out
  obtain ⟨m, hm⟩ : ∃ m, es.length = m := ⟨_, rfl⟩
  rw [hm] at HBND HIN HPL hes q1
  have HMM := hide hm
  go_wp2_with (refine wpList_make_full _ rfl (.tmp 29) (.tmp 29) 27 rfl U.heap.size 3 i0 (.int .i64 0) 1 Try.underlying27 hi0 hz0 hz1 .i64 .i64 _ _ m rfl rfl rfl rfl ?c1 ?c2 ?c3 ?_)
  case c1 => rw [hz2]; omega
  case c2 => unfold maxLen; omega
  case c3 => exact Nat.le_refl _
  intro w2 hown hgrow
  have hgp := irow_made hown
  obtain ⟨ga, hga⟩ : ∃ g, U.heap.size = g := ⟨_, rfl⟩
  have HG0 : Hid (IRow w2 U.heap.size ga m (atN l m 0)) := by
    show IRow _ _ _ _ _
    rw [atN_zero]
    rw [hga] at hgp ⊢
    exact hgp
  have HB2 := hide (below_made hgrow)
  try rw [hga]
  clear hown hgrow hgp hga hi0 hz0 hz1 hz2 i0 q0 q1
  go_wp2_with fail
  go_loopw [12] (fun t12 wr => ∃ i : Nat, i ≤ l.length ∧ t12 = .int .i64 i ∧ Hid (Below U.heap.size U wr) ∧ Hid (IRow wr U.heap.size ga m (atN l m i))) (fun t12 _ => l.length - (intOf t12).toNat)
  case atStart => exact ⟨0, by omega, rfl, HB2.out, HG0.out⟩
  case round =>
    obtain ⟨i, hi, rfl, HBr, HGr⟩ := hrel
    clear HB2 HG0
    by_cases hil : i < l.length
    · rcases HKU.out.later HBr.out with hn | ⟨b2, o2, rfl, l2⟩
      · rw [hn] at hil; simp at hil
      have c0 := l2 i hil
      obtain ⟨x0, x1⟩ := HBND.out i hil
      obtain ⟨x, hx⟩ : ∃ x : Nat, iat l i = x := ⟨(iat l i).toNat, by omega⟩
      rw [hx] at c0 x1
      obtain ⟨d0, f0⟩ := HGr.out.cell (j := x) (by omega)
      have hst := atN_step l m i
      rw [hx, Int.toNat_natCast] at hst
      have HSET : Hid (IRow (wr.setCell ⟨ga, x, none⟩ (.int .i64 ((i : Int) + 1))) U.heap.size ga m (atN l m (i + 1))) := by show IRow _ _ _ _ _; rw [← hst]; exact HGr.out.set x ((i : Int) + 1)
      have HBS : Hid (Below U.heap.size U (wr.setCell ⟨ga, x, none⟩ (.int .i64 ((i : Int) + 1)))) := HBr.out.setCell (p := ⟨ga, x, none⟩) HGr.out.lt.1 _
      have j1 : (i : Int) < l.length := by omega
      have j2 : (x : Int) < m := by omega
      clear l2 hx hst HGr
      go_wp2
      go_roundw
      case rel => exact ⟨i + 1, by omega, by go_num, HBS.out, HSET.out⟩
      case measure => simp [intOf]; omega
    · have hie : i = l.length := by omega
      have j1 : ¬ (i : Int) < l.length := by omega
      rw [hie] at HGr
      clear hie
      obtain ⟨wb, hwb⟩ : ∃ z, z = wr := ⟨_, rfl⟩
      subst hwb
      have HAT0 := hide HGr.out
      have HBB := hide HBr.out
      go_wp2_with (refine wpList_make_full _ rfl (.tmp 46) (.tmp 46) 26 rfl wb.heap.size 27 i1 (.slice none 0 0) 1 Try.underlying26 hi1 hy0 hy1 .i64 .i64 _ _ rs.length rfl rfl rfl rfl ?c1 ?c2 ?c3 ?_)
      all_goals first | (intro w3 hown hgrow) | omega | (unfold maxLen; omega) | exact Nat.le_refl _ | (rw [hy2]; omega)
      have HB3 := hide (below_made hgrow)
      obtain ⟨T, hT⟩ : ∃ T, plN l m l.length = T := ⟨_, rfl⟩
      rw [hT] at HPL
      have HTY : Hid (∀ j, j < m → iat (atN l m l.length) j = iat T j + 1) := fun j hj => by rw [← hT]; exact atN_at l hj
      have HTT := hide hT
      have hr2 : Rows w3 wb.heap.size wb.heap.size rs.length (fun _ => .slice none 0 0) (rnA T rs 0 0) := (rows_made [] hown).congr (fun v _ => by simp [outL, rnA, rnRow])
      obtain ⟨g, hg⟩ : ∃ g, wb.heap.size = g := ⟨_, rfl⟩
      have HR2 : Hid (Rows w3 wb.heap.size g rs.length (fun _ => .slice none 0 0) (rnA T rs 0 0)) := by show Rows _ _ _ _ _ _; rw [← hg]; exact hr2
      have HSZ : Hid (wb.heap.size = wb.heap.size ∧ wb.heap.size = g ∧ True) := ⟨rfl, hg, trivial⟩
      try rw [hg]
      have HRW := hide (HRU.out.later HBB.out)
      clear hown hgrow hi1 hy0 hy1 hy2 i1 hr2 hg hT HGr HBr hil hi j1
      go_wp2_with fail
      go_loopw [14] (fun t14 wr => ∃ (v : Nat) (rv : Nat → Value), v ≤ rs.length ∧ t14 = .int .i64 v ∧ Hid (Below wb.heap.size wb wr) ∧ Hid (Rows wr wb.heap.size g rs.length rv (rnA T rs v 0))) (fun t14 _ => rs.length - (intOf t14).toNat)
      case atStart => exact ⟨0, _, by omega, rfl, HB3.out, HR2.out⟩
      case round =>
        obtain ⟨v, rv0, hv, rfl, HBr, HRr⟩ := hrel
        clear HB3 HR2
        by_cases hlt : v < rs.length
        · obtain ⟨b1, o1, a1, k1, rfl, c0W, m1, _, _, _⟩ := HRW.out.at_ hlt
          have e1 : (v : Int) < rs.length := by omega
          have hlb := HRB.out v hlt
          obtain ⟨la, hla⟩ : ∃ l, (lat rs v).length = l := ⟨_, rfl⟩
          rw [hla] at c0W hlb
          have HLA := hide hla
          have HC0 : Hid (∀ V, Below wb.heap.size wb V → V.cell? ⟨b1, o1 + v, none⟩ = some (.slice a1 la k1)) := fun V hV => later hV c0W
          have HM1 : Hid (∀ V, Below wb.heap.size wb V → IHas V a1 (lat rs v)) := fun V hV => m1.later hV
          have HAT : Hid (∀ j, rnA T rs v j v = rnRow T (lat rs v) j) := rnA_at T rs v
          have HNX : Hid (∀ u, rnA T rs v la u = rnA T rs (v + 1) 0 u) := fun u => by rw [← HLA.out]; exact rnA_next T rs v u
          have HOT : Hid (∀ j j' u, u ≠ v → rnA T rs v j u = rnA T rs v j' u) := fun j j' u hu => by unfold rnA; rw [if_neg hu, if_neg hu]
          clear m1 c0W hla
          go_wp2_with fail
          go_loopw [15] (fun t15 wj => ∃ (j : Nat) (rv : Nat → Value), j ≤ la ∧ t15 = .int .i64 j ∧ Hid (Below wb.heap.size wb wj) ∧ Hid (Rows wj wb.heap.size g rs.length rv (rnA T rs v j))) (fun t15 _ => la - (intOf t15).toNat)
          case atStart => exact ⟨0, _, by omega, rfl, HBr.out, HRr.out⟩
          case round =>
            obtain ⟨j, rv, hj, rfl, HBj, HRj⟩ := hrel
            clear HBr HRr
            have c0 := HC0.out _ HBj.out
            by_cases hjl : j < la
            · rcases HM1.out _ HBj.out with hn2 | ⟨b2, o2, rfl, l2⟩
              · have := HLA.out; rw [hn2] at this; simp at this; omega
              have hjl' : j < (lat rs v).length := by rw [HLA.out]; exact hjl
              have c1 := l2 j hjl'
              obtain ⟨x0, x1⟩ := HIN.out v hlt j hjl'
              obtain ⟨k, hk⟩ : ∃ k : Nat, iat (lat rs v) j = k := ⟨(iat (lat rs v) j).toNat, by omega⟩
              rw [hk] at c1 x1
              have HST : Hid (rnRow T (lat rs v) (j + 1) = if 0 ≤ iat T (k / 2) then rnRow T (lat rs v) j ++ [2 * iat T (k / 2) + (k % 2 : Nat)] else rnRow T (lat rs v) j) := by
                show _ = _
                have : rnRow T (lat rs v) (j + 1) = if 0 ≤ iat T ((iat (lat rs v) j).toNat / 2) then rnRow T (lat rs v) j ++ [2 * iat T ((iat (lat rs v) j).toNat / 2) + ((iat (lat rs v) j).toNat % 2 : Nat)] else rnRow T (lat rs v) j := rfl
                rw [this, hk, Int.toNat_natCast]
              have hkm : k / 2 < m := by omega
              obtain ⟨p0, p1⟩ := HPL.out (k / 2) hkm
              obtain ⟨y, hy⟩ : ∃ y, iat T (k / 2) + 1 = y := ⟨_, rfl⟩
              have HYV : Hid (∀ V, Below wb.heap.size wb V → V.cell? ⟨ga, k / 2, none⟩ = some (.int .i64 y)) := fun V hV => by
                have := ((HAT0.out.later hV).cell hkm).1
                rw [HTY.out _ hkm, hy] at this
                exact this
              have hty : iat T (k / 2) = y - 1 := by omega
              rw [hty] at HST p0 p1
              have hd : Int.tdiv (k : Int) 2 = ((k / 2 : Nat) : Int) := by rw [Int.tdiv_eq_ediv_of_nonneg (by omega)]; exact (Int.natCast_ediv k 2).symm
              have hrm : Int.tmod (k : Int) 2 = ((k % 2 : Nat) : Int) := by rw [Int.tmod_eq_emod_of_nonneg (by omega)]; exact (Int.natCast_emod k 2).symm
              have hr2 : k % 2 < 2 := Nat.mod_lt _ (by omega)
              obtain ⟨s, hs⟩ : ∃ s, k % 2 = s := ⟨_, rfl⟩
              obtain ⟨e, he⟩ : ∃ e, k / 2 = e := ⟨_, rfl⟩
              rw [hs] at hrm hr2 HST
              rw [he] at hd HYV hkm
              have c2 := HYV.out _ HBj.out
              have j1 : (j : Int) < la := by omega
              have j2 : (e : Int) < m := by omega
              have hyb : 0 ≤ y ∧ y ≤ 90000 := by omega
              have hyb1 := hyb.1
              have hyb2 := hyb.2
              clear l2 hk hy hs x0 hty hyb he
              by_cases hyn : y > 0
              · rw [if_pos (by omega)] at HST
                have wE : IntKind.i64.wrap (e : Int) = e := by rw [IntKind.wrap_i64]; omega
                have wS : IntKind.i64.wrap (s : Int) = s := by rw [IntKind.wrap_i64]; omega
                have wE0 : (0 : Int) ≤ e := by omega
                have w1' : IntKind.i64.wrap (y - 1) = y - 1 := by rw [IntKind.wrap_i64]; omega
                have w2' : IntKind.i64.wrap (2 * (y - 1)) = 2 * (y - 1) := by rw [IntKind.wrap_i64]; omega
                have w3' : IntKind.i64.wrap (2 * (y - 1) + (s : Int)) = 2 * (y - 1) + s := by rw [IntKind.wrap_i64]; omega
                have HPUT : Hid (∀ (V : World) (rv' : Nat → Value), Rows V wb.heap.size g rs.length rv' (upd (rnA T rs v j) v (rnA T rs v j v ++ [2 * (y - 1) + (s : Int)])) → Rows V wb.heap.size g rs.length rv' (rnA T rs v (j + 1))) := fun V rv' h => h.congr fun u _ => by
                  by_cases hu : u = v
                  · rw [hu, upd_same, HAT.out, HAT.out, HST.out]
                  · rw [upd_other _ _ hu]; exact HOT.out _ _ u hu
                have HS : Hid (∀ V, Below wb.heap.size wb V → V.cell? ⟨ga, e, none⟩ = some (.int .i64 y)) := HYV.out
                have hk0 : ga ≠ g := by
                  have h1 : ga < wb.heap.size := block_lt_of_cell (HS.out wb (Below.refl _ _))
                  have h3 := HSZ.out.2.1
                  omega
                go_upto_region 18 with fail
                clear c0 c1 c2
                obtain ⟨V0, hV0⟩ : ∃ V, V = wr.drew := ⟨_, rfl⟩
                have HB0 : Hid (Below wb.heap.size wb V0) := by show Below _ _ _; rw [hV0]; exact below_step HBj.out (below_drew _)
                have HR0 : Hid (Rows V0 wb.heap.size g rs.length rv (rnA T rs v j)) := by show Rows _ _ _ _ _ _; rw [hV0]; exact HRj.out.later (below_drew _)
                have s0 := HS.out _ HB0.out
                refine wp_region_held_drew (S := (fun V => V.cell? ⟨ga, e, none⟩ = some (.int .i64 y))) (by kernel_rfl) (by rw [← hV0]; exact s0) (fun hHeld => ?_)
                rw [← hV0] at hHeld ⊢
                clear hV0 HBj HRj
                refine wpAnyH_take (i := 0) (v := ?v1) rfl (by kernel_rfl) (by kernel_rfl) (by kernel_rfl) (fun _ _ _ h => h) (Or.inl ⟨by rfl, ?hy1⟩) (by assumption) ?rest1
                case hy1 => (intro w hSw; (try dsimp only at hSw); go_simp; try with_reducible rfl)
                try simp only [Act.put, List.getElem_toArray, List.getElem_cons_zero, List.setIfInBounds_toArray, List.set_cons_zero, List.set_cons_succ]
                refine wpAnyH_take (i := 1) (v := ?v2) rfl (by kernel_rfl) (by kernel_rfl) (by kernel_rfl) (fun _ _ _ h => h) (Or.inl ⟨by rfl, ?hy2⟩) (by assumption) ?rest2
                case hy2 => (intro w hSw; (try dsimp only at hSw); go_simp; try with_reducible rfl)
                try simp only [Act.put, List.getElem_toArray, List.getElem_cons_zero, List.getElem_cons_succ, List.setIfInBounds_toArray, List.set_cons_zero, List.set_cons_succ]
                refine wpAnyH_take (i := 2) (v := ?v3) rfl (by kernel_rfl) (by kernel_rfl) (by kernel_rfl) (fun _ _ _ h => h) (Or.inl ⟨by rfl, ?hy3⟩) (by assumption) ?rest3
                case hy3 => (intro w hSw; (try dsimp only at hSw); go_simp; try with_reducible rfl)
                try simp only [Act.put, List.getElem_toArray, List.getElem_cons_zero, List.getElem_cons_succ, List.setIfInBounds_toArray, List.set_cons_zero, List.set_cons_succ]
                refine wpAnyH_take (i := 3) (v := ?v4) rfl (by kernel_rfl) (by kernel_rfl) (by kernel_rfl) (fun _ _ _ h => h) (Or.inl ⟨by rfl, ?hy4⟩) (by assumption) ?rest4
                case hy4 => (intro w hSw; (try dsimp only at hSw); go_simp; try with_reducible rfl)
                try simp only [Act.put, List.getElem_toArray, List.getElem_cons_zero, List.getElem_cons_succ, List.setIfInBounds_toArray, List.set_cons_zero, List.set_cons_succ]
                refine wpAnyH_take (i := 4) (v := ?v5) rfl (by kernel_rfl) (by kernel_rfl) (by kernel_rfl) (fun _ _ _ h => h) (Or.inl ⟨by rfl, ?hy5⟩) (by assumption) ?rest5
                case hy5 => (intro w hSw; (try dsimp only at hSw); go_simp; try with_reducible rfl)
                try simp only [Act.put, List.getElem_toArray, List.getElem_cons_zero, List.getElem_cons_succ, List.setIfInBounds_toArray, List.set_cons_zero, List.set_cons_succ]
                refine wpAnyH_take (i := 6) (v := ?v6) rfl (by kernel_rfl) (by kernel_rfl) (by kernel_rfl) (fun _ _ _ h => h) (Or.inl ⟨by rfl, ?hy6⟩) (by assumption) ?rest6
                case hy6 => (intro w hSw; (try dsimp only at hSw); go_simp; try with_reducible rfl)
                try simp only [Act.put, List.getElem_toArray, List.getElem_cons_zero, List.getElem_cons_succ, List.setIfInBounds_toArray, List.set_cons_zero, List.set_cons_succ]
                refine wpAnyH_take (i := 7) (v := ?v7) rfl (by kernel_rfl) (by kernel_rfl) (by kernel_rfl) (fun _ _ _ h => h) (Or.inl ⟨by rfl, ?hy7⟩) (by assumption) ?rest7
                case hy7 => (intro w hSw; (try dsimp only at hSw); go_simp; try with_reducible rfl)
                try simp only [Act.put, List.getElem_toArray, List.getElem_cons_zero, List.getElem_cons_succ, List.setIfInBounds_toArray, List.set_cons_zero, List.set_cons_succ]
                refine wpAnyH_take (i := 8) (v := ?v8) rfl (by kernel_rfl) (by kernel_rfl) (by kernel_rfl) (fun _ _ _ h => h) (Or.inl ⟨by rfl, ?hy8⟩) (by assumption) ?rest8
                case hy8 => (intro w hSw; (try dsimp only at hSw); go_simp; try with_reducible rfl)
                try simp only [Act.put, List.getElem_toArray, List.getElem_cons_zero, List.getElem_cons_succ, List.setIfInBounds_toArray, List.set_cons_zero, List.set_cons_succ]
                refine wpAnyH_take (i := 9) (v := ?v9) rfl (by kernel_rfl) (by kernel_rfl) (by kernel_rfl) (fun _ _ _ h => h) (Or.inl ⟨by rfl, ?hy9⟩) (by assumption) ?rest9
                case hy9 => (intro w hSw; (try dsimp only at hSw); go_simp; try with_reducible rfl)
                try simp only [Act.put, List.getElem_toArray, List.getElem_cons_zero, List.getElem_cons_succ, List.setIfInBounds_toArray, List.set_cons_zero, List.set_cons_succ]
                refine wpAnyH_take (i := 10) (v := ?v10) rfl (by kernel_rfl) (by kernel_rfl) (by kernel_rfl) (fun _ _ _ h => h) (Or.inl ⟨by rfl, ?hy10⟩) (by assumption) ?rest10
                case hy10 => (intro w hSw; (try dsimp only at hSw); go_simp; try with_reducible rfl)
                try simp only [Act.put, List.getElem_toArray, List.getElem_cons_zero, List.getElem_cons_succ, List.setIfInBounds_toArray, List.set_cons_zero, List.set_cons_succ]
                refine wpAnyH_take (i := 11) (v := ?v11) rfl (by kernel_rfl) (by kernel_rfl) (by kernel_rfl) (fun _ _ _ h => h) (Or.inl ⟨by rfl, ?hy11⟩) (by assumption) ?rest11
                case hy11 => (intro w hSw; (try dsimp only at hSw); go_simp; try with_reducible rfl)
                try simp only [Act.put, List.getElem_toArray, List.getElem_cons_zero, List.getElem_cons_succ, List.setIfInBounds_toArray, List.set_cons_zero, List.set_cons_succ]
                refine wpAnyH_take (i := 12) (v := ?v12) rfl (by kernel_rfl) (by kernel_rfl) (by kernel_rfl) (fun _ _ _ h => h) (Or.inl ⟨by rfl, ?hy12⟩) (by assumption) ?rest12
                case hy12 => (intro w hSw; (try dsimp only at hSw); go_simp; try with_reducible rfl)
                try simp only [Act.put, List.getElem_toArray, List.getElem_cons_zero, List.getElem_cons_succ, List.setIfInBounds_toArray, List.set_cons_zero, List.set_cons_succ]
                refine wpAnyH_take (i := 13) (v := ?v13) rfl (by kernel_rfl) (by kernel_rfl) (by kernel_rfl) (fun _ _ _ h => h) (Or.inl ⟨by rfl, ?hy13⟩) (by assumption) ?rest13
                case hy13 => (intro w hSw; (try dsimp only at hSw); go_simp; try with_reducible rfl)
                try simp only [Act.put, List.getElem_toArray, List.getElem_cons_zero, List.getElem_cons_succ, List.setIfInBounds_toArray, List.set_cons_zero, List.set_cons_succ]
                refine wpAnyH_take (i := 14) (v := ?v14) rfl (by kernel_rfl) (by kernel_rfl) (by kernel_rfl) (fun _ _ _ h => h) (Or.inl ⟨by rfl, ?hy14⟩) (by assumption) ?rest14
                case hy14 => (intro w hSw; (try dsimp only at hSw); go_simp; try with_reducible rfl)
                try simp only [Act.put, List.getElem_toArray, List.getElem_cons_zero, List.getElem_cons_succ, List.setIfInBounds_toArray, List.set_cons_zero, List.set_cons_succ]
                refine wpAnyH_take (i := 15) (v := ?v15) rfl (by kernel_rfl) (by kernel_rfl) (by kernel_rfl) (fun _ _ _ h => h) (Or.inl ⟨by rfl, ?hy15⟩) (by assumption) ?rest15
                case hy15 => (intro w hSw; (try dsimp only at hSw); go_simp; try with_reducible rfl)
                try simp only [Act.put, List.getElem_toArray, List.getElem_cons_zero, List.getElem_cons_succ, List.setIfInBounds_toArray, List.set_cons_zero, List.set_cons_succ]
                refine wpAnyH_ready (rs := [5, 16]) (by kernel_rfl) (by simp) ?_
                refine ready_cons ({ dst := some 81, op := Op.load 27 (Operand.tmp 80), type := 27, pos := "ref.go:150", after := #[{ on := 4, ground := Ground.data }], guard := none }) rfl rfl (fun K hK => ?_) ?_
                · clear hHeld
                  obtain ⟨d0, _⟩ := HR0.out.cell (v := v) hlt
                  refine wp_val (v := ?vl100) (w2 := V0) ?hl100 ?_
                  case hl100 => (go_simp; try with_reducible rfl)
                  clear d0
                  refine hK.out _ _ (by first | with_reducible exact s0 | (dsimp only; with_reducible exact s0) | exact cell_other s0 hk0) (fun hHeld => ?_)
                  clear hK K
                  try simp only [Act.put, List.setIfInBounds_toArray, List.set_cons_zero, List.set_cons_succ]
                  refine wpAnyH_ready (rs := [16]) (by kernel_rfl) (by simp) ?_
                  refine ready_cons ({ dst := some 92, op := Op.buildSlice 27 1 #[(0, Operand.tmp 91)], type := 27, pos := "ref.go:150", after := #[{ on := 15, ground := Ground.data }], guard := none }) rfl rfl (fun K hK => ?_) ?_
                  · clear hHeld
                    go_simp
                    obtain ⟨V1, hV⟩ : ∃ V, V = V0.alloc (.cells #[.int .i64 (2 * (y - 1) + s)] 3) := ⟨_, rfl⟩
                    obtain ⟨kl, hkl⟩ : ∃ k, V0.heap.size = k := ⟨_, rfl⟩
                    have hb2 : Below V0.heap.size V0 V1 := by rw [hV]; go_grown
                    have HL1 : Hid (V1.cell? ⟨kl, 0, none⟩ = some (.int .i64 (2 * (y - 1) + s))) := by show _ = _; rw [hV, ← hkl]; exact one_int _ _
                    rw [← hV, hkl]
                    have HB1 := hide (below_step HB0.out hb2)
                    have HR1 := hide (HR0.out.later hb2)
                    clear hV hb2 hkl
                    clear s0
                    have s0 := HS.out _ HB1.out
                    refine hK.out _ _ (by first | with_reducible exact s0 | (dsimp only; with_reducible exact s0) | exact cell_other s0 hk0) (fun hHeld => ?_)
                    clear hK K
                    try simp only [Act.put, List.getElem_toArray, List.getElem_cons_zero, List.getElem_cons_succ, List.setIfInBounds_toArray, List.set_cons_zero, List.set_cons_succ]
                    refine wpAnyH_ready (rs := [17]) (by kernel_rfl) (by simp) ?_
                    refine ready_cons ({ dst := some 93, op := Op.call { callee := Callee.builtin Builtin.append, args := #[Operand.tmp 81, Operand.tmp 92], argTypes := #[27, 27] }, type := 27, pos := "ref.go:150", after := #[{ on := 5, ground := Ground.data }, { on := 16, ground := Ground.data }], guard := none }) rfl rfl (fun K hK => ?_) ?_
                    · clear hHeld
                      have hrx := HR1.out.2.2 v hlt
                      obtain ⟨v1, V2, e4, o4, gr4, at4⟩ := append_int hrx HL1.out (by have := HB1.out.size; have := HSZ.out.1; have := HSZ.out.2.1; omega) (by rw [HAT.out]; have := rnRow_le T (lat rs v) j; have := HLA.out; omega)
                      obtain ⟨p1, l1, c1, rfl⟩ : ∃ p1 l1 c1, v1 = .slice p1 l1 c1 := by obtain ⟨p1, c1, h1, _⟩ := o4.form; exact ⟨_, _, _, h1⟩
                      have HB2 : Hid (Below wb.heap.size wb V2) := below_grown HB1.out hrx (by have := HSZ.out.1; have := HSZ.out.2.1; omega) HB1.out.size gr4
                      have HR2 := hide (HR1.out.put hlt o4 gr4 at4)
                      clear s0
                      have s0 := HS.out _ HB2.out
                      have HE2 : Hid (g < V2.heap.size ∧ V2.cell? ⟨g, v, none⟩ = some (rv v) ∧ V2.frozen? ⟨g, v, none⟩ = false) := hide (Rows.slot HR1.out hlt gr4)
                      refine oper_append (.tmp 81) (.tmp 92) 27 rfl 27 rfl (rv v) (.slice (some ⟨kl, 0, none⟩) 1 1) (.slice p1 l1 c1) V2 (by rfl) (by rfl) ?_ ?_
                      with_reducible exact e4
                      clear hrx o4 gr4 at4 e4
                      refine hK.out _ _ (by first | with_reducible exact s0 | (dsimp only; with_reducible exact s0) | exact cell_other s0 hk0) (fun hHeld => ?_)
                      clear hK K
                      try simp only [Act.put, List.setIfInBounds_toArray, List.set_cons_zero, List.set_cons_succ]
                      refine wpAnyH_take (i := 18) (v := ?v16) rfl (by kernel_rfl) (by kernel_rfl) (by kernel_rfl) (fun _ _ _ h => h) (Or.inl ⟨by rfl, ?hy16⟩) (by assumption) ?rest16
                      case hy16 => (intro w hSw; (try dsimp only at hSw); go_simp; try with_reducible rfl)
                      try simp only [Act.put, List.getElem_toArray, List.getElem_cons_zero, List.getElem_cons_succ, List.setIfInBounds_toArray, List.set_cons_zero, List.set_cons_succ]
                      refine wpAnyH_ready (rs := [19]) (by kernel_rfl) (by simp) ?_
                      refine ready_cons ({ dst := none, op := Op.store 27 (Operand.tmp 94) (Operand.tmp 93), type := 0, pos := "ref.go:150", after := #[{ on := 18, ground := Ground.data }, { on := 17, ground := Ground.data }, { on := 17, ground := Ground.chain }, { on := 0, ground := Ground.phase }, { on := 1, ground := Ground.phase }, { on := 2, ground := Ground.phase }, { on := 3, ground := Ground.phase }, { on := 4, ground := Ground.phase }, { on := 5, ground := Ground.phase }, { on := 6, ground := Ground.phase }, { on := 7, ground := Ground.phase }, { on := 8, ground := Ground.phase }, { on := 9, ground := Ground.phase }, { on := 10, ground := Ground.phase }, { on := 11, ground := Ground.phase }, { on := 12, ground := Ground.phase }, { on := 13, ground := Ground.phase }, { on := 14, ground := Ground.phase }, { on := 15, ground := Ground.phase }, { on := 16, ground := Ground.phase }, { on := 17, ground := Ground.phase }], guard := none }) rfl rfl (fun K hK => ?_) ?_
                      · clear hHeld
                        obtain ⟨hgl, d0, e0⟩ := HE2.out
                        go_simp
                        clear d0 e0
                        refine hK.out _ _ (by first | with_reducible exact s0 | (dsimp only; with_reducible exact s0) | exact cell_other s0 hk0) (fun hHeld => ?_)
                        clear hK K
                        try simp only [Act.put, List.getElem_toArray, List.getElem_cons_zero, List.getElem_cons_succ, List.setIfInBounds_toArray, List.set_cons_zero, List.set_cons_succ]
                        refine wpAnyH_done (by kernel_rfl) ?_ _
                        clear hHeld
                        obtain ⟨V5, hV5⟩ : ∃ V, V = V2.setCell ⟨g, v, none⟩ (.slice p1 l1 c1) := ⟨_, rfl⟩
                        have HB5 : Hid (Below wb.heap.size wb V5) := by show Below _ _ _; rw [hV5]; exact HB2.out.setCell (p := ⟨g, v, none⟩) (show wb.heap.size ≤ g by have := HSZ.out.2.1; omega) _
                        rw [← hV5] at HR2
                        rw [← hV5]
                        have HR6 := hide (HPUT.out _ _ HR2.out)
                        clear hV5 HE2 HB0 HR0 HB1 HR1 HB2 HR2 s0
                        go_wp2
                        go_roundw
                        case rel => exact ⟨j + 1, _, by omega, by go_num, HB5.out, HR6.out⟩
                        case measure => simp [intOf]; omega
                      exact AllReadyH.nil
                    exact AllReadyH.nil
                  exact AllReadyH.nil
                refine ready_cons ({ dst := some 92, op := Op.buildSlice 27 1 #[(0, Operand.tmp 91)], type := 27, pos := "ref.go:150", after := #[{ on := 15, ground := Ground.data }], guard := none }) rfl rfl (fun K hK => ?_) ?_
                · clear hHeld
                  go_simp
                  obtain ⟨V1, hV⟩ : ∃ V, V = V0.alloc (.cells #[.int .i64 (2 * (y - 1) + s)] 3) := ⟨_, rfl⟩
                  obtain ⟨kl, hkl⟩ : ∃ k, V0.heap.size = k := ⟨_, rfl⟩
                  have hb2 : Below V0.heap.size V0 V1 := by rw [hV]; go_grown
                  have HL1 : Hid (V1.cell? ⟨kl, 0, none⟩ = some (.int .i64 (2 * (y - 1) + s))) := by show _ = _; rw [hV, ← hkl]; exact one_int _ _
                  rw [← hV, hkl]
                  have HB1 := hide (below_step HB0.out hb2)
                  have HR1 := hide (HR0.out.later hb2)
                  clear hV hb2 hkl
                  clear s0
                  have s0 := HS.out _ HB1.out
                  refine hK.out _ _ (by first | with_reducible exact s0 | (dsimp only; with_reducible exact s0) | exact cell_other s0 hk0) (fun hHeld => ?_)
                  clear hK K
                  try simp only [Act.put, List.getElem_toArray, List.getElem_cons_zero, List.getElem_cons_succ, List.setIfInBounds_toArray, List.set_cons_zero, List.set_cons_succ]
                  refine wpAnyH_ready (rs := [5]) (by kernel_rfl) (by simp) ?_
                  refine ready_cons ({ dst := some 81, op := Op.load 27 (Operand.tmp 80), type := 27, pos := "ref.go:150", after := #[{ on := 4, ground := Ground.data }], guard := none }) rfl rfl (fun K hK => ?_) ?_
                  · clear hHeld
                    obtain ⟨d0, _⟩ := HR1.out.cell (v := v) hlt
                    refine wp_val (v := ?vl101) (w2 := V1) ?hl101 ?_
                    case hl101 => (go_simp; try with_reducible rfl)
                    clear d0
                    refine hK.out _ _ (by first | with_reducible exact s0 | (dsimp only; with_reducible exact s0) | exact cell_other s0 hk0) (fun hHeld => ?_)
                    clear hK K
                    try simp only [Act.put, List.setIfInBounds_toArray, List.set_cons_zero, List.set_cons_succ]
                    refine wpAnyH_ready (rs := [17]) (by kernel_rfl) (by simp) ?_
                    refine ready_cons ({ dst := some 93, op := Op.call { callee := Callee.builtin Builtin.append, args := #[Operand.tmp 81, Operand.tmp 92], argTypes := #[27, 27] }, type := 27, pos := "ref.go:150", after := #[{ on := 5, ground := Ground.data }, { on := 16, ground := Ground.data }], guard := none }) rfl rfl (fun K hK => ?_) ?_
                    · clear hHeld
                      have hrx := HR1.out.2.2 v hlt
                      obtain ⟨v1, V2, e4, o4, gr4, at4⟩ := append_int hrx HL1.out (by have := HB1.out.size; have := HSZ.out.1; have := HSZ.out.2.1; omega) (by rw [HAT.out]; have := rnRow_le T (lat rs v) j; have := HLA.out; omega)
                      obtain ⟨p1, l1, c1, rfl⟩ : ∃ p1 l1 c1, v1 = .slice p1 l1 c1 := by obtain ⟨p1, c1, h1, _⟩ := o4.form; exact ⟨_, _, _, h1⟩
                      have HB2 : Hid (Below wb.heap.size wb V2) := below_grown HB1.out hrx (by have := HSZ.out.1; have := HSZ.out.2.1; omega) HB1.out.size gr4
                      have HR2 := hide (HR1.out.put hlt o4 gr4 at4)
                      clear s0
                      have s0 := HS.out _ HB2.out
                      have HE2 : Hid (g < V2.heap.size ∧ V2.cell? ⟨g, v, none⟩ = some (rv v) ∧ V2.frozen? ⟨g, v, none⟩ = false) := hide (Rows.slot HR1.out hlt gr4)
                      refine oper_append (.tmp 81) (.tmp 92) 27 rfl 27 rfl (rv v) (.slice (some ⟨kl, 0, none⟩) 1 1) (.slice p1 l1 c1) V2 (by rfl) (by rfl) ?_ ?_
                      with_reducible exact e4
                      clear hrx o4 gr4 at4 e4
                      refine hK.out _ _ (by first | with_reducible exact s0 | (dsimp only; with_reducible exact s0) | exact cell_other s0 hk0) (fun hHeld => ?_)
                      clear hK K
                      try simp only [Act.put, List.setIfInBounds_toArray, List.set_cons_zero, List.set_cons_succ]
                      refine wpAnyH_take (i := 18) (v := ?v17) rfl (by kernel_rfl) (by kernel_rfl) (by kernel_rfl) (fun _ _ _ h => h) (Or.inl ⟨by rfl, ?hy17⟩) (by assumption) ?rest17
                      case hy17 => (intro w hSw; (try dsimp only at hSw); go_simp; try with_reducible rfl)
                      try simp only [Act.put, List.getElem_toArray, List.getElem_cons_zero, List.getElem_cons_succ, List.setIfInBounds_toArray, List.set_cons_zero, List.set_cons_succ]
                      refine wpAnyH_ready (rs := [19]) (by kernel_rfl) (by simp) ?_
                      refine ready_cons ({ dst := none, op := Op.store 27 (Operand.tmp 94) (Operand.tmp 93), type := 0, pos := "ref.go:150", after := #[{ on := 18, ground := Ground.data }, { on := 17, ground := Ground.data }, { on := 17, ground := Ground.chain }, { on := 0, ground := Ground.phase }, { on := 1, ground := Ground.phase }, { on := 2, ground := Ground.phase }, { on := 3, ground := Ground.phase }, { on := 4, ground := Ground.phase }, { on := 5, ground := Ground.phase }, { on := 6, ground := Ground.phase }, { on := 7, ground := Ground.phase }, { on := 8, ground := Ground.phase }, { on := 9, ground := Ground.phase }, { on := 10, ground := Ground.phase }, { on := 11, ground := Ground.phase }, { on := 12, ground := Ground.phase }, { on := 13, ground := Ground.phase }, { on := 14, ground := Ground.phase }, { on := 15, ground := Ground.phase }, { on := 16, ground := Ground.phase }, { on := 17, ground := Ground.phase }], guard := none }) rfl rfl (fun K hK => ?_) ?_
                      · clear hHeld
                        obtain ⟨hgl, d0, e0⟩ := HE2.out
                        go_simp
                        clear d0 e0
                        refine hK.out _ _ (by first | with_reducible exact s0 | (dsimp only; with_reducible exact s0) | exact cell_other s0 hk0) (fun hHeld => ?_)
                        clear hK K
                        try simp only [Act.put, List.getElem_toArray, List.getElem_cons_zero, List.getElem_cons_succ, List.setIfInBounds_toArray, List.set_cons_zero, List.set_cons_succ]
                        refine wpAnyH_done (by kernel_rfl) ?_ _
                        clear hHeld
                        obtain ⟨V5, hV5⟩ : ∃ V, V = V2.setCell ⟨g, v, none⟩ (.slice p1 l1 c1) := ⟨_, rfl⟩
                        have HB5 : Hid (Below wb.heap.size wb V5) := by show Below _ _ _; rw [hV5]; exact HB2.out.setCell (p := ⟨g, v, none⟩) (show wb.heap.size ≤ g by have := HSZ.out.2.1; omega) _
                        rw [← hV5] at HR2
                        rw [← hV5]
                        have HR6 := hide (HPUT.out _ _ HR2.out)
                        clear hV5 HE2 HB0 HR0 HB1 HR1 HB2 HR2 s0
                        go_wp2
                        go_roundw
                        case rel => exact ⟨j + 1, _, by omega, by go_num, HB5.out, HR6.out⟩
                        case measure => simp [intOf]; omega
                      exact AllReadyH.nil
                    exact AllReadyH.nil
                  exact AllReadyH.nil
                exact AllReadyH.nil
              · rw [if_neg (by omega)] at HST
                have HR9 : Hid (Rows wr wb.heap.size g rs.length rv (rnA T rs v (j + 1))) := HRj.out.congr fun u _ => by
                  by_cases hu : u = v
                  · rw [hu, HAT.out, HAT.out, HST.out]
                  · exact HOT.out _ _ u hu
                clear HRj
                go_wp2
                go_roundw
                case rel => exact ⟨j + 1, _, by omega, by go_num, HBj.out, HR9.out⟩
                case measure => simp [intOf]; omega
            · have hje : j = la := by omega
              have j1 : ¬ (j : Int) < la := by omega
              have HR9 : Hid (Rows wr wb.heap.size g rs.length rv (rnA T rs (v + 1) 0)) := HRj.out.congr fun u _ => by rw [hje]; exact HNX.out u
              clear HRj hje
              go_wp2
              go_roundw
              case rel => exact ⟨v + 1, _, by omega, by go_num, HBj.out, HR9.out⟩
              case measure => simp [intOf]; omega
        · have e1 : ¬ (v : Int) < rs.length := by omega
          have hve : v = rs.length := by omega
          have HRM : Hid (RHas wr (some ⟨g, 0, none⟩) (rs.map (rnL T))) := by
            refine HRr.out.has (by simp) (fun u hu => ?_) (fun u hu => ?_)
            · rw [lat_map _ hu]; unfold rnA; rw [if_pos (by omega)]
            · rw [lat_map _ hu]; have := HRB.out u hu; have := rnRow_le T (lat rs u) (lat rs u).length; unfold rnL maxLen; omega
          have CN : Hid (∀ V, Below wr.heap.size wr V → Calls Try.prog 49 #[.slice (some ⟨g, 0, none⟩) rs.length rs.length] V fun e w' => ∃ g9 rv9, e = .returned (.slice (some ⟨g9, 0, none⟩) rs.length rs.length) ∧ Rows w' V.heap.size g9 rs.length rv9 (fun v => turnL (rnL T (lat rs v))) ∧ Below V.heap.size V w') := fun V hV => by
            have := canon49 (some ⟨g, 0, none⟩) (rs.map (rnL T)) rs.length V (HRM.out.later hV) (by simp; omega) (fun u hu => by rw [List.length_map] at hu; rw [lat_map _ hu]; have := HRB.out u hu; have := rnRow_le T (lat rs u) (lat rs u).length; unfold rnL; omega)
            rw [List.length_map] at this
            exact this.mono fun e w' ⟨g9, rv9, h1, h2, h3⟩ => ⟨g9, rv9, h1, h2.congr fun u hu => by rw [lat_map _ hu], h3⟩
          have HUW := hide (below_step HBB.out HBr.out)
          have HSK : Hid (∀ V, Below U.heap.size U V → V.cell? ⟨kc, 0, none⟩ = some (.int .i64 n) ∧ V.cell? ⟨kc, 1, none⟩ = some (.slice qe l.length ce)) := fun V hV => by obtain ⟨x0, x1, _, _⟩ := HKC.out.later hV; exact ⟨x0, x1⟩
          clear hve HRM HRr
          go_upto_region 19 with fail
          obtain ⟨k0, k1⟩ := HSK.out _ HUW.out
          go_region_held3 (fun V => V.cell? ⟨kc, 0, none⟩ = some (.int .i64 n) ∧ V.cell? ⟨kc, 1, none⟩ = some (.slice qe l.length ce))
            (first | exact HSK.out _ (below_step HUW.out (below_drew wr)) | exact HSK.out _ HUW.out | exact HSK.out _ HV9.out | exact ⟨other2 (HSK.out _ HV9.out).1 HKN.out.1, other2 (HSK.out _ HV9.out).2 HKN.out.1⟩)
            (first | (go_at_call 49; refine (CN.out _ (below_drew wr)).mono ?_; rintro e w9 ⟨g9, rv9, rfl, hr9, hb9⟩; have HV9 := hide (below_step HUW.out (below_step (below_drew wr) hb9)); have HR9 := hide (hr9.base HUW.out.size); clear hb9 hr9 k0 k1; obtain ⟨k0, k1⟩ := HSK.out _ HV9.out; obtain ⟨r0, r1, r2, r3⟩ := HNU.out.later HV9.out))
          rename_i hHeld
          clear hHeld
          obtain ⟨Z, hZ⟩ : ∃ Z, Z = (w9.setCell ⟨w.heap.size + 1, 0, none⟩ (.int .i64 n)).setCell ⟨w.heap.size + 1, 1, none⟩ (.slice qe l.length ce) := ⟨_, rfl⟩
          have kZ : NOwn Z (w.heap.size + 1) n qe l.length ce := by rw [hZ]; exact (HNU.out.later HV9.out).set _ _ _ _
          have bZ : Below w.heap.size w Z := by rw [hZ]; exact ((below_step HBU.out HV9.out).setCell (by simp) _).setCell (by simp) _
          have hasZ : Has Z qe (pick es l) := by
            have f1 : Frame w9 Z (fun i => i = w.heap.size + 1) := by rw [hZ]; exact (Frame.set (p := fun i => i = w.heap.size + 1) w9 ⟨w.heap.size + 1, 0, none⟩ _ rfl).trans (Frame.set (p := fun i => i = w.heap.size + 1) _ ⟨w.heap.size + 1, 1, none⟩ _ rfl)
            exact f1.has (HPU.out.later HV9.out) fun a ha => Or.inr fun e => by have := HQE.out a ha; omega
          have yZ : Rows Z w.heap.size g9 rs.length rv9 (fun v => turnL (rnL (plN l es.length l.length) (lat rs v))) := by
            rw [hZ, HMM.out, HTT.out]
            exact ((HR9.out.other HKN.out.2 _).other HKN.out.2 _).base HBU.out.size
          rw [← hZ]
          clear hZ HR9 HV9 HPU k0 k1 r0 r1 r2 r3
          go_wp2_with fail
          exact bodyPost_ret (ret_net3 Try.results50 rfl rfl rfl kZ) rfl ⟨qe, ce, g9, rv9, rfl, hasZ, yZ, bZ⟩
end Go.Proofs.Ytllkadgpkbaghaa

/- The document's Moved of a rotation, in every world. -/
namespace Go.Proofs.Ytllkadgpkbaghaa
open Go.RowKit Go.Sort
open Go
theorem SRow.later {W w w' : World} {B g n : Nat} {rv : Nat → Value} {L : List (List Int)} (h : SRow W w B g n rv L) (hb : Below w.heap.size w w') : SRow W w' B g n rv L := ⟨World.ownsRow.kept h.1 (grown_below hb) (Or.inr (by simp [Value.ownBlock])), h.2⟩
set_option maxRecDepth 100000 in
set_option maxHeartbeats 16000000 in
theorem moved51no (n : Int) (p : Option Addr) (es : List Pt) (cp : Nat) (q : Option Addr) (nr cq : Nat) (t : Option Addr) (l : List Int) (ct : Nat) (w : World) (hm : netB n es = true) (hnil : p = none → cp = 0) (hl : l.length ≤ maxLen) (h : Has w p es) (hk : IHas w t l) (hs : movE n es l ≠ 0) : Calls Try.prog 51 #[nv n p es.length cp, .slice q nr cq, .slice t l.length ct] w fun e w' => e = .returned (.tuple #[nv 0 none 0 0, .slice none 0 0, .int .i64 (movE n es l)]) ∧ Below w.heap.size w w' := by
  obtain ⟨W, hW, hb0, a0, b0⟩ := two_nets w n p es.length cp
  have M := hide (moved23 n p t es l cp ct W hm hnil hl (h.later hb0) (hk.later hb0))
  have HB := hide hb0
  have HN := hide b0
  obtain ⟨q0, q1, _, _⟩ := a0
  have HS := hide hs
  clear h hk hb0 b0
  go_enter Try.func51, Try.ntmps51
  go_wp2_with fail
  rw [← hW]
  clear hW
  go_wp2_with fail
  refine M.out.mono ?_
  rintro e w1 ⟨hp, hb1⟩
  rcases hp with ⟨h1, _⟩ | ⟨_, rfl⟩
  · exact absurd h1 HS.out
  obtain ⟨x, hx⟩ : ∃ x, movE n es l = x := ⟨_, rfl⟩
  rw [hx] at hs
  rw [hx]
  have HX := hide hx
  have t1 : (x == 0) = false := by simp [hs]
  have HB1 := hide (below_step HB.out hb1)
  have HN1 := hide (HN.out.later hb1)
  clear hb1 q0 q1 M hx
  go_upto_region 2 with fail
  obtain ⟨U, hU⟩ : ∃ U, U = w1.alloc (nbx 0 none 0 0) := ⟨_, rfl⟩
  have hbU : Below w1.heap.size w1 U := by rw [hU]; go_grown
  rw [← hU]
  have HBU := hide (below_step HB1.out hbU)
  have HNU := hide (HN1.out.later hbU)
  clear hU hbU
  obtain ⟨r0, r1, r2, r3⟩ := HNU.out
  go_wp2
  obtain ⟨V, hV⟩ : ∃ V, V = (U.setCell ⟨w.heap.size + 1, 0, none⟩ (.int .i64 0)).setCell ⟨w.heap.size + 1, 1, none⟩ (.slice none 0 0) := ⟨_, rfl⟩
  have kV : NOwn V (w.heap.size + 1) 0 none 0 0 := by rw [hV]; exact HNU.out.set 0 none 0 0
  have bV : Below w.heap.size w V := by rw [hV]; exact (HBU.out.setCell (by simp) _).setCell (by simp) _
  rw [← hV]
  exact bodyPost_ret (ret_net3 Try.results51 rfl rfl rfl kV) rfl ⟨by rw [HX.out]; rfl, bV⟩
set_option maxRecDepth 100000 in
set_option maxHeartbeats 32000000 in
theorem moved51 (n : Int) (p : Option Addr) (es : List Pt) (cp : Nat) (q : Option Addr) (rs : List (List Int)) (cq : Nat) (t : Option Addr) (l : List Int) (ct : Nat) (w : World) (hnil : p = none → cp = 0) (h : Has w p es) (hr : RHas w q rs) (hl : l.length ≤ maxLen) (hk : IHas w t l) (h0 : rotI n es rs = 0) (hs : movE n es l = 0) : Calls Try.prog 51 #[nv n p es.length cp, .slice q rs.length cq, .slice t l.length ct] w fun e w' => ∃ q' c g5 rv, e = .returned (.tuple #[nv n q' es.length c, .slice (some ⟨g5, 0, none⟩) rs.length rs.length, .int .i64 0]) ∧ Has w' q' (rename es l) ∧ Rows w' w.heap.size g5 rs.length rv (fun v => turnL (lat (mvN rs l rs.length) v)) ∧ Below w.heap.size w w' := by
  obtain ⟨i0, hi0, hz0, hz1, hz2⟩ := info_parts info41
  have HRN := hide (rot_is h0).2.1
  obtain ⟨W, hW, hb0, a0, b0⟩ := two_nets w n p es.length cp
  have M := hide (moved23 n p t es l cp ct W (rot_is h0).1 hnil hl (h.later hb0) (hk.later hb0))
  obtain ⟨z1, z2⟩ := rot_bounds h0
  have HZ := hide z2
  have HR := hide (hr.later hb0)
  have HK := hide (hk.later hb0)
  have HB := hide hb0
  have HN := hide b0
  have HWS : Hid (W.heap.size = w.heap.size + 2) := by show _ = _; rw [hW]; simp
  obtain ⟨_, hln, herr⟩ := movE_net hs
  have HCI : Hid (∀ j, j < l.length → 0 ≤ iat l j ∧ iat l j < rs.length) := fun j hj => by
    have := (chk_zero (errN_all _ herr j hj)).1
    have := HRN.out
    omega
  have hlr : l.length = rs.length := by have := HRN.out; omega
  have HLR := hide hlr
  have HS := hide hs
  obtain ⟨q0, q1, _, _⟩ := a0
  clear h hr hk hb0 b0 h0 z2 herr hs hln hlr
  go_enter Try.func51, Try.ntmps51
  go_wp2_with fail
  rw [← hW]
  clear hW
  go_wp2_with fail
  refine M.out.mono ?_
  rintro e w1 ⟨hp, hb1⟩
  rcases hp with ⟨_, qe, ce, rfl, ho⟩ | ⟨h1, _⟩
  rotate_left
  · exact absurd HS.out h1
  clear M q0 q1
  go_upto_region 2 with fail
  obtain ⟨kc, hkc⟩ : ∃ k, w1.heap.size = k := ⟨_, rfl⟩
  obtain ⟨U, hU⟩ : ∃ U, U = w1.alloc (nbx n qe es.length ce) := ⟨_, rfl⟩
  have hbU : Below w1.heap.size w1 U := by rw [hU]; go_grown
  have HKC : Hid (NOwn U kc n qe es.length ce) := by show NOwn _ _ _ _ _ _; rw [hU, ← hkc]; exact ⟨by go_cell, by go_cell, by simp [go_sem], by simp [go_sem]⟩
  rw [← hU]
  try rw [hkc]
  have hwu : Below W.heap.size W U := below_step hb1 hbU
  have HBU := hide (below_step HB.out hwu)
  have HNU := hide (HN.out.later hwu)
  have HKU := hide (HK.out.later hwu)
  have HRU := hide (HR.out.later hwu)
  have HPU : Hid (Has U qe (rename es l)) := by
    obtain ⟨p', c', e', hh, _⟩ := ho.form
    injection e' with e1 _ _
    subst e1
    exact hh.later hbU
  have HKN : Hid (kc ≠ w.heap.size + 1 ∧ w.heap.size + 1 < U.heap.size) := ⟨by have h1 := hb1.size; have h2 := HWS.out; omega, by have h1 := hwu.size; have h2 := HWS.out; omega⟩
  have HQE : Hid (∀ a, qe = some a → w.heap.size + 2 ≤ a.block) := fun a ha => by
    subst ha
    have h1 := (World.ownsRow.lt ho a.block rfl).1
    have h2 := HWS.out
    omega
  clear hU hbU hkc ho hb1 hwu HK HR HN HB
  go_wp2_with (refine wpList_make_full _ rfl (.tmp 24) (.tmp 24) 26 rfl U.heap.size 27 i0 (.slice none 0 0) 1 Try.underlying26 hi0 hz0 hz1 .i64 .i64 _ _ rs.length rfl rfl rfl rfl ?c1 ?c2 ?c3 ?_)
  all_goals first | (intro w3 hown hgrow) | omega | (unfold maxLen; omega) | exact Nat.le_refl _ | (rw [hz2]; omega)
  have hb3 := below_made hgrow
  have HB3 := hide hb3
  obtain ⟨gw, hgw⟩ : ∃ gw, U.heap.size = gw := ⟨_, rfl⟩
  have hsr := srow_made (W := U) hown
  have HS3 : Hid (∃ rv, SRow U w3 U.heap.size gw rs.length rv (mvN rs l 0)) := by show ∃ rv, _; rw [hgw] at hsr ⊢; exact ⟨_, hsr⟩
  have HGW := hide hgw
  try rw [hgw]
  clear hown hgrow hb3 hsr hi0 hz0 hz1 hz2 i0 hgw
  go_wp2_with fail
  go_loopw [12] (fun t12 wr => ∃ v : Nat, v ≤ rs.length ∧ t12 = .int .i64 v ∧ Hid (Below U.heap.size U wr) ∧ Hid (∃ rv, SRow U wr U.heap.size gw rs.length rv (mvN rs l v))) (fun t12 _ => rs.length - (intOf t12).toNat)
  case atStart => exact ⟨0, by omega, rfl, HB3.out, HS3.out⟩
  case round =>
    clear HB3 HS3
    obtain ⟨v, hv, rfl, HBr, HSr⟩ := hrel
    obtain ⟨rv, hsr⟩ := HSr.out
    by_cases hlt : v < rs.length
    · obtain ⟨b1, o1, a1, k1, rfl, c0W, m1, z3⟩ := HRU.out.at_ hlt
      have e1 : (v : Int) < rs.length := by omega
      have hvl : v < l.length := by rw [HLR.out]; exact hlt
      have e2 : (v : Int) < l.length := by omega
      rcases HKU.out.later HBr.out with h | ⟨b2, o2, rfl, l2⟩
      · rw [h] at hvl; simp at hvl
      obtain ⟨x0, x1⟩ := HCI.out v hvl
      have c1 := l2 v hvl
      have HST : Hid (mvN rs l (v + 1) = (mvN rs l v).set (iat l v).toNat (lat rs v)) := rfl
      obtain ⟨k, hk⟩ : ∃ k : Nat, iat l v = k := ⟨(iat l v).toNat, by omega⟩
      rw [hk] at c1 HST x1
      rw [Int.toNat_natCast] at HST
      have hkn : k < rs.length := by omega
      obtain ⟨d0, f0⟩ := hsr.cell hkn
      have HSN : Hid (∃ rv, SRow U (wr.setCell ⟨gw, k, none⟩ (.slice a1 (lat rs v).length k1)) U.heap.size gw rs.length rv (mvN rs l (v + 1))) := ⟨_, by rw [HST.out]; exact hsr.set (k := k) m1 z3.1 z3.2.1 z3.2.2⟩
      have HBN : Hid (Below U.heap.size U (wr.setCell ⟨gw, k, none⟩ (.slice a1 (lat rs v).length k1))) := HBr.out.setCell (p := ⟨gw, k, none⟩) (by show _ ≤ gw; have := HGW.out; omega) _
      have c0 := later HBr.out c0W
      have e3 : (k : Int) < rs.length := by omega
      clear l2 hk hsr m1 z3 c0W x0 HST HSr
      go_upto_region 8 with fail
      go_region
      have HSD : Hid (∃ rv, SRow U ((wr.setCell ⟨gw, k, none⟩ (.slice a1 (lat rs v).length k1)).drew) U.heap.size gw rs.length rv (mvN rs l (v + 1))) := by obtain ⟨rv', h'⟩ := HSN.out; exact ⟨rv', h'.later (below_drew _)⟩
      have HBD : Hid (Below U.heap.size U ((wr.setCell ⟨gw, k, none⟩ (.slice a1 (lat rs v).length k1)).drew)) := HBN.out.drew
      clear HSN HBN
      go_wp2
      go_roundw
      case rel => exact ⟨v + 1, by omega, by go_num, HBD.out, HSD.out⟩
      case measure => simp [intOf]; omega
    · have e1 : ¬ (v : Int) < rs.length := by omega
      have hve : v = rs.length := by omega
      rw [hve] at hsr
      have hlm := mvN_le (l := l) HZ.out rs.length (Nat.le_refl _)
      have HLN : Hid ((mvN rs l rs.length).length = rs.length) := mvN_length rs l rs.length
      have HRM : Hid (RHas wr (some ⟨gw, 0, none⟩) (mvN rs l rs.length)) := hsr.has HBr.out
      have CN : Hid (∀ V, Below wr.heap.size wr V → Calls Try.prog 49 #[.slice (some ⟨gw, 0, none⟩) rs.length rs.length] V fun e w' => ∃ g9 rv9, e = .returned (.slice (some ⟨g9, 0, none⟩) rs.length rs.length) ∧ Rows w' V.heap.size g9 rs.length rv9 (fun v => turnL (lat (mvN rs l rs.length) v)) ∧ Below V.heap.size V w') := fun V hV => by
        have := canon49 (some ⟨gw, 0, none⟩) (mvN rs l rs.length) rs.length V (HRM.out.later hV) (by rw [HLN.out]; omega) (fun u hu => by rw [HLN.out] at hu; have := hlm u hu; omega)
        rw [HLN.out] at this
        exact this
      have HSK : Hid (∀ V, Below U.heap.size U V → V.cell? ⟨kc, 0, none⟩ = some (.int .i64 n) ∧ V.cell? ⟨kc, 1, none⟩ = some (.slice qe es.length ce)) := fun V hV => by obtain ⟨x0, x1, _, _⟩ := HKC.out.later hV; exact ⟨x0, x1⟩
      have HUW := hide HBr.out
      clear hve HRM hsr HSr hlm
      obtain ⟨k0, k1⟩ := HSK.out _ HUW.out
      go_upto_region 9 with fail
      go_region_held3 (fun V => V.cell? ⟨kc, 0, none⟩ = some (.int .i64 n) ∧ V.cell? ⟨kc, 1, none⟩ = some (.slice qe es.length ce))
        (first | exact HSK.out _ (below_step HUW.out (below_drew wr)) | exact HSK.out _ HUW.out | exact HSK.out _ HV9.out | exact ⟨other2 (HSK.out _ HV9.out).1 HKN.out.1, other2 (HSK.out _ HV9.out).2 HKN.out.1⟩)
        (first | (go_at_call 49; refine (CN.out _ (below_drew wr)).mono ?_; rintro e w9 ⟨g9, rv9, rfl, hr9, hb9⟩; have HV9 := hide (below_step HUW.out (below_step (below_drew wr) hb9)); have HR9 := hide (hr9.base HUW.out.size); clear hb9 hr9 k0 k1; obtain ⟨k0, k1⟩ := HSK.out _ HV9.out; obtain ⟨r0, r1, r2, r3⟩ := HNU.out.later HV9.out))
      rename_i hHeld
      clear hHeld
      obtain ⟨Z, hZ⟩ : ∃ Z, Z = (w9.setCell ⟨w.heap.size + 1, 0, none⟩ (.int .i64 n)).setCell ⟨w.heap.size + 1, 1, none⟩ (.slice qe es.length ce) := ⟨_, rfl⟩
      have kZ : NOwn Z (w.heap.size + 1) n qe es.length ce := by rw [hZ]; exact (HNU.out.later HV9.out).set _ _ _ _
      have bZ : Below w.heap.size w Z := by rw [hZ]; exact ((below_step HBU.out HV9.out).setCell (by simp) _).setCell (by simp) _
      have hasZ : Has Z qe (rename es l) := by
        have f1 : Frame w9 Z (fun i => i = w.heap.size + 1) := by rw [hZ]; exact (Frame.set (p := fun i => i = w.heap.size + 1) w9 ⟨w.heap.size + 1, 0, none⟩ _ rfl).trans (Frame.set (p := fun i => i = w.heap.size + 1) _ ⟨w.heap.size + 1, 1, none⟩ _ rfl)
        exact f1.has (HPU.out.later HV9.out) fun a ha => Or.inr fun e => by have := HQE.out a ha; omega
      have yZ : Rows Z w.heap.size g9 rs.length rv9 (fun v => turnL (lat (mvN rs l rs.length) v)) := by
        rw [hZ]
        exact ((HR9.out.other HKN.out.2 _).other HKN.out.2 _).base HBU.out.size
      rw [← hZ]
      clear hZ HR9 HV9 HPU k0 k1 r0 r1 r2 r3
      go_wp2_with fail
      exact bodyPost_ret (ret_net3 Try.results51 rfl rfl rfl kZ) rfl ⟨qe, ce, g9, rv9, rfl, hasZ, yZ, bZ⟩
end Go.Proofs.Ytllkadgpkbaghaa

namespace Go.Proofs.Ytllkadgpkbaghaa
open Go.RowKit Go.Sort
open Go
theorem lat_range {n : Nat} (f : Nat → List Int) {v : Nat} (hv : v < n) : lat ((List.range n).map f) v = f v := by
  unfold lat
  rw [List.getD_eq_getElem?_getD, List.getElem?_map, List.getElem?_range hv]
  rfl
theorem irow_own {w : World} {B g n : Nat} {l : List Int} (h : IRow w B g n l) : IOwns w B (.slice (some ⟨g, 0, none⟩) l.length n) l := h.2
theorem prow_eb {w : World} {B g n : Nat} {E : List Pt} (h : PRow w B g n E) : EB w B w.heap.size (some ⟨g, 0, none⟩) E := ⟨h.has, fun x hx => by injection hx with hx; subst hx; have := World.ownsRow.lt h.2 g rfl; exact ⟨this.1, this.2⟩⟩
theorem eb_nil (w : World) (a b : Nat) : EB w a b none [] := ⟨Or.inl rfl, fun x hx => by cases hx⟩
theorem out_le (es : List Pt) (v : Nat) : (outL es (2 * es.length) v).length ≤ 2 * es.length := outL_length es (2 * es.length) v
/-- told, whatever is asked. -/
theorem told_all (W0 : World) (k : Nat) (n : Int) (ph pg : Option Addr) (es : List Pt) (ch cg : Nat) (qt qr : Option Addr) (rs : List (List Int)) (ct cr : Nat) (hh : Has W0 ph es) (hg : Has W0 pg es) (ht : RHas W0 qt rs) (hr : RHas W0 qr rs) (w : World) (hw : Below W0.heap.size W0 w) (hbag : BagE w W0.heap.size k) :
    Calls Try.prog 14 #[nv n ph es.length ch, .slice qt rs.length ct, nv n pg es.length cg, .slice qr rs.length cr, .int .i64 (rotI n es rs), .pointer (some ⟨k, 0, none⟩)] w fun e w' => e = .returned (.bool true) ∧ Below W0.heap.size W0 w' ∧ BagE w' W0.heap.size k := by
  have nolen : ∀ v, v < ([] : List (List Int)).length → (lat [] v).length ≤ 20000 := fun v hv => by simp at hv
  by_cases h0 : rotI n es rs = 0
  · obtain ⟨hm, hln, hho⟩ := rot_is h0
    obtain ⟨n0, n1, hes, _⟩ := netB_is hm
    obtain ⟨N, rfl⟩ : ∃ N : Nat, n = N := ⟨n.toNat, by omega⟩
    obtain ⟨z1, z2⟩ := rot_bounds h0
    have hol : (ofL es rs).length = 2 * es.length := (edge_ok hho).len
    have hml : (mirrorL rs).length = rs.length := by rw [mirror_is, canonL_length]; simp [revL]
    have hcl := canonL_length rs
    have hm1 : ∀ v, v < rs.length → (lat (mirrorL rs) v).length ≤ 20000 := fun v hv => by rw [lat_mirror hv, turnL_length, List.length_reverse]; have := z2 v hv; omega
    have hc1 : ∀ v, v < rs.length → (lat (canonL rs) v).length ≤ 20000 := fun v hv => by rw [lat_canon hv, turnL_length]; have := z2 v hv; omega
    have hfl := facesL_le h0
    have hxl : ((List.range N).map (outL es (2 * es.length))).length = N := by simp
    rw [h0]
    refine told_c W0 k N ph pg es ch cg qt qr rs ct cr (genusI N es rs) (facesL es rs) (mirrorL rs) (canonL rs) ((List.range N).map (outL es (2 * es.length))) (ofL es rs) ?_ ?_ ?_ ?_ ?_ ?_ ?_ ?_ ?_ ?_ ?_ ?_ ?_ ?_ ?_ ?_ ?_ (by omega) (by omega) (by omega) (by omega) (by rw [hxl]; omega) w hw hbag
    · exact fun V hV => (faces21 N ph es ch qt rs ct V (hh.later hV) (ht.later hV) h0).mono fun e w' ⟨p1, c1, rv, he, hf, hb⟩ => ⟨p1, c1, rv, he, LB.of hf, hb⟩
    · exact fun V hV => (of40 N ph es ch qt rs ct V (hh.later hV) (ht.later hV) h0).mono fun e w' ⟨g, he, hf, hb⟩ => ⟨some ⟨g, 0, none⟩, 2 * es.length, by rw [hol]; exact he, hf.2, hb⟩
    · exact fun V hV => genus22 N ph es ch qt rs ct V (hh.later hV) (ht.later hV) h0 (by have := comp_le hm; omega)
    · exact fun V hV => (mirror27 N ph es ch qt rs ct V (hh.later hV) (ht.later hV) h0).mono fun e w' ⟨g, rv, he, hf, hb⟩ => ⟨some ⟨g, 0, none⟩, rs.length, rv, by rw [hml]; exact he, rows_lb hf hml, hb⟩
    · exact fun V hV => (canon28 N ph es ch qt rs ct V (hh.later hV) (ht.later hV) h0).mono fun e w' ⟨g, rv, he, hf, hb⟩ => ⟨some ⟨g, 0, none⟩, rs.length, rv, by rw [hcl]; exact he, rows_lb hf hcl, hb⟩
    · exact fun V hV => (first41 N ph es ch V (hh.later hV) hm).mono fun e w' ⟨g, rv, he, hf, hb⟩ => ⟨some ⟨g, 0, none⟩, N, rv, by rw [hxl]; exact he, rows_lb (hf.congr fun v hv => (lat_range _ hv).symm) hxl, hb⟩
    · intro V hV
      have := may12 N pg es cg V (hg.later hV)
      rw [hm] at this
      exact this
    · exact fun V hV => (first42 N pg es cg V (hg.later hV) hm).mono fun e w' ⟨g, rv, he, hf, hb⟩ => ⟨some ⟨g, 0, none⟩, N, by rw [hxl]; exact he, hf.has hxl (fun v hv => (lat_range _ hv).symm) (fun v hv => by rw [lat_range _ hv]; have := out_le es v; unfold maxLen; omega), hb⟩
    · exact fun V hV => (faces45 N pg es cg qr rs cr V (hr.later hV) h0).mono fun e w' ⟨p1, c1, rv, he, hf, hb⟩ => ⟨p1, c1, he, hf.has fun v hv => by have := face_le es rs hv; unfold maxLen; omega, hb⟩
    · exact fun V hV => (of46 N pg es cg qr rs cr V (hr.later hV) h0).mono fun e w' ⟨g, he, hf, hb⟩ => ⟨some ⟨g, 0, none⟩, 2 * es.length, by rw [hol]; exact he, hf.has, hb⟩
    · exact fun V hV => genus47 N pg es cg qr rs cr V (hg.later hV) (hr.later hV) h0
    · exact fun V hV => (mirror48 qr rs cr V (hr.later hV) (by omega) (fun v hv => by have := z2 v hv; omega)).mono fun e w' ⟨g, rv, he, hf, hb⟩ => ⟨some ⟨g, 0, none⟩, rs.length, by rw [hml]; exact he, hf.has hml (fun v hv => rfl) (fun v hv => by have := hm1 v hv; unfold maxLen; omega), hb⟩
    · exact fun V hV => (canon49 qr rs cr V (hr.later hV) (by omega) (fun v hv => by have := z2 v hv; omega)).mono fun e w' ⟨g, rv, he, hf, hb⟩ => ⟨some ⟨g, 0, none⟩, rs.length, by rw [hcl]; exact he, hf.has hcl (fun v hv => (lat_canon hv).symm) (fun v hv => by have := hc1 v hv; unfold maxLen; omega), hb⟩
    · exact fun v hv => by have := face_le es rs hv; omega
    · exact fun v hv => hm1 v (by rw [hml] at hv; exact hv)
    · exact fun v hv => hc1 v (by rw [hcl] at hv; exact hv)
    · exact fun v hv => by rw [hxl] at hv; rw [lat_range _ hv]; have := out_le es v; omega
  · have D1 : ∀ V, Below W0.heap.size W0 V → Calls Try.prog 21 #[nv n ph es.length ch, .slice qt rs.length ct] V fun e w' => ∃ p1 c1 rv, e = .returned (.tuple #[.slice p1 ([] : List (List Int)).length c1, .int .i64 (rotI n es rs)]) ∧ LB w' V.heap.size w'.heap.size p1 [] c1 rv ∧ Below V.heap.size V w' := fun V hV => (faces21no n ph es ch qt rs ct V (hh.later hV) (ht.later hV) h0).mono fun e w' ⟨he, hb⟩ => ⟨none, 0, _, he, LB.nil _ _ _, hb⟩
    have D2 : ∀ V, Below W0.heap.size W0 V → Calls Try.prog 40 #[nv n ph es.length ch, .slice qt rs.length ct] V fun e w' => ∃ p1 c1, e = .returned (.tuple #[.slice p1 ([] : List Int).length c1, .int .i64 (rotI n es rs)]) ∧ IOwns w' V.heap.size (.slice p1 ([] : List Int).length c1) [] ∧ Below V.heap.size V w' := fun V hV => (of40no n ph es ch qt rs ct V (hh.later hV) (ht.later hV) h0).mono fun e w' ⟨he, hb⟩ => ⟨none, 0, he, IOwns.nil _ _, hb⟩
    have D3 : ∀ V, Below W0.heap.size W0 V → Calls Try.prog 22 #[nv n ph es.length ch, .slice qt rs.length ct] V fun e w' => e = .returned (.tuple #[.int .i64 0, .int .i64 (rotI n es rs)]) ∧ Below V.heap.size V w' := fun V hV => genus22no n ph es ch qt rs ct V (hh.later hV) (ht.later hV) h0
    have D4 : ∀ V, Below W0.heap.size W0 V → Calls Try.prog 27 #[nv n ph es.length ch, .slice qt rs.length ct] V fun e w' => ∃ p1 c1 rv, e = .returned (.tuple #[.slice p1 ([] : List (List Int)).length c1, .int .i64 (rotI n es rs)]) ∧ LB w' V.heap.size w'.heap.size p1 [] c1 rv ∧ Below V.heap.size V w' := fun V hV => (mirror27no n ph es ch qt rs ct V (hh.later hV) (ht.later hV) h0).mono fun e w' ⟨he, hb⟩ => ⟨none, 0, _, he, LB.nil _ _ _, hb⟩
    have D5 : ∀ V, Below W0.heap.size W0 V → Calls Try.prog 28 #[nv n ph es.length ch, .slice qt rs.length ct] V fun e w' => ∃ p1 c1 rv, e = .returned (.tuple #[.slice p1 ([] : List (List Int)).length c1, .int .i64 (rotI n es rs)]) ∧ LB w' V.heap.size w'.heap.size p1 [] c1 rv ∧ Below V.heap.size V w' := fun V hV => (canon28no n ph es ch qt rs ct V (hh.later hV) (ht.later hV) h0).mono fun e w' ⟨he, hb⟩ => ⟨none, 0, _, he, LB.nil _ _ _, hb⟩
    cases hm : netB n es
    · refine told_a W0 k n ph pg es ch cg qt qr rs ct cr (rotI n es rs) 0 [] [] [] [] [] D1 D2 D3 D4 D5 ?_ ?_ nolen nolen nolen nolen (by simp) (by simp) (by simp) (by simp) (by simp) h0 (by simp) (by simp) w hw hbag
      · exact fun V hV => (first41no n ph es ch V (hh.later hV) hm).mono fun e w' ⟨he, hb⟩ => ⟨none, 0, _, he, LB.nil _ _ _, hb⟩
      · intro V hV
        have := may12 n pg es cg V (hg.later hV)
        rw [hm] at this
        exact this
    · obtain ⟨n0, n1, hes, _⟩ := netB_is hm
      obtain ⟨N, rfl⟩ : ∃ N : Nat, n = N := ⟨n.toNat, by omega⟩
      have hxl : ((List.range N).map (outL es (2 * es.length))).length = N := by simp
      refine told_b W0 k N ph pg es ch cg qt qr rs ct cr (rotI N es rs) 0 [] [] [] ((List.range N).map (outL es (2 * es.length))) [] D1 D2 D3 D4 D5 ?_ ?_ ?_ nolen nolen nolen ?_ (by simp) (by simp) (by simp) (by simp) (by rw [hxl]; omega) h0 (by simp) w hw hbag
      · exact fun V hV => (first41 N ph es ch V (hh.later hV) hm).mono fun e w' ⟨g, rv, he, hf, hb⟩ => ⟨some ⟨g, 0, none⟩, N, rv, by rw [hxl]; exact he, rows_lb (hf.congr fun v hv => (lat_range _ hv).symm) hxl, hb⟩
      · intro V hV
        have := may12 N pg es cg V (hg.later hV)
        rw [hm] at this
        exact this
      · exact fun V hV => (first42 N pg es cg V (hg.later hV) hm).mono fun e w' ⟨g, rv, he, hf, hb⟩ => ⟨some ⟨g, 0, none⟩, N, by rw [hxl]; exact he, hf.has hxl (fun v hv => (lat_range _ hv).symm) (fun v hv => by rw [lat_range _ hv]; have := out_le es v; unfold maxLen; omega), hb⟩
      · exact fun v hv => by rw [hxl] at hv; rw [lat_range _ hv]; have := out_le es v; omega
/-- made, whatever is asked. -/
theorem made_all (W0 : World) (k : Nat) (n : Int) (ph pg : Option Addr) (es : List Pt) (ch cg : Nat) (qt qr : Option Addr) (rs : List (List Int)) (ct cr : Nat) (pk po : Option Addr) (lk lo : List Int) (ck co : Nat) (hh : Has W0 ph es) (hg : Has W0 pg es) (ht : RHas W0 qt rs) (hr : RHas W0 qr rs) (hk : IHas W0 pk lk) (ho : IHas W0 po lo) (l1 : lk.length ≤ 1000) (l2 : lo.length ≤ 1000) (hnil : pg = none → cg = 0) (w : World) (hw : Below W0.heap.size W0 w) (hbag : BagE w W0.heap.size k) :
    Calls Try.prog 15 #[nv n ph es.length ch, .slice qt rs.length ct, nv n pg es.length cg, .slice qr rs.length cr, .slice pk lk.length ck, .slice po lo.length co, .int .i64 (rotI n es rs), .pointer (some ⟨k, 0, none⟩)] w fun e w' => e = .returned (.bool true) ∧ Below W0.heap.size W0 w' ∧ BagE w' W0.heap.size k := by
  have nolen : ∀ v, v < ([] : List (List Int)).length → (lat [] v).length ≤ 20000 := fun v hv => by simp at hv
  have m1 : lk.length ≤ maxLen := by unfold maxLen; omega
  have m2 : lo.length ≤ maxLen := by unfold maxLen; omega
  by_cases h0 : rotI n es rs = 0
  · obtain ⟨hm, hln, hho⟩ := rot_is h0
    obtain ⟨n0, n1, hes, _⟩ := netB_is hm
    obtain ⟨N, rfl⟩ : ∃ N : Nat, n = N := ⟨n.toNat, by omega⟩
    obtain ⟨z1, z2⟩ := rot_bounds h0
    have subB : ∃ (y : Int) (sN : Int) (sE : List Pt) (SO : List (List Int)), (∀ V, Below W0.heap.size W0 V → Calls Try.prog 30 #[nv N ph es.length ch, .slice qt rs.length ct, .slice pk lk.length ck] V fun e w' => ∃ pe ce p1 c1 rv, e = .returned (.tuple #[nv sN pe sE.length ce, .slice p1 SO.length c1, .int .i64 y]) ∧ EB w' V.heap.size w'.heap.size pe sE ∧ LB w' V.heap.size w'.heap.size p1 SO c1 rv ∧ Below V.heap.size V w') ∧ (∀ V, Below W0.heap.size W0 V → Calls Try.prog 50 #[nv N pg es.length cg, .slice qr rs.length cr, .slice pk lk.length ck] V fun e w' => ∃ pe ce p1 c1, e = .returned (.tuple #[nv sN pe sE.length ce, .slice p1 SO.length c1, .int .i64 y]) ∧ Has w' pe sE ∧ RHas w' p1 SO ∧ Below V.heap.size V w') ∧ (∀ v, v < SO.length → (lat SO v).length ≤ 20000) ∧ SO.length ≤ 20000 ∧ sE.length ≤ 20000 := by
      have hsE : subE N es lk = errL lk es.length := by unfold subE; rw [if_pos hm]
      by_cases hs : subE N es lk = 0
      · have hpl : (pick es lk).length = lk.length := pick_length _ _
        have hsl : (rs.map fun x => turnL (rnL (plN lk es.length lk.length) x)).length = rs.length := by simp
        have hll : ∀ v, v < rs.length → (lat (rs.map fun x => turnL (rnL (plN lk es.length lk.length) x)) v).length ≤ 20000 := fun v hv => by
          rw [lat_map _ hv, turnL_length]
          have := z2 v hv
          have := rnRow_le (plN lk es.length lk.length) (lat rs v) (lat rs v).length
          unfold rnL
          omega
        refine ⟨0, N, pick es lk, rs.map fun x => turnL (rnL (plN lk es.length lk.length) x), fun V hV => ?_, fun V hV => ?_, fun v hv => hll v (by rw [hsl] at hv; exact hv), by rw [hsl]; omega, by rw [hpl]; omega⟩
        · refine (sub30 N ph es ch qt rs ct pk lk ck V (hh.later hV) (ht.later hV) m1 (hk.later hV) h0 hs).mono fun e w' ⟨g, g5, rv, he, hP, hR, hb⟩ => ⟨some ⟨g, 0, none⟩, lk.length, some ⟨g5, 0, none⟩, rs.length, rv, by rw [hpl, hsl]; exact he, prow_eb hP, rows_lb (hR.congr fun v hv => (lat_map (fun x => turnL (rnL (plN lk es.length lk.length) x)) hv).symm) hsl, hb⟩
        · refine (sub50r N pg es cg qr rs cr pk lk ck V (hg.later hV) (hr.later hV) (by omega) (hk.later hV) h0 (by rw [← hsE]; exact hs)).mono fun e w' ⟨qe, ce, g5, rv, he, hP, hR, hb⟩ => ⟨qe, ce, some ⟨g5, 0, none⟩, rs.length, by rw [hpl, hsl]; exact he, hP, hR.has hsl (fun v hv => (lat_map (fun x => turnL (rnL (plN lk es.length lk.length) x)) hv).symm) (fun v hv => by have := hll v hv; unfold maxLen; omega), hb⟩
      · refine ⟨subE N es lk, 0, [], [], fun V hV => ?_, fun V hV => ?_, nolen, by simp, by simp⟩
        · exact (sub30err N ph es ch qt rs ct pk lk ck V (hh.later hV) (ht.later hV) m1 (hk.later hV) h0 hs).mono fun e w' ⟨he, hb⟩ => ⟨none, 0, none, 0, _, he, eb_nil _ _ _, LB.nil _ _ _, hb⟩
        · have q := sub50no N pg es cg qr rs.length cr pk lk ck V (by omega) (hk.later hV) (by rw [← hsE]; exact hs)
          rw [← hsE] at q
          exact q.mono fun e w' ⟨he, hb⟩ => ⟨none, 0, none, 0, he, Or.inl rfl, Or.inl rfl, hb⟩
    have movB : ∃ (y : Int) (sN : Int) (sE : List Pt) (SO : List (List Int)), (∀ V, Below W0.heap.size W0 V → Calls Try.prog 31 #[nv N ph es.length ch, .slice qt rs.length ct, .slice po lo.length co] V fun e w' => ∃ pe ce p1 c1 rv, e = .returned (.tuple #[nv sN pe sE.length ce, .slice p1 SO.length c1, .int .i64 y]) ∧ EB w' V.heap.size w'.heap.size pe sE ∧ LB w' V.heap.size w'.heap.size p1 SO c1 rv ∧ Below V.heap.size V w') ∧ (∀ V, Below W0.heap.size W0 V → Calls Try.prog 51 #[nv N pg es.length cg, .slice qr rs.length cr, .slice po lo.length co] V fun e w' => ∃ pe ce p1 c1, e = .returned (.tuple #[nv sN pe sE.length ce, .slice p1 SO.length c1, .int .i64 y]) ∧ Has w' pe sE ∧ RHas w' p1 SO ∧ Below V.heap.size V w') ∧ (∀ v, v < SO.length → (lat SO v).length ≤ 20000) ∧ SO.length ≤ 20000 ∧ sE.length ≤ 20000 := by
      by_cases hs : movE N es lo = 0
      · have hpl : (rename es lo).length = es.length := by simp [rename]
        have hmv := mvN_length rs lo rs.length
        have hsl : ((mvN rs lo rs.length).map turnL).length = rs.length := by simp [hmv]
        have hat : ∀ v, v < rs.length → lat ((mvN rs lo rs.length).map turnL) v = turnL (lat (mvN rs lo rs.length) v) := fun v hv => lat_map _ (by rw [hmv]; exact hv)
        have hll : ∀ v, v < rs.length → (lat ((mvN rs lo rs.length).map turnL) v).length ≤ 20000 := fun v hv => by
          rw [hat v hv, turnL_length]
          have := mvN_le (l := lo) z2 rs.length (Nat.le_refl _) v hv
          omega
        refine ⟨0, N, rename es lo, (mvN rs lo rs.length).map turnL, fun V hV => ?_, fun V hV => ?_, fun v hv => hll v (by rw [hsl] at hv; exact hv), by rw [hsl]; omega, by rw [hpl]; omega⟩
        · refine (moved31 N ph es ch qt rs ct po lo co V (hh.later hV) (ht.later hV) m2 (ho.later hV) h0 hs).mono fun e w' ⟨g, g5, rv, he, hP, hR, hb⟩ => ⟨some ⟨g, 0, none⟩, es.length, some ⟨g5, 0, none⟩, rs.length, rv, by rw [hpl, hsl]; exact he, prow_eb hP, rows_lb (hR.congr fun v hv => (hat v hv).symm) hsl, hb⟩
        · refine (moved51 N pg es cg qr rs cr po lo co V hnil (hg.later hV) (hr.later hV) m2 (ho.later hV) h0 hs).mono fun e w' ⟨qe, ce, g5, rv, he, hP, hR, hb⟩ => ⟨qe, ce, some ⟨g5, 0, none⟩, rs.length, by rw [hpl, hsl]; exact he, hP, hR.has hsl (fun v hv => (hat v hv).symm) (fun v hv => by have := hll v hv; unfold maxLen; omega), hb⟩
      · refine ⟨movE N es lo, 0, [], [], fun V hV => ?_, fun V hV => ?_, nolen, by simp, by simp⟩
        · exact (moved31err N ph es ch qt rs ct po lo co V (hh.later hV) (ht.later hV) m2 (ho.later hV) h0 hs).mono fun e w' ⟨he, hb⟩ => ⟨none, 0, none, 0, _, he, eb_nil _ _ _, LB.nil _ _ _, hb⟩
        · exact (moved51no N pg es cg qr rs.length cr po lo co V hm hnil m2 (hg.later hV) (ho.later hV) hs).mono fun e w' ⟨he, hb⟩ => ⟨none, 0, none, 0, he, Or.inl rfl, Or.inl rfl, hb⟩
    obtain ⟨y1, sN, sE, SO, A1, A2, A3, A4, A5⟩ := subB
    obtain ⟨y2, mN, mE, QO, E1, E2, E3, E4, E5⟩ := movB
    rw [h0]
    exact made_c W0 k N ph pg es ch cg qt qr rs ct cr pk po lk lo ck co y1 y2 sN mN sE mE SO QO A1 E1 A2 E2 A3 E3 A4 E4 A5 E5 w hw hbag
  · refine made_b W0 k n ph pg es ch cg qt qr rs ct cr pk po lk lo ck co (rotI n es rs) 0 0 [] [] [] [] ?_ ?_ nolen nolen (by simp) (by simp) h0 (by simp) w hw hbag
    · exact fun V hV => (sub30no n ph es ch qt rs ct pk lk ck V (hh.later hV) (ht.later hV) h0).mono fun e w' ⟨he, hb⟩ => ⟨none, 0, none, 0, _, he, eb_nil _ _ _, LB.nil _ _ _, hb⟩
    · exact fun V hV => (moved31no n ph es ch qt rs ct po lo co V (hh.later hV) (ht.later hV) h0).mono fun e w' ⟨he, hb⟩ => ⟨none, 0, none, 0, _, he, eb_nil _ _ _, LB.nil _ _ _, hb⟩
end Go.Proofs.Ytllkadgpkbaghaa

namespace Go.Proofs.Ytllkadgpkbaghaa
open Go.RowKit Go.Sort
open Go
def RetL (n : Int) (es : List Pt) (e : Ending) : Prop := ∃ b : Bool, e = .returned (.bool b) ∧ (b = true → lightB n es = true)
set_option maxRecDepth 100000 in
set_option maxHeartbeats 8000000 in
theorem light9s (n : Int) (p : Option Addr) (es : List Pt) (cap : Nat) (q : Option Addr) (rs : List (List Int)) (cq : Nat) (w : World) (h : Has w p es) (hr : RHas w q rs) (hl : rs.length ≤ maxLen) : Calls Try.prog 9 #[nv n p es.length cap, .slice q rs.length cq] w fun e w' => RetL n es e ∧ Below w.heap.size w w' := by
  obtain ⟨W, hW, hb, a0⟩ := one_net w n p es.length cap
  have HB := hide hb
  have HA := hide a0
  have HH := hide (h.later hb)
  have HR := hide (hr.later hb)
  unfold maxLen at hl
  clear h hr hb a0
  go_enter Try.func9, Try.ntmps9
  go_wp2_with fail
  rw [← hW]
  clear hW
  go_loopw [5, 6] (fun t5 t6 wr => ∃ (i : Nat) (x : Int), i ≤ rs.length ∧ t5 = .int .i64 x ∧ t6 = .int .i64 i ∧ Hid (Below W.heap.size W wr)) (fun _ t6 _ => rs.length - (intOf t6).toNat)
  case atStart => exact ⟨0, _, by omega, rfl, rfl, Below.refl _ _⟩
  case round =>
    obtain ⟨i, x, hi, rfl, rfl, HW⟩ := hrel
    by_cases hlt : i < rs.length
    · obtain ⟨b, off, a, c, rfl, c0, _, h3⟩ := (HR.out.later HW.out).at_ hlt
      have e1 : (i : Int) < rs.length := by omega
      unfold maxLen at h3
      go_wp2
      go_roundw
      case rel => exact ⟨i + 1, _, by omega, rfl, by go_num, HW.out⟩
      case measure => simp [intOf]; omega
    · have e1 : ¬ (i : Int) < rs.length := by omega
      have L9 := hide (light9 n p es cap wr (HH.out.later HW.out))
      obtain ⟨q0, q1, _, _⟩ := HA.out.later HW.out
      go_wp2_with fail
      refine L9.out.mono ?_
      rintro e w1 ⟨rfl, hb1⟩
      have HB1 := hide (below_step (below_step HB.out HW.out) hb1)
      obtain ⟨q2, q3, _, _⟩ := HA.out.later (below_step HW.out hb1)
      clear hb1 L9 q0 q1
      cases hlb : lightB n es
      · go_wp2
        go_ret
        exact ⟨⟨_, rfl, fun e => by first | cases e | simp at e⟩, HB1.out⟩
      · have HLB := hide hlb
        by_cases hn : n ≤ 200
        · go_wp2
          all_goals go_ret
          all_goals exact ⟨⟨_, rfl, fun _ => HLB.out⟩, HB1.out⟩
        · have hn' : 200 < n := by omega
          go_wp2
          all_goals go_ret
          all_goals exact ⟨⟨_, rfl, fun _ => HLB.out⟩, HB1.out⟩
set_option maxRecDepth 100000 in
set_option maxHeartbeats 32000000 in
theorem all_walk (n : Int) (p : Option Addr) (es : List Pt) (cp : Nat) (q : Option Addr) (rs : List (List Int)) (cq : Nat) (pk : Option Addr) (lk : List Int) (ck : Nat) (po : Option Addr) (lo : List Int) (co : Nat) (w : World) (h : Has w p es) (hnil : p = none → cp = 0) (hr : RHas w q rs) (hn : (rs.length + 1) * 24 ≤ 140737488355328) (hl : ∀ v, v < rs.length → ((lat rs v).length + 1) * 8 ≤ 140737488355328) (hk : IHas w pk lk) (ho : IHas w po lo) (bk : lk.length * 8 ≤ 140737488355328) (bo : lo.length * 8 ≤ 140737488355328) : Calls Try.prog 3 #[nv n p es.length cp, .slice q rs.length cq, .slice pk lk.length ck, .slice po lo.length co] w fun e w' => e = .returned (.bool true) ∧ Below w.heap.size w w' := by
  obtain ⟨W, hW, hb0, a0⟩ := one_net w n p es.length cp
  have BG := hide (begun8 W)
  have HB0 := hide hb0
  have HA0 := hide a0
  have HH := hide (h.later hb0)
  have HR := hide (hr.later hb0)
  have HK := hide (hk.later hb0)
  have HO := hide (ho.later hb0)
  have HLL := hide hl
  have lm : rs.length ≤ maxLen := by unfold maxLen; omega
  have HLM := hide lm
  clear h hr hk ho hb0 a0 hl lm
  go_enter Try.func3, Try.ntmps3
  go_wp2_with fail
  rw [← hW]
  clear hW
  obtain ⟨kg, hkg⟩ : ∃ k, w.heap.size = k := ⟨_, rfl⟩
  have HKG := hide hkg
  rw [hkg] at HA0
  try rw [hkg]
  clear hkg
  refine BG.out.mono ?_
  rintro r w1 ⟨rfl, hb1⟩
  have HB1 := hide hb1
  have L1 := hide (light9s n p es cp q rs cq w1 (HH.out.later hb1) (HR.out.later hb1) HLM.out)
  obtain ⟨g0, g1, _, _⟩ := HA0.out.later hb1
  clear hb1 BG
  go_wp2_with fail
  refine L1.out.mono ?_
  rintro r w2 ⟨⟨x1, rfl, hlight⟩, hb2⟩
  have HB2 := hide (below_step HB1.out hb2)
  have HLT := hide hlight
  clear hb2 L1 g0 g1 hlight
  have d0 : IntKind.i64.wrap ((lk.length : Int) + lo.length) = (lk.length : Int) + lo.length := by rw [IntKind.wrap_i64]; omega
  cases x1
  · go_wp2
    go_ret
    exact ⟨rfl, below_step HB0.out HB2.out⟩
  have hlb := HLT.out rfl
  have hes : es.length ≤ 300 := by
    unfold lightB at hlb
    simp at hlb
    exact hlb.1
  clear hlb HLT
  by_cases hbig : (lk.length : Int) + lo.length > 600
  · go_wp2
    go_ret
    exact ⟨rfl, below_step HB0.out HB2.out⟩
  obtain ⟨g0, g1, _, _⟩ := HA0.out.later HB2.out
  have MR := hide (mayR10 n p es cp q rs cq w2 (HH.out.later HB2.out) (HR.out.later HB2.out) HLM.out)
  obtain ⟨x, hx⟩ : ∃ x, rotI n es rs = x := ⟨_, rfl⟩
  have HX := hide hx
  rw [hx] at MR
  clear hx
  go_wp2_with fail
  refine MR.out.mono ?_
  rintro r w3 ⟨rfl, hb3⟩
  have HB3 := hide (below_step HB2.out hb3)
  clear hb3 MR g0 g1
  obtain ⟨g0, g1, _, _⟩ := HA0.out.later HB3.out
  have TW := hide (twin11 n p es cp w3 hnil (by omega) (HH.out.later HB3.out))
  go_wp2_with fail
  refine TW.out.mono ?_
  rintro e w4 ⟨gt, ct, rfl, hot, hct, hb4⟩
  have HB4 := hide (below_step HB3.out hb4)
  have OT4 := hide hot
  have HCT := hide hct
  clear hb4 hot hct TW g0 g1
  have TR := hide (twin13 q rs cq w4 (HR.out.later HB4.out) hn HLL.out)
  go_wp2_with fail
  refine TR.out.mono ?_
  rintro e w5 ⟨gr, cr, rvr, rfl, htr, hb5⟩
  have HB5 := hide (below_step HB4.out hb5)
  have OT5 := hide (OT4.out.later hb5)
  have HTR5 := hide htr
  clear hb5 htr TR OT4
  obtain ⟨U, hU⟩ : ∃ X, X = w5.alloc (nbx n (some ⟨gt, 0, none⟩) es.length ct) := ⟨_, rfl⟩
  have hbU : Below w5.heap.size w5 U := by rw [hU]; go_grown
  have SHU : Hid (NOwn U w5.heap.size n (some ⟨gt, 0, none⟩) es.length ct) := by show NOwn _ _ _ _ _ _; rw [hU]; exact ⟨by unfold nbx; go_cell, by unfold nbx; go_cell, by unfold nbx; go_cell, by unfold nbx; go_cell⟩
  have hUs : U.heap.size = w5.heap.size + 1 := by rw [hU]; simp
  obtain ⟨X, hX⟩ : ∃ X, X = U.alloc (.cells #[.slice none 0 0, .int .i64 0] 36) := ⟨_, rfl⟩
  have hbX : Below U.heap.size U X := by rw [hX]; go_grown
  have HBAG : Hid (BagE X U.heap.size U.heap.size) := ⟨.slice none 0 0, 0, fun _ => .slice none 0 0, fun _ => [], 0, by rw [hX]; exact World.ownsRow_lit U #[.slice none 0 0, .int .i64 0] 1 (Nat.zero_le _) (by unfold maxLen; omega) rfl, Nat.le_refl _, World.ownsRow_nil _ _ _ _, fun u v j hu => by omega, fun v hv => by omega, fun v hv => by omega, by omega, by omega⟩
  have HXB := hide hbX
  have HBU := hide (below_step HB5.out hbU)
  have HLU : Hid (Lies U gt 0 (es ++ [mk])) := by
    have := OT5.out.later hbU
    rw [show es.length + 1 = (es ++ [mk]).length by simp] at this
    exact this.lies
  have HTU := hide (HTR5.out.later hbU)
  have HHU : Hid (Has U (some ⟨gt, 0, none⟩) es) := Or.inr ⟨gt, 0, rfl, lies_left HLU.out⟩
  have HGU := hide (HH.out.later HBU.out)
  have HRU := hide (HR.out.later HBU.out)
  have HKU := hide (HK.out.later HBU.out)
  have HOU := hide (HO.out.later HBU.out)
  have HRT : Hid (RHas U (some ⟨gr, 0, none⟩) rs) := HTU.out.fb.has fun v hv => by have := HLL.out v hv; unfold maxLen; omega
  have HAU := hide (HA0.out.later HBU.out)
  go_upto_region 8 with fail
  rw [← hU, ← hX]
  try rw [← hUs]
  obtain ⟨kh, hkh⟩ : ∃ k, w5.heap.size = k := ⟨_, rfl⟩
  rw [hkh] at SHU
  try rw [hkh]
  obtain ⟨B, hB⟩ : ∃ B, U.heap.size = B := ⟨_, rfl⟩
  have HBE := hide hB
  have HTL : Hid (∀ V, Below U.heap.size U V → BagE V U.heap.size B → Calls Try.prog 14 #[nv n (some ⟨gt, 0, none⟩) es.length ct, .slice (some ⟨gr, 0, none⟩) rs.length cr, nv n p es.length cp, .slice q rs.length cq, .int .i64 x, .pointer (some ⟨B, 0, none⟩)] V fun e w' => e = .returned (.bool true) ∧ Below U.heap.size U w' ∧ BagE w' U.heap.size B) := fun V hV hg => by
    have := told_all U B n (some ⟨gt, 0, none⟩) p es ct cp (some ⟨gr, 0, none⟩) q rs cr cq HHU.out HGU.out HRT.out HRU.out V hV hg
    rw [HX.out] at this
    exact this
  have HMD : Hid (∀ V, Below U.heap.size U V → BagE V U.heap.size B → Calls Try.prog 15 #[nv n (some ⟨gt, 0, none⟩) es.length ct, .slice (some ⟨gr, 0, none⟩) rs.length cr, nv n p es.length cp, .slice q rs.length cq, .slice pk lk.length ck, .slice po lo.length co, .int .i64 x, .pointer (some ⟨B, 0, none⟩)] V fun e w' => e = .returned (.bool true) ∧ Below U.heap.size U w' ∧ BagE w' U.heap.size B) := fun V hV hg => by
    have := made_all U B n (some ⟨gt, 0, none⟩) p es ct cp (some ⟨gr, 0, none⟩) q rs cr cq pk po lk lo ck co HHU.out HGU.out HRT.out HRU.out HKU.out HOU.out (by omega) (by omega) hnil V hV hg
    rw [HX.out] at this
    exact this
  have HMY : Hid (∀ V, Below U.heap.size U V → Calls Try.prog 13 #[nv n (some ⟨gt, 0, none⟩) es.length ct, .slice (some ⟨gr, 0, none⟩) rs.length cr] V fun e w' => e = .returned (.int .i64 x) ∧ Below V.heap.size V w') := fun V hV => by
    have := mayR13 n (some ⟨gt, 0, none⟩) es ct (some ⟨gr, 0, none⟩) rs cr V (HHU.out.later hV) (HRT.out.later hV)
    rw [HX.out] at this
    exact this
  have HK1 : Hid (∀ V, Below U.heap.size U V → Calls Try.prog 16 #[nv n (some ⟨gt, 0, none⟩) es.length ct, nv n p es.length cp] V fun e w' => e = .returned (.bool true) ∧ Below V.heap.size V w') := fun V hV => kept17 n gt ct p es cp V (by omega) HCT.out (HLU.out.later hV) (HGU.out.later hV)
  have HK2 : Hid (∀ V, Below U.heap.size U V → Calls Try.prog 17 #[.slice (some ⟨gr, 0, none⟩) rs.length cr, .slice q rs.length cq] V fun e w' => e = .returned (.bool true) ∧ Below V.heap.size V w') := fun V hV => kept23 w4.heap.size gr cr rvr q rs cq V (HTU.out.later hV) (HRU.out.later hV) hn HLL.out
  have HCE : Hid (∀ V, Below U.heap.size U V → (V.cell? ⟨kh, 0, none⟩ = some (.int .i64 n) ∧ V.cell? ⟨kh, 1, none⟩ = some (.slice (some ⟨gt, 0, none⟩) es.length ct)) ∧ V.cell? ⟨kg, 0, none⟩ = some (.int .i64 n) ∧ V.cell? ⟨kg, 1, none⟩ = some (.slice p es.length cp)) := fun V hV => by
    obtain ⟨a0, a1, _, _⟩ := SHU.out.later hV
    obtain ⟨b0, b1, _, _⟩ := HAU.out.later hV
    exact ⟨⟨a0, a1⟩, b0, b1⟩
  have HBG0 : Hid (Below U.heap.size U X ∧ BagE X U.heap.size B) := ⟨HXB.out, by rw [← hB]; exact HBAG.out⟩
  have HEND : Hid (∀ V, Below U.heap.size U V → Below w.heap.size w V) := fun V hV => below_step HB0.out (below_step HBU.out hV)
  have t1 : (x != x) = false := by simp
  try rw [hB]
  clear hU hX hUs hkh hbU hbX hB HBAG HXB HHU HGU HRT HRU HKU HOU HLU HTU HTR5 OT5 hbig d0
  go_wp2_with fail
  go_loopw [13] (fun t wr => ∃ i : Nat, i ≤ 2 ∧ t = .int .i64 i ∧ Hid (Below U.heap.size U wr ∧ BagE wr U.heap.size B)) (fun t _ => 2 - (intOf t).toNat)
  case atStart => exact ⟨0, by omega, rfl, HBG0.out⟩
  case round =>
    obtain ⟨i, hi, rfl, HBG⟩ := hrel
    clear HBG0
    by_cases hlt : i < 2
    · have i1 : (i : Int) < 2 := by omega
      obtain ⟨⟨a0, a1⟩, b0, b1⟩ := HCE.out _ HBG.out.1
      have K1 := hide (HMY.out _ HBG.out.1)
      go_wp2_with fail
      refine K1.out.mono ?_
      rintro r v1 ⟨rfl, hb⟩
      have HG1 : Hid (Below U.heap.size U v1 ∧ BagE v1 U.heap.size B) := ⟨below_step HBG.out.1 hb, HBG.out.2.later hb⟩
      clear hb K1 a0 a1 b0 b1
      obtain ⟨⟨a0, a1⟩, b0, b1⟩ := HCE.out _ HG1.out.1
      have K2 := hide (HTL.out _ HG1.out.1 HG1.out.2)
      go_wp2_with fail
      refine K2.out.mono ?_
      rintro r v2 ⟨rfl, hb⟩
      have HG2 : Hid (Below U.heap.size U v2 ∧ BagE v2 U.heap.size B) := hb
      clear hb K2 a0 a1 b0 b1
      obtain ⟨⟨a0, a1⟩, b0, b1⟩ := HCE.out _ HG2.out.1
      have K3 := hide (HMD.out _ HG2.out.1 HG2.out.2)
      go_wp2_with fail
      refine K3.out.mono ?_
      rintro r v3 ⟨rfl, hb⟩
      have HG3 : Hid (Below U.heap.size U v3 ∧ BagE v3 U.heap.size B) := hb
      clear hb K3 a0 a1 b0 b1
      obtain ⟨⟨a0, a1⟩, b0, b1⟩ := HCE.out _ HG3.out.1
      have K4 := hide (HK1.out _ HG3.out.1)
      go_wp2_with fail
      refine K4.out.mono ?_
      rintro r v4 ⟨rfl, hb⟩
      have HG4 : Hid (Below U.heap.size U v4 ∧ BagE v4 U.heap.size B) := ⟨below_step HG3.out.1 hb, HG3.out.2.later hb⟩
      clear hb K4 a0 a1 b0 b1
      have K5 := hide (HK2.out _ HG4.out.1)
      go_wp2_with fail
      refine K5.out.mono ?_
      rintro r v5 ⟨rfl, hb⟩
      have HG5 : Hid (Below U.heap.size U v5 ∧ BagE v5 U.heap.size B) := ⟨below_step HG4.out.1 hb, HG4.out.2.later hb⟩
      clear hb K5
      go_wp2
      go_roundw
      case rel => exact ⟨i + 1, by omega, by go_num, HG5.out⟩
      case measure => simp [intOf]; omega
    · have i1 : ¬ (i : Int) < 2 := by omega
      obtain ⟨lv, m, rv, L, sz, hbg⟩ := HBG.out.2
      have AP := hide (apart24 U.heap.size B wr hbg HBG.out.1.size)
      clear hbg
      go_wp2_with fail
      refine AP.out.mono ?_
      rintro r v1 ⟨rfl, hb⟩
      have HE := hide (HEND.out _ (HBG.out.1.trans hb))
      clear hb AP
      go_wp2
      go_ret
      exact ⟨rfl, HE.out⟩
end Go.Proofs.Ytllkadgpkbaghaa
