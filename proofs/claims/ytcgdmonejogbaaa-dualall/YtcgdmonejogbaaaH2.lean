/- dual.nearer, in every world; distances over faces are right. -/
import Derived.Test.YtcgdmonejogbaaaW8
/- dual.distances and nearer, in every world; breadth first over faces, as a function. -/
namespace Go.Proofs.Ytcgdmonejogbaaa
open Go.RowKit Go.Sort
open Go
/-- Across a half-edge. -/
def acr (O : List Int) (h : Int) : Nat := (iat O (tw h.toNat)).toNat
/-- The first j half-edges of a face, from the face x. -/
def dIn (O f : List Int) (x : Nat) : Nat → List Int × List Int → List Int × List Int
  | 0, s => s
  | j + 1, s => if iat (dIn O f x j s).1 (acr O (iat f j)) < 0 then ((dIn O f x j s).1.set (acr O (iat f j)) (iat (dIn O f x j s).1 x + 1), (dIn O f x j s).2 ++ [(acr O (iat f j) : Int)]) else dIn O f x j s
/-- The faces of the row from the i-th on. -/
def dOut (F : List (List Int)) (O : List Int) : Nat → Nat → List Int × List Int → List Int × List Int
  | 0, _, s => s
  | k + 1, i, s => if i < s.2.length then dOut F O k (i + 1) (dIn O (lat F (iat s.2 i).toNat) (iat s.2 i).toNat (lat F (iat s.2 i).toNat).length s) else s
def dist (F : List (List Int)) (O : List Int) (too : Nat) : List Int := (dOut F O (F.length + 1) 0 ((List.replicate F.length (-1)).set too 0, [(too : Int)])).1
/-- What is known of the numbers of faces. -/
structure Fc (F : List (List Int)) (O : List Int) : Prop where
  len : ∀ f, f < F.length → ∀ k, k < (lat F f).length → ∃ x : Nat, iat (lat F f) k = x ∧ x < O.length ∧ iat O x = f
  on : ∀ x, x < O.length → ∃ f k, f < F.length ∧ k < (lat F f).length ∧ iat (lat F f) k = (x : Int) ∧ iat O x = (f : Nat)
  even : ∃ m, O.length = 2 * m
theorem Fc.acr {F : List (List Int)} {O : List Int} (h : Fc F O) {f k : Nat} (hf : f < F.length) (hk : k < (lat F f).length) : acr O (iat (lat F f) k) < F.length ∧ iat O (tw (iat (lat F f) k).toNat) = (acr O (iat (lat F f) k) : Nat) ∧ tw (iat (lat F f) k).toNat < O.length := by
  obtain ⟨x, e, hx, _⟩ := h.len f hf k hk
  obtain ⟨m, hm⟩ := h.even
  have ht : tw x < O.length := by rw [hm] at hx ⊢; exact tw_lt hx
  obtain ⟨g, j, hg, hj, _, e2⟩ := h.on (tw x) ht
  unfold Ytcgdmonejogbaaa.acr
  rw [e, Int.toNat_natCast, e2, Int.toNat_natCast]
  exact ⟨hg, rfl, ht⟩
/-- The marks and the row agree. -/
structure Dok (F : List (List Int)) (s : List Int × List Int) : Prop where
  len : s.1.length = F.length
  row : ∀ i, i < s.2.length → ∃ x : Nat, iat s.2 i = x ∧ x < F.length ∧ 0 ≤ iat s.1 x
  bnd : ∀ x, x < F.length → -1 ≤ iat s.1 x ∧ iat s.1 x ≤ F.length
  cnt : s.2.length + unl s.1 ≤ F.length
  top : ∀ x, x < F.length → 0 ≤ iat s.1 x → iat s.1 x + 1 ≤ s.2.length
theorem Dok.put {F : List (List Int)} {s : List Int × List Int} (h : Dok F s) {b x : Nat} (hb : b < F.length) (hx : x < F.length) (hn : iat s.1 b < 0) (h0 : 0 ≤ iat s.1 x) : Dok F (s.1.set b (iat s.1 x + 1), s.2 ++ [(b : Int)]) := by
  have hl := h.len
  have hu := unl_set s.1 b (iat s.1 x + 1) (by omega) (by omega) (by omega)
  have hc := h.cnt
  have ht := h.top x hx h0
  have at_ : ∀ y, y < F.length → iat (s.1.set b (iat s.1 x + 1)) y = if b = y then iat s.1 x + 1 else iat s.1 y := fun y hy => iat_set _ _ _ _ (by omega)
  refine ⟨by simp [hl], fun i hi => ?_, fun y hy => ?_, by simp; omega, fun y hy h1 => ?_⟩
  · simp only [List.length_append, List.length_singleton] at hi
    by_cases hil : i < s.2.length
    · obtain ⟨y, e, hy, hy0⟩ := h.row i hil
      refine ⟨y, ?_, hy, ?_⟩
      · unfold iat at e ⊢
        rw [List.getD_eq_getElem?_getD] at e ⊢
        rw [List.getElem?_append, if_pos hil]
        exact e
      · show 0 ≤ iat (s.1.set b (iat s.1 x + 1)) y
        rw [at_ y hy]
        split <;> omega
    · have : i = s.2.length := by omega
      subst this
      refine ⟨b, ?_, hb, ?_⟩
      · unfold iat
        rw [List.getD_eq_getElem?_getD]
        simp
      · show 0 ≤ iat (s.1.set b (iat s.1 x + 1)) b
        rw [at_ b hb, if_pos rfl]; omega
  · have := h.bnd y hy
    show -1 ≤ iat (s.1.set b (iat s.1 x + 1)) y ∧ iat (s.1.set b (iat s.1 x + 1)) y ≤ F.length
    rw [at_ y hy]
    split <;> omega
  · have h1 : 0 ≤ iat (s.1.set b (iat s.1 x + 1)) y := h1
    show iat (s.1.set b (iat s.1 x + 1)) y + 1 ≤ ((s.2 ++ [(b : Int)]).length : Nat)
    rw [at_ y hy] at h1 ⊢
    simp
    split
    · omega
    · rename_i hne
      rw [if_neg hne] at h1
      have := h.top y hy h1
      omega
theorem Dok.dIn {F : List (List Int)} {O : List Int} {s : List Int × List Int} (fc : Fc F O) (h : Dok F s) {x : Nat} (hx : x < F.length) (h0 : 0 ≤ iat s.1 x) : ∀ j, j ≤ (lat F x).length → Dok F (dIn O (lat F x) x j s) ∧ iat (dIn O (lat F x) x j s).1 x = iat s.1 x
  | 0, _ => ⟨h, rfl⟩
  | j + 1, hj => by
    obtain ⟨ih, ie⟩ := Dok.dIn fc h hx h0 j (by omega)
    obtain ⟨hb, _⟩ := fc.acr hx (show j < (lat F x).length by omega)
    unfold Ytcgdmonejogbaaa.dIn
    by_cases hn : iat (Ytcgdmonejogbaaa.dIn O (lat F x) x j s).1 (acr O (iat (lat F x) j)) < 0
    · rw [if_pos hn]
      refine ⟨ih.put hb hx hn (by omega), ?_⟩
      show iat ((Ytcgdmonejogbaaa.dIn O (lat F x) x j s).1.set _ _) x = _
      rw [iat_set _ _ _ _ (by rw [ih.len]; exact hx), if_neg, ie]
      intro e
      rw [e] at hn
      omega
    · rw [if_neg hn]; exact ⟨ih, ie⟩
theorem dIn_keeps (O f : List Int) (x : Nat) (s : List Int × List Int) : ∀ j, s.2.length ≤ (dIn O f x j s).2.length ∧ ∀ i, i < s.2.length → iat (dIn O f x j s).2 i = iat s.2 i
  | 0 => ⟨Nat.le_refl _, fun _ _ => rfl⟩
  | j + 1 => by
    obtain ⟨h1, h2⟩ := dIn_keeps O f x s j
    unfold dIn
    split
    · refine ⟨by simp; omega, fun i hi => ?_⟩
      rw [← h2 i hi]
      show iat ((dIn O f x j s).2 ++ _) i = _
      unfold iat
      rw [List.getD_eq_getElem?_getD, List.getElem?_append, if_pos (by omega), List.getD_eq_getElem?_getD]
    · exact ⟨h1, h2⟩
theorem dok_start {F : List (List Int)} {too : Nat} (h : too < F.length) : Dok F ((List.replicate F.length (-1)).set too 0, [(too : Int)]) := by
  have at_ : ∀ y, y < F.length → iat ((List.replicate F.length (-1)).set too 0) y = if too = y then 0 else -1 := fun y hy => by
    rw [iat_set _ _ _ _ (by simpa using hy), iat_fill hy]
  have hu := unl_set (List.replicate F.length (-1)) too 0 (by simpa using h) (by rw [iat_fill h]; omega) (by omega)
  have hu2 := unl_le (List.replicate F.length (-1))
  rw [List.length_replicate] at hu2
  refine ⟨by simp, fun i hi => ?_, fun y hy => ?_, by simp; omega, fun y hy h1 => ?_⟩
  · simp at hi
    subst hi
    exact ⟨too, rfl, h, by show 0 ≤ iat ((List.replicate F.length (-1)).set too 0) too; rw [at_ too h, if_pos rfl]; omega⟩
  · show -1 ≤ iat ((List.replicate F.length (-1)).set too 0) y ∧ iat ((List.replicate F.length (-1)).set too 0) y ≤ F.length
    rw [at_ y hy]
    split <;> omega
  · show iat ((List.replicate F.length (-1)).set too 0) y + 1 ≤ _
    rw [at_ y hy]
    simp
    split <;> omega
/-- The marks and the row in memory. -/
structure DM (w : World) (B g n : Nat) (s : List Int × List Int) (rv : Value) : Prop where
  far : IRow w B g n s.1
  row : IOwns w B rv s.2
  ne : rv.ownBlock ≠ some g
theorem DM.later {w w' : World} {B g n : Nat} {s : List Int × List Int} {rv : Value} (h : DM w B g n s rv) (hb : Below w.heap.size w w') : DM w' B g n s rv := ⟨h.far.later hb, h.row.later hb, h.ne⟩
theorem DM.set {w : World} {B g n : Nat} {s : List Int × List Int} {rv : Value} (h : DM w B g n s rv) (b : Nat) (x : Int) : DM (w.setCell ⟨g, b, none⟩ (.int .i64 x)) B g n (s.1.set b x, s.2) rv := ⟨h.far.set b x, ownsRow_setCell_other (a := ⟨g, b, none⟩) h.row h.ne _, h.ne⟩
theorem owns_lit (w : World) (x : Int) : IOwns (w.alloc (.cells #[.int .i64 x] 3)) w.heap.size (.slice (some ⟨w.heap.size, 0, none⟩) 1 1) [x] := ⟨rfl, Or.inr ⟨w.heap.size, 1, _, rfl, Nat.le_refl _, heap_alloc_new w _, Nat.le_refl _, by unfold maxLen; omega, rfl, rfl⟩⟩
set_option maxRecDepth 100000 in
theorem DM.push {w : World} {B g n : Nat} {s : List Int × List Int} {rv : Value} (h : DM w B g n s rv) (x : Int) (hB : B ≤ w.heap.size) (hl : s.2.length ≤ 90000) : ∃ p1 c1 D, (Builtin.append_ #[44, 44] 44 #[rv, .slice (some ⟨w.heap.size, 0, none⟩) 1 1]).run Try.prog (w.alloc (.cells #[.int .i64 x] 3)) = .ok (.slice p1 (s.2.length + 1) c1) D ∧ DM D B g n (s.1, s.2 ++ [x]) (.slice p1 (s.2.length + 1) c1) ∧ Below B w D := by
  have hb1 : Below w.heap.size w (w.alloc (.cells #[.int .i64 x] 3)) := by go_grown
  have h1 := h.later hb1
  have hB1 : B ≤ (w.alloc (.cells #[.int .i64 x] 3)).heap.size := Nat.le_trans hB hb1.size
  obtain ⟨v1, D, e1, o1, gr, at1⟩ := append_int h1.row (one_int w x) hB1 hl
  obtain ⟨p1, c1, hv1, _⟩ := o1.form
  have hlen : (s.2 ++ [x]).length = s.2.length + 1 := by simp
  rw [hlen] at hv1
  subst hv1
  have hg := h1.far.lt.2
  refine ⟨p1, c1, D, e1, ⟨⟨h1.far.1, World.ownsRow.kept h1.far.2 gr (Or.inr fun e => h.ne (by rw [← e]; rfl))⟩, o1, fun e => ?_⟩, below_grown (hb1.mono hB) h1.row (Nat.le_refl _) hB1 gr⟩
  rcases at1 with e2 | e2
  · exact h.ne (by rw [← e2]; exact e)
  · rw [e2] at e
    injection e with e
    omega
set_option maxRecDepth 100000 in
set_option maxHeartbeats 16000000 in
theorem distances59 (p1 t : Option Addr) (F : List (List Int)) (c1 : Nat) (O : List Int) (co too : Nat) (w : World) (hF : RHas w p1 F) (hO : IHas w t O) (hfl : F.length ≤ 10000) (hOl : O.length ≤ 90000) (hl : ∀ f, f < F.length → (lat F f).length ≤ 90000) (fc : Fc F O) (hto : too < F.length) : Calls Try.prog 59 #[.slice p1 F.length c1, .slice t O.length co, .int .i64 too] w fun e w' => ∃ g, e = .returned (.slice (some ⟨g, 0, none⟩) F.length F.length) ∧ IRow w' w.heap.size g F.length (dist F O too) ∧ Below w.heap.size w w' := by
  obtain ⟨W, hW⟩ : ∃ W, W = w.alloc (.cells #[.int .i64 (-1)] 3) := ⟨_, rfl⟩
  have hbW : Below w.heap.size w W := by rw [hW]; go_grown
  have RP := hide (repeat52 w.heap.size F.length (-1) W (by omega) (by rw [hW]; go_cell))
  have HF := hide (hF.later hbW)
  have HO := hide (hO.later hbW)
  have HLL := hide hl
  have HFC := hide fc
  have HBW := hide hbW
  have HD : Hid (dist F O too = (dOut F O (F.length + 1) 0 ((List.replicate F.length (-1)).set too 0, [(too : Int)])).1) := rfl
  obtain ⟨R, hR⟩ : ∃ R, dOut F O (F.length + 1) 0 ((List.replicate F.length (-1)).set too 0, [(too : Int)]) = R := ⟨_, rfl⟩
  rw [hR] at HD
  have HRR := hide hR
  clear hF hO hl fc hbW hR
  go_enter Try.func59, Try.ntmps59
  go_wp2_with fail
  rw [← hW]
  clear hW
  refine RP.out.mono ?_
  rintro e w1 ⟨g, rfl, hrow, hb1⟩
  have HB1 := hide hb1
  have HR1 := hide hrow
  obtain ⟨d0, f0⟩ := hrow.cell hto
  have e1 : (too : Int) < F.length := by omega
  obtain ⟨Z, hZ⟩ : ∃ Z, Z = w1.setCell ⟨g, too, none⟩ (.int .i64 0) := ⟨_, rfl⟩
  have HRZ : Hid (IRow Z W.heap.size g F.length ((List.replicate F.length (-1)).set too 0)) := by show IRow _ _ _ _ _; rw [hZ]; exact hrow.set too 0
  have HBZ : Hid (Below W.heap.size W Z) := by show Below _ _ _; rw [hZ]; exact hb1.setCell (p := ⟨g, too, none⟩) hrow.lt.1 _
  clear hrow hb1 RP
  go_upto_region 3 with fail
  rw [← hZ]
  clear hZ d0 f0
  obtain ⟨U, hU⟩ : ∃ U, U = Z.alloc (.cells #[.int .i64 too] 3) := ⟨_, rfl⟩
  have hbU : Below Z.heap.size Z U := by rw [hU]; go_grown
  obtain ⟨kr, hkr⟩ : ∃ k, Z.heap.size = k := ⟨_, rfl⟩
  have HDM : Hid (DM U W.heap.size g F.length ((List.replicate F.length (-1)).set too 0, [(too : Int)]) (.slice (some ⟨kr, 0, none⟩) 1 1)) := by
    refine ⟨HRZ.out.later hbU, ?_, ?_⟩
    · rw [hU, ← hkr]
      exact (owns_lit Z too).base HBZ.out.size
    · intro e
      have := HRZ.out.lt.2
      simp only [Value.ownBlock, Option.some.injEq] at e
      omega
  have HBU := hide (below_step HBZ.out hbU)
  have HOK : Hid (Dok F ((List.replicate F.length (-1)).set too 0, [(too : Int)])) := dok_start hto
  go_upto_region 4 with fail
  rw [← hU]
  try rw [hkr]
  clear hU hbU hkr HRZ HBZ
  go_wp2_with fail
  go_loopg [8, 9] (F.length + 1) (fun gk t8 t9 wr => ∃ (s : List Int × List Int) (i : Nat) (p8 : Option Addr) (c8 : Nat), i ≤ s.2.length ∧ t8 = .slice p8 s.2.length c8 ∧ t9 = .int .i64 i ∧ Hid (dOut F O gk i s = R) ∧ Hid (F.length - i < gk) ∧ Hid (Dok F s) ∧ Hid (Below W.heap.size W wr) ∧ Hid (DM wr W.heap.size g F.length s (.slice p8 s.2.length c8)))
  case atStart => exact ⟨_, 0, some ⟨kr, 0, none⟩, 1, by simp, rfl, rfl, HRR.out, by show _ < _; omega, HOK.out, HBU.out, HDM.out⟩
  case round =>
    obtain ⟨s, i, p8, c8, hi, rfl, rfl, HTI, HUN, HOKr, HBr, HDr⟩ := hrel
    clear HBU HDM HOK HRR
    obtain ⟨k, rfl⟩ : ∃ k, gk = k + 1 := ⟨gk - 1, by have := HUN.out; omega⟩
    have hcn := HOKr.out.cnt
    by_cases hlt : i < s.2.length
    · have hie : (i : Int) < s.2.length := by omega
      obtain ⟨x, ex, hxF, hx0⟩ := HOKr.out.row i hlt
      obtain ⟨pr, cr, er, mr, _⟩ := HDr.out.row.form
      injection er with er1 _ er3
      rw [← er1] at mr
      rcases mr with hn | ⟨b8, o8, rfl, l8⟩
      · rw [hn] at hlt; simp at hlt
      have d8 := l8 i hlt
      rw [ex] at d8
      obtain ⟨b1, o1, a1, k1, rfl, c0W, m1, z1, _⟩ := HF.out.at_ hxF
      have c0 := later HBr.out c0W
      have x1 : (x : Int) < F.length := by omega
      have hlx := HLL.out x hxF
      have HMX := hide m1
      have HTO : Hid (dOut F O k (i + 1) (dIn O (lat F x) x (lat F x).length s) = R) := by
        have := HTI.out
        unfold dOut at this
        rw [if_pos hlt, ex, Int.toNat_natCast] at this
        exact this
      have HIN := hide (fun j hj => HOKr.out.dIn HFC.out hxF hx0 j hj)
      have HKP := hide (dIn_keeps O (lat F x) x s)
      have HAC := hide (fun j (hj : j < (lat F x).length) => HFC.out.acr hxF hj)
      have HLN := hide (fun j (hj : j < (lat F x).length) => HFC.out.len x hxF j hj)
      have HEX := hide ex
      obtain ⟨f, hf⟩ : ∃ f, lat F x = f := ⟨_, rfl⟩
      rw [hf] at c0 HMX HTO HIN HKP HAC HLN hlx
      clear m1 z1 c0W l8 ex er1 er3 HTI hf
      go_wp2_with fail
      clear c0 d8
      go_loopw [8, 36] (fun t8 t36 wj => ∃ (j : Nat) (p9 : Option Addr) (c9 : Nat), j ≤ f.length ∧ t8 = .slice p9 (dIn O f x j s).2.length c9 ∧ t36 = .int .i64 j ∧ Hid (Below W.heap.size W wj) ∧ Hid (DM wj W.heap.size g F.length (dIn O f x j s) (.slice p9 (dIn O f x j s).2.length c9))) (fun _ t36 _ => f.length - (intOf t36).toNat)
      case atStart => exact ⟨0, some ⟨b8, o8, none⟩, c8, by omega, rfl, rfl, HBr.out, HDr.out⟩
      case round =>
        obtain ⟨j, p9, c9, hj, rfl, rfl, HBj, HDj⟩ := hrel
        clear HBr HDr
        obtain ⟨ok, okx⟩ := HIN.out j hj
        have okc := ok.cnt
        by_cases hjl : j < f.length
        · have j1 : (j : Int) < f.length := by omega
          obtain ⟨h, eh, hhO, _⟩ := HLN.out j hjl
          obtain ⟨hb, eb, htO⟩ := HAC.out j hjl
          rcases HMX.out.later HBj.out with hn | ⟨b2, o2, rfl, l2⟩
          · rw [hn] at hjl; simp at hjl
          rcases HO.out.later HBj.out with hn | ⟨b3, o3, rfl, l3⟩
          · rw [hn] at hhO; simp at hhO
          have d2 := l2 j hjl
          rw [eh] at d2 eb htO hb
          rw [Int.toNat_natCast] at eb htO
          have d3 := l3 _ htO
          rw [eb] at d3
          have HST : Hid (dIn O f x (j + 1) s = if iat (dIn O f x j s).1 (acr O (iat f j)) < 0 then ((dIn O f x j s).1.set (acr O (iat f j)) (iat (dIn O f x j s).1 x + 1), (dIn O f x j s).2 ++ [(acr O (iat f j) : Int)]) else dIn O f x j s) := rfl
          rw [eh] at HST
          obtain ⟨b, hbb⟩ : ∃ b, acr O (h : Int) = b := ⟨_, rfl⟩
          rw [hbb] at HST hb d3
          have hxo := xor_one h (by omega)
          rw [twn_tw] at hxo
          obtain ⟨th, hth⟩ : ∃ t, tw h = t := ⟨_, rfl⟩
          rw [hth] at d3 hxo htO
          obtain ⟨e0, f0⟩ := HDj.out.far.cell hb
          obtain ⟨e1, f1⟩ := HDj.out.far.cell hxF
          have b1' : (b : Int) < F.length := by omega
          have t1' : (th : Int) < O.length := by omega
          obtain ⟨pr, cr, er, mr, _⟩ := HDj.out.row.form
          injection er with er1 _ er3
          rw [← er1] at mr
          obtain ⟨kp1, kp2⟩ := HKP.out j
          have hil : i < (dIn O f x j s).2.length := by omega
          rcases mr with hn | ⟨b9, o9, rfl, l9⟩
          · rw [hn] at hil; simp at hil
          have d9 := l9 i hil
          rw [kp2 i hlt, HEX.out] at d9
          have i1 : (i : Int) < (dIn O f x j s).2.length := by omega
          have hbx := (ok.bnd x hxF)
          obtain ⟨T, hT⟩ : ∃ T, dIn O f x j s = T := ⟨_, rfl⟩
          rw [hT] at HST e0 e1 okx HDj okc i1 hbx ⊢
          obtain ⟨y, hy⟩ : ∃ y, iat T.1 b = y := ⟨_, rfl⟩
          obtain ⟨z, hz⟩ : ∃ z, iat T.1 x = z := ⟨_, rfl⟩
          rw [hy] at e0 HST
          rw [hz] at e1 HST hbx
          clear l2 l3 l9 eh eb hbb hth er1 er3 okx hz kp1 kp2
          by_cases hy0 : y < 0
          · rw [if_pos hy0] at HST
            obtain ⟨Z, hZ⟩ : ∃ Z, Z = wr.setCell ⟨g, b, none⟩ (.int .i64 (z + 1)) := ⟨_, rfl⟩
            have HDZ : Hid (DM Z W.heap.size g F.length (T.1.set b (z + 1), T.2) (.slice (some ⟨b9, o9, none⟩) T.2.length c9)) := by show DM _ _ _ _ _ _; rw [hZ]; exact HDj.out.set b (z + 1)
            have HBZ : Hid (Below W.heap.size W Z) := by show Below _ _ _; rw [hZ]; exact HBj.out.setCell (p := ⟨g, b, none⟩) HDj.out.far.lt.1 _
            go_upto_region 13 with fail
            rw [← hZ]
            clear hZ e0 e1 f0 f1 d2 d3 d9 HDj HBj
            obtain ⟨p5, c5, D, ea, dm5, bd5⟩ := HDZ.out.push b HBZ.out.size (show T.2.length ≤ 90000 by omega)
            have HBD : Hid (Below W.heap.size W D) := HBZ.out.trans bd5
            have HDD := hide dm5
            rw [← HST.out] at HDD
            have HLN2 : Hid ((dIn O f x (j + 1) s).2.length = T.2.length + 1) := by show _ = _; rw [HST.out]; simp
            clear dm5 bd5 HDZ HBZ hy0
            go_wp2_with (at_builtin; refine wpList_run_append rfl (.tmp 61) (.tmp 63) 44 rfl 44 rfl _ _ _ D rfl rfl ea ?_)
            go_roundw
            case rel => exact ⟨j + 1, p5, c5, by omega, by rw [HLN2.out], by go_num, HBD.out, by show DM _ _ _ _ _ _; rw [HLN2.out]; exact HDD.out⟩
            case measure => simp [intOf]; omega
          · rw [if_neg hy0] at HST
            go_wp2
            go_roundw
            case rel => exact ⟨j + 1, some ⟨b9, o9, none⟩, c9, by omega, by rw [HST.out], by go_num, HBj.out, by show DM _ _ _ _ _ _; rw [HST.out]; exact HDj.out⟩
            case measure => simp [intOf]; omega
        · have hje : j = f.length := by omega
          have j1 : ¬ (j : Int) < f.length := by omega
          have HUN2 : Hid (F.length - (i + 1) < k) := by
            show _ < _
            have := HUN.out
            have := (HKP.out j).1
            omega
          have HIE : Hid (i + 1 ≤ (dIn O f x j s).2.length) := by show _ ≤ _; have := (HKP.out j).1; omega
          have HOK2 := hide ok
          rw [← hje] at HTO
          clear hje hjl ok okx okc
          go_wp2
          go_roundg k
          case measure => omega
          case rel => exact ⟨dIn O f x j s, i + 1, p9, c9, HIE.out, rfl, by go_num, HTO.out, HUN2.out, HOK2.out, HBj.out, HDj.out⟩
    · have hie : ¬ (i : Int) < s.2.length := by omega
      have HE : Hid (R = s) := by
        have := HTI.out
        unfold dOut at this
        rw [if_neg hlt] at this
        exact this.symm
      have HFAR : Hid (IRow wr w.heap.size g F.length (dist F O too)) := by
        show IRow _ _ _ _ _
        rw [HD.out, HE.out]
        exact HDr.out.far.base HBW.out.size
      clear hlt
      go_wp2
      go_ret
      exact ⟨g, rfl, HFAR.out, below_step HBW.out HBr.out⟩
end Go.Proofs.Ytcgdmonejogbaaa
namespace Go.Proofs.Ytcgdmonejogbaaa
open Go.RowKit Go.Sort
open Go
/-- The least of the first j half-edges across which a face of that distance lies, or -1. -/
def nrF (O far f : List Int) (d : Int) : Nat → Int
  | 0 => -1
  | j + 1 => if iat far (acr O (iat f j)) = d ∧ (nrF O far f d j < 0 ∨ iat f j < nrF O far f d j) then iat f j else nrF O far f d j
theorem nrF_is {O far f : List Int} {d : Int} (hf : ∀ j, j < f.length → 0 ≤ iat f j) : ∀ j, j ≤ f.length → (nrF O far f d j = -1 ∧ ∀ i, i < j → iat far (acr O (iat f i)) ≠ d) ∨ (∃ i, i < j ∧ nrF O far f d j = iat f i ∧ iat far (acr O (iat f i)) = d ∧ ∀ k, k < j → iat far (acr O (iat f k)) = d → iat f i ≤ iat f k)
  | 0, _ => Or.inl ⟨rfl, fun i hi => by omega⟩
  | j + 1, hj => by
    have h0 := hf j (by omega)
    rcases nrF_is (O := O) (far := far) (d := d) hf j (by omega) with ⟨h1, h2⟩ | ⟨i, hi, h1, h2, h3⟩
    · unfold nrF
      by_cases hd : iat far (acr O (iat f j)) = d
      · rw [if_pos ⟨hd, Or.inl (by omega)⟩]
        refine Or.inr ⟨j, by omega, rfl, hd, fun k hk hkd => ?_⟩
        by_cases hkj : k = j
        · rw [hkj]; omega
        · exact absurd hkd (h2 k (by omega))
      · rw [if_neg (fun h => hd h.1)]
        refine Or.inl ⟨h1, fun i hi => ?_⟩
        by_cases hij : i = j
        · rw [hij]; exact hd
        · exact h2 i (by omega)
    · have hi0 := hf i (by omega)
      unfold nrF
      by_cases hc : iat far (acr O (iat f j)) = d ∧ (nrF O far f d j < 0 ∨ iat f j < nrF O far f d j)
      · rw [if_pos hc]
        have hlt : iat f j < iat f i := by rcases hc.2 with h | h <;> omega
        refine Or.inr ⟨j, by omega, rfl, hc.1, fun k hk hkd => ?_⟩
        by_cases hkj : k = j
        · rw [hkj]; omega
        · have := h3 k (by omega) hkd; omega
      · rw [if_neg hc]
        refine Or.inr ⟨i, by omega, h1, h2, fun k hk hkd => ?_⟩
        by_cases hkj : k = j
        · subst hkj
          rw [h1] at hc
          by_cases h9 : iat f k < iat f i
          · exact absurd ⟨hkd, Or.inr h9⟩ hc
          · omega
        · exact h3 k (by omega) hkd
set_option maxRecDepth 100000 in
set_option maxHeartbeats 16000000 in
theorem nearer60 (pf po pr : Option Addr) (O far f : List Int) (cf co cr : Nat) (d : Int) (w : World) (hf : IHas w pf f) (hO : IHas w po O) (hR : IHas w pr far) (hl : f.length ≤ 90000) (hOl : O.length ≤ 90000) (hok : ∀ j, j < f.length → 0 ≤ iat f j ∧ iat f j < O.length ∧ tw (iat f j).toNat < O.length ∧ iat O (tw (iat f j).toNat) = (acr O (iat f j) : Nat) ∧ acr O (iat f j) < far.length) : Calls Try.prog 60 #[.slice pf f.length cf, .slice po O.length co, .slice pr far.length cr, .int .i64 d] w fun e w' => e = .returned (.int .i64 (nrF O far f d f.length)) ∧ Below w.heap.size w w' := by
  have HF := hide hf
  have HO := hide hO
  have HR := hide hR
  have HOK := hide hok
  obtain ⟨R, hRR⟩ : ∃ R, nrF O far f d f.length = R := ⟨_, rfl⟩
  rw [hRR]
  have HRR := hide hRR
  clear hf hO hR hok hRR
  go_enter Try.func60, Try.ntmps60
  go_wp2_with fail
  go_loopw [9, 14] (fun t9 t14 wr => ∃ j : Nat, j ≤ f.length ∧ t9 = .int .i64 (nrF O far f d j) ∧ t14 = .int .i64 j ∧ Hid (Below w.heap.size w wr)) (fun _ t14 _ => f.length - (intOf t14).toNat)
  case atStart => exact ⟨0, by omega, rfl, rfl, Below.refl _ _⟩
  case round =>
    obtain ⟨j, hj, rfl, rfl, HB⟩ := hrel
    by_cases hjl : j < f.length
    · obtain ⟨h0, h1, h2, h3, h4⟩ := HOK.out j hjl
      rcases HF.out.later HB.out with hn | ⟨b1, o1, rfl, l1⟩
      · rw [hn] at hjl; simp at hjl
      rcases HO.out.later HB.out with hn | ⟨b2, o2, rfl, l2⟩
      · rw [hn] at h1; simp at h1; omega
      rcases HR.out.later HB.out with hn | ⟨b3, o3, rfl, l3⟩
      · rw [hn] at h4; simp at h4
      have HST : Hid (nrF O far f d (j + 1) = if iat far (acr O (iat f j)) = d ∧ (nrF O far f d j < 0 ∨ iat f j < nrF O far f d j) then iat f j else nrF O far f d j) := rfl
      have d1 := l1 j hjl
      have d2 := l2 _ h2
      rw [h3] at d2
      have d3 := l3 _ h4
      obtain ⟨h, hh⟩ : ∃ h : Nat, iat f j = h := ⟨(iat f j).toNat, by omega⟩
      rw [hh] at d1 d2 d3 HST h1 h2 h4
      rw [Int.toNat_natCast] at d2 h2
      have hxo := xor_one h (by omega)
      rw [twn_tw] at hxo
      obtain ⟨th, hth⟩ : ∃ t, tw h = t := ⟨_, rfl⟩
      rw [hth] at d2 hxo h2
      obtain ⟨b, hb⟩ : ∃ b, acr O (h : Int) = b := ⟨_, rfl⟩
      rw [hb] at d2 d3 HST h4
      obtain ⟨y, hy⟩ : ∃ y, iat far b = y := ⟨_, rfl⟩
      rw [hy] at d3 HST
      obtain ⟨z, hz⟩ : ∃ z, nrF O far f d j = z := ⟨_, rfl⟩
      rw [hz] at HST ⊢
      have j1 : (j : Int) < f.length := by omega
      have j2 : (th : Int) < O.length := by omega
      have j3 : (b : Int) < far.length := by omega
      clear l1 l2 l3 h0 h3 hh hth hb hy hz
      by_cases c1 : y = d
      · have t1 : (y == d) = true := by simp [c1]
        by_cases c2 : z < 0
        · rw [if_pos ⟨c1, Or.inl c2⟩] at HST
          clear c1
          go_wp2
          go_roundw
          case rel => exact ⟨j + 1, by omega, by rw [HST.out], by go_num, HB.out⟩
          case measure => simp [intOf]; omega
        · by_cases c3 : (h : Int) < z
          · rw [if_pos ⟨c1, Or.inr c3⟩] at HST
            clear c1
            go_wp2
            go_roundw
            case rel => exact ⟨j + 1, by omega, by rw [HST.out], by go_num, HB.out⟩
            case measure => simp [intOf]; omega
          · rw [if_neg (by omega)] at HST
            clear c1
            go_wp2
            go_roundw
            case rel => exact ⟨j + 1, by omega, by rw [HST.out], by go_num, HB.out⟩
            case measure => simp [intOf]; omega
      · have t1 : (y == d) = false := by simp [c1]
        rw [if_neg (fun h => c1 h.1)] at HST
        clear c1
        go_wp2
        go_roundw
        case rel => exact ⟨j + 1, by omega, by rw [HST.out], by go_num, HB.out⟩
        case measure => simp [intOf]; omega
    · have hje : j = f.length := by omega
      have j1 : ¬ (j : Int) < f.length := by omega
      rw [hje, HRR.out]
      clear hje hjl
      go_wp2
      go_ret
      exact ⟨rfl, HB.out⟩
end Go.Proofs.Ytcgdmonejogbaaa
