/- chosen: Sub and Part are the document's. -/
import Derived.Test.YtmmbbfmkhbengaaZ4
import Derived.Test.YtmmbbfmkhbengaaW5
namespace Go.Proofs.Ytmmbbfmkhbengaa
open Go.RowKit Go.Sort
open Go

theorem suA_len (n : Int) (es : List Pt) (l : List Int) : (suA n es l).length ≤ l.length := by
  unfold suA
  split
  · rw [pick_length]; exact Nat.le_refl _
  · simp
theorem paL_len (n : Int) (es : List Pt) (l : List Int) : (paL n es l).length ≤ es.length := by
  unfold paL
  split
  · exact takeN_length _ _
  · simp
theorem paA_len (n : Int) (es : List Pt) (l : List Int) : (paA n es l).length ≤ es.length := by
  unfold paA
  split
  · unfold partN; rw [rename_length, pick_length]; exact takeN_length _ _
  · simp
/-- A list's copy with a mark behind it. -/
theorem copy77 {w : World} {p : Option Addr} {l : List Int} {cp : Nat} (hn : p = none → cp = 0) (h : IHas w p l) (hl : l.length ≤ 1000) :
    ∃ q c D1 g c2 D2, (Builtin.append_ #[25, 25] 25 #[.slice none 0 0, .slice p l.length cp]).run Try.prog w = .ok (.slice q l.length c) D1 ∧ (Builtin.append_ #[25, 25] 25 #[.slice q l.length c, .slice (some ⟨D1.heap.size, 0, none⟩) 1 1]).run Try.prog (D1.alloc (.cells #[.int .i64 77] 3)) = .ok (.slice (some ⟨g, 0, none⟩) (l.length + 1) c2) D2 ∧
      IOwns D2 w.heap.size (.slice (some ⟨g, 0, none⟩) (l.length + 1) c2) (l ++ [77]) ∧ l.length + 1 ≤ c2 ∧ Below w.heap.size w D2 := by
  obtain ⟨v1, D1, e1, o1, gr⟩ := append_ints (w := w) (base := w.heap.size) (v := .slice none 0 0) (l := []) (IOwns.nil _ _) p cp l hn h (Nat.le_refl _) (by simp; omega)
  have b1 : Below w.heap.size w D1 := below_grown (w := w) (Below.refl _ _) (IOwns.nil w w.heap.size) (Nat.le_refl _) (Nat.le_refl _) gr
  rw [List.nil_append] at o1
  obtain ⟨q, c, rfl, _⟩ := o1.form
  obtain ⟨v2, D2, e2, o2, b2⟩ := push_int o1 77 b1.size (by omega)
  obtain ⟨g, c2, rfl, hc, _, _⟩ := iowns_block o2 (by simp)
  rw [show (l ++ [(77 : Int)]).length = l.length + 1 by simp] at e2 o2 hc
  exact ⟨q, c, D1, g, c2, D2, e1, e2, o2, hc, Below.trans b1 b2⟩
theorem ihas_left {w : World} {B g c : Nat} {l : List Int} (h : IOwns w B (.slice (some ⟨g, 0, none⟩) (l.length + 1) c) (l ++ [77])) : IHas w (some ⟨g, 0, none⟩) l := by
  refine Or.inr ⟨g, 0, rfl, fun j hj => ?_⟩
  have h' : IOwns w B (.slice (some ⟨g, 0, none⟩) (l ++ [(77 : Int)]).length c) (l ++ [77]) := by rw [show (l ++ [(77 : Int)]).length = l.length + 1 by simp]; exact h
  have := IOwns.at_ h' (j := j) (by simp; omega)
  rw [Nat.zero_add, this]
  unfold iat
  rw [List.getD_eq_getElem?_getD, List.getD_eq_getElem?_getD, List.getElem?_append_left hj]
theorem last77 {w : World} {B g c : Nat} {l : List Int} (h : IOwns w B (.slice (some ⟨g, 0, none⟩) (l.length + 1) c) (l ++ [77])) : w.cell? ⟨g, l.length, none⟩ = some (.int .i64 77) := by
  have h' : IOwns w B (.slice (some ⟨g, 0, none⟩) (l ++ [(77 : Int)]).length c) (l ++ [77]) := by rw [show (l ++ [(77 : Int)]).length = l.length + 1 by simp]; exact h
  rw [IOwns.at_ h' (j := l.length) (by simp)]
  unfold iat
  rw [List.getD_eq_getElem?_getD, List.getElem?_append_right (Nat.le_refl _)]
  simp
set_option maxRecDepth 100000 in
set_option maxHeartbeats 8000000 in
theorem chosen_no (n : Int) (B k : Nat) (p q : Option Addr) (es : List Pt) (cp cq : Nat) (pk pn : Option Addr) (lk ln : List Int) (ck cn : Nat) (w : World) {blv : Value} {bn bsz : Nat} {brv : Nat → Value} {bL : Nat → List Int} (hbag : Bag w B k blv bn brv bL bsz) (hB : B ≤ w.heap.size) (hH : ∀ V, Below B w V → Has V p es) (hm : netB n es = false) (hK : ∀ V, Below B w V → IHas V pk lk) (hN : ∀ V, Below B w V → IHas V pn ln) (hk0 : pk = none → ck = 0) (hn0 : pn = none → cn = 0) (hkl : lk.length ≤ 400) (hnl : ln.length ≤ 400) : Calls Try.prog 15 #[nv n p es.length cp, nv n q es.length cq, .bool false, .slice pk lk.length ck, .slice pn ln.length cn, .pointer (some ⟨k, 0, none⟩)] w fun e w' => e = .returned (.bool true) ∧ (∃ lv n rv L sz, Bag w' B k lv n rv L sz) ∧ Below B w w' := by
  obtain ⟨W, hW, hb, sh, sg⟩ := two_sbox w n n p q es.length cp es.length cq
  have HBS := hide hB
  have HH := hide hH
  have HBW : Hid (Below B w W) := hb.mono hB
  have HBW0 := HBW
  have BGW := hide (hbag.later hb)
  have SHW := hide sh
  have SGW := hide sg
  have HWS : Hid (W.heap.size = w.heap.size + 1 + 1) := by show _ = _; rw [hW]; simp
  have HKK := hide hK
  have HNN := hide hN
  have hse : subE n es lk = 1 := by simp [subE, hm]
  have hpe : partE n es ln = 1 := by simp [partE, hm]
  have HLN : Hid (([] : List Int).length ≤ 20000) := by show ([] : List Int).length ≤ 20000; simp
  have C27 : Hid (∀ V q' c', Has V p es → IHas V q' lk → Calls Try.prog 27 #[nv n p es.length cp, .slice q' lk.length c'] V fun e w' => ∃ q c, e = .returned (.tuple #[nv 0 q 0 c, .int .i64 1]) ∧ Owns w' V.heap.size (.slice q 0 c) [] ∧ Below V.heap.size V w') := fun V q' c' hV hq => by have := sub27u n p q' es lk cp c' V (by unfold maxLen; omega) hV hq; rw [show suA n es lk = [] by simp [suA, hse], show suN n es lk = 0 by simp [suN, hse], hse] at this; exact this
  have C28 : Hid (∀ V q' c', Has V p es → IHas V q' ln → Calls Try.prog 28 #[nv n p es.length cp, .slice q' ln.length c'] V fun e w' => ∃ q c s, e = .returned (.tuple #[nv 0 q 0 c, s, .int .i64 1]) ∧ Owns w' V.heap.size (.slice q 0 c) [] ∧ IOwns w' V.heap.size s [] ∧ Below V.heap.size V w') := fun V q' c' hV hq => by have := part28u n p q' es ln cp c' V (by unfold maxLen; omega) hV hq; rw [show paA n es ln = [] by simp [paA, hpe], show paN n es ln = 0 by simp [paN, hpe], show paL n es ln = [] by simp [paL, hpe], hpe] at this; exact this
  clear sh sg hbag hB hH hm hse hpe
  obtain ⟨qa, ca, D1, ga, ca2, D2, e1, e2, oa, hca, hbD⟩ := copy77 (w := W) hk0 (hK W HBW.out) (by omega)
  have HBD : Hid (Below B w D2) := Below.trans HBW.out (hbD.mono (Nat.le_trans HBS.out HBW.out.size))
  obtain ⟨qb, cb, F1, gb, cb2, F2, f1, f2, ob, hcb, hbF⟩ := copy77 (w := D2) hn0 (hN D2 HBD.out) (by omega)
  have HKB0 : Hid (W.heap.size ≤ D2.heap.size ∧ D2.heap.size ≤ F2.heap.size) := ⟨hbD.size, hbF.size⟩
  have HRA : Hid (∀ b, (Value.slice (some ⟨ga, 0, none⟩) (lk.length + 1) ca2).ownBlock = some b → W.heap.size ≤ b) := fun b hb => (World.ownsRow.lt oa b hb).1
  have HBF : Hid (Below B w F2) := Below.trans HBD.out (hbF.mono (Nat.le_trans HBS.out HBD.out.size))
  have hWF := below_step hbD hbF
  have BGF2 := hide (BGW.out.later hWF)
  have SHF2 := hide (SHW.out.later hWF)
  have SGF2 := hide (SGW.out.later hWF)
  have KAF2 := hide (oa.later hbF)
  have KBF2 := hide ob
  have HRB : Hid (∀ u b, u < bn → (brv u).ownBlock = some b → b < W.heap.size) := fun u b hu hb => (World.ownsRow.lt (BGW.out.own u hu) b hb).2
  have HRL : Hid (∀ b, blv.ownBlock = some b → b < W.heap.size) := fun b hb => (World.ownsRow.lt BGW.out.lst b hb).2
  have HBF2 := HBF
  have HBF0 : Hid (w.heap.size ≤ F2.heap.size) := HBF2.out.size
  have k1 : (lk.length : Int) ≤ ca2 := by omega
  have k2 : (ln.length : Int) ≤ cb2 := by omega
  have k3 : (0 : Int) ≤ lk.length := by omega
  have k4 : (0 : Int) ≤ ln.length := by omega
  have HCA := hide hca
  have HCB := hide hcb
  have HKL := hide hkl
  have HNL := hide hnl
  clear hb hK hN hk0 hn0 oa ob hbD hbF hWF hca hcb hkl hnl BGW SHW SGW HBF HBD
  go_enter Try.func15, Try.ntmps15
  go_upto_region 1 with fail
  rw [← hW]
  clear hW
  obtain ⟨kb, hkb⟩ : ∃ kb, w.heap.size = kb := ⟨_, rfl⟩
  have HKB := hide hkb
  rw [hkb] at SHF2 SGF2 HWS
  try rw [hkb]
  clear hkb
  go_upto_region 3 with (at_builtin; first | (refine wpList_run_append rfl (.const (.slice none 0 0)) (.tmp 26) 25 rfl 25 rfl _ _ _ D1 rfl rfl e1 ?_) | (refine wpList_run_append rfl (.tmp 27) (.tmp 28) 25 rfl 25 rfl _ _ _ D2 rfl rfl e2 ?_) | (refine wpList_run_append rfl (.const (.slice none 0 0)) (.tmp 33) 25 rfl 25 rfl _ _ _ F1 rfl rfl f1 ?_) | (refine wpList_run_append rfl (.tmp 34) (.tmp 35) 25 rfl 25 rfl _ _ _ F2 rfl rfl f2 ?_))
  clear e1 e2 f1 f2
  obtain ⟨q0, q1, q2, q3⟩ := SHF2.out.cell
  go_wp2_with fail
  clear q0 q1 q2 q3
  refine (C27.out F2 _ _ (HH.out F2 HBF2.out) (ihas_left KAF2.out)).mono ?_
  rintro e w4 ⟨ps, cs, rfl, ho, hb1⟩
  have HBw4 : Hid (Below B w w4) := Below.trans HBF2.out (hb1.mono (Nat.le_trans HBS.out HBF2.out.size))
  have BGw4 := hide (BGF2.out.later hb1)
  have SHw4 := hide (SHF2.out.later hb1)
  have SGw4 := hide (SGF2.out.later hb1)
  have KAw4 := hide (KAF2.out.later hb1)
  have KBw4 := hide (KBF2.out.later hb1)
  clear HBF2 BGF2 SHF2 SGF2 KAF2 KBF2
  have OSw4 := hide ho
  have Z4 := hide hb1.size
  clear hb1 ho
  obtain ⟨x4, hx4⟩ : ∃ X, X = w4.alloc (nbx 0 ps 0 cs) := ⟨_, rfl⟩
  have hb1 : Below w4.heap.size w4 x4 := by rw [hx4]; go_grown
  have HBx4 : Hid (Below B w x4) := Below.trans HBw4.out (hb1.mono (Nat.le_trans HBS.out HBw4.out.size))
  have BGx4 := hide (BGw4.out.later hb1)
  have SHx4 := hide (SHw4.out.later hb1)
  have SGx4 := hide (SGw4.out.later hb1)
  have KAx4 := hide (KAw4.out.later hb1)
  have KBx4 := hide (KBw4.out.later hb1)
  have OSx4 := hide (OSw4.out.later hb1)
  clear HBw4 BGw4 SHw4 SGw4 KAw4 KBw4 OSw4
  have HBX3 : Hid (B ≤ F2.heap.size) := Nat.le_trans HBS.out HBF0.out
  have HBX4 : Hid (B ≤ x4.heap.size) := Nat.le_trans HBS.out HBx4.out.size
  have SSx4 : Hid (SBox x4 w4.heap.size 0 (.slice ps 0 cs)) := by show SBox _ _ _ _; rw [hx4]; exact SBox.made _ _ _
  have ZX4 : Hid (x4.heap.size = w4.heap.size + 1) := by show _ = _; rw [hx4]; simp
  obtain ⟨ks, hks⟩ : ∃ ks, w4.heap.size = ks := ⟨_, rfl⟩
  clear hb1
  obtain ⟨q0, q1, q2, q3⟩ := SHx4.out.cell
  rw [hx4] at q0 q1 q2 q3
  go_wp2_with fail
  rw [← hx4]
  have HKS := hide hks
  rw [hks] at SSx4 ZX4
  try rw [hks]
  clear hx4 hks
  clear q0 q1 q2 q3
  refine (C28.out x4 _ _ (HH.out x4 HBx4.out) (ihas_left KBx4.out)).mono ?_
  rintro e w5 ⟨pr, cr, sl, rfl, ho, ho2, hb1⟩
  obtain ⟨pl, cl, rfl, _⟩ := IOwns.form ho2
  rw [List.length_nil] at ho2
  have R3 : Hid (∀ b, (Value.slice pl 0 cl).ownBlock = some b → x4.heap.size ≤ b ∧ b < w5.heap.size) := fun b hb => World.ownsRow.lt ho2 b hb
  have HBw5 : Hid (Below B w w5) := Below.trans HBx4.out (hb1.mono (Nat.le_trans HBS.out HBx4.out.size))
  have BGw5 := hide (BGx4.out.later hb1)
  have SHw5 := hide (SHx4.out.later hb1)
  have SGw5 := hide (SGx4.out.later hb1)
  have KAw5 := hide (KAx4.out.later hb1)
  have KBw5 := hide (KBx4.out.later hb1)
  have OSw5 := hide (OSx4.out.later hb1)
  have SSw5 := hide (SSx4.out.later hb1)
  clear HBx4 BGx4 SHx4 SGx4 KAx4 KBx4 OSx4 SSx4
  have ORw5 := hide ho
  have O3w5 := hide ho2
  have Z5 := hide hb1.size
  clear hb1 ho ho2
  obtain ⟨x5, hx5⟩ : ∃ X, X = w5.alloc (nbx 0 pr 0 cr) := ⟨_, rfl⟩
  have hb1 : Below w5.heap.size w5 x5 := by rw [hx5]; go_grown
  have HBx5 : Hid (Below B w x5) := Below.trans HBw5.out (hb1.mono (Nat.le_trans HBS.out HBw5.out.size))
  have BGx5 := hide (BGw5.out.later hb1)
  have SHx5 := hide (SHw5.out.later hb1)
  have SGx5 := hide (SGw5.out.later hb1)
  have KAx5 := hide (KAw5.out.later hb1)
  have KBx5 := hide (KBw5.out.later hb1)
  have OSx5 := hide (OSw5.out.later hb1)
  have SSx5 := hide (SSw5.out.later hb1)
  have ORx5 := hide (ORw5.out.later hb1)
  have O3x5 := hide (O3w5.out.later hb1)
  clear HBw5 BGw5 SHw5 SGw5 KAw5 KBw5 OSw5 SSw5 ORw5 O3w5
  have SRx5 : Hid (SBox x5 w5.heap.size 0 (.slice pr 0 cr)) := by show SBox _ _ _ _; rw [hx5]; exact SBox.made _ _ _
  have ZX5 : Hid (x5.heap.size = w5.heap.size + 1) := by show _ = _; rw [hx5]; simp
  have HLB := HBX4
  have HZ0 : Hid (W.heap.size ≤ x4.heap.size ∧ x4.heap.size ≤ w5.heap.size ∧ w5.heap.size ≤ x5.heap.size) := ⟨by have := HKB0.out; have := Z4.out; have := ZX4.out; have := HKS.out; omega, Z5.out, hb1.size⟩
  clear hb1
  obtain ⟨x6, hx6⟩ : ∃ X, X = x5.alloc (.cells #[.slice pl 0 cl] 25) := ⟨_, rfl⟩
  have hb1 : Below x5.heap.size x5 x6 := by rw [hx6]; go_grown
  have HB5 : Hid (B ≤ x5.heap.size) := Nat.le_trans HBS.out HBx5.out.size
  have HBx6 : Hid (Below B w x6) := Below.trans HBx5.out (hb1.mono (Nat.le_trans HBS.out HBx5.out.size))
  have BGx6 := hide (BGx5.out.later hb1)
  have SHx6 := hide (SHx5.out.later hb1)
  have SGx6 := hide (SGx5.out.later hb1)
  have KAx6 := hide (KAx5.out.later hb1)
  have KBx6 := hide (KBx5.out.later hb1)
  have OSx6 := hide (OSx5.out.later hb1)
  have SSx6 := hide (SSx5.out.later hb1)
  have ORx6 := hide (ORx5.out.later hb1)
  have O3x6 := hide (O3x5.out.later hb1)
  have SRx6 := hide (SRx5.out.later hb1)
  clear HBx5 BGx5 SHx5 SGx5 KAx5 KBx5 OSx5 SSx5 ORx5 O3x5 SRx5
  have hargs : x6.ownsRow x5.heap.size 25 1 (.slice (some ⟨x5.heap.size, 0, none⟩) 1 1) 1 ((List.range 1).map (fun _ => .slice pl 0 cl)) := by rw [hx6]; exact World.ownsRow_lit x5 #[.slice pl 0 cl] 1 (Nat.le_refl _) (by unfold maxLen; omega) rfl
  have KP := hide (keep22 B k x5.heap.size 1 x5.heap.size (fun _ => .slice pl 0 cl) (fun _ => ([] : List Int)) x6 BGx6.out (Nat.le_trans HBS.out HBx6.out.size) HB5.out (by omega) hargs
    (fun h => by have := HRL.out _ h; have := HZ0.out; omega)
    (fun j hj => O3x6.out.base HLB.out)
    (fun j hj => HLN.out)
    (fun i j b hi hj _ _ => by omega)
    (fun j u b hj hu h1 h2 => by have := HZ0.out; have := HRB.out u b hu h2; have := R3.out b h1; omega))
  have Z6 := hide hb1.size
  clear hb1 hargs
  go_wp2_with fail
  rw [← hx5, ← hx6, ← ZX5.out]
  obtain ⟨kr, hkr⟩ : ∃ kr, w5.heap.size = kr := ⟨_, rfl⟩
  have HKR := hide hkr
  rw [hkr] at SRx6
  try rw [hkr]
  clear hx5 hx6 hkr
  refine KP.out.mono ?_
  rintro e Z ⟨rfl, hbagZ, hbZ, hkp⟩
  have HBZ : Hid (Below B w Z) := Below.trans HBx6.out hbZ
  have SHZ := hide (SHx6.out.kp hkp)
  have SGZ := hide (SGx6.out.kp hkp)
  have KAZ := hide (KAx6.out.kp hkp)
  have KBZ := hide (KBx6.out.kp hkp)
  have OSZ := hide (OSx6.out.kp hkp)
  have SSZ := hide (SSx6.out.kp hkp)
  have ORZ := hide (ORx6.out.kp hkp)
  have O3Z := hide (O3x6.out.kp hkp)
  have SRZ := hide (SRx6.out.kp hkp)
  clear HBx6 BGx6 KP hkp hbZ SHx6 SGx6 KAx6 KBx6 OSx6 SSx6 ORx6 O3x6 SRx6
  obtain ⟨blv2, bn2, brv2, bL2, bsz2, hbg2⟩ := hbagZ
  have BGZ := hide hbg2
  clear hbg2
  have m0 : Z.cell? ⟨ga, lk.length, none⟩ = some (.int .i64 77) := last77 KAZ.out
  have m1 : Z.cell? ⟨gb, ln.length, none⟩ = some (.int .i64 77) := last77 KBZ.out
  have k5 : (lk.length : Int) + 1 ≤ ca2 := by have := HCA.out; omega
  have k6 : (ln.length : Int) + 1 ≤ cb2 := by have := HCB.out; omega
  have k7 : (lk.length : Int) < (lk.length : Int) + 1 := by omega
  have k8 : (ln.length : Int) < (ln.length : Int) + 1 := by omega
  have k9 := HKL.out
  have k10 := HNL.out
  have k11 : (0 : Int) ≤ (lk.length : Int) + 1 := by omega
  have k12 : (0 : Int) ≤ (ln.length : Int) + 1 := by omega
  have I1 := hide (ints30 (some ⟨ga, 0, none⟩) pk lk lk ca2 ck Z (by have := HKL.out; unfold maxLen; omega) (ihas_left KAZ.out) (HKK.out Z HBZ.out))
  rw [decide_eq_true rfl] at I1
  go_wp2_with fail
  clear m0 m1
  refine I1.out.mono ?_
  rintro e y1 ⟨rfl, hb1⟩
  have HBy1 : Hid (Below B w y1) := Below.trans HBZ.out (hb1.mono (Nat.le_trans HBS.out HBZ.out.size))
  have BGy1 := hide (BGZ.out.later hb1)
  have SHy1 := hide (SHZ.out.later hb1)
  have SGy1 := hide (SGZ.out.later hb1)
  have KAy1 := hide (KAZ.out.later hb1)
  have KBy1 := hide (KBZ.out.later hb1)
  have OSy1 := hide (OSZ.out.later hb1)
  have SSy1 := hide (SSZ.out.later hb1)
  have ORy1 := hide (ORZ.out.later hb1)
  have O3y1 := hide (O3Z.out.later hb1)
  have SRy1 := hide (SRZ.out.later hb1)
  clear HBZ BGZ SHZ SGZ KAZ KBZ OSZ SSZ ORZ O3Z SRZ
  clear hb1 I1
  have I1 := hide (ints30 (some ⟨gb, 0, none⟩) pn ln ln cb2 cn y1 (by have := HNL.out; unfold maxLen; omega) (ihas_left KBy1.out) (HNN.out y1 HBy1.out))
  rw [decide_eq_true rfl] at I1
  go_wp2_with fail
  refine I1.out.mono ?_
  rintro e y2 ⟨rfl, hb1⟩
  have HBy2 : Hid (Below B w y2) := Below.trans HBy1.out (hb1.mono (Nat.le_trans HBS.out HBy1.out.size))
  have BGy2 := hide (BGy1.out.later hb1)
  have SHy2 := hide (SHy1.out.later hb1)
  have SGy2 := hide (SGy1.out.later hb1)
  have KAy2 := hide (KAy1.out.later hb1)
  have KBy2 := hide (KBy1.out.later hb1)
  have OSy2 := hide (OSy1.out.later hb1)
  have SSy2 := hide (SSy1.out.later hb1)
  have ORy2 := hide (ORy1.out.later hb1)
  have O3y2 := hide (O3y1.out.later hb1)
  have SRy2 := hide (SRy1.out.later hb1)
  clear HBy1 BGy1 SHy1 SGy1 KAy1 KBy1 OSy1 SSy1 ORy1 O3y1 SRy1
  clear hb1 I1
  obtain ⟨a0, a1, a2, a3⟩ := SSy2.out.cell
  obtain ⟨b0, b1, b2, b3⟩ := SRy2.out.cell
  go_wp2
  go_ret
  exact ⟨rfl, ⟨_, _, _, _, _, BGy2.out⟩, HBy2.out⟩
set_option maxRecDepth 100000 in
set_option maxHeartbeats 8000000 in
theorem chosen_yes (m : Nat) (B k : Nat) (p q : Option Addr) (es : List Pt) (cp cq : Nat) (pk pn : Option Addr) (lk ln : List Int) (ck cn : Nat) (w : World) {blv : Value} {bn bsz : Nat} {brv : Nat → Value} {bL : Nat → List Int} (hbag : Bag w B k blv bn brv bL bsz) (hB : B ≤ w.heap.size) (hH : ∀ V, Below B w V → Has V p es) (hG : ∀ V, Below B w V → Has V q es) (hm : netB m es = true) (h3e : es.length ≤ 300) (hK : ∀ V, Below B w V → IHas V pk lk) (hN : ∀ V, Below B w V → IHas V pn ln) (hk0 : pk = none → ck = 0) (hn0 : pn = none → cn = 0) (hkl : lk.length ≤ 400) (hnl : ln.length ≤ 400) : Calls Try.prog 15 #[nv m p es.length cp, nv m q es.length cq, .bool true, .slice pk lk.length ck, .slice pn ln.length cn, .pointer (some ⟨k, 0, none⟩)] w fun e w' => e = .returned (.bool true) ∧ (∃ lv n rv L sz, Bag w' B k lv n rv L sz) ∧ Below B w w' := by
  obtain ⟨W, hW, hb, sh, sg⟩ := two_sbox w m m p q es.length cp es.length cq
  have HBS := hide hB
  have HH := hide hH
  have HG := hide hG
  have HBW : Hid (Below B w W) := hb.mono hB
  have HBW0 := HBW
  have BGW := hide (hbag.later hb)
  have SHW := hide sh
  have SGW := hide sg
  have HWS : Hid (W.heap.size = w.heap.size + 1 + 1) := by show _ = _; rw [hW]; simp
  have HKK := hide hK
  have HNN := hide hN
  obtain ⟨E1, hE1⟩ : ∃ E, suA m es lk = E := ⟨_, rfl⟩
  obtain ⟨N1, hN1⟩ : ∃ N, suN m es lk = N := ⟨_, rfl⟩
  obtain ⟨er, her⟩ : ∃ e, subE m es lk = e := ⟨_, rfl⟩
  obtain ⟨E2, hE2⟩ : ∃ E, paA m es ln = E := ⟨_, rfl⟩
  obtain ⟨N2, hN2⟩ : ∃ N, paN m es ln = N := ⟨_, rfl⟩
  obtain ⟨er2, her2⟩ : ∃ e, partE m es ln = e := ⟨_, rfl⟩
  obtain ⟨A3, hA3⟩ : ∃ A, paL m es ln = A := ⟨_, rfl⟩
  have HE1 : Hid (E1.length ≤ 20000) := by show E1.length ≤ 20000; rw [← hE1]; have := suA_len m es lk; omega
  have HE2 : Hid (E2.length ≤ 20000) := by show E2.length ≤ 20000; rw [← hE2]; have := paA_len m es ln; omega
  have HLN : Hid (A3.length ≤ 20000) := by show A3.length ≤ 20000; rw [← hA3]; have := paL_len m es ln; omega
  have C27 : Hid (∀ V q' c', Has V p es → IHas V q' lk → Calls Try.prog 27 #[nv m p es.length cp, .slice q' lk.length c'] V fun e w' => ∃ q c, e = .returned (.tuple #[nv N1 q E1.length c, .int .i64 er]) ∧ Owns w' V.heap.size (.slice q E1.length c) E1 ∧ Below V.heap.size V w') := fun V q' c' hV hq => by have := sub27u m p q' es lk cp c' V (by unfold maxLen; omega) hV hq; rw [hE1, hN1, her] at this; exact this
  have C28 : Hid (∀ V q' c', Has V p es → IHas V q' ln → Calls Try.prog 28 #[nv m p es.length cp, .slice q' ln.length c'] V fun e w' => ∃ q c s, e = .returned (.tuple #[nv N2 q E2.length c, s, .int .i64 er2]) ∧ Owns w' V.heap.size (.slice q E2.length c) E2 ∧ IOwns w' V.heap.size s A3 ∧ Below V.heap.size V w') := fun V q' c' hV hq => by have := part28u m p q' es ln cp c' V (by unfold maxLen; omega) hV hq; rw [hE2, hN2, her2, hA3] at this; exact this
  have C44 : Hid (∀ V, Has V q es → IHas V pk lk → Calls Try.prog 44 #[nv m q es.length cq, .slice pk lk.length ck] V fun e w' => ∃ q c, e = .returned (.tuple #[nv N1 q E1.length c, .int .i64 er]) ∧ Owns w' V.heap.size (.slice q E1.length c) E1 ∧ Below V.heap.size V w') := fun V hV hq => by have := sub44u m q pk es lk cq ck V (by omega) hV hq hm; rw [hE1, hN1, her] at this; exact this
  have C45 : Hid (∀ V, Has V q es → IHas V pn ln → Calls Try.prog 45 #[nv m q es.length cq, .slice pn ln.length cn] V fun e w' => ∃ q c s, e = .returned (.tuple #[nv N2 q E2.length c, s, .int .i64 er2]) ∧ Owns w' V.heap.size (.slice q E2.length c) E2 ∧ IOwns w' V.heap.size s A3 ∧ Below V.heap.size V w') := fun V hV hq => by have := part45u m q pn es ln cq cn V (by omega) hV hq hm; rw [hE2, hN2, her2, hA3] at this; exact this
  clear sh sg hbag hB hH hG hm hE1 hN1 her hE2 hN2 her2 hA3 h3e
  obtain ⟨qa, ca, D1, ga, ca2, D2, e1, e2, oa, hca, hbD⟩ := copy77 (w := W) hk0 (hK W HBW.out) (by omega)
  have HBD : Hid (Below B w D2) := Below.trans HBW.out (hbD.mono (Nat.le_trans HBS.out HBW.out.size))
  obtain ⟨qb, cb, F1, gb, cb2, F2, f1, f2, ob, hcb, hbF⟩ := copy77 (w := D2) hn0 (hN D2 HBD.out) (by omega)
  have HKB0 : Hid (W.heap.size ≤ D2.heap.size ∧ D2.heap.size ≤ F2.heap.size) := ⟨hbD.size, hbF.size⟩
  have HRA : Hid (∀ b, (Value.slice (some ⟨ga, 0, none⟩) (lk.length + 1) ca2).ownBlock = some b → W.heap.size ≤ b) := fun b hb => (World.ownsRow.lt oa b hb).1
  have HBF : Hid (Below B w F2) := Below.trans HBD.out (hbF.mono (Nat.le_trans HBS.out HBD.out.size))
  have hWF := below_step hbD hbF
  have BGF2 := hide (BGW.out.later hWF)
  have SHF2 := hide (SHW.out.later hWF)
  have SGF2 := hide (SGW.out.later hWF)
  have KAF2 := hide (oa.later hbF)
  have KBF2 := hide ob
  have HRB : Hid (∀ u b, u < bn → (brv u).ownBlock = some b → b < W.heap.size) := fun u b hu hb => (World.ownsRow.lt (BGW.out.own u hu) b hb).2
  have HRL : Hid (∀ b, blv.ownBlock = some b → b < W.heap.size) := fun b hb => (World.ownsRow.lt BGW.out.lst b hb).2
  have HBF2 := HBF
  have HBF0 : Hid (w.heap.size ≤ F2.heap.size) := HBF2.out.size
  have k1 : (lk.length : Int) ≤ ca2 := by omega
  have k2 : (ln.length : Int) ≤ cb2 := by omega
  have k3 : (0 : Int) ≤ lk.length := by omega
  have k4 : (0 : Int) ≤ ln.length := by omega
  have HCA := hide hca
  have HCB := hide hcb
  have HKL := hide hkl
  have HNL := hide hnl
  clear hb hK hN hk0 hn0 oa ob hbD hbF hWF hca hcb hkl hnl BGW SHW SGW HBF HBD
  go_enter Try.func15, Try.ntmps15
  go_upto_region 1 with fail
  rw [← hW]
  clear hW
  obtain ⟨kb, hkb⟩ : ∃ kb, w.heap.size = kb := ⟨_, rfl⟩
  have HKB := hide hkb
  rw [hkb] at SHF2 SGF2 HWS
  try rw [hkb]
  clear hkb
  go_upto_region 3 with (at_builtin; first | (refine wpList_run_append rfl (.const (.slice none 0 0)) (.tmp 26) 25 rfl 25 rfl _ _ _ D1 rfl rfl e1 ?_) | (refine wpList_run_append rfl (.tmp 27) (.tmp 28) 25 rfl 25 rfl _ _ _ D2 rfl rfl e2 ?_) | (refine wpList_run_append rfl (.const (.slice none 0 0)) (.tmp 33) 25 rfl 25 rfl _ _ _ F1 rfl rfl f1 ?_) | (refine wpList_run_append rfl (.tmp 34) (.tmp 35) 25 rfl 25 rfl _ _ _ F2 rfl rfl f2 ?_))
  clear e1 e2 f1 f2
  obtain ⟨q0, q1, q2, q3⟩ := SHF2.out.cell
  go_wp2_with fail
  clear q0 q1 q2 q3
  refine (C27.out F2 _ _ (HH.out F2 HBF2.out) (ihas_left KAF2.out)).mono ?_
  rintro e w4 ⟨ps, cs, rfl, ho, hb1⟩
  have R4 : Hid (∀ b, (Value.slice ps E1.length cs).ownBlock = some b → F2.heap.size ≤ b ∧ b < w4.heap.size) := fun b hb => World.ownsRow.lt ho b hb
  have HBw4 : Hid (Below B w w4) := Below.trans HBF2.out (hb1.mono (Nat.le_trans HBS.out HBF2.out.size))
  have BGw4 := hide (BGF2.out.later hb1)
  have SHw4 := hide (SHF2.out.later hb1)
  have SGw4 := hide (SGF2.out.later hb1)
  have KAw4 := hide (KAF2.out.later hb1)
  have KBw4 := hide (KBF2.out.later hb1)
  clear HBF2 BGF2 SHF2 SGF2 KAF2 KBF2
  have OSw4 := hide ho
  have Z4 := hide hb1.size
  clear hb1 ho
  obtain ⟨x4, hx4⟩ : ∃ X, X = w4.alloc (nbx N1 ps E1.length cs) := ⟨_, rfl⟩
  have hb1 : Below w4.heap.size w4 x4 := by rw [hx4]; go_grown
  have HBx4 : Hid (Below B w x4) := Below.trans HBw4.out (hb1.mono (Nat.le_trans HBS.out HBw4.out.size))
  have BGx4 := hide (BGw4.out.later hb1)
  have SHx4 := hide (SHw4.out.later hb1)
  have SGx4 := hide (SGw4.out.later hb1)
  have KAx4 := hide (KAw4.out.later hb1)
  have KBx4 := hide (KBw4.out.later hb1)
  have OSx4 := hide (OSw4.out.later hb1)
  clear HBw4 BGw4 SHw4 SGw4 KAw4 KBw4 OSw4
  have HBX3 : Hid (B ≤ F2.heap.size) := Nat.le_trans HBS.out HBF0.out
  have HBX4 : Hid (B ≤ x4.heap.size) := Nat.le_trans HBS.out HBx4.out.size
  have SSx4 : Hid (SBox x4 w4.heap.size N1 (.slice ps E1.length cs)) := by show SBox _ _ _ _; rw [hx4]; exact SBox.made _ _ _
  have ZX4 : Hid (x4.heap.size = w4.heap.size + 1) := by show _ = _; rw [hx4]; simp
  obtain ⟨ks, hks⟩ : ∃ ks, w4.heap.size = ks := ⟨_, rfl⟩
  clear hb1
  obtain ⟨q0, q1, q2, q3⟩ := SHx4.out.cell
  rw [hx4] at q0 q1 q2 q3
  go_wp2_with fail
  rw [← hx4]
  have HKS := hide hks
  rw [hks] at SSx4 ZX4
  try rw [hks]
  clear hx4 hks
  clear q0 q1 q2 q3
  refine (C28.out x4 _ _ (HH.out x4 HBx4.out) (ihas_left KBx4.out)).mono ?_
  rintro e w5 ⟨pr, cr, sl, rfl, ho, ho2, hb1⟩
  obtain ⟨pl, cl, rfl, _⟩ := IOwns.form ho2
  have R3 : Hid (∀ b, (Value.slice pl A3.length cl).ownBlock = some b → x4.heap.size ≤ b ∧ b < w5.heap.size) := fun b hb => World.ownsRow.lt ho2 b hb
  have R5 : Hid (∀ b, (Value.slice pr E2.length cr).ownBlock = some b → x4.heap.size ≤ b ∧ b < w5.heap.size) := fun b hb => World.ownsRow.lt ho b hb
  have HBw5 : Hid (Below B w w5) := Below.trans HBx4.out (hb1.mono (Nat.le_trans HBS.out HBx4.out.size))
  have BGw5 := hide (BGx4.out.later hb1)
  have SHw5 := hide (SHx4.out.later hb1)
  have SGw5 := hide (SGx4.out.later hb1)
  have KAw5 := hide (KAx4.out.later hb1)
  have KBw5 := hide (KBx4.out.later hb1)
  have OSw5 := hide (OSx4.out.later hb1)
  have SSw5 := hide (SSx4.out.later hb1)
  clear HBx4 BGx4 SHx4 SGx4 KAx4 KBx4 OSx4 SSx4
  have ORw5 := hide ho
  have O3w5 := hide ho2
  have Z5 := hide hb1.size
  clear hb1 ho ho2
  obtain ⟨x5, hx5⟩ : ∃ X, X = w5.alloc (nbx N2 pr E2.length cr) := ⟨_, rfl⟩
  have hb1 : Below w5.heap.size w5 x5 := by rw [hx5]; go_grown
  have HBx5 : Hid (Below B w x5) := Below.trans HBw5.out (hb1.mono (Nat.le_trans HBS.out HBw5.out.size))
  have BGx5 := hide (BGw5.out.later hb1)
  have SHx5 := hide (SHw5.out.later hb1)
  have SGx5 := hide (SGw5.out.later hb1)
  have KAx5 := hide (KAw5.out.later hb1)
  have KBx5 := hide (KBw5.out.later hb1)
  have OSx5 := hide (OSw5.out.later hb1)
  have SSx5 := hide (SSw5.out.later hb1)
  have ORx5 := hide (ORw5.out.later hb1)
  have O3x5 := hide (O3w5.out.later hb1)
  clear HBw5 BGw5 SHw5 SGw5 KAw5 KBw5 OSw5 SSw5 ORw5 O3w5
  have SRx5 : Hid (SBox x5 w5.heap.size N2 (.slice pr E2.length cr)) := by show SBox _ _ _ _; rw [hx5]; exact SBox.made _ _ _
  have ZX5 : Hid (x5.heap.size = w5.heap.size + 1) := by show _ = _; rw [hx5]; simp
  have HLB := HBX4
  have HZ0 : Hid (W.heap.size ≤ x4.heap.size ∧ x4.heap.size ≤ w5.heap.size ∧ w5.heap.size ≤ x5.heap.size) := ⟨by have := HKB0.out; have := Z4.out; have := ZX4.out; have := HKS.out; omega, Z5.out, hb1.size⟩
  clear hb1
  obtain ⟨x6, hx6⟩ : ∃ X, X = x5.alloc (.cells #[.slice pl A3.length cl] 25) := ⟨_, rfl⟩
  have hb1 : Below x5.heap.size x5 x6 := by rw [hx6]; go_grown
  have HB5 : Hid (B ≤ x5.heap.size) := Nat.le_trans HBS.out HBx5.out.size
  have HBx6 : Hid (Below B w x6) := Below.trans HBx5.out (hb1.mono (Nat.le_trans HBS.out HBx5.out.size))
  have BGx6 := hide (BGx5.out.later hb1)
  have SHx6 := hide (SHx5.out.later hb1)
  have SGx6 := hide (SGx5.out.later hb1)
  have KAx6 := hide (KAx5.out.later hb1)
  have KBx6 := hide (KBx5.out.later hb1)
  have OSx6 := hide (OSx5.out.later hb1)
  have SSx6 := hide (SSx5.out.later hb1)
  have ORx6 := hide (ORx5.out.later hb1)
  have O3x6 := hide (O3x5.out.later hb1)
  have SRx6 := hide (SRx5.out.later hb1)
  clear HBx5 BGx5 SHx5 SGx5 KAx5 KBx5 OSx5 SSx5 ORx5 O3x5 SRx5
  have hargs : x6.ownsRow x5.heap.size 25 1 (.slice (some ⟨x5.heap.size, 0, none⟩) 1 1) 1 ((List.range 1).map (fun _ => .slice pl A3.length cl)) := by rw [hx6]; exact World.ownsRow_lit x5 #[.slice pl A3.length cl] 1 (Nat.le_refl _) (by unfold maxLen; omega) rfl
  have KP := hide (keep22 B k x5.heap.size 1 x5.heap.size (fun _ => .slice pl A3.length cl) (fun _ => A3) x6 BGx6.out (Nat.le_trans HBS.out HBx6.out.size) HB5.out (by omega) hargs
    (fun h => by have := HRL.out _ h; have := HZ0.out; omega)
    (fun j hj => O3x6.out.base HLB.out)
    (fun j hj => HLN.out)
    (fun i j b hi hj _ _ => by omega)
    (fun j u b hj hu h1 h2 => by have := HZ0.out; have := HRB.out u b hu h2; have := R3.out b h1; omega))
  have Z6 := hide hb1.size
  clear hb1 hargs
  go_wp2_with fail
  rw [← hx5, ← hx6, ← ZX5.out]
  obtain ⟨kr, hkr⟩ : ∃ kr, w5.heap.size = kr := ⟨_, rfl⟩
  have HKR := hide hkr
  rw [hkr] at SRx6
  try rw [hkr]
  clear hx5 hx6 hkr
  refine KP.out.mono ?_
  rintro e Z ⟨rfl, hbagZ, hbZ, hkp⟩
  have HBZ : Hid (Below B w Z) := Below.trans HBx6.out hbZ
  have SHZ := hide (SHx6.out.kp hkp)
  have SGZ := hide (SGx6.out.kp hkp)
  have KAZ := hide (KAx6.out.kp hkp)
  have KBZ := hide (KBx6.out.kp hkp)
  have OSZ := hide (OSx6.out.kp hkp)
  have SSZ := hide (SSx6.out.kp hkp)
  have ORZ := hide (ORx6.out.kp hkp)
  have O3Z := hide (O3x6.out.kp hkp)
  have SRZ := hide (SRx6.out.kp hkp)
  clear HBx6 BGx6 KP hkp hbZ SHx6 SGx6 KAx6 KBx6 OSx6 SSx6 ORx6 O3x6 SRx6
  obtain ⟨blv2, bn2, brv2, bL2, bsz2, hbg2⟩ := hbagZ
  have BGZ := hide hbg2
  clear hbg2
  have m0 : Z.cell? ⟨ga, lk.length, none⟩ = some (.int .i64 77) := last77 KAZ.out
  have m1 : Z.cell? ⟨gb, ln.length, none⟩ = some (.int .i64 77) := last77 KBZ.out
  have k5 : (lk.length : Int) + 1 ≤ ca2 := by have := HCA.out; omega
  have k6 : (ln.length : Int) + 1 ≤ cb2 := by have := HCB.out; omega
  have k7 : (lk.length : Int) < (lk.length : Int) + 1 := by omega
  have k8 : (ln.length : Int) < (ln.length : Int) + 1 := by omega
  have k9 := HKL.out
  have k10 := HNL.out
  have k11 : (0 : Int) ≤ (lk.length : Int) + 1 := by omega
  have k12 : (0 : Int) ≤ (ln.length : Int) + 1 := by omega
  have I1 := hide (ints30 (some ⟨ga, 0, none⟩) pk lk lk ca2 ck Z (by have := HKL.out; unfold maxLen; omega) (ihas_left KAZ.out) (HKK.out Z HBZ.out))
  rw [decide_eq_true rfl] at I1
  go_wp2_with fail
  clear m0 m1
  refine I1.out.mono ?_
  rintro e y1 ⟨rfl, hb1⟩
  have HBy1 : Hid (Below B w y1) := Below.trans HBZ.out (hb1.mono (Nat.le_trans HBS.out HBZ.out.size))
  have BGy1 := hide (BGZ.out.later hb1)
  have SHy1 := hide (SHZ.out.later hb1)
  have SGy1 := hide (SGZ.out.later hb1)
  have KAy1 := hide (KAZ.out.later hb1)
  have KBy1 := hide (KBZ.out.later hb1)
  have OSy1 := hide (OSZ.out.later hb1)
  have SSy1 := hide (SSZ.out.later hb1)
  have ORy1 := hide (ORZ.out.later hb1)
  have O3y1 := hide (O3Z.out.later hb1)
  have SRy1 := hide (SRZ.out.later hb1)
  clear HBZ BGZ SHZ SGZ KAZ KBZ OSZ SSZ ORZ O3Z SRZ
  clear hb1 I1
  have I1 := hide (ints30 (some ⟨gb, 0, none⟩) pn ln ln cb2 cn y1 (by have := HNL.out; unfold maxLen; omega) (ihas_left KBy1.out) (HNN.out y1 HBy1.out))
  rw [decide_eq_true rfl] at I1
  go_wp2_with fail
  refine I1.out.mono ?_
  rintro e y2 ⟨rfl, hb1⟩
  have HBy2 : Hid (Below B w y2) := Below.trans HBy1.out (hb1.mono (Nat.le_trans HBS.out HBy1.out.size))
  have BGy2 := hide (BGy1.out.later hb1)
  have SHy2 := hide (SHy1.out.later hb1)
  have SGy2 := hide (SGy1.out.later hb1)
  have KAy2 := hide (KAy1.out.later hb1)
  have KBy2 := hide (KBy1.out.later hb1)
  have OSy2 := hide (OSy1.out.later hb1)
  have SSy2 := hide (SSy1.out.later hb1)
  have ORy2 := hide (ORy1.out.later hb1)
  have O3y2 := hide (O3y1.out.later hb1)
  have SRy2 := hide (SRy1.out.later hb1)
  clear HBy1 BGy1 SHy1 SGy1 KAy1 KBy1 OSy1 SSy1 ORy1 O3y1 SRy1
  clear hb1 I1
  obtain ⟨sg0, sg1, sg2, sg3⟩ := SGy2.out.cell
  go_wp2_with fail
  clear sg0 sg1 sg2 sg3
  refine (C44.out y2 (HG.out y2 HBy2.out) (HKK.out y2 HBy2.out)).mono ?_
  rintro e y3 ⟨pt, ct, rfl, ho, hb1⟩
  have HBy3 : Hid (Below B w y3) := Below.trans HBy2.out (hb1.mono (Nat.le_trans HBS.out HBy2.out.size))
  have BGy3 := hide (BGy2.out.later hb1)
  have SHy3 := hide (SHy2.out.later hb1)
  have SGy3 := hide (SGy2.out.later hb1)
  have KAy3 := hide (KAy2.out.later hb1)
  have KBy3 := hide (KBy2.out.later hb1)
  have OSy3 := hide (OSy2.out.later hb1)
  have SSy3 := hide (SSy2.out.later hb1)
  have ORy3 := hide (ORy2.out.later hb1)
  have O3y3 := hide (O3y2.out.later hb1)
  have SRy3 := hide (SRy2.out.later hb1)
  clear HBy2 BGy2 SHy2 SGy2 KAy2 KBy2 OSy2 SSy2 ORy2 O3y2 SRy2
  have OTy3 := hide ho
  clear hb1 ho
  obtain ⟨x7, hx7⟩ : ∃ X, X = y3.alloc (nbx N1 pt E1.length ct) := ⟨_, rfl⟩
  have hb1 : Below y3.heap.size y3 x7 := by rw [hx7]; go_grown
  have HBx7 : Hid (Below B w x7) := Below.trans HBy3.out (hb1.mono (Nat.le_trans HBS.out HBy3.out.size))
  have BGx7 := hide (BGy3.out.later hb1)
  have SHx7 := hide (SHy3.out.later hb1)
  have SGx7 := hide (SGy3.out.later hb1)
  have KAx7 := hide (KAy3.out.later hb1)
  have KBx7 := hide (KBy3.out.later hb1)
  have OSx7 := hide (OSy3.out.later hb1)
  have SSx7 := hide (SSy3.out.later hb1)
  have ORx7 := hide (ORy3.out.later hb1)
  have O3x7 := hide (O3y3.out.later hb1)
  have SRx7 := hide (SRy3.out.later hb1)
  have OTx7 := hide (OTy3.out.later hb1)
  clear HBy3 BGy3 SHy3 SGy3 KAy3 KBy3 OSy3 SSy3 ORy3 O3y3 SRy3 OTy3
  have STx7 : Hid (SBox x7 y3.heap.size N1 (.slice pt E1.length ct)) := by show SBox _ _ _ _; rw [hx7]; exact SBox.made _ _ _
  clear hb1
  obtain ⟨sg0, sg1, sg2, sg3⟩ := SGx7.out.cell
  rw [hx7] at sg0 sg1 sg2 sg3
  go_wp2_with fail
  rw [← hx7]
  obtain ⟨kt, hkt⟩ : ∃ kt, y3.heap.size = kt := ⟨_, rfl⟩
  rw [hkt] at STx7
  try rw [hkt]
  clear hx7 hkt
  clear sg0 sg1 sg2 sg3
  refine (C45.out x7 (HG.out x7 HBx7.out) (HNN.out x7 HBx7.out)).mono ?_
  rintro e y4 ⟨pq, cq2, sm, rfl, ho, ho2, hb1⟩
  obtain ⟨pm, cm, rfl, _⟩ := IOwns.form ho2
  have HBy4 : Hid (Below B w y4) := Below.trans HBx7.out (hb1.mono (Nat.le_trans HBS.out HBx7.out.size))
  have BGy4 := hide (BGx7.out.later hb1)
  have SHy4 := hide (SHx7.out.later hb1)
  have SGy4 := hide (SGx7.out.later hb1)
  have KAy4 := hide (KAx7.out.later hb1)
  have KBy4 := hide (KBx7.out.later hb1)
  have OSy4 := hide (OSx7.out.later hb1)
  have SSy4 := hide (SSx7.out.later hb1)
  have ORy4 := hide (ORx7.out.later hb1)
  have O3y4 := hide (O3x7.out.later hb1)
  have SRy4 := hide (SRx7.out.later hb1)
  have OTy4 := hide (OTx7.out.later hb1)
  have STy4 := hide (STx7.out.later hb1)
  clear HBx7 BGx7 SHx7 SGx7 KAx7 KBx7 OSx7 SSx7 ORx7 O3x7 SRx7 OTx7 STx7
  have OQy4 := hide ho
  have O5y4 := hide ho2
  clear hb1 ho ho2
  obtain ⟨x8, hx8⟩ : ∃ X, X = y4.alloc (nbx N2 pq E2.length cq2) := ⟨_, rfl⟩
  have hb1 : Below y4.heap.size y4 x8 := by rw [hx8]; go_grown
  have HBx8 : Hid (Below B w x8) := Below.trans HBy4.out (hb1.mono (Nat.le_trans HBS.out HBy4.out.size))
  have BGx8 := hide (BGy4.out.later hb1)
  have SHx8 := hide (SHy4.out.later hb1)
  have SGx8 := hide (SGy4.out.later hb1)
  have KAx8 := hide (KAy4.out.later hb1)
  have KBx8 := hide (KBy4.out.later hb1)
  have OSx8 := hide (OSy4.out.later hb1)
  have SSx8 := hide (SSy4.out.later hb1)
  have ORx8 := hide (ORy4.out.later hb1)
  have O3x8 := hide (O3y4.out.later hb1)
  have SRx8 := hide (SRy4.out.later hb1)
  have OTx8 := hide (OTy4.out.later hb1)
  have STx8 := hide (STy4.out.later hb1)
  have OQx8 := hide (OQy4.out.later hb1)
  have O5x8 := hide (O5y4.out.later hb1)
  clear HBy4 BGy4 SHy4 SGy4 KAy4 KBy4 OSy4 SSy4 ORy4 O3y4 SRy4 OTy4 STy4 OQy4 O5y4
  have SQx8 : Hid (SBox x8 y4.heap.size N2 (.slice pq E2.length cq2)) := by show SBox _ _ _ _; rw [hx8]; exact SBox.made _ _ _
  clear hb1
  have SM := hide (same22 N1 N1 ps pt E1 E1 cs ct x8 (by have := HE1.out; omega) OSx8.out.has OTx8.out.has)
  rw [show sameB N1 N1 E1 E1 = true by simp [sameB]] at SM
  have e0q : (er == er) = true := by simp
  have e1q : (er2 == er2) = true := by simp
  obtain ⟨a0, a1, a2, a3⟩ := SSx8.out.cell
  obtain ⟨b0, b1, b2, b3⟩ := STx8.out.cell
  rw [hx8] at a0 a1 a2 a3 b0 b1 b2 b3
  go_wp2_with fail
  rw [← hx8]
  obtain ⟨kq, hkq⟩ : ∃ kq, y4.heap.size = kq := ⟨_, rfl⟩
  rw [hkq] at SQx8
  try rw [hkq]
  clear hx8 hkq
  clear a0 a1 a2 a3 b0 b1 b2 b3
  refine SM.out.mono ?_
  rintro e y5 ⟨rfl, hb1⟩
  have HBy5 : Hid (Below B w y5) := Below.trans HBx8.out (hb1.mono (Nat.le_trans HBS.out HBx8.out.size))
  have BGy5 := hide (BGx8.out.later hb1)
  have SHy5 := hide (SHx8.out.later hb1)
  have SGy5 := hide (SGx8.out.later hb1)
  have KAy5 := hide (KAx8.out.later hb1)
  have KBy5 := hide (KBx8.out.later hb1)
  have OSy5 := hide (OSx8.out.later hb1)
  have SSy5 := hide (SSx8.out.later hb1)
  have ORy5 := hide (ORx8.out.later hb1)
  have O3y5 := hide (O3x8.out.later hb1)
  have SRy5 := hide (SRx8.out.later hb1)
  have OTy5 := hide (OTx8.out.later hb1)
  have STy5 := hide (STx8.out.later hb1)
  have OQy5 := hide (OQx8.out.later hb1)
  have O5y5 := hide (O5x8.out.later hb1)
  have SQy5 := hide (SQx8.out.later hb1)
  clear HBx8 BGx8 SHx8 SGx8 KAx8 KBx8 OSx8 SSx8 ORx8 O3x8 SRx8 OTx8 STx8 OQx8 O5x8 SQx8
  clear hb1 SM
  have SM := hide (same22 N2 N2 pr pq E2 E2 cr cq2 y5 (by have := HE2.out; omega) ORy5.out.has OQy5.out.has)
  rw [show sameB N2 N2 E2 E2 = true by simp [sameB]] at SM
  obtain ⟨a0, a1, a2, a3⟩ := SRy5.out.cell
  obtain ⟨b0, b1, b2, b3⟩ := SQy5.out.cell
  go_wp2_with fail
  clear a0 a1 a2 a3 b0 b1 b2 b3
  refine SM.out.mono ?_
  rintro e y6 ⟨rfl, hb1⟩
  have HBy6 : Hid (Below B w y6) := Below.trans HBy5.out (hb1.mono (Nat.le_trans HBS.out HBy5.out.size))
  have BGy6 := hide (BGy5.out.later hb1)
  have SHy6 := hide (SHy5.out.later hb1)
  have SGy6 := hide (SGy5.out.later hb1)
  have KAy6 := hide (KAy5.out.later hb1)
  have KBy6 := hide (KBy5.out.later hb1)
  have OSy6 := hide (OSy5.out.later hb1)
  have SSy6 := hide (SSy5.out.later hb1)
  have ORy6 := hide (ORy5.out.later hb1)
  have O3y6 := hide (O3y5.out.later hb1)
  have SRy6 := hide (SRy5.out.later hb1)
  have OTy6 := hide (OTy5.out.later hb1)
  have STy6 := hide (STy5.out.later hb1)
  have OQy6 := hide (OQy5.out.later hb1)
  have O5y6 := hide (O5y5.out.later hb1)
  have SQy6 := hide (SQy5.out.later hb1)
  clear HBy5 BGy5 SHy5 SGy5 KAy5 KBy5 OSy5 SSy5 ORy5 O3y5 SRy5 OTy5 STy5 OQy5 O5y5 SQy5
  clear hb1 SM
  have I1 := hide (ints30 pl pm A3 A3 cl cm y6 (by have := HLN.out; unfold maxLen; omega) O3y6.out.has O5y6.out.has)
  rw [decide_eq_true rfl] at I1
  go_wp2_with fail
  refine I1.out.mono ?_
  rintro e y7 ⟨rfl, hb1⟩
  have HBy7 : Hid (Below B w y7) := Below.trans HBy6.out (hb1.mono (Nat.le_trans HBS.out HBy6.out.size))
  have BGy7 := hide (BGy6.out.later hb1)
  have SHy7 := hide (SHy6.out.later hb1)
  have SGy7 := hide (SGy6.out.later hb1)
  have KAy7 := hide (KAy6.out.later hb1)
  have KBy7 := hide (KBy6.out.later hb1)
  have OSy7 := hide (OSy6.out.later hb1)
  have SSy7 := hide (SSy6.out.later hb1)
  have ORy7 := hide (ORy6.out.later hb1)
  have O3y7 := hide (O3y6.out.later hb1)
  have SRy7 := hide (SRy6.out.later hb1)
  have OTy7 := hide (OTy6.out.later hb1)
  have STy7 := hide (STy6.out.later hb1)
  have OQy7 := hide (OQy6.out.later hb1)
  have O5y7 := hide (O5y6.out.later hb1)
  have SQy7 := hide (SQy6.out.later hb1)
  clear HBy6 BGy6 SHy6 SGy6 KAy6 KBy6 OSy6 SSy6 ORy6 O3y6 SRy6 OTy6 STy6 OQy6 O5y6 SQy6
  clear hb1 I1
  obtain ⟨a0, a1, a2, a3⟩ := SSy7.out.cell
  go_wp2_with fail
  clear a0 a1 a2 a3
  refine (spoil43 N1 ps E1 cs B y7 (OSy7.out.base HBX3.out) (Nat.le_trans HBS.out HBy7.out.size) HE1.out).mono ?_
  rintro e u1 ⟨rfl, hf⟩
  have hk := k60_of OSy7.out hf
  have HBu1 : Hid (Below B w u1) := Below.trans HBy7.out (hf.below (Nat.le_trans HBS.out HBy7.out.size) (fun i hi => Nat.le_trans HBX3.out (World.ownsRow.lt OSy7.out i hi).1))
  have BGu1 := hide (BGy7.out.k60 hk)
  have SRu1 : Hid (SBox u1 kr N2 (.slice pr E2.length cr)) := hk.row SRy7.out (by decide)
  have ORu1 : Hid (Owns u1 x4.heap.size (.slice pr E2.length cr) E2) := hf.row ORy7.out (fun i hi h2 => by have := R4.out i h2; have := R5.out i hi; have := ZX4.out; have := HKS.out; omega)
  clear hk hf
  obtain ⟨a0, a1, a2, a3⟩ := SRu1.out.cell
  go_wp2_with fail
  clear a0 a1 a2 a3
  refine (spoil43 N2 pr E2 cr B u1 (ORu1.out.base HBX4.out) (Nat.le_trans HBS.out HBu1.out.size) HE2.out).mono ?_
  rintro e u2 ⟨rfl, hf⟩
  have HBu2 : Hid (Below B w u2) := Below.trans HBu1.out (hf.below (Nat.le_trans HBS.out HBu1.out.size) (fun i hi => Nat.le_trans HBX4.out (World.ownsRow.lt ORu1.out i hi).1))
  have BGu2 := hide (BGu1.out.k60 (k60_of ORu1.out hf))
  clear hf
  go_wp2
  go_ret
  exact ⟨rfl, ⟨_, _, _, _, _, BGu2.out⟩, HBu2.out⟩
end Go.Proofs.Ytmmbbfmkhbengaa
