/- WalkSides: its walk. -/
import Derived.Test.YtghffodjffkijaaS1
import Derived.Test.YtghffodjffkijaaS2
import Derived.Test.YtghffodjffkijaaE12
namespace Go.Proofs.Ytghffodjffkijaa
open Go.RowKit Go.Sort
open Go
variable {es : List Pt} {n : Nat} {st : St}

/-- The least node of a component begins its tree. -/
theorem every_zero (hm : netB n es = true) : ∀ s, s ≤ n → ∀ v, v < n → 0 ≤ iat (everyN es n s).Fa v → (∀ u, u < v → ¬ Conn es u v) → iat (everyN es n s).Fa v = 0
  | 0, _, v, hv, h0, _ => by
    have h0' : 0 ≤ iat (List.replicate n (-1 : Int)) v := h0
    rw [iat_fill hv] at h0'
    omega
  | s + 1, hs, v, hv, h0, hl => by
    have ih := every_zero hm s (by omega) v hv
    obtain ⟨c, hall⟩ := everyN_shut (es := es) hm s (by omega)
    revert h0
    simp only [everyN]
    split
    · rename_i hneg
      obtain ⟨st, hst⟩ : ∃ st, everyN es n s = st := ⟨_, rfl⟩
      rw [hst] at ih c hall hneg ⊢
      obtain ⟨c1, c2, c3⟩ := c.walk hm (by omega) hneg
      obtain ⟨x1, x2⟩ := c.walkR hm (by omega) hneg
      obtain ⟨T, hT⟩ : ∃ T, bfs es n st.O.length (begin_ st s) = T := ⟨_, rfl⟩
      rw [hT] at c1 c2 c3 x1 x2 ⊢
      have hsn : s < n := by omega
      intro h0
      by_cases e : v = s
      · have hF : iat (begin_ st s).Fa s = 0 := iat_put (by rw [c.ok.lf]; exact hsn)
        rw [e, (x1.old s (by rw [hF]; omega)).1, hF]
      · by_cases ho : 0 ≤ iat st.Fa v
        · have hb : iat (begin_ st s).Fa v = iat st.Fa v := by show iat (st.Fa.set s 0) v = _; rw [iat_put_ne e]
          rw [(x1.old v (by rw [hb]; exact ho)).1, hb]
          exact ih ho hl
        · exfalso
          have hr := (x2 v hv h0).resolve_left ho
          obtain ⟨k, hk⟩ : ∃ k : Nat, iat T.Fa v = k := ⟨(iat T.Fa v).toNat, by omega⟩
          have h1 := conn_root c1.tree k v hv hk
          rw [hr] at h1
          rcases Nat.lt_or_ge v s with hlt | hge
          · exact ho (hall v hlt)
          · exact hl s (by omega) h1
    · intro h0
      exact ih h0 hl
/-- A row of bools. -/
def BRow (w : World) (base g n : Nat) (l : List Bool) : Prop := l.length = n ∧ w.ownsRow base 4 1 (.slice (some ⟨g, 0, none⟩) n n) n (l.map Value.bool)
theorem BRow.later {w w' : World} {base g n : Nat} {l : List Bool} (h : BRow w base g n l) (hb : Below w.heap.size w w') : BRow w' base g n l := ⟨h.1, World.ownsRow.kept h.2 (grown_below hb) (Or.inr (by simp [Value.ownBlock]))⟩
theorem BRow.cell {w : World} {base g n : Nat} {l : List Bool} (h : BRow w base g n l) {j : Nat} (hj : j < n) : w.cell? ⟨g, j, none⟩ = some (.bool (l.getD j false)) ∧ w.frozen? ⟨g, j, none⟩ = false := by
  refine ⟨?_, World.ownsRow.frozenAt h.2 j⟩
  rw [World.ownsRow.cellAt h.2 j (by omega), List.getElem?_map, List.getD_eq_getElem?_getD, List.getElem?_eq_getElem (by rw [h.1]; exact hj)]
  rfl
theorem BRow.set {w : World} {base g n : Nat} {l : List Bool} (h : BRow w base g n l) (j : Nat) (x : Bool) : BRow (w.setCell ⟨g, j, none⟩ (.bool x)) base g n (l.set j x) := by
  refine ⟨by rw [List.length_set]; exact h.1, ?_⟩
  have := (World.ownsRow.stored h.2 j (.bool x)).1
  rw [List.map_set]
  exact this
theorem brow_made {w : World} {base g n : Nat} (h : w.ownsRow base 4 1 (.slice (some ⟨g, 0, none⟩) n n) n (madeCells #[.bool false] n).toList) : BRow w base g n (List.replicate n false) := by
  rw [toList_madeCells_one] at h
  refine ⟨List.length_replicate, ?_⟩
  rw [List.map_replicate]
  exact h
/-- Which labels have come. -/
def snL (C : List Int) (k : Nat) : Nat → List Bool
  | 0 => List.replicate k false
  | v + 1 => (snL C k v).set (iat C v).toNat true
theorem snL_len (C : List Int) (k : Nat) : ∀ v, (snL C k v).length = k
  | 0 => by simp [snL]
  | v + 1 => by simp only [snL, List.length_set]; exact snL_len C k v
theorem snL_no (C : List Int) (k j : Nat) (hj : j < k) : ∀ v, (snL C k v).getD j false = false → ∀ u, u < v → (iat C u).toNat ≠ j
  | 0, _ => fun u hu => by omega
  | v + 1, h => by
    intro u hu e
    simp only [snL] at h
    by_cases ev : (iat C v).toNat = j
    · rw [ev, List.getD_eq_getElem?_getD, List.getElem?_set_self (by rw [snL_len]; exact hj)] at h
      simp at h
    · rw [List.getD_eq_getElem?_getD, List.getElem?_set_ne ev, ← List.getD_eq_getElem?_getD] at h
      have ih := snL_no C k j hj v h
      by_cases eu : u = v
      · rw [eu] at e; exact ev e
      · exact ih u (by omega) e
set_option maxRecDepth 100000 in
set_option maxHeartbeats 8000000 in
theorem sides_no (n : Int) (p : Option Addr) (es : List Pt) (cp : Nat) (w : World) (h : Has w p es) (hm : netB n es = false) : Calls Try.prog 6 #[nv n p es.length cp] w fun e w' => e = .returned (.bool true) ∧ Below w.heap.size w w' := by
  obtain ⟨W, hW, hb, a0⟩ := one_net w n p es.length cp
  have SD : Hid (∀ V, Has V p es → Calls Try.prog 28 #[nv n p es.length cp] V fun e w' => e = .returned (.tuple #[nilS, nilS, .int .i64 1]) ∧ Below V.heap.size V w') := fun V hV => sides28no n p es cp V hV hm
  have MY : Hid (∀ V, Has V p es → Calls Try.prog 12 #[nv n p es.length cp] V fun e w' => e = .returned (.bool false) ∧ Below V.heap.size V w') := fun V hV => by have := may12 n p es cp V hV; rw [hm] at this; exact this
  have BG := hide (begun9 W)
  have HH := hide (h.later hb)
  have HB := hide hb
  have HA := hide a0
  clear h hb a0 hm
  go_enter Try.func6, Try.ntmps6
  go_wp2_with fail
  rw [← hW]
  clear hW
  refine BG.out.mono ?_
  rintro e w1 ⟨rfl, hb1⟩
  have C1 := hide (SD.out w1 (HH.out.later hb1))
  have HH1 := hide (HH.out.later hb1)
  have HB1 := hide (below_step HB.out hb1)
  have HA1 := hide (HA.out.later hb1)
  obtain ⟨q0, q1, _, _⟩ := HA1.out
  clear hb1 BG
  go_wp2_with fail
  refine C1.out.mono ?_
  rintro e w2 ⟨rfl, hb2⟩
  have C2 := hide (MY.out w2 (HH1.out.later hb2))
  have HB2 := hide (below_step HB1.out hb2)
  have HA2 := hide (HA1.out.later hb2)
  clear q0 q1 C1 hb2
  obtain ⟨q0, q1, _, _⟩ := HA2.out
  go_wp2_with fail
  refine C2.out.mono ?_
  rintro e w3 ⟨rfl, hb3⟩
  have HB3 := hide (below_step HB2.out hb3)
  clear hb3 C2 q0 q1
  go_wp2
  go_ret
  exact ⟨rfl, HB3.out⟩
/-- What is told of the sides. -/
structure SideOk (es : List Pt) (m : Nat) (Fa C : List Int) (k : Nat) : Prop where
  lab : ∀ v, v < m → 0 ≤ iat C v ∧ iat C v < k
  first : ∀ v, v < m → (∀ u, u < v → iat C u ≠ iat C v) → iat Fa v = 0
  pos : ∀ v, v < m → 0 ≤ iat Fa v
theorem side_ok {m : Nat} (hm : netB m es = true) {k : Nat} {C : List Int} {r : Nat → Nat} (L : Lab es m k m C r NoDue) : SideOk es m (everyN es m m).Fa C k where
  lab v hv := by have := L.done v hv hv; have := L.val v hv; omega
  first v hv h := every_zero hm m (Nat.le_refl _) v hv ((everyN_shut (es := es) hm m (Nat.le_refl _)).2 v hv) (fun u hu hc => h u hu ((L.conn hm (by omega) hv).2 hc))
  pos v hv := (everyN_shut (es := es) hm m (Nat.le_refl _)).2 v hv
/-- The way round that Sides tells: closed, each edge once, and odd. -/
theorem odd_loop {m e : Nat} (hm : netB m es = true) (he : e < es.length) (ha : alike es (everyN es m m).Fa e) : Loop es (cloL es (everyN es m m) (2 * e)) ∧ (cloL es (everyN es m m) (2 * e)).length % 2 = 1 ∧ (cloL es (everyN es m m) (2 * e)).length ≤ 4096 := by
  obtain ⟨n0, n1, hes, hE⟩ := netB_is hm
  obtain ⟨c, hall⟩ := everyN_shut (es := es) hm m (Nat.le_refl _)
  obtain ⟨x0, x1, y0, y1⟩ := hE e he
  obtain ⟨x, hx⟩ : ∃ x : Nat, (at' es e).x = x := ⟨(at' es e).x.toNat, by omega⟩
  obtain ⟨y, hy⟩ : ∃ y : Nat, (at' es e).y = y := ⟨(at' es e).y.toNat, by omega⟩
  unfold alike at ha
  rw [hx, hy, Int.toNat_natCast, Int.toNat_natCast] at ha
  generalize everyN es m m = T at *
  have f1 : fromL es (2 * e) = x := by unfold fromL; rw [if_pos (by omega), show 2 * e / 2 = e by omega, hx]
  have t1 : toL es (2 * e) = y := by unfold toL; rw [if_pos (by omega), show 2 * e / 2 = e by omega, hy]
  have fx := hall x (by omega)
  have fy := hall y (by omega)
  have hr := (c.all (2 * e) x y (by omega) f1 t1 fx).2
  obtain ⟨L, z, hz, hlen⟩ := cloL_loop c.tree (by omega : 2 * e < 2 * es.length) t1 f1 (by omega) (by omega) fy fx hr.symm (fun v hv h0 heq => by
    obtain ⟨q, q1, q2, q3, q4, q5, q6, _⟩ := root_par c.tree hv h0
    rw [q2, Int.toNat_natCast] at heq
    have hqe : q / 2 = e := by omega
    unfold toL at q3
    unfold fromL at q4
    rw [hqe] at q3 q4
    by_cases h2 : q % 2 = 0
    · rw [if_pos h2, hy] at q3
      rw [if_pos h2, hx] at q4
      have e1 : y = v := by omega
      have e2 : x = par es T v := by omega
      rw [e1, e2] at ha
      omega
    · rw [if_neg h2, hx] at q3
      rw [if_neg h2, hy] at q4
      have e1 : x = v := by omega
      have e2 : y = par es T v := by omega
      rw [e1, e2] at ha
      omega)
  have v1 := c.ok.val x (by omega)
  have v2 := c.ok.val y (by omega)
  have hc := c.ok.cnt
  exact ⟨L, by omega, by omega⟩
theorem loop_next {l : List Int} (h : Loop es l) : ∀ i, i < l.length → toL es (iat l i).toNat = fromL es (iat l (nx l.length i)).toNat := by
  intro i hi
  obtain ⟨a, hw⟩ := h.way
  unfold nx
  by_cases e : i + 1 = l.length
  · rw [if_pos e, hw.first h.pos]
    have := hw.last h.pos
    rw [show l.length - 1 = i by omega] at this
    exact this
  · rw [if_neg e]
    exact hw.next i (by omega)
theorem loop_in {l : List Int} (h : Loop es l) : ∀ i, i < l.length → ∃ k : Nat, iat l i = k ∧ k < 2 * es.length := by
  obtain ⟨a, hw⟩ := h.way
  exact hw.at_
set_option maxRecDepth 100000 in
set_option maxHeartbeats 8000000 in
theorem sides_yes (m : Nat) (p : Option Addr) (es : List Pt) (cp : Nat) (w : World) (h : Has w p es) (hm : netB m es = true) : Calls Try.prog 6 #[nv m p es.length cp] w fun e w' => e = .returned (.bool true) ∧ Below w.heap.size w w' := by
  obtain ⟨W, hW, hb, a0⟩ := one_net w m p es.length cp
  obtain ⟨i0, hi0, hz0, hz1, hz2⟩ := info_parts info4
  obtain ⟨n0, n1, hes, hE⟩ := netB_is hm
  have SD : Hid (∀ V, Has V p es → Calls Try.prog 28 #[nv m p es.length cp] V fun e w' => ∃ a b, e = .returned (.tuple #[a, b, .int .i64 0]) ∧ SidesPost w' V.heap.size m es (everyN es m m) a b ∧ Below V.heap.size V w') := fun V hV => sides28 m p es cp V hV hm
  have MY : Hid (∀ V, Has V p es → Calls Try.prog 12 #[nv m p es.length cp] V fun e w' => e = .returned (.bool true) ∧ Below V.heap.size V w') := fun V hV => by have := may12 m p es cp V hV; rw [hm] at this; exact this
  have PA : Hid (∀ V, Has V p es → Calls Try.prog 20 #[nv m p es.length cp, .slice none 0 0, .slice none 0 0] V fun e w' => PartsPost es m V e w') := fun V hV => parts19 m p es cp V hV hm
  have BG := hide (begun9 W)
  have HH := hide (h.later hb)
  have HB := hide hb
  have HA := hide a0
  have HM := hide hm
  have HE := hide hE
  clear h hb a0 hm hE
  go_enter Try.func6, Try.ntmps6
  go_wp2_with fail
  rw [← hW]
  clear hW
  refine BG.out.mono ?_
  rintro e w1 ⟨rfl, hb1⟩
  have C1 := hide (SD.out w1 (HH.out.later hb1))
  have HH1 := hide (HH.out.later hb1)
  have HB1 := hide (below_step HB.out hb1)
  have HA1 := hide (HA.out.later hb1)
  obtain ⟨q0, q1, _, _⟩ := HA1.out
  clear hb1 BG
  go_wp2_with fail
  refine C1.out.mono ?_
  rintro e w2 ⟨sa, sb, rfl, hpost, hb2⟩
  have C2 := hide (MY.out w2 (HH1.out.later hb2))
  have HH2 := hide (HH1.out.later hb2)
  have HB2 := hide (below_step HB1.out hb2)
  have HA2 := hide (HA1.out.later hb2)
  clear q0 q1 C1 hb2
  obtain ⟨q0, q1, _, _⟩ := HA2.out
  rcases hpost with ⟨hno, rfl, ga, rfl, hga⟩ | ⟨ed, hed, _, hal, rfl, hob⟩
  · -- the sides
    go_wp2_with fail
    refine C2.out.mono ?_
    rintro e w3 ⟨rfl, hb3⟩
    have HH3 := hide (HH2.out.later hb3)
    have HB3 := hide (below_step HB2.out hb3)
    have HA3 := hide (HA2.out.later hb3)
    have HG3 := hide (hga.later hb3)
    have HNO := hide hno
    have C3 := hide (PA.out w3 HH3.out)
    clear hb3 C2 q0 q1 hga hno
    obtain ⟨q0, q1, _, _⟩ := HA3.out
    go_wp2_with fail
    refine C3.out.mono ?_
    rintro e X ⟨gc, k, C, r, rfl, hC, hL, hbX⟩
    have SO := hide (side_ok HM.out hL)
    have HHX := hide (HH3.out.later hbX)
    have HBX := hide (below_step HB3.out hbX)
    have HAX := hide (HA3.out.later hbX)
    have HGX := hide (HG3.out.later hbX)
    have HCX := hide hC
    have hkm : k ≤ m := by
      rcases Nat.eq_zero_or_pos k with h | h
      · omega
      · have := (hL.root (k - 1) (by omega)).2
        have r1 := (hL.root (k - 1) (by omega)).1
        have : ∀ j, j < k → j ≤ r j := by
          intro j
          induction j with
          | zero => intro _; omega
          | succ j ih => intro hj; have := hL.inc j (j + 1) (by omega) hj; have := ih (by omega); omega
        have := this (k - 1) (by omega)
        omega
    generalize everyN es m m = T at *
    clear C3 hC hL hbX q0 q1 HH3 HB3 HA3 HG3
    go_wp2_with (refine wpList_make_full _ rfl (.tmp 73) (.tmp 73) 55 rfl X.heap.size 4 i0 (.bool false) 1 Try.underlying55 hi0 hz0 hz1 .i64 .i64 _ _ k rfl rfl rfl rfl ?c1 ?c2 ?c3 ?_)
    case c1 => rw [hz2]; omega
    case c2 => unfold maxLen; omega
    case c3 => exact Nat.le_refl _
    intro Y hown hgrow
    have HS := hide (brow_made hown)
    have HBXY := hide (below_made hgrow)
    clear hown hgrow
    go_wp2_with fail
    obtain ⟨gs, hgs⟩ : ∃ g, X.heap.size = g := ⟨_, rfl⟩
    have HGS := hide hgs
    have HSS : Hid (BRow Y X.heap.size gs k (List.replicate k false)) := by show BRow _ _ _ _ _; rw [← hgs]; exact HS.out
    rw [hgs]
    obtain ⟨kb, hkb⟩ : ∃ kb, w.heap.size = kb := ⟨_, rfl⟩
    rw [hkb] at HAX ⊢
    have n2 : gs ≠ ga := by have := HGX.out.lt.2; have := HGS.out; omega
    have n3 : gs ≠ gc := by have := HCX.out.lt.2; have := HGS.out; omega
    clear hkb hgs HS
    go_loopw [9] (fun t wr => ∃ v : Nat, v ≤ m ∧ t = .int .i64 v ∧ Hid (Below X.heap.size X wr) ∧ Hid (BRow wr X.heap.size gs k (snL C k v))) (fun t _ => m - (intOf t).toNat)
    case atStart => exact ⟨0, by omega, rfl, HBXY.out, HSS.out⟩
    case round =>
      obtain ⟨v, hv, rfl, HBr, HSr⟩ := hrel
      obtain ⟨q0, q1, _, _⟩ := HAX.out.later HBr.out
      by_cases hlt : v < m
      · have s0 := ((HGX.out.later HBr.out).cell hlt).1
        rw [sdL_at T.Fa m v hlt m (Nat.le_refl _), if_pos hlt] at s0
        have c0 := ((HCX.out.later HBr.out).cell hlt).1
        obtain ⟨l0, l1⟩ := SO.out.lab v hlt
        have hpos := SO.out.pos v hlt
        have HST : Hid (snL C k (v + 1) = (snL C k v).set (iat C v).toNat true) := rfl
        have HFI : Hid ((snL C k v).getD (iat C v).toNat false = false → iat T.Fa v = 0) := fun hh => SO.out.first v hlt (fun u hu e => by
          have := snL_no C k (iat C v).toNat (by omega) v hh u hu
          rw [e] at this
          exact this rfl)
        obtain ⟨cv, hcv⟩ : ∃ c : Nat, iat C v = c := ⟨(iat C v).toNat, by omega⟩
        rw [hcv] at c0 l0 l1 HST HFI
        rw [Int.toNat_natCast] at HST HFI
        have hck : cv < k := by omega
        obtain ⟨b0, f0⟩ := HSr.out.cell hck
        obtain ⟨sv, hsv⟩ : ∃ z, iat T.Fa v % 2 = z := ⟨_, rfl⟩
        have hs01 : sv = 0 ∨ sv = 1 := by omega
        have HF2 : Hid ((snL C k v).getD cv false = false → sv = 0) := fun hh => by have := HFI.out hh; omega
        rw [hsv] at s0
        obtain ⟨bb, hbb⟩ : ∃ b, (snL C k v).getD cv false = b := ⟨_, rfl⟩
        rw [hbb] at b0 HF2
        have j1 : (v : Int) < m := by omega
        have j2 : (0 : Int) ≤ v := by omega
        have j3 : (cv : Int) < k := by omega
        have j4 : (0 : Int) ≤ cv := by omega
        clear hcv hsv hbb HFI hpos
        rcases hs01 with rfl | rfl
        · cases bb
          · go_wp2
            go_roundw
            case rel => exact ⟨v + 1, by omega, by go_num, HBr.out.setCell (p := ⟨gs, cv, none⟩) (Nat.le_of_eq HGS.out) _, by show BRow _ _ _ _ _; rw [HST.out]; exact HSr.out.set cv true⟩
            case measure => simp [intOf]; omega
          · go_wp2
            go_roundw
            case rel => exact ⟨v + 1, by omega, by go_num, HBr.out.setCell (p := ⟨gs, cv, none⟩) (Nat.le_of_eq HGS.out) _, by show BRow _ _ _ _ _; rw [HST.out]; exact HSr.out.set cv true⟩
            case measure => simp [intOf]; omega
        · cases bb
          · exact absurd (HF2.out rfl) (by omega)
          · go_wp2
            go_roundw
            case rel => exact ⟨v + 1, by omega, by go_num, HBr.out.setCell (p := ⟨gs, cv, none⟩) (Nat.le_of_eq HGS.out) _, by show BRow _ _ _ _ _; rw [HST.out]; exact HSr.out.set cv true⟩
            case measure => simp [intOf]; omega
      · have j1 : ¬ (v : Int) < m := by omega
        go_wp2_with fail
        obtain ⟨Z, hZ⟩ : ∃ Z, Z = wr := ⟨_, rfl⟩
        rw [← hZ] at HBr ⊢
        clear hZ q0 q1 j1 hlt hv
        go_loopw [10] (fun t wz => ∃ i : Nat, i ≤ es.length ∧ t = .int .i64 i ∧ Hid (Below X.heap.size X wz)) (fun t _ => es.length - (intOf t).toNat)
        case atStart => exact ⟨0, by omega, rfl, HBr.out⟩
        case round =>
          obtain ⟨i, hi, rfl, HBz⟩ := hrel
          obtain ⟨q0, q1, _, _⟩ := HAX.out.later HBz.out
          by_cases hlt : i < es.length
          · have hq : ∃ b off, p = some ⟨b, off, none⟩ ∧ Lies X b off es := by
              rcases HHX.out with h0 | h0
              · subst h0; simp at hlt
              · exact h0
            obtain ⟨b, off, rfl, hLW⟩ := hq
            obtain ⟨c0, c1⟩ := hLW.later HBz.out i hlt
            obtain ⟨e0, e1, e2, e3⟩ := HE.out i hlt
            have hal := HNO.out i hlt
            unfold alike at hal
            obtain ⟨x, hx⟩ : ∃ x : Nat, (at' es i).x = x := ⟨(at' es i).x.toNat, by omega⟩
            obtain ⟨y, hy⟩ : ∃ y : Nat, (at' es i).y = y := ⟨(at' es i).y.toNat, by omega⟩
            rw [hx] at c0 e0 e1 hal
            rw [hy] at c1 e2 e3 hal
            rw [Int.toNat_natCast, Int.toNat_natCast] at hal
            have hxm : x < m := by omega
            have hym : y < m := by omega
            have s0 := ((HGX.out.later HBz.out).cell hxm).1
            have s1 := ((HGX.out.later HBz.out).cell hym).1
            rw [sdL_at T.Fa m x hxm m (Nat.le_refl _), if_pos hxm] at s0
            rw [sdL_at T.Fa m y hym m (Nat.le_refl _), if_pos hym] at s1
            obtain ⟨fx, hfx⟩ : ∃ z, iat T.Fa x % 2 = z := ⟨_, rfl⟩
            obtain ⟨fy, hfy⟩ : ∃ z, iat T.Fa y % 2 = z := ⟨_, rfl⟩
            rw [hfx] at s0 hal
            rw [hfy] at s1 hal
            have t1 : (fx == fy) = false := by simp [hal]
            have j1 : (i : Int) < es.length := by omega
            have j2 : (0 : Int) ≤ i := by omega
            have j3 : (x : Int) < m := by omega
            have j4 : (0 : Int) ≤ x := by omega
            have j5 : (y : Int) < m := by omega
            have j6 : (0 : Int) ≤ y := by omega
            clear hx hy hLW hfx hfy hal
            go_upto_region 23 with fail
            go_quiet (fail)
            have HBq := hide (below_drewN (n := nq) HBz.out)
            clear q0 q1 c0 c1 s0 s1
            go_wp2
            go_roundw
            case rel => exact ⟨i + 1, by omega, by go_num, HBq.out⟩
            case measure => simp [intOf]; omega
          · have j1 : ¬ (i : Int) < es.length := by omega
            go_wp2
            go_ret
            exact ⟨rfl, below_step HBX.out HBz.out⟩
  · -- a way round
    obtain ⟨LP, hodd, hlen⟩ := odd_loop HM.out hed hal
    obtain ⟨gl, cl, hvb, _, _, _⟩ := iowns_block hob LP.pos
    subst hvb
    have HOB := hide hob
    have HLP := hide LP
    generalize cloL es (everyN es m m) (2 * ed) = l at *
    have hpos : 0 < l.length := LP.pos
    have j1 : (0 : Int) < l.length := by omega
    have j2 : Int.tmod (l.length : Int) 2 = 1 := by rw [Int.tmod_eq_emod_of_nonneg (by omega)]; omega
    clear LP hob hodd hal
    go_wp2_with fail
    refine C2.out.mono ?_
    rintro e w3 ⟨rfl, hb3⟩
    have HH3 := hide (HH2.out.later hb3)
    have HB3 := hide (below_step HB2.out hb3)
    have HA3 := hide (HA2.out.later hb3)
    have HO3 := hide (IOwns.later HOB.out hb3)
    have WK := hide (walk29 m p es cp gl cl _ l w3 HH3.out (by omega) HO3.out (by omega) (loop_in HLP.out) (loop_next HLP.out))
    clear hb3 C2 q0 q1
    obtain ⟨q0, q1, _, _⟩ := HA3.out
    go_wp2_with fail
    refine WK.out.mono ?_
    rintro e w4 ⟨rfl, hb4⟩
    have HH4 := hide (HH3.out.later hb4)
    have HB4 := hide (below_step HB3.out hb4)
    have HA4 := hide (HA3.out.later hb4)
    have HO4 := hide (IOwns.later HO3.out hb4)
    have ON := hide (once30 false m p es cp gl cl _ l w4 HH4.out (by omega) HO4.out (by omega) (loop_in HLP.out) HLP.out.once (fun h => by simp at h))
    clear hb4 WK q0 q1
    obtain ⟨q0, q1, _, _⟩ := HA4.out
    by_cases h400 : (l.length : Int) > 400
    · go_wp2
      go_ret
      exact ⟨rfl, HB4.out⟩
    · go_wp2_with fail
      refine ON.out.mono ?_
      rintro e w5 ⟨rfl, hb5⟩
      have HB5 := hide (below_step HB4.out hb5)
      clear hb5 ON q0 q1
      go_wp2
      go_ret
      exact ⟨rfl, HB5.out⟩
theorem sides_walk (n : Int) (p : Option Addr) (es : List Pt) (cp : Nat) (w : World) (h : Has w p es) : Calls Try.prog 6 #[nv n p es.length cp] w fun e w' => e = .returned (.bool true) ∧ Below w.heap.size w w' := by
  cases hm : netB n es
  · exact sides_no n p es cp w h hm
  · obtain ⟨n0, _⟩ := netB_is hm
    obtain ⟨m, rfl⟩ : ∃ m : Nat, n = m := ⟨n.toNat, by omega⟩
    exact sides_yes m p es cp w h hm
end Go.Proofs.Ytghffodjffkijaa
