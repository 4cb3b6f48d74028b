/- KuraGrown's walk. -/
import Derived.Test.YtaebbfilgfkckaaKH1
import Derived.Test.YtaebbfilgfkckaaRJ
import Derived.Test.YtaebbfilgfkckaaRS
/- Pure: what KuraGrown lays out is told as what it is. -/
namespace Go.Proofs.Ytaebbfilgfkckaa
open Go.RowKit Go.Sort
open Go
/-- A list of numbers, begun at another place. -/
def turL (m a : Nat) : List Int := (upL m).drop a ++ (upL m).take a
theorem turL_length (m a : Nat) : (turL m a).length = m := by
  unfold turL; rw [List.length_append, List.length_drop, List.length_take, upL_length]; omega
theorem turL_at {m a : Nat} (ha : a ≤ m) {i : Nat} (hi : i < m) : iat (turL m a) i = ((if i < m - a then a + i else i - (m - a) : Nat) : Int) := by
  unfold iat turL
  rw [List.getD_eq_getElem?_getD]
  by_cases h : i < m - a
  · rw [if_pos h, List.getElem?_append_left (by rw [List.length_drop, upL_length]; exact h), List.getElem?_drop]
    have := upL_at (b := m) (i := a + i) (by omega)
    unfold iat at this
    rw [List.getD_eq_getElem?_getD] at this
    exact this
  · rw [if_neg h, List.getElem?_append_right (by rw [List.length_drop, upL_length]; omega), List.length_drop, upL_length, List.getElem?_take_of_lt (by omega)]
    have := upL_at (b := m) (i := i - (m - a)) (by omega)
    unfold iat at this
    rw [List.getD_eq_getElem?_getD] at this
    exact this
theorem pick_up' (pk E : List Pt) : pick (pk ++ E) (upL pk.length) = pk := by
  apply at_ext (by rw [pick_length, upL_length])
  intro j hj
  rw [pick_length, upL_length] at hj
  rw [pick_at _ _ (by rw [upL_length]; exact hj), upL_at hj, Int.toNat_natCast]
  unfold at'
  rw [List.getD_eq_getElem?_getD, List.getD_eq_getElem?_getD, List.getElem?_append_left hj]
theorem pick_turn (pk E : List Pt) (a : Nat) : pick (pk ++ E) (turL pk.length a) = pk.drop a ++ pk.take a := by
  have h := pick_up' pk E
  unfold pick at h
  unfold turL
  rw [pick_append]
  unfold pick
  rw [List.map_drop, List.map_take, h]
theorem grown_is {kd : Int} {b dg N n' : Nat} {bes pk E : List Pt} {Ps : List (List Nat)} (hk : KdIs kd b dg bes) (hS : SubI N pk b dg (jsK kd) Ps) (hn : N ≤ n') (hm : netB n' (pk ++ E) = true) {a : Nat} (ha : a ≤ pk.length) : isK n' (pk ++ E) (turL pk.length a) ∧ knI n' (pk ++ E) (turL pk.length a) = kd ∧ (bsS (n' : Int).toNat (pick (pk ++ E) (turL pk.length a))).length = b := by
  have hs : subE n' (pk ++ E) (turL pk.length a) = 0 := sub_of hm (fun i hi => by
    rw [turL_length] at hi
    rw [turL_at ha hi, List.length_append]
    split <;> omega) (fun i k hki hi => by
    rw [turL_length] at hi
    rw [turL_at ha hi, turL_at ha (by omega)]
    intro e
    split at e <;> split at e <;> omega)
  obtain ⟨Ps', hS'⟩ := hS.turn ha
  have hS2 := hS'.wide hn (by have := (netB_is hm).2.1; omega)
  obtain ⟨h1, h2, h3⟩ := kd_done hk hS2
  have hp := pick_turn pk E a
  have hK : isK n' (pk ++ E) (turL pk.length a) := ⟨hs, by rw [Int.toNat_natCast, hp]; exact h1⟩
  refine ⟨hK, ?_, by rw [Int.toNat_natCast, hp]; exact h3⟩
  unfold knI
  rw [if_pos hK, Int.toNat_natCast, hp]
  exact h2
/-- The edges more that touch it. -/
def exL (N : Int) (es : List Pt) (k : Nat) : List Pt := (List.range k).map fun j => ⟨Int.tmod (at' es j).x N, Int.tmod (at' es j).y N⟩
theorem exL_length (N : Int) (es : List Pt) (k : Nat) : (exL N es k).length = k := by simp [exL]
theorem exL_more (N : Int) (es : List Pt) (k : Nat) : exL N es (k + 1) = exL N es k ++ [⟨Int.tmod (at' es k).x N, Int.tmod (at' es k).y N⟩] := by simp [exL, List.range_succ]
theorem grown_net {N n : Nat} {pk es : List Pt} (h1 : netB N pk = true) (h2 : netB n es = true) (hN : 0 < N) (hn : N + n ≤ 1024) (hl : pk.length + es.length + es.length ≤ 3072) : netB ((N + n : Nat) : Int) (pk ++ ((es.map fun e => (⟨(N : Int) + e.x, (N : Int) + e.y⟩ : Pt)) ++ exL N es es.length)) = true := by
  obtain ⟨_, _, _, hE1⟩ := netB_is h1
  obtain ⟨_, _, _, hE2⟩ := netB_is h2
  refine net_yes (by omega) (by simp [fitsB, exL_length]; omega) fun j hj => ?_
  have key : ∀ p ∈ pk ++ ((es.map fun e => (⟨(N : Int) + e.x, (N : Int) + e.y⟩ : Pt)) ++ exL N es es.length), 0 ≤ p.x ∧ p.x < ((N + n : Nat) : Int) ∧ 0 ≤ p.y ∧ p.y < ((N + n : Nat) : Int) := by
    intro p hp
    rcases List.mem_append.1 hp with hp | hp
    · obtain ⟨i, hi, e⟩ := List.getElem_of_mem hp
      have := hE1 i hi
      rw [at_get hi, e] at this
      omega
    · rcases List.mem_append.1 hp with hp | hp
      · obtain ⟨q, hq, rfl⟩ := List.mem_map.1 hp
        obtain ⟨i, hi, e⟩ := List.getElem_of_mem hq
        have := hE2 i hi
        rw [at_get hi, e] at this
        simp only
        omega
      · unfold exL at hp
        obtain ⟨i, hi, rfl⟩ := List.mem_map.1 hp
        have hi := List.mem_range.1 hi
        have := hE2 i hi
        simp only
        rw [Int.tmod_eq_emod_of_nonneg (by omega), Int.tmod_eq_emod_of_nonneg (by omega)]
        have a1 := Int.emod_nonneg (at' es i).x (show (N : Int) ≠ 0 by omega)
        have a2 := Int.emod_lt_of_pos (at' es i).x (show (0 : Int) < N by omega)
        have a3 := Int.emod_nonneg (at' es i).y (show (N : Int) ≠ 0 by omega)
        have a4 := Int.emod_lt_of_pos (at' es i).y (show (0 : Int) < N by omega)
        omega
  have := key _ (at_mem hj)
  simp only [edB, belowB, Bool.and_eq_true, decide_eq_true_eq]
  omega
end Go.Proofs.Ytaebbfilgfkckaa

namespace Go.Proofs.Ytaebbfilgfkckaa
open Go.RowKit Go.Sort
open Go
/-- A list of bytes that is handed in. -/
def UHas (w : World) (p : Option Addr) (l : List Int) : Prop := l = [] ∨ ∃ b off, p = some ⟨b, off, none⟩ ∧ ∀ j, j < l.length → w.cell? ⟨b, off + j, none⟩ = some (.int .u8 (iat l j)) ∧ 0 ≤ iat l j ∧ iat l j ≤ 255
theorem UHas.later {w w' : World} {p : Option Addr} {l : List Int} (h : UHas w p l) (hb : Below w.heap.size w w') : UHas w' p l := by
  rcases h with h | ⟨b, off, e, h⟩
  · exact Or.inl h
  · exact Or.inr ⟨b, off, e, fun j hj => ⟨Ytaebbfilgfkckaa.later hb (h j hj).1, (h j hj).2⟩⟩
set_option maxRecDepth 100000 in
set_option maxHeartbeats 16000000 in
theorem grown_walk (five : Bool) (ps : Option Addr) (ss : List Int) (cs : Nat) (n : Int) (p : Option Addr) (es : List Pt) (cp : Nat) (turn : Int) (w : World) (hs : UHas w ps ss) (h : Has w p es) (hnp : p = none → cp = 0) : Calls Try.prog 4 #[.bool five, .slice ps ss.length cs, nv n p es.length cp, .int .i64 turn] w fun e w' => e = .returned (.bool true) ∧ Below w.heap.size w w' := by
  obtain ⟨W, hW, hb0, a0⟩ := one_net w n p es.length cp
  have HB := hide hb0
  have HA := hide a0
  have HH := hide (h.later hb0)
  have HU := hide (hs.later hb0)
  have BG := hide (begun6 W)
  have HNP := hide hnp
  clear h hs hb0 a0 hnp
  go_enter Try.func4, Try.ntmps4
  go_upto_region 1 with fail
  rw [← hW]
  clear hW
  go_wp2_with fail
  refine BG.out.mono ?_
  rintro r w1 ⟨rfl, hb1⟩
  have HB1 := hide hb1
  have MY := hide (may12 n p es cp w1 (HH.out.later hb1))
  obtain ⟨q0, q1, _, _⟩ := HA.out.later hb1
  clear BG hb1
  go_upto_region 3 with fail
  go_wp2_with fail
  refine MY.out.mono ?_
  rintro r w2 ⟨rfl, hb2⟩
  have HB2 := hide (below_step HB1.out hb2)
  clear MY hb2 q0 q1
  obtain ⟨q0, q1, _, _⟩ := HA.out.later HB2.out
  have HE := hide (below_step HB.out HB2.out)
  obtain ⟨m, hm⟩ : ∃ b, netB n es = b := ⟨_, rfl⟩
  have HM := hide hm
  rw [hm]
  clear hm
  cases m
  · go_wp2
    go_ret
    exact ⟨retB (by rfl), HE.out⟩
  · by_cases h1 : n ≤ 50
    · by_cases h2 : es.length ≤ 60
      · by_cases h3 : ss.length ≤ 60
        · by_cases h4 : turn < 0
          · go_wp2
            go_ret
            exact ⟨retB (by rfl), HE.out⟩
          · have t4 : 0 ≤ turn := by omega
            have HT4 := hide t4
            have HT2 := hide h2
            have HT3 := hide h3
            have TW := hide (two25 w2)
            go_upto_region 5 with fail
            go_wp2_with fail
            refine TW.out.mono ?_
            rintro r w3 ⟨p3, c3, rfl, o3, hb3⟩
            obtain ⟨X, hX, hbX, gX⟩ : ∃ X, X = w3.alloc (nbx 6 p3 9 c3) ∧ Below w3.heap.size w3 X ∧ GB X w3.heap.size W.heap.size 6 (twoL 3 3 3) := ⟨_, rfl, by go_grown, by
              have := GB.made (B := W.heap.size) (n := 6) (es := twoL 3 3 3) (p := p3) (c := c3) (w := w3) (by have := HB2.out.size; have := hb3.size; omega) (by rw [k33_len]; exact o3.base HB2.out.size)
              rw [k33_len] at this
              exact this⟩
            obtain ⟨X4, hX4, hbX4, gX4, gX4'⟩ : ∃ X4, X4 = X.alloc (nbx 6 p3 9 c3) ∧ Below X.heap.size X X4 ∧ GB X4 X.heap.size W.heap.size 6 (twoL 3 3 3) ∧ GB X4 w3.heap.size W.heap.size 6 (twoL 3 3 3) := ⟨_, rfl, by go_grown, by
              have := GB.made (B := W.heap.size) (n := 6) (es := twoL 3 3 3) (p := p3) (c := c3) (w := X) (by have := HB2.out.size; have := hb3.size; have := hbX.size; omega) (by rw [k33_len]; exact ((o3.base HB2.out.size).later hbX))
              rw [k33_len] at this
              exact this, gX.later (by go_grown)⟩
            have HBX := hide (below_step HB2.out (below_step hb3 (below_step hbX hbX4)))
            have HG11 := hide gX4
            have HG9 := hide gX4'
            have HNE : Hid (w3.heap.size < X.heap.size) := gX.lt
            clear TW o3 hb3 gX gX4 gX4' hbX hbX4 q0 q1
            go_upto_if 57 with fail
            rw [← hX, ← hX4]
            have hxs : X.heap.size = w3.heap.size + 1 := by rw [hX]; simp
            obtain ⟨k11, hk11⟩ : ∃ k, w3.heap.size + 1 = k := ⟨_, rfl⟩
            rw [hxs, hk11] at HNE HG11
            rw [hk11]
            obtain ⟨k9, hk9⟩ : ∃ k, w3.heap.size = k := ⟨_, rfl⟩
            rw [hk9] at HNE HG9 ⊢
            clear hX hX4 hk9 hk11 hxs
            go_cut [12] (fun s12 wx => ∃ (kd : Int) (b dg : Nat) (bes : List Pt), s12 = .int .i64 kd ∧ Hid (KdIs kd b dg bes) ∧ Hid (GB wx k9 W.heap.size b bes) ∧ Hid (GB wx k11 W.heap.size b bes) ∧ Hid (Below W.heap.size W wx))
            case first =>
              cases five
              · go_wp2_with fail
                go_meet
                exact ⟨33, 6, 3, twoL 3 3 3, rfl, Or.inr ⟨rfl, rfl, rfl, rfl⟩, HG9.out, HG11.out, HBX.out⟩
              · have C5 := hide (five26 X4)
                go_wp2_with fail
                refine C5.out.mono ?_
                rintro r w5 ⟨p5, c5, rfl, o5, hb5⟩
                obtain ⟨_, _, f1, f2, f3, f4, _⟩ := (HG9.out.later hb5).cell
                have HB5 := hide (below_step HBX.out hb5)
                obtain ⟨Y, hY⟩ : ∃ Y, Y = (w5.setCell ⟨k9, 0, none⟩ (.int .i64 5)).setCell ⟨k9, 1, none⟩ (.slice p5 10 c5) := ⟨_, rfl⟩
                have g9 : GB Y k9 W.heap.size 5 (fullL 5 5) := by rw [hY]; exact (HG9.out.later hb5).put (n' := 5) (es' := fullL 5 5) (p := p5) (c := c5) (by rw [k5_len]; exact o5.base HBX.out.size)
                have g11 : GB Y k11 W.heap.size 6 (twoL 3 3 3) := by rw [hY]; exact (HG11.out.later hb5).over (n' := 5) (u := .slice p5 10 c5) (HG9.out.later hb5) (by have := HNE.out; omega)
                have o5' : Owns Y W.heap.size (.slice p5 10 c5) (fullL 5 5) := by
                  obtain ⟨_, p0, c0, hs9, _⟩ := HG9.out.later hb5
                  have o6 : Owns w5 W.heap.size (.slice p5 10 c5) (fullL 5 5) := o5.base HBX.out.size
                  have hx := hs9.apart o6
                  rw [hY]
                  exact ownsRow_setCell_other (a := ⟨k9, 1, none⟩) (ownsRow_setCell_other (a := ⟨k9, 0, none⟩) o6 hx _) hx _
                have b9 : W.heap.size ≤ k9 := HG9.out.1
                have b11 : W.heap.size ≤ k11 := HG11.out.1
                have HBY : Hid (Below W.heap.size W Y) := by show Below _ _ _; rw [hY]; exact (HB5.out.setCell (by exact b9) _).setCell (by exact b9) _
                have HG9' := hide g9
                have HG11' := hide g11
                have HO5 := hide o5'
                obtain ⟨Z, hZ⟩ : ∃ Z, Z = (Y.setCell ⟨k11, 0, none⟩ (.int .i64 5)).setCell ⟨k11, 1, none⟩ (.slice p5 10 c5) := ⟨_, rfl⟩
                have HZ11 : Hid (GB Z k11 W.heap.size 5 (fullL 5 5)) := by show GB _ _ _ _ _; rw [hZ]; exact HG11'.out.put (n' := 5) (es' := fullL 5 5) (p := p5) (c := c5) (by rw [k5_len]; exact HO5.out)
                have HZ9 : Hid (GB Z k9 W.heap.size 5 (fullL 5 5)) := by show GB _ _ _ _ _; rw [hZ]; exact HG9'.out.over (n' := 5) (u := .slice p5 10 c5) HG11'.out (by have := HNE.out; omega)
                have HBZ : Hid (Below W.heap.size W Z) := by show Below _ _ _; rw [hZ]; exact (HBY.out.setCell (by exact b11) _).setCell (by exact b11) _
                have y0 : Y.cell? ⟨k9, 0, none⟩ = some (.int .i64 5) ∧ Y.cell? ⟨k9, 1, none⟩ = some (.slice p5 10 c5) := by
                  have := ((show SBox w5 k9 6 _ from (HG9.out.later hb5).2.choose_spec.choose_spec.1).put 5 (.slice p5 10 c5)).cell
                  rw [← hY] at this
                  exact ⟨this.1, this.2.1⟩
                obtain ⟨y1, y2⟩ := y0
                obtain ⟨_, _, e1, e2, e3, e4, _⟩ := HG11'.out.cell
                clear C5 o5 hb5 g9 g11 o5' b9 b11
                go_upto_region 10 with fail
                rw [← hY]
                clear hY f1 f2 f3 f4
                go_wp2_with fail
                rw [← hZ]
                go_meet
                exact ⟨5, 5, 4, fullL 5 5, rfl, Or.inl ⟨rfl, rfl, rfl, rfl⟩, HZ9.out, HZ11.out, HBZ.out⟩
            case rest =>
              obtain ⟨kd, b, dg, bes, rfl, HKD, HG9, HG11, HBX⟩ := hcut
              obtain ⟨Ps0, hS0⟩ := (kd_js HKD.out).2.2.2.2
              have HS0 := hide hS0
              clear hS0
              go_wp2_with fail
              go_loopw [13] (fun t13 wr => ∃ (i : Nat) (pk : List Pt) (Ps : List (List Nat)), i ≤ ss.length ∧ t13 = .int .i64 i ∧ Hid (Below W.heap.size W wr) ∧ Hid (GB wr k9 W.heap.size ((b : Int) + i) pk) ∧ Hid (GB wr k11 W.heap.size b bes) ∧ Hid (SubI (b + i) pk b dg (jsK kd) Ps) ∧ Hid (pk.length = bes.length + i)) (fun t13 _ => ss.length - (intOf t13).toNat)
              case atStart => exact ⟨0, bes, Ps0, by omega, rfl, HBX.out, by show GB _ _ _ _ _; rw [show (b : Int) + (0 : Nat) = b by omega]; exact HG9.out, HG11.out, HS0.out, rfl⟩
              case round =>
                obtain ⟨i, pk, Ps, hi, rfl, HBr, HGr, HHr, HSr, HLr⟩ := hrel
                have h3' := HT3.out
                by_cases hlt : i < ss.length
                · have j1 : (i : Int) < ss.length := by omega
                  have j0 : (0 : Int) ≤ i := by omega
                  obtain ⟨bu, ou, rfl, hLu⟩ : ∃ b off, ps = some ⟨b, off, none⟩ ∧ ∀ j, j < ss.length → W.cell? ⟨b, off + j, none⟩ = some (.int .u8 (iat ss j)) ∧ 0 ≤ iat ss j ∧ iat ss j ≤ 255 := by
                    rcases HU.out with e | e
                    · rw [e] at hlt; simp at hlt
                    · exact e
                  obtain ⟨u0, u1, u2⟩ := hLu i hlt
                  have u0 := later HBr.out u0
                  obtain ⟨x, hx⟩ : ∃ x, iat ss i = x := ⟨_, rfl⟩
                  rw [hx] at u0 u1 u2
                  obtain ⟨p9, c9, g0, g1, g2, g3, gh, gn, go⟩ := HGr.out.cell
                  obtain ⟨_, hb6, hbl, hbp, _⟩ := kd_js HKD.out
                  have hlr := HLr.out
                  have hpos : 0 < pk.length := by omega
                  obtain ⟨a, ha⟩ : ∃ a, x.toNat % pk.length = a := ⟨_, rfl⟩
                  have hal : a < pk.length := by rw [← ha]; exact Nat.mod_lt _ hpos
                  have htm : Int.tmod x pk.length = (a : Int) := by
                    rw [Int.tmod_eq_emod_of_nonneg u1, ← ha]
                    have e : x = (x.toNat : Int) := by omega
                    rw [e, Int.toNat_natCast]
                    exact (Int.natCast_emod _ _).symm
                  have SP : Hid (∀ V, Below wr.heap.size wr V → Calls Try.prog 27 #[nv ((b : Int) + i) p9 pk.length c9, .int .i64 a] V fun e w' => ∃ q c, e = .returned (.tuple #[nv ((b : Int) + i + 1) q (pk.length + 1) c, .int .i64 0]) ∧ Owns w' V.heap.size (.slice q (pk.length + 1) c) (splitL ((b : Int) + i) pk a) ∧ Below V.heap.size V w') := fun V hV => by
                    have hn := HSr.out.net
                    have := split8 (b + i) p9 pk c9 a V (gh.later hV) gn hn hal (by omega) (by omega)
                    rw [Int.natCast_add] at this
                    rw [splitL_length] at this
                    exact this
                  have HSL : Hid ((splitL ((b : Int) + i) pk a).length = pk.length + 1) := splitL_length _ _ _
                  have HNX : Hid (∃ Ps', SubI (b + i + 1) (splitL ((b : Int) + i) pk a) b dg (jsK kd) Ps') := by
                    have := HSr.out.split hal (by omega) (by omega)
                    rw [Int.natCast_add] at this
                    exact this
                  have HS5 : Hid (∀ V, Below wr.heap.size wr V → (V.cell? ⟨k9, 0, none⟩ = some (.int .i64 ((b : Int) + i)) ∧ V.cell? ⟨k9, 1, none⟩ = some (.slice p9 pk.length c9)) ∧ V.cell? ⟨bu, ou + i, none⟩ = some (.int .u8 x)) := fun V hV => ⟨⟨later hV g0, later hV g1⟩, later hV u0⟩
                  have HDR := hide (below_drew wr)
                  have HAL : Hid (Below wr.heap.size wr (wr.alloc (nbx 0 none 0 0)).drew) := by show Below _ _ _; go_grown
                  have HGN : Hid (GB (wr.alloc (nbx 0 none 0 0)).drew wr.heap.size W.heap.size 0 []) := by
                    have := GB.made (B := W.heap.size) (n := 0) (es := []) (p := none) (c := 0) (w := wr) HBr.out.size (Owns.nil _ _)
                    exact this.later (below_drew _)
                  have HSB : Hid (SBox (wr.alloc (nbx 0 none 0 0)).drew wr.heap.size 0 (.slice none 0 0)) := World.ownsRow.kept (SBox.made wr 0 (.slice none 0 0)) (grown_below (below_drew _)) (Or.inr (by simp [Value.ownBlock]))
                  have hn0 : ¬ pk.length = 0 := by omega
                  have h9w : k9 < wr.heap.size := HGr.out.lt
                  have h11w : k11 < wr.heap.size := HHr.out.lt
                  obtain ⟨ml, hml⟩ : ∃ z, pk.length = z := ⟨_, rfl⟩
                  have HML := hide hml
                  rw [hml] at htm hal hpos g1 SP HS5 HSL hlr hn0
                  obtain ⟨nn, hnn⟩ : ∃ z, (b : Int) + i = z := ⟨_, rfl⟩
                  have HNN := hide hnn
                  have hnb : 0 ≤ nn ∧ nn ≤ 100 := by omega
                  rw [hnn] at g0 SP HS5 HNX HSL
                  clear hLu hx ha hml hnn go gn gh hlr
                  go_upto_region 15 with fail
                  go_cut [14, 15] (fun s14 s15 wx => ∃ (k14 : Nat) (q : Option Addr) (c : Nat), s14 = .pointer (some ⟨k14, 0, none⟩) ∧ s15 = .int .i64 0 ∧ Hid (GB wx k9 W.heap.size nn pk) ∧ Hid (GB wx k11 W.heap.size b bes) ∧ Hid (GB wx k14 W.heap.size (nn + 1) (splitL nn pk a)) ∧ Hid (wx.cell? ⟨k14, 0, none⟩ = some (.int .i64 (nn + 1)) ∧ wx.cell? ⟨k14, 1, none⟩ = some (.slice q (ml + 1) c) ∧ Owns wx W.heap.size (.slice q (ml + 1) c) (splitL nn pk a)) ∧ Hid (Below W.heap.size W wx) ∧ Hid (k14 ≠ k9 ∧ k14 ≠ k11))
                  case first =>
                    have jw : IntKind.i64.wrap x = x := by rw [IntKind.wrap_i64]; omega
                    obtain ⟨⟨g0, g1⟩, u0⟩ := HS5.out wr (Below.refl _ _)
                    go_region_held3 (fun V => (V.cell? ⟨k9, 0, none⟩ = some (.int .i64 nn) ∧ V.cell? ⟨k9, 1, none⟩ = some (.slice p9 ml c9)) ∧ V.cell? ⟨bu, ou + i, none⟩ = some (.int .u8 x))
                      (first | with_reducible exact HS5.out _ HDR.out | with_reducible exact HS5.out _ HAL.out | with_reducible exact HS5.out _ HV5.out | (with_reducible refine HS5.out _ ((HV5.out.setCell ?_ _).setCell ?_ _) <;> exact Nat.le_refl _) | (refine HS5.out _ (below_step HV5.out ?_); go_grown) | fail)
                      (first | (go_at_call 27; (with_reducible refine (SP.out wr.drew HDR.out).mono ?_); rintro e w5 ⟨q5, c5, rfl, o5, hb5⟩; have HV5 := hide (below_step HDR.out hb5); have HO5 : Hid (Owns w5 W.heap.size (.slice q5 (ml + 1) c5) (splitL nn pk a)) := o5.base (below_step HBr.out HDR.out).size; clear o5 hb5 g0 g1 u0; obtain ⟨⟨g0, g1⟩, u0⟩ := HS5.out w5 HV5.out) | (go_at_call 27; (with_reducible refine (SP.out (wr.alloc (nbx 0 none 0 0)).drew HAL.out).mono ?_); rintro e w5 ⟨q5, c5, rfl, o5, hb5⟩; have HV5 := hide (below_step HAL.out hb5); have HO5 : Hid (Owns w5 W.heap.size (.slice q5 (ml + 1) c5) (splitL nn pk a)) := o5.base (below_step HBr.out HAL.out).size; have HGN5 := hide (HGN.out.later hb5); have HSB5 : Hid (SBox w5 wr.heap.size 0 (.slice none 0 0)) := World.ownsRow.kept HSB.out (grown_below hb5) (Or.inr (by simp [Value.ownBlock])); clear o5 hb5 g0 g1 u0; obtain ⟨⟨g0, g1⟩, u0⟩ := HS5.out w5 HV5.out; obtain ⟨_, _, t0, t1, t2, t3, _⟩ := HGN5.out.cell))
                    all_goals go_wp2_with fail
                    all_goals go_meet
                    · have e9 := (HGr.out.later HV5.out).lt
                      have e11 := (HHr.out.later HV5.out).lt
                      obtain ⟨Z, hZ, hbZ, gZ, zc0, zc1⟩ : ∃ Z, Z = w5.alloc (.cells #[.int .i64 (nn + 1), .slice q5 (ml + 1) c5] 24) ∧ Below w5.heap.size w5 Z ∧ GB Z w5.heap.size W.heap.size (nn + 1) (splitL nn pk a) ∧ Z.cell? ⟨w5.heap.size, 0, none⟩ = some (.int .i64 (nn + 1)) ∧ Z.cell? ⟨w5.heap.size, 1, none⟩ = some (.slice q5 (ml + 1) c5) := ⟨_, rfl, by go_grown, by
                        have := GB.made (B := W.heap.size) (n := nn + 1) (es := splitL nn pk a) (p := q5) (c := c5) (w := w5) (below_step HBr.out HV5.out).size (by rw [HSL.out]; exact HO5.out)
                        rw [HSL.out] at this
                        exact this, by go_cell, by go_cell⟩
                      rw [← hZ]
                      refine ⟨w5.heap.size, q5, c5, rfl, rfl, ?_, (HHr.out.later HV5.out).later hbZ, gZ, ⟨zc0, zc1, HO5.out.later hbZ⟩, below_step HBr.out (below_step HV5.out hbZ), by omega, by omega⟩
                      show GB _ _ _ _ _
                      rw [← HNN.out]
                      exact (HGr.out.later HV5.out).later hbZ
                    · have e9 := h9w
                      have e11 := h11w
                      obtain ⟨Z, hZ⟩ : ∃ Z, Z = (w5.setCell ⟨wr.heap.size, 0, none⟩ (.int .i64 (nn + 1))).setCell ⟨wr.heap.size, 1, none⟩ (.slice q5 (ml + 1) c5) := ⟨_, rfl⟩
                      have hs14 := HSB5.out
                      have gZ : GB Z wr.heap.size W.heap.size (nn + 1) (splitL nn pk a) := by rw [hZ, ← HSL.out]; exact HGN5.out.put (n' := nn + 1) (by rw [HSL.out]; exact HO5.out)
                      have z9 : GB Z k9 W.heap.size nn pk := by rw [hZ, ← HNN.out]; exact (HGr.out.later HV5.out).over HGN5.out (by omega)
                      have z11 : GB Z k11 W.heap.size b bes := by rw [hZ]; exact (HHr.out.later HV5.out).over HGN5.out (by omega)
                      have zb : Below W.heap.size W Z := by rw [hZ]; exact ((below_step HBr.out HV5.out).setCell (by exact HBr.out.size) _).setCell (by exact HBr.out.size) _
                      have zc := (hs14.put (nn + 1) (.slice q5 (ml + 1) c5)).cell
                      have zo : Owns Z W.heap.size (.slice q5 (ml + 1) c5) (splitL nn pk a) := by
                        have hx := hs14.apart HO5.out
                        rw [hZ]
                        exact ownsRow_setCell_other (a := ⟨wr.heap.size, 1, none⟩) (ownsRow_setCell_other (a := ⟨wr.heap.size, 0, none⟩) HO5.out hx _) hx _
                      rw [← hZ] at zc ⊢
                      exact ⟨wr.heap.size, q5, c5, rfl, rfl, z9, z11, gZ, ⟨zc.1, zc.2.1, zo⟩, zb, by omega, by omega⟩
                  case rest =>
                    obtain ⟨k14, q, c, rfl, rfl, HW9, HW11, HW14, HC14, HBW, HK14⟩ := hcut
                    obtain ⟨d0, d1, d2⟩ := HC14.out
                    obtain ⟨_, _, f0, f1, f2, f3, _⟩ := HW9.out.cell
                    obtain ⟨Ps', hP⟩ := HNX.out
                    have HP := hide hP
                    have h9W : W.heap.size ≤ k9 := HW9.out.1
                    obtain ⟨Y, hY⟩ : ∃ Y, Y = (wc.setCell ⟨k9, 0, none⟩ (.int .i64 (nn + 1))).setCell ⟨k9, 1, none⟩ (.slice q (ml + 1) c) := ⟨_, rfl⟩
                    have HY9 : Hid (GB Y k9 W.heap.size (nn + 1) (splitL nn pk a)) := by
                      show GB _ _ _ _ _
                      rw [hY, ← HSL.out]
                      exact HW9.out.put (n' := nn + 1) (by rw [HSL.out]; exact d2)
                    have HY11 : Hid (GB Y k11 W.heap.size b bes) := by show GB _ _ _ _ _; rw [hY]; exact HW11.out.over HW9.out (by have := HNE.out; omega)
                    have HBY : Hid (Below W.heap.size W Y) := by show Below _ _ _; rw [hY]; exact (HBW.out.setCell (by exact h9W) _).setCell (by exact h9W) _
                    have HLN : Hid ((splitL nn pk a).length = bes.length + (i + 1)) := by show _ = _; rw [HSL.out, ← HML.out, HLr.out]; omega
                    have HN1 : Hid ((b : Int) + ((i + 1 : Nat) : Int) = nn + 1) := by show _ = _; rw [← HNN.out]; omega
                    clear d2 hP
                    go_wp2
                    rw [← hY]
                    go_roundw
                    case rel => exact ⟨i + 1, splitL nn pk a, Ps', by omega, by go_num, HBY.out, by rw [HN1.out]; exact HY9.out, HY11.out, HP.out, HLN.out⟩
                    case measure => simp [intOf]; omega
                · obtain ⟨wE, hwE⟩ : ∃ x, x = wr := ⟨_, rfl⟩
                  subst hwE
                  have hie : i = ss.length := by omega
                  have j1 : ¬ (i : Int) < ss.length := by omega
                  obtain ⟨hjs, hb6, hbl, hbp, _⟩ := kd_js HKD.out
                  have h2' := HT2.out
                  have hlr := HLr.out
                  obtain ⟨N, hN⟩ : ∃ N, b + i = N := ⟨_, rfl⟩
                  have HSN : Hid (SubI N pk b dg (jsK kd) Ps) := by rw [← hN]; exact HSr.out
                  have hNi : (b : Int) + i = N := by omega
                  have hN66 : N ≤ 66 := by omega
                  have hN0 : 0 < N := by rcases HKD.out with ⟨_, h, _⟩ | ⟨_, h, _⟩ <;> omega
                  have hpl : pk.length ≤ 70 := by omega
                  have hpos : 0 < pk.length := by omega
                  have hn0 : 0 ≤ n := (netB_is HM.out).1
                  obtain ⟨nn, hnn⟩ : ∃ x : Nat, n = x := ⟨n.toNat, by omega⟩
                  subst hnn
                  have hJ : joinE N nn pk es = 0 := by
                    unfold joinE
                    rw [HSN.out.net, HM.out]
                    simp [fitsB]
                    omega
                  obtain ⟨p9, c9, g0, g1, g2, g3, gh, gn, go⟩ := HGr.out.cell
                  rw [hNi] at g0
                  have HGN : Hid (GB wE k9 W.heap.size N pk) := by show GB _ _ _ _ _; rw [← hNi]; exact HGr.out
                  obtain ⟨q0, q1, _, _⟩ := HA.out.later HBr.out
                  have JN := hide (join24 N nn p9 p pk es c9 cp wE HSN.out.net HM.out gn gh (HH.out.later HBr.out))
                  clear hNi hN HGr HSr go gn gh hb6 hbl hlr hbp HLr
                  go_wp2_with fail
                  refine JN.out.mono ?_
                  rintro r w6 ⟨hp6, hb6⟩
                  rcases hp6 with ⟨_, q6, c6, rfl, o6⟩ | ⟨h, _⟩
                  · have hb6' := hb6
                    obtain ⟨X, hX, hbX, gX⟩ : ∃ X, X = w6.alloc (nbx ((N : Int) + nn) q6 (joinL N pk es).length c6) ∧ Below w6.heap.size w6 X ∧ GB X w6.heap.size wE.heap.size ((N : Int) + nn) (joinL N pk es) := ⟨_, rfl, by go_grown, GB.made (B := wE.heap.size) (n := (N : Int) + nn) (es := joinL N pk es) (p := q6) (c := c6) (w := w6) hb6.size o6⟩
                    have HBX := hide (below_step hb6 hbX)
                    have HX9 := hide ((HGN.out.later hb6).later hbX)
                    have HX11 := hide ((HHr.out.later hb6).later hbX)
                    have h9 := (HGN.out.later hb6).lt
                    have h11 := (HHr.out.later hb6).lt
                    obtain ⟨k17, hk17⟩ : ∃ k, w6.heap.size = k := ⟨_, rfl⟩
                    rw [hk17] at gX h9 h11
                    have HX17 : Hid (GB X k17 wE.heap.size ((N : Int) + nn) (joinL N pk es ++ exL N es 0)) := by show GB _ _ _ _ _; rw [show exL N es 0 = [] from rfl, List.append_nil]; exact gX
                    have HNE2 : Hid (k9 < k17 ∧ k11 < k17) := ⟨h9, h11⟩
                    clear JN o6 hb6 hb6' g0 g1 g2 g3 q0 q1 gX hbX h9 h11
                    go_upto_region 21 with fail
                    rw [← hX]
                    try rw [hk17]
                    clear hX hk17
                    go_wp2_with fail
                    go_loopw [19] (fun t19 wr => ∃ k : Nat, k ≤ es.length ∧ t19 = .int .i64 k ∧ Hid (Below wE.heap.size wE wr) ∧ Hid (GB wr k17 wE.heap.size ((N : Int) + nn) (joinL N pk es ++ exL N es k))) (fun t19 _ => es.length - (intOf t19).toNat)
                    case atStart => exact ⟨0, by omega, rfl, HBX.out, HX17.out⟩
                    case round =>
                      obtain ⟨k, hk, rfl, HBe, HG17e⟩ := hrel
                      have HBk := hide (below_step HBr.out HBe.out)
                      have HG9k := hide (HGN.out.later HBe.out)
                      have HG11k := hide (HHr.out.later HBe.out)
                      have HG17k : Hid (GB wr k17 W.heap.size ((N : Int) + nn) (joinL N pk es ++ exL N es k)) := by
                        obtain ⟨z0, z1, z2, z3, z4⟩ := HG17e.out
                        exact ⟨Nat.le_trans HBr.out.size z0, z1, z2, z3, z4.base HBr.out.size⟩
                      clear HX9 HX11 HX17
                      obtain ⟨q0, q1, _, _⟩ := HA.out.later HBk.out
                      by_cases hkl : k < es.length
                      · have j2 : (k : Int) < es.length := by omega
                        have j3 : (0 : Int) ≤ k := by omega
                        obtain ⟨bp, op, rfl, hLp⟩ : ∃ b1 off, p = some ⟨b1, off, none⟩ ∧ Lies W b1 off es := by
                          rcases HH.out with e | e
                          · rw [e] at hkl; simp at hkl
                          · exact e
                        obtain ⟨hk17e, p17, c17, hs17, ho17⟩ := HG17e.out
                        obtain ⟨x, hx⟩ : ∃ z, (at' es k).x = z := ⟨_, rfl⟩
                        obtain ⟨y, hy⟩ : ∃ z, (at' es k).y = z := ⟨_, rfl⟩
                        obtain ⟨d0, d1⟩ := hLp k hkl
                        have hbW : bp < W.heap.size := block_lt_of_cell d0
                        have hkbW : w.heap.size < W.heap.size := block_lt_of_cell HA.out.1
                        obtain ⟨p9, c9, g0, _, _, _, _, _, _⟩ := HG9k.out.cell
                        obtain ⟨ex0, ex1, ey0, ey1⟩ := (netB_is HM.out).2.2.2 k hkl
                        obtain ⟨vx, hvx⟩ : ∃ z, Int.tmod x N = z := ⟨_, rfl⟩
                        obtain ⟨vy, hvy⟩ : ∃ z, Int.tmod y N = z := ⟨_, rfl⟩
                        have HMR : Hid (exL N es (k + 1) = exL N es k ++ [⟨vx, vy⟩]) := by show _ = _; rw [exL_more, hx, hy, hvx, hvy]
                        rw [hx] at d0 ex0 ex1
                        rw [hy] at d1 ey0 ey1
                        obtain ⟨T, hT⟩ : ∃ T, joinL N pk es ++ exL N es k = T := ⟨_, rfl⟩
                        have HTT : Hid (joinL N pk es ++ exL N es (k + 1) = T ++ [⟨vx, vy⟩]) := by show _ = _; rw [HMR.out, ← List.append_assoc, hT]
                        have htl : T.length ≤ 200 := by rw [← hT, List.length_append, joinL_length, exL_length]; omega
                        rw [hT] at hs17 ho17
                        obtain ⟨tl, htl'⟩ : ∃ z, T.length = z := ⟨_, rfl⟩
                        have hbD : Below wr.heap.size wr (wr.alloc (.cells #[.int .i64 vx, .int .i64 vy] 57)).drew := by go_grown
                        have oD := ho17.later hbD
                        have sD : SBox (wr.alloc (.cells #[.int .i64 vx, .int .i64 vy] 57)).drew k17 ((N : Int) + nn) (.slice p17 T.length c17) := World.ownsRow.kept hs17 (grown_below hbD) (Or.inr (by simp [Value.ownBlock]))
                        obtain ⟨v1, D1, e4, o4, gr4⟩ := append_prs oD (some ⟨wr.heap.size, 0, none⟩) 1 [⟨vx, vy⟩] (fun h => by cases h) (Or.inr ⟨_, _, rfl, (one_lies wr ⟨vx, vy⟩ _ rfl).later (below_drew _)⟩) (Nat.le_trans HBe.out.size hbD.size) (by simp; omega)
                        have sD1 : SBox D1 k17 ((N : Int) + nn) (.slice p17 T.length c17) := World.ownsRow.kept sD gr4 (Or.inr fun hc => sD.apart oD hc.symm)
                        have hb4 : Below wE.heap.size wE D1 := below_grown (Below.trans HBe.out (hbD.mono HBe.out.size)) oD (Nat.le_refl _) (Nat.le_trans HBe.out.size hbD.size) gr4
                        obtain ⟨p2, c2, hv1, _, _, _, _⟩ := o4.form
                        subst hv1
                        rw [show (T ++ [(⟨vx, vy⟩ : Pt)]).length = T.length + 1 by simp] at e4 o4
                        simp only [List.length_cons, List.length_nil, Nat.zero_add] at e4
                        have SW : ∀ V, Below wE.heap.size wE V → (V.cell? ⟨k9, 0, none⟩ = some (.int .i64 N) ∧ V.cell? ⟨w.heap.size, 1, none⟩ = some (.slice (some ⟨bp, op, none⟩) es.length cp) ∧ V.cell? ⟨bp, op + k * 2, none⟩ = some (.int .i64 x) ∧ V.cell? ⟨bp, op + k * 2 + 1, none⟩ = some (.int .i64 y)) := fun V hV => by
                          obtain ⟨_, _, z0, _, _, _, _, _, _⟩ := (HGN.out.later hV).cell
                          have hWV := below_step HBr.out hV
                          obtain ⟨_, z1, _, _⟩ := HA.out.later hWV
                          exact ⟨z0, z1, later hWV d0, later hWV d1⟩
                        have hkE : wE.heap.size ≤ k17 := hk17e
                        have hWE : W.heap.size ≤ wE.heap.size := HBr.out.size
                        have h9E : k9 < wE.heap.size := HGN.out.lt
                        obtain ⟨F, hF⟩ : ∃ F, F = D1.setCell ⟨k17, 1, none⟩ (.slice p2 (T.length + 1) c2) := ⟨_, rfl⟩
                        have hbF : Below wE.heap.size wE F := by rw [hF]; exact hb4.setCell (by exact hkE) _
                        have HF17 : Hid (GB F k17 wE.heap.size ((N : Int) + nn) (joinL N pk es ++ exL N es (k + 1))) := by
                          show GB _ _ _ _ _
                          rw [HTT.out]
                          refine ⟨hkE, p2, c2, ?_, ?_⟩
                          · rw [show (T ++ [(⟨vx, vy⟩ : Pt)]).length = T.length + 1 by simp, hF]; exact sD1.set _
                          · rw [show (T ++ [(⟨vx, vy⟩ : Pt)]).length = T.length + 1 by simp, hF]; exact ownsRow_setCell_other (a := ⟨k17, 1, none⟩) o4 (sD1.apart o4) _
                        have CC : Hid (wr.cell? ⟨k9, 0, none⟩ = some (.int .i64 N) ∧ wr.cell? ⟨w.heap.size, 1, none⟩ = some (.slice (some ⟨bp, op, none⟩) es.length cp) ∧ wr.cell? ⟨bp, op + k * 2, none⟩ = some (.int .i64 x) ∧ wr.cell? ⟨bp, op + k * 2 + 1, none⟩ = some (.int .i64 y)) := SW wr HBe.out
                        have CD : Hid ((wr.alloc (.cells #[.int .i64 vx, .int .i64 vy] 57)).drew.cell? ⟨k9, 0, none⟩ = some (.int .i64 N) ∧ (wr.alloc (.cells #[.int .i64 vx, .int .i64 vy] 57)).drew.cell? ⟨w.heap.size, 1, none⟩ = some (.slice (some ⟨bp, op, none⟩) es.length cp) ∧ (wr.alloc (.cells #[.int .i64 vx, .int .i64 vy] 57)).drew.cell? ⟨bp, op + k * 2, none⟩ = some (.int .i64 x) ∧ (wr.alloc (.cells #[.int .i64 vx, .int .i64 vy] 57)).drew.cell? ⟨bp, op + k * 2 + 1, none⟩ = some (.int .i64 y)) := SW _ (below_step HBe.out hbD)
                        have CE : Hid (D1.cell? ⟨k9, 0, none⟩ = some (.int .i64 N) ∧ D1.cell? ⟨w.heap.size, 1, none⟩ = some (.slice (some ⟨bp, op, none⟩) es.length cp) ∧ D1.cell? ⟨bp, op + k * 2, none⟩ = some (.int .i64 x) ∧ D1.cell? ⟨bp, op + k * 2 + 1, none⟩ = some (.int .i64 y)) := SW D1 hb4
                        have CF : Hid ((D1.setCell ⟨k17, 1, none⟩ (.slice p2 (tl + 1) c2)).cell? ⟨k9, 0, none⟩ = some (.int .i64 N) ∧ (D1.setCell ⟨k17, 1, none⟩ (.slice p2 (tl + 1) c2)).cell? ⟨w.heap.size, 1, none⟩ = some (.slice (some ⟨bp, op, none⟩) es.length cp) ∧ (D1.setCell ⟨k17, 1, none⟩ (.slice p2 (tl + 1) c2)).cell? ⟨bp, op + k * 2, none⟩ = some (.int .i64 x) ∧ (D1.setCell ⟨k17, 1, none⟩ (.slice p2 (tl + 1) c2)).cell? ⟨bp, op + k * 2 + 1, none⟩ = some (.int .i64 y)) := by
                          show _ ∧ _
                          rw [← htl', ← hF]
                          exact SW F hbF
                        obtain ⟨s0, s1, s2, s3⟩ := hs17.cell
                        obtain ⟨t0, t1, t2, t3⟩ := sD1.cell
                        have HFB := hide hbF
                        have zW : k17 < wr.heap.size := block_lt_of_cell s0
                        have nK : ¬ N = 0 := by omega
                        rw [htl'] at s1 t1 e4 hF
                        clear hLp hs17 ho17 oD sD o4 gr4 sD1 hb4 hbF SW hx hy hT htl htl' hbD d0 d1 g0 hJ hjs hie j1
                        go_upto_region 26 with fail
                        refine wp_region_held_drew (S := (fun V => V.cell? ⟨k9, 0, none⟩ = some (.int .i64 N) ∧ V.cell? ⟨w.heap.size, 1, none⟩ = some (.slice (some ⟨bp, op, none⟩) es.length cp) ∧ V.cell? ⟨bp, op + k * 2, none⟩ = some (.int .i64 x) ∧ V.cell? ⟨bp, op + k * 2 + 1, none⟩ = some (.int .i64 y))) (by kernel_rfl) (by exact CC.out) (fun hHeld => ?_)
                        refine wpAnyH_take (i := 0) (v := ?v1) rfl (by kernel_rfl) (by kernel_rfl) (by kernel_rfl) (fun _ _ _ h => h) (Or.inl ⟨by rfl, ?hy1⟩) (by assumption) ?rest1
                        case hy1 => (intro w hSw; (try dsimp only at hSw); go_simp; try with_reducible rfl)
                        try simp only [Act.put, List.getElem_toArray, List.getElem_cons_zero, List.setIfInBounds_toArray, List.set_cons_zero, List.set_cons_succ]
                        refine wpAnyH_take (i := 2) (v := ?v2) rfl (by kernel_rfl) (by kernel_rfl) (by kernel_rfl) (fun _ _ _ h => h) (Or.inl ⟨by rfl, ?hy2⟩) (by assumption) ?rest2
                        case hy2 => (intro w hSw; (try dsimp only at hSw); go_simp; try with_reducible rfl)
                        try simp only [Act.put, List.getElem_toArray, List.getElem_cons_zero, List.getElem_cons_succ, List.setIfInBounds_toArray, List.set_cons_zero, List.set_cons_succ]
                        refine wpAnyH_take (i := 3) (v := ?v3) rfl (by kernel_rfl) (by kernel_rfl) (by kernel_rfl) (fun _ _ _ h => h) (Or.inl ⟨by rfl, ?hy3⟩) (by assumption) ?rest3
                        case hy3 => (intro w hSw; (try dsimp only at hSw); go_simp; try with_reducible rfl)
                        try simp only [Act.put, List.getElem_toArray, List.getElem_cons_zero, List.getElem_cons_succ, List.setIfInBounds_toArray, List.set_cons_zero, List.set_cons_succ]
                        refine wpAnyH_take (i := 4) (v := ?v4) rfl (by kernel_rfl) (by kernel_rfl) (by kernel_rfl) (fun _ _ _ h => h) (Or.inl ⟨by rfl, ?hy4⟩) (by assumption) ?rest4
                        case hy4 => (intro w hSw; (try dsimp only at hSw); go_simp; try with_reducible rfl)
                        try simp only [Act.put, List.getElem_toArray, List.getElem_cons_zero, List.getElem_cons_succ, List.setIfInBounds_toArray, List.set_cons_zero, List.set_cons_succ]
                        refine wpAnyH_take (i := 5) (v := ?v5) rfl (by kernel_rfl) (by kernel_rfl) (by kernel_rfl) (fun _ _ _ h => h) (Or.inl ⟨by rfl, ?hy5⟩) (by assumption) ?rest5
                        case hy5 => (intro w hSw; (try dsimp only at hSw); go_simp; try with_reducible rfl)
                        try simp only [Act.put, List.getElem_toArray, List.getElem_cons_zero, List.getElem_cons_succ, List.setIfInBounds_toArray, List.set_cons_zero, List.set_cons_succ]
                        refine wpAnyH_take (i := 6) (v := ?v6) rfl (by kernel_rfl) (by kernel_rfl) (by kernel_rfl) (fun _ _ _ h => h) (Or.inl ⟨by rfl, ?hy6⟩) (by assumption) ?rest6
                        case hy6 => (intro w hSw; (try dsimp only at hSw); go_simp; try with_reducible rfl)
                        try simp only [Act.put, List.getElem_toArray, List.getElem_cons_zero, List.getElem_cons_succ, List.setIfInBounds_toArray, List.set_cons_zero, List.set_cons_succ]
                        refine wpAnyH_take (i := 7) (v := ?v7) rfl (by kernel_rfl) (by kernel_rfl) (by kernel_rfl) (fun _ _ _ h => h) (Or.inl ⟨by rfl, ?hy7⟩) (by assumption) ?rest7
                        case hy7 => (intro w hSw; (try dsimp only at hSw); go_simp; try with_reducible rfl)
                        try simp only [Act.put, List.getElem_toArray, List.getElem_cons_zero, List.getElem_cons_succ, List.setIfInBounds_toArray, List.set_cons_zero, List.set_cons_succ]
                        refine wpAnyH_take (i := 8) (v := ?v8) rfl (by kernel_rfl) (by kernel_rfl) (by kernel_rfl) (fun _ _ _ h => h) (Or.inl ⟨by rfl, ?hy8⟩) (by assumption) ?rest8
                        case hy8 => (intro w hSw; (try dsimp only at hSw); go_simp; try with_reducible rfl)
                        try simp only [Act.put, List.getElem_toArray, List.getElem_cons_zero, List.getElem_cons_succ, List.setIfInBounds_toArray, List.set_cons_zero, List.set_cons_succ]
                        refine wpAnyH_take (i := 9) (v := ?v9) rfl (by kernel_rfl) (by kernel_rfl) (by kernel_rfl) (fun _ _ _ h => h) (Or.inl ⟨by rfl, ?hy9⟩) (by assumption) ?rest9
                        case hy9 => (intro w hSw; (try dsimp only at hSw); go_simp; try with_reducible rfl)
                        try simp only [Act.put, List.getElem_toArray, List.getElem_cons_zero, List.getElem_cons_succ, List.setIfInBounds_toArray, List.set_cons_zero, List.set_cons_succ]
                        refine wpAnyH_take (i := 10) (v := ?v10) rfl (by kernel_rfl) (by kernel_rfl) (by kernel_rfl) (fun _ _ _ h => h) (Or.inl ⟨by rfl, ?hy10⟩) (by assumption) ?rest10
                        case hy10 => (intro w hSw; (try dsimp only at hSw); go_simp; try with_reducible rfl)
                        try simp only [Act.put, List.getElem_toArray, List.getElem_cons_zero, List.getElem_cons_succ, List.setIfInBounds_toArray, List.set_cons_zero, List.set_cons_succ]
                        refine wpAnyH_take (i := 11) (v := ?v11) rfl (by kernel_rfl) (by kernel_rfl) (by kernel_rfl) (fun _ _ _ h => h) (Or.inl ⟨by rfl, ?hy11⟩) (by assumption) ?rest11
                        case hy11 => (intro w hSw; (try dsimp only at hSw); go_simp; try with_reducible rfl)
                        try simp only [Act.put, List.getElem_toArray, List.getElem_cons_zero, List.getElem_cons_succ, List.setIfInBounds_toArray, List.set_cons_zero, List.set_cons_succ]
                        refine wpAnyH_take (i := 12) (v := ?v12) rfl (by kernel_rfl) (by kernel_rfl) (by kernel_rfl) (fun _ _ _ h => h) (Or.inl ⟨by rfl, ?hy12⟩) (by assumption) ?rest12
                        case hy12 => (intro w hSw; (try dsimp only at hSw); go_simp; try with_reducible rfl)
                        try simp only [Act.put, List.getElem_toArray, List.getElem_cons_zero, List.getElem_cons_succ, List.setIfInBounds_toArray, List.set_cons_zero, List.set_cons_succ]
                        refine wpAnyH_take (i := 13) (v := ?v13) rfl (by kernel_rfl) (by kernel_rfl) (by kernel_rfl) (fun _ _ _ h => h) (Or.inl ⟨by rfl, ?hy13⟩) (by assumption) ?rest13
                        case hy13 => (intro w hSw; (try dsimp only at hSw); go_simp; try with_reducible rfl)
                        try simp only [Act.put, List.getElem_toArray, List.getElem_cons_zero, List.getElem_cons_succ, List.setIfInBounds_toArray, List.set_cons_zero, List.set_cons_succ]
                        refine wpAnyH_take (i := 14) (v := ?v14) rfl (by kernel_rfl) (by kernel_rfl) (by kernel_rfl) (fun _ _ _ h => h) (Or.inl ⟨by rfl, ?hy14⟩) (by assumption) ?rest14
                        case hy14 => (intro w hSw; (try dsimp only at hSw); go_simp; try with_reducible rfl)
                        try simp only [Act.put, List.getElem_toArray, List.getElem_cons_zero, List.getElem_cons_succ, List.setIfInBounds_toArray, List.set_cons_zero, List.set_cons_succ]
                        refine wpAnyH_take (i := 15) (v := ?v15) rfl (by kernel_rfl) (by kernel_rfl) (by kernel_rfl) (fun _ _ _ h => h) (Or.inl ⟨by rfl, ?hy15⟩) (by assumption) ?rest15
                        case hy15 => (intro w hSw; (try dsimp only at hSw); go_simp; try with_reducible rfl)
                        try simp only [Act.put, List.getElem_toArray, List.getElem_cons_zero, List.getElem_cons_succ, List.setIfInBounds_toArray, List.set_cons_zero, List.set_cons_succ]
                        refine wpAnyH_take (i := 16) (v := ?v16) rfl (by kernel_rfl) (by kernel_rfl) (by kernel_rfl) (fun _ _ _ h => h) (Or.inl ⟨by rfl, ?hy16⟩) (by assumption) ?rest16
                        case hy16 => (intro w hSw; (try dsimp only at hSw); go_simp; try with_reducible rfl)
                        try simp only [Act.put, List.getElem_toArray, List.getElem_cons_zero, List.getElem_cons_succ, List.setIfInBounds_toArray, List.set_cons_zero, List.set_cons_succ]
                        refine wpAnyH_take (i := 17) (v := ?v17) rfl (by kernel_rfl) (by kernel_rfl) (by kernel_rfl) (fun _ _ _ h => h) (Or.inl ⟨by rfl, ?hy17⟩) (by assumption) ?rest17
                        case hy17 => (intro w hSw; (try dsimp only at hSw); go_simp; try with_reducible rfl)
                        try simp only [Act.put, List.getElem_toArray, List.getElem_cons_zero, List.getElem_cons_succ, List.setIfInBounds_toArray, List.set_cons_zero, List.set_cons_succ]
                        refine wpAnyH_take (i := 18) (v := ?v18) rfl (by kernel_rfl) (by kernel_rfl) (by kernel_rfl) (fun _ _ _ h => h) (Or.inl ⟨by rfl, ?hy18⟩) (by assumption) ?rest18
                        case hy18 => (intro w hSw; (try dsimp only at hSw); go_simp; try with_reducible rfl)
                        try simp only [Act.put, List.getElem_toArray, List.getElem_cons_zero, List.getElem_cons_succ, List.setIfInBounds_toArray, List.set_cons_zero, List.set_cons_succ]
                        refine wpAnyH_take (i := 19) (v := ?v19) rfl (by kernel_rfl) (by kernel_rfl) (by kernel_rfl) (fun _ _ _ h => h) (Or.inl ⟨by rfl, ?hy19⟩) (by assumption) ?rest19
                        case hy19 => (intro w hSw; (try dsimp only at hSw); go_simp; try with_reducible rfl)
                        try simp only [Act.put, List.getElem_toArray, List.getElem_cons_zero, List.getElem_cons_succ, List.setIfInBounds_toArray, List.set_cons_zero, List.set_cons_succ]
                        refine wpAnyH_take (i := 20) (v := ?v20) rfl (by kernel_rfl) (by kernel_rfl) (by kernel_rfl) (fun _ _ _ h => h) (Or.inl ⟨by rfl, ?hy20⟩) (by assumption) ?rest20
                        case hy20 => (intro w hSw; (try dsimp only at hSw); go_simp; try with_reducible rfl)
                        try simp only [Act.put, List.getElem_toArray, List.getElem_cons_zero, List.getElem_cons_succ, List.setIfInBounds_toArray, List.set_cons_zero, List.set_cons_succ]
                        refine wpAnyH_ready (rs := [1, 21]) (by kernel_rfl) (by simp) ?_
                        refine ready_cons ({ dst := some 105, op := Op.load 22 (Operand.tmp 104), type := 22, pos := "law.go:102", after := #[{ on := 0, ground := Ground.data }], guard := none }) rfl rfl (fun K hK => ?_) ?_
                        · go_simp
                          refine hK.out _ _ (by first | (dsimp only; first | exact CC.out | exact CD.out | exact CE.out | exact CF.out) | (first | exact CC.out | exact CD.out | exact CE.out | exact CF.out)) (fun hHeld => ?_)
                          clear hK K
                          try simp only [Act.put, List.getElem_toArray, List.getElem_cons_zero, List.getElem_cons_succ, List.setIfInBounds_toArray, List.set_cons_zero, List.set_cons_succ]
                          refine wpAnyH_ready (rs := [21]) (by kernel_rfl) (by simp) ?_
                          refine ready_cons ({ dst := some 125, op := Op.buildSlice 22 1 #[(0, Operand.tmp 124)], type := 22, pos := "law.go:102", after := #[{ on := 20, ground := Ground.data }], guard := none }) rfl rfl (fun K hK => ?_) ?_
                          · go_simp
                            refine hK.out _ _ (by first | (dsimp only; first | exact CC.out | exact CD.out | exact CE.out | exact CF.out) | (first | exact CC.out | exact CD.out | exact CE.out | exact CF.out)) (fun hHeld => ?_)
                            clear hK K
                            try simp only [Act.put, List.getElem_toArray, List.getElem_cons_zero, List.getElem_cons_succ, List.setIfInBounds_toArray, List.set_cons_zero, List.set_cons_succ]
                            refine wpAnyH_ready (rs := [22]) (by kernel_rfl) (by simp) ?_
                            refine ready_cons ({ dst := some 126, op := Op.call { callee := Callee.builtin Builtin.append, args := #[Operand.tmp 105, Operand.tmp 125], argTypes := #[22, 22] }, type := 22, pos := "law.go:102", after := #[{ on := 1, ground := Ground.data }, { on := 21, ground := Ground.data }], guard := none }) rfl rfl (fun K hK => ?_) ?_
                            · refine wp_append (.tmp 105) (.tmp 125) 22 (by rfl) 22 (by rfl) (.slice p17 tl c17) (.slice (some ⟨wr.heap.size, 0, none⟩) 1 1) (.slice p2 (tl + 1) c2) D1 (by rfl) (by rfl) ?_ ?_
                              · with_reducible exact e4
                              refine hK.out _ _ (by first | (dsimp only; first | exact CC.out | exact CD.out | exact CE.out | exact CF.out) | (first | exact CC.out | exact CD.out | exact CE.out | exact CF.out)) (fun hHeld => ?_)
                              clear hK K
                              try simp only [Act.put, List.setIfInBounds_toArray, List.set_cons_zero, List.set_cons_succ]
                              refine wpAnyH_take (i := 23) (v := ?v21) rfl (by kernel_rfl) (by kernel_rfl) (by kernel_rfl) (fun _ _ _ h => h) (Or.inl ⟨by rfl, ?hy21⟩) (by assumption) ?rest21
                              case hy21 => (intro w hSw; (try dsimp only at hSw); go_simp; try with_reducible rfl)
                              try simp only [Act.put, List.getElem_toArray, List.getElem_cons_zero, List.getElem_cons_succ, List.setIfInBounds_toArray, List.set_cons_zero, List.set_cons_succ]
                              refine wpAnyH_ready (rs := [24]) (by kernel_rfl) (by simp) ?_
                              refine ready_cons ({ dst := none, op := Op.store 22 (Operand.tmp 127) (Operand.tmp 126), type := 0, pos := "law.go:102", after := #[{ on := 23, ground := Ground.data }, { on := 22, ground := Ground.data }, { on := 22, ground := Ground.chain }, { on := 0, ground := Ground.phase }, { on := 1, ground := Ground.phase }, { on := 2, ground := Ground.phase }, { on := 3, ground := Ground.phase }, { on := 4, ground := Ground.phase }, { on := 5, ground := Ground.phase }, { on := 6, ground := Ground.phase }, { on := 7, ground := Ground.phase }, { on := 8, ground := Ground.phase }, { on := 9, ground := Ground.phase }, { on := 10, ground := Ground.phase }, { on := 11, ground := Ground.phase }, { on := 12, ground := Ground.phase }, { on := 13, ground := Ground.phase }, { on := 14, ground := Ground.phase }, { on := 15, ground := Ground.phase }, { on := 16, ground := Ground.phase }, { on := 17, ground := Ground.phase }, { on := 18, ground := Ground.phase }, { on := 19, ground := Ground.phase }, { on := 20, ground := Ground.phase }, { on := 21, ground := Ground.phase }, { on := 22, ground := Ground.phase }], guard := none }) rfl rfl (fun K hK => ?_) ?_
                              · go_simp
                                refine hK.out _ _ (by first | (dsimp only; first | exact CC.out | exact CD.out | exact CE.out | exact CF.out) | (first | exact CC.out | exact CD.out | exact CE.out | exact CF.out)) (fun hHeld => ?_)
                                clear hK K
                                try simp only [Act.put, List.getElem_toArray, List.getElem_cons_zero, List.getElem_cons_succ, List.setIfInBounds_toArray, List.set_cons_zero, List.set_cons_succ]
                                refine wpAnyH_done (by kernel_rfl) ?_ _
                                clear hHeld
                                rw [← hF]
                                clear hF
                                go_wp2_with fail
                                go_roundw
                                case rel => exact ⟨k + 1, by omega, by go_num, HFB.out, HF17.out⟩
                                case measure => simp [intOf]; omega
                              exact AllReadyH.nil
                            exact AllReadyH.nil
                          exact AllReadyH.nil
                        refine ready_cons ({ dst := some 125, op := Op.buildSlice 22 1 #[(0, Operand.tmp 124)], type := 22, pos := "law.go:102", after := #[{ on := 20, ground := Ground.data }], guard := none }) rfl rfl (fun K hK => ?_) ?_
                        · go_simp
                          refine hK.out _ _ (by first | (dsimp only; first | exact CC.out | exact CD.out | exact CE.out | exact CF.out) | (first | exact CC.out | exact CD.out | exact CE.out | exact CF.out)) (fun hHeld => ?_)
                          clear hK K
                          try simp only [Act.put, List.getElem_toArray, List.getElem_cons_zero, List.getElem_cons_succ, List.setIfInBounds_toArray, List.set_cons_zero, List.set_cons_succ]
                          refine wpAnyH_ready (rs := [1]) (by kernel_rfl) (by simp) ?_
                          refine ready_cons ({ dst := some 105, op := Op.load 22 (Operand.tmp 104), type := 22, pos := "law.go:102", after := #[{ on := 0, ground := Ground.data }], guard := none }) rfl rfl (fun K hK => ?_) ?_
                          · go_simp
                            refine hK.out _ _ (by first | (dsimp only; first | exact CC.out | exact CD.out | exact CE.out | exact CF.out) | (first | exact CC.out | exact CD.out | exact CE.out | exact CF.out)) (fun hHeld => ?_)
                            clear hK K
                            try simp only [Act.put, List.getElem_toArray, List.getElem_cons_zero, List.getElem_cons_succ, List.setIfInBounds_toArray, List.set_cons_zero, List.set_cons_succ]
                            refine wpAnyH_ready (rs := [22]) (by kernel_rfl) (by simp) ?_
                            refine ready_cons ({ dst := some 126, op := Op.call { callee := Callee.builtin Builtin.append, args := #[Operand.tmp 105, Operand.tmp 125], argTypes := #[22, 22] }, type := 22, pos := "law.go:102", after := #[{ on := 1, ground := Ground.data }, { on := 21, ground := Ground.data }], guard := none }) rfl rfl (fun K hK => ?_) ?_
                            · refine wp_append (.tmp 105) (.tmp 125) 22 (by rfl) 22 (by rfl) (.slice p17 tl c17) (.slice (some ⟨wr.heap.size, 0, none⟩) 1 1) (.slice p2 (tl + 1) c2) D1 (by rfl) (by rfl) ?_ ?_
                              · with_reducible exact e4
                              refine hK.out _ _ (by first | (dsimp only; first | exact CC.out | exact CD.out | exact CE.out | exact CF.out) | (first | exact CC.out | exact CD.out | exact CE.out | exact CF.out)) (fun hHeld => ?_)
                              clear hK K
                              try simp only [Act.put, List.setIfInBounds_toArray, List.set_cons_zero, List.set_cons_succ]
                              refine wpAnyH_take (i := 23) (v := ?v22) rfl (by kernel_rfl) (by kernel_rfl) (by kernel_rfl) (fun _ _ _ h => h) (Or.inl ⟨by rfl, ?hy22⟩) (by assumption) ?rest22
                              case hy22 => (intro w hSw; (try dsimp only at hSw); go_simp; try with_reducible rfl)
                              try simp only [Act.put, List.getElem_toArray, List.getElem_cons_zero, List.getElem_cons_succ, List.setIfInBounds_toArray, List.set_cons_zero, List.set_cons_succ]
                              refine wpAnyH_ready (rs := [24]) (by kernel_rfl) (by simp) ?_
                              refine ready_cons ({ dst := none, op := Op.store 22 (Operand.tmp 127) (Operand.tmp 126), type := 0, pos := "law.go:102", after := #[{ on := 23, ground := Ground.data }, { on := 22, ground := Ground.data }, { on := 22, ground := Ground.chain }, { on := 0, ground := Ground.phase }, { on := 1, ground := Ground.phase }, { on := 2, ground := Ground.phase }, { on := 3, ground := Ground.phase }, { on := 4, ground := Ground.phase }, { on := 5, ground := Ground.phase }, { on := 6, ground := Ground.phase }, { on := 7, ground := Ground.phase }, { on := 8, ground := Ground.phase }, { on := 9, ground := Ground.phase }, { on := 10, ground := Ground.phase }, { on := 11, ground := Ground.phase }, { on := 12, ground := Ground.phase }, { on := 13, ground := Ground.phase }, { on := 14, ground := Ground.phase }, { on := 15, ground := Ground.phase }, { on := 16, ground := Ground.phase }, { on := 17, ground := Ground.phase }, { on := 18, ground := Ground.phase }, { on := 19, ground := Ground.phase }, { on := 20, ground := Ground.phase }, { on := 21, ground := Ground.phase }, { on := 22, ground := Ground.phase }], guard := none }) rfl rfl (fun K hK => ?_) ?_
                              · go_simp
                                refine hK.out _ _ (by first | (dsimp only; first | exact CC.out | exact CD.out | exact CE.out | exact CF.out) | (first | exact CC.out | exact CD.out | exact CE.out | exact CF.out)) (fun hHeld => ?_)
                                clear hK K
                                try simp only [Act.put, List.getElem_toArray, List.getElem_cons_zero, List.getElem_cons_succ, List.setIfInBounds_toArray, List.set_cons_zero, List.set_cons_succ]
                                refine wpAnyH_done (by kernel_rfl) ?_ _
                                clear hHeld
                                rw [← hF]
                                clear hF
                                go_wp2_with fail
                                go_roundw
                                case rel => exact ⟨k + 1, by omega, by go_num, HFB.out, HF17.out⟩
                                case measure => simp [intOf]; omega
                              exact AllReadyH.nil
                            exact AllReadyH.nil
                          exact AllReadyH.nil
                        exact AllReadyH.nil
                      · have hke : k = es.length := by omega
                        have j2 : ¬ (k : Int) < es.length := by omega
                        have HL : Hid (joinL N pk es ++ exL N es k = pk ++ ((es.map fun e => (⟨(N : Int) + e.x, (N : Int) + e.y⟩ : Pt)) ++ exL N es es.length)) := by
                          show _ = _
                          rw [hke]
                          unfold joinL
                          rw [List.append_assoc]
                        have hfin : netB ((N + nn : Nat) : Int) (pk ++ ((es.map fun e => (⟨(N : Int) + e.x, (N : Int) + e.y⟩ : Pt)) ++ exL N es es.length)) = true := grown_net HSN.out.net HM.out hN0 (by omega) (by omega)
                        obtain ⟨a, ha⟩ : ∃ a, turn.toNat % pk.length = a := ⟨_, rfl⟩
                        have hal : a < pk.length := by rw [← ha]; exact Nat.mod_lt _ hpos
                        have htm : Int.tmod turn pk.length = (a : Int) := by
                          rw [Int.tmod_eq_emod_of_nonneg HT4.out, ← ha]
                          have e : turn = (turn.toNat : Int) := by have := HT4.out; omega
                          rw [e, Int.toNat_natCast]
                          exact (Int.natCast_emod _ _).symm
                        obtain ⟨r1, r2, r3⟩ := grown_is HKD.out HSN.out (Nat.le_add_right N nn) hfin (Nat.le_of_lt hal)
                        obtain ⟨E, hE⟩ : ∃ E, (es.map fun e => (⟨(N : Int) + e.x, (N : Int) + e.y⟩ : Pt)) ++ exL N es es.length = E := ⟨_, rfl⟩
                        rw [hE] at HL r1 r2 r3
                        obtain ⟨L, hLL⟩ : ∃ L, pk ++ E = L := ⟨_, rfl⟩
                        rw [HL.out, hLL] at HG17k
                        rw [hLL] at r1 r2 r3
                        clear hLL HL
                        have HIK := hide r1
                        have HKN := hide r2
                        have HBS := hide r3
                        obtain ⟨p17, c17, m0, m1, _, _, mh, _, _⟩ := HG17k.out.cell
                        have HMH := hide mh
                        have HMC : Hid (∀ V, Below wr.heap.size wr V → V.cell? ⟨k17, 0, none⟩ = some (.int .i64 ((N : Int) + nn)) ∧ V.cell? ⟨k17, 1, none⟩ = some (.slice p17 L.length c17)) := fun V hV => ⟨later hV m0, later hV m1⟩
                        have UP := hide (upto29 pk.length wr (by omega))
                        have hn0' : ¬ pk.length = 0 := by omega
                        clear hfin r1 r2 r3 ha hE mh m0 m1
                        obtain ⟨m, hm⟩ : ∃ z, pk.length = z := ⟨_, rfl⟩
                        have HPM := hide hm
                        rw [hm] at hal htm UP hn0' hpos hpl HIK HKN HBS ⊢
                        go_upto_region 27 with fail
                        go_wp2_with fail
                        refine UP.out.mono ?_
                        rintro r w7 ⟨pu, cu, rfl, ou, hb7⟩
                        have HB7 := hide (below_step HBk.out hb7)
                        have HB7' := hide hb7
                        have HOU := hide ou
                        clear UP hb7 q0 q1 ou
                        go_upto_region 29 with fail
                        obtain ⟨gu, rfl, hLU, hcu⟩ : ∃ gu, pu = some ⟨gu, 0, none⟩ ∧ ILies w7 gu 0 (upL m) ∧ m ≤ cu := by
                          obtain ⟨p8, c8, h8, hi8, hc8, _, hb8⟩ := HOU.out.form
                          rw [upL_length] at h8 hc8
                          injection h8 with e1 _ e3
                          subst e1 e3
                          rcases hi8 with e | ⟨b8, o8, rfl, hl8⟩
                          · have := upL_length m; rw [e] at this; simp at this; omega
                          · obtain ⟨z1, _⟩ := hb8 _ rfl
                            have z1' : o8 = 0 := z1
                            subst z1'
                            exact ⟨b8, rfl, hl8, hc8⟩
                        have u2 : (0 : Int) ≤ a := by omega
                        have u3 : (a : Int) ≤ m := by omega
                        have u5 : (m : Int) ≤ cu := by omega
                        have u6 : (a : Int) ≤ cu := by omega
                        have u7 : ¬ cu = a := by omega
                        have hla : (upL m).length = m := upL_length m
                        have hI1 : IHas w7.drew (some ⟨gu, a, none⟩) ((upL m).drop a) := by
                          refine Or.inr ⟨gu, a, rfl, fun j hj => ?_⟩
                          rw [List.length_drop] at hj
                          have := later (below_drew w7) (hLU (a + j) (by omega))
                          rw [show iat ((upL m).drop a) j = iat (upL m) (a + j) by unfold iat; rw [List.getD_eq_getElem?_getD, List.getD_eq_getElem?_getD, List.getElem?_drop]]
                          rw [Nat.zero_add] at this
                          exact this
                        obtain ⟨v1, D1, e1, o1, gr1⟩ := append_ints (w := w7.drew) (base := w7.drew.heap.size) (v := .slice none 0 0) (l := []) (IOwns.nil _ _) (some ⟨gu, a, none⟩) (cu - a) ((upL m).drop a) (fun h => by cases h) hI1 (Nat.le_refl _) (by simp; omega)
                        have hb1 : Below w7.drew.heap.size w7.drew D1 := below_grown (Below.refl _ _) (IOwns.nil w7.drew w7.drew.heap.size) (Nat.le_refl _) (Nat.le_refl _) gr1
                        rw [List.nil_append] at o1
                        obtain ⟨p1, c1, rfl, _⟩ := o1.form
                        have hI2 : IHas D1 (some ⟨gu, 0, none⟩) ((upL m).take a) := by
                          refine Or.inr ⟨gu, 0, rfl, fun j hj => ?_⟩
                          rw [List.length_take] at hj
                          have := later hb1 (later (below_drew w7) (hLU j (by omega)))
                          rw [show iat ((upL m).take a) j = iat (upL m) j by unfold iat; rw [List.getD_eq_getElem?_getD, List.getD_eq_getElem?_getD, List.getElem?_take_of_lt (by omega)]]
                          exact this
                        obtain ⟨v2, D2, e2, o2, gr2⟩ := append_ints o1 (some ⟨gu, 0, none⟩) cu ((upL m).take a) (fun h => by cases h) hI2 hb1.size (by simp; omega)
                        have hb2 : Below w7.drew.heap.size w7.drew D2 := below_grown hb1 o1 (Nat.le_refl _) hb1.size gr2
                        obtain ⟨p2, c2, rfl, _⟩ := o2.form
                        have HO2 : Hid (IOwns D2 w7.drew.heap.size (.slice p2 (turL m a).length c2) (turL m a)) := o2
                        rw [show (upL m).drop a ++ (upL m).take a = turL m a from rfl, List.length_take, hla, show min a m = a by omega] at e2
                        rw [List.length_drop, hla] at e1 e2
                        have HB8 : Hid (Below w7.heap.size w7 D2) := below_step (below_drew w7) hb2
                        clear o2 gr2 hb2 hI2 hI1 o1 gr1 hb1 hLU hla
                        clear hJ hjs hie hke j1 j2 hN66 hN0 hn0 hpos htm hn0' h1 h2 h2' h3 h3' h4 t4 hi hk hkl hlt
                        go_region_held3 (fun V => True)
                          (trivial)
                          (first | (refine step_run_append (by rfl) (.const (.slice none 0 0)) (.tmp 135) 25 (by rfl) 25 (by rfl) (.slice none 0 0) (.slice (some ⟨gu, a, none⟩) (m - a) (cu - a)) (.slice p1 (m - a) c1) D1 (by rfl) (by rfl) ?_ ?_; with_reducible exact e1) | (refine step_run_append (by rfl) (.tmp 136) (.tmp 139) 25 (by rfl) 25 (by rfl) (.slice p1 (m - a) c1) (.slice (some ⟨gu, 0, none⟩) a cu) (.slice p2 (turL m a).length c2) D2 (by rfl) (by rfl) ?_ ?_; with_reducible exact e2))
                        rename_i hHeld
                        clear hHeld e1 e2 u2 u3 u5 u6 u7 hcu
                        obtain ⟨m0, m1⟩ := HMC.out D2 (below_step HB7'.out HB8.out)
                        have K12 := hide (kind12 ((N : Int) + nn) p17 p2 L (turL m a) c17 c2 D2 (by rw [turL_length]; unfold maxLen; omega) (HMH.out.later (below_step HB7'.out HB8.out)) (ihas_of HO2.out))
                        have hcast : ((N + nn : Nat) : Int) = (N : Int) + nn := Int.natCast_add N nn
                        rw [hcast] at HIK HKN HBS
                        rw [HKN.out, HIK.out.1] at K12
                        clear hcast
                        go_upto_region 30 with fail
                        go_wp2_with fail
                        refine K12.out.mono ?_
                        rintro r w8 ⟨rfl, hb8⟩
                        have HB9 := hide (below_step HB8.out hb8)
                        have HI8 := hide ((ihas_of HO2.out).later hb8)
                        clear K12 hb8 m0 m1
                        obtain ⟨m0, m1⟩ := HMC.out w8 (below_step HB7'.out HB9.out)
                        have K15 := hide (shrink15 ((N : Int) + nn) p17 p2 L (turL m a) c17 c2 w8 (by rw [turL_length]; unfold maxLen; omega) (HMH.out.later (below_step HB7'.out HB9.out)) HI8.out)
                        go_upto_region 31 with fail
                        go_wp2_with fail
                        refine K15.out.mono ?_
                        rintro r wA ⟨hsh, hbA⟩
                        rcases hsh with ⟨hno, _⟩ | ⟨_, pA, cA, rfl, oA⟩
                        · exact absurd (ob_is.2 HIK.out) hno
                        · have HBA := hide (below_step HB9.out hbA)
                          have HBA' := hide (below_step HB7.out HBA.out)
                          have hKN := HKN.out
                          have hBS := HBS.out
                          rw [hKN, (kd_js HKD.out).1] at oA ⊢
                          rw [hBS]
                          clear K15 hbA m0 m1 hKN hBS
                          obtain ⟨X, hX, hbX, gX⟩ : ∃ X, X = wA.alloc (nbx b pA bes.length cA) ∧ Below wA.heap.size wA X ∧ GB X wA.heap.size W.heap.size b bes := ⟨_, rfl, by go_grown, GB.made (B := W.heap.size) (n := b) (es := bes) (p := pA) (c := cA) (w := wA) HBA'.out.size (oA.base (below_step HB7.out HB9.out).size)⟩
                          have HX24 := hide gX
                          have HX11 := hide (((HG11k.out.later HB7'.out).later HBA.out).later hbX)
                          have HBX := hide (below_step HBA'.out hbX)
                          obtain ⟨k24, hk24⟩ : ∃ k, wA.heap.size = k := ⟨_, rfl⟩
                          rw [hk24] at HX24
                          obtain ⟨pD, cD, d0, d1, _, _, dh, _, _⟩ := HX24.out.cell
                          obtain ⟨pB, cB, e0, e1, _, _, eh, _, _⟩ := HX11.out.cell
                          obtain ⟨lb, hlb⟩ : ∃ z, bes.length = z := ⟨_, rfl⟩
                          have HLB := hide hlb
                          have HDH := hide dh
                          have HEH := hide eh
                          rw [hlb] at d1 e1 hX ⊢
                          clear oA gX hbX hlb dh eh
                          go_upto_region 32 with fail
                          rw [← hX]
                          try rw [hk24]
                          clear hX hk24
                          go_wp2_with fail
                          have hlb10 : lb ≤ 10 := by rw [← HLB.out]; exact (kd_js HKD.out).2.2.1
                          have HD0 := hide d1
                          have HE0 := hide e1
                          clear d0 d1 e0 e1
                          go_loopw [26] (fun t26 wr => ∃ j : Nat, j ≤ lb ∧ t26 = .int .i64 j ∧ Hid (Below X.heap.size X wr)) (fun t26 _ => lb - (intOf t26).toNat)
                          case atStart => exact ⟨0, by omega, rfl, Below.refl _ _⟩
                          case round =>
                            obtain ⟨j, hj, rfl, HBj⟩ := hrel
                            have d1 := later HBj.out HD0.out
                            by_cases hjl : j < lb
                            · have v1 : (j : Int) < lb := by omega
                              have v0 : (0 : Int) ≤ j := by omega
                              have e1 := later HBj.out HE0.out
                              have hjb : j < bes.length := by rw [HLB.out]; exact hjl
                              obtain ⟨bD, oD, rfl, hLD⟩ : ∃ b1 off, pD = some ⟨b1, off, none⟩ ∧ Lies X b1 off bes := by
                                rcases HDH.out with e | e
                                · rw [e] at hjb; simp at hjb
                                · exact e
                              obtain ⟨bE, oE, rfl, hLE⟩ : ∃ b1 off, pB = some ⟨b1, off, none⟩ ∧ Lies X b1 off bes := by
                                rcases HEH.out with e | e
                                · rw [e] at hjb; simp at hjb
                                · exact e
                              obtain ⟨x0, x1⟩ := hLD.later HBj.out j hjb
                              obtain ⟨y0, y1⟩ := hLE.later HBj.out j hjb
                              have heq : ∀ w, (Op.equalIn 10000 57 (.agg #[.int .i64 (at' bes j).x, .int .i64 (at' bes j).y]) (.agg #[.int .i64 (at' bes j).x, .int .i64 (at' bes j).y])).run Try.prog w = .ok true w := fun w => by
                                have := eq60 (at' bes j) (at' bes j) w
                                rw [decide_eq_true (rfl : at' bes j = at' bes j)] at this
                                exact this
                              obtain ⟨ax, hax⟩ : ∃ z, (at' bes j).x = z := ⟨_, rfl⟩
                              obtain ⟨ay, hay⟩ : ∃ z, (at' bes j).y = z := ⟨_, rfl⟩
                              rw [hax, hay] at heq
                              rw [hax] at x0 y0
                              rw [hay] at x1 y1
                              have f0 := cell_regrown d1
                              have f1 := cell_regrown e1
                              have f2 := cell_regrown x0
                              have f3 := cell_regrown x1
                              have f4 := cell_regrown y0
                              have f5 := cell_regrown y1
                              have HJL := hide hjl
                              clear hLD hLE hax hay hjb
                              go_upto_region 37 with fail
                              refine wp_region_quiet_below (by kernel_rfl) (by kernel_rfl) ?_
                              repeat (go_big_quiet_step (fail))
                              refine wpQuiet_nil ?_
                              intro x1' hw'
                              have hbx1 : Below X.heap.size X x1' := by
                                obtain ⟨⟨dq, osq⟩, hw''⟩ := hw'
                                rw [hw'']
                                exact below_step HBj.out (below_regrown _ dq osq)
                              have HBx := hide hbx1
                              clear hw' f0 f1 f2 f3 f4 f5 hbx1 d1 e1 x0 x1 y0 y1
                              go_wp2_with fail
                              go_roundw
                              case rel => exact ⟨j + 1, by have := HJL.out; omega, by go_num, HBx.out⟩
                              case measure =>
                                have := HJL.out
                                simp [intOf]
                                omega
                            · have hje : j = lb := by omega
                              have v1 : ¬ (j : Int) < lb := by omega
                              have HFIN := hide (below_step HB.out (below_step HBX.out HBj.out))
                              clear hje
                              go_wp2
                              go_ret
                              exact ⟨retB (by rfl), HFIN.out⟩
                  · exact absurd hJ h
        · go_wp2
          go_ret
          exact ⟨retB (by rfl), HE.out⟩
      · go_wp2
        go_ret
        exact ⟨retB (by rfl), HE.out⟩
    · go_wp2
      go_ret
      exact ⟨retB (by rfl), HE.out⟩
end Go.Proofs.Ytaebbfilgfkckaa
