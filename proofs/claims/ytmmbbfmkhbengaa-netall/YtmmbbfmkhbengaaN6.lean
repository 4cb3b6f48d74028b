/- Part, in every world. -/
import Derived.Test.YtmmbbfmkhbengaaN5
namespace Go.Proofs.Ytmmbbfmkhbengaa
open Go.RowKit Go.Sort
open Go

def insB (pl : List Int) (p : Pt) : Bool := decide (iat pl p.x.toNat ≠ -1) && decide (iat pl p.y.toNat ≠ -1)
/-- The numbers below i that f takes. -/
def takeN (f : Nat → Bool) : Nat → List Int
  | 0 => []
  | i + 1 => if f i then takeN f i ++ [(i : Int)] else takeN f i
theorem takeN_length (f : Nat → Bool) : ∀ i, (takeN f i).length ≤ i
  | 0 => by simp [takeN]
  | i + 1 => by
    have := takeN_length f i
    simp only [takeN]
    split
    · rw [List.length_append]; simp; omega
    · omega
theorem takeN_mem (f : Nat → Bool) : ∀ i (x : Int), x ∈ takeN f i ↔ ∃ j : Nat, j < i ∧ f j = true ∧ x = j
  | 0, x => by simp [takeN]
  | i + 1, x => by
    have ih := takeN_mem f i x
    simp only [takeN]
    by_cases h : f i = true
    · rw [if_pos h, List.mem_append, ih, List.mem_singleton]
      constructor
      · rintro (⟨j, hj, h1, h2⟩ | rfl)
        · exact ⟨j, by omega, h1, h2⟩
        · exact ⟨i, by omega, h, rfl⟩
      · rintro ⟨j, hj, h1, h2⟩
        rcases Nat.lt_succ_iff_lt_or_eq.1 hj with k | k
        · exact Or.inl ⟨j, k, h1, h2⟩
        · subst k; exact Or.inr h2
    · rw [if_neg h, ih]
      constructor
      · rintro ⟨j, hj, h1, h2⟩; exact ⟨j, by omega, h1, h2⟩
      · rintro ⟨j, hj, h1, h2⟩
        rcases Nat.lt_succ_iff_lt_or_eq.1 hj with k | k
        · exact ⟨j, k, h1, h2⟩
        · subst k; exact absurd h1 h
theorem takeN_in (f : Nat → Bool) (i : Nat) : ∀ j, j < (takeN f i).length → 0 ≤ iat (takeN f i) j ∧ iat (takeN f i) j < i := by
  intro j hj
  obtain ⟨k, hk, _, e⟩ := (takeN_mem f i _).1 (iat_mem hj)
  omega
def which (es : List Pt) (pl : List Int) : List Int := takeN (fun j => insB pl (at' es j)) es.length
def partE (n : Int) (es : List Pt) (l : List Int) : Int := if netB n es then errL l n else 1
def placesOf (n : Int) (l : List Int) : List Int := plN l n.toNat l.length
def partN (n : Int) (es : List Pt) (l : List Int) : List Pt := rename (pick es (which es (placesOf n l))) (placesOf n l)
theorem partN_length (n : Int) (es : List Pt) (l : List Int) : (partN n es l).length = (which es (placesOf n l)).length := by rw [partN, rename_length, pick_length]
def PartPost (n : Int) (es : List Pt) (l : List Int) (w : World) (e : Ending) (w' : World) : Prop :=
  (partE n es l = 0 ∧ ∃ g v, e = .returned (.tuple #[nv l.length (some ⟨g, 0, none⟩) (partN n es l).length (partN n es l).length, v, .int .i64 0]) ∧ PRow w' w.heap.size g (partN n es l).length (partN n es l) ∧ IOwns w' w.heap.size v (which es (placesOf n l))) ∨ (partE n es l ≠ 0 ∧ e = .returned (.tuple #[nv 0 none 0 0, .slice none 0 0, .int .i64 (partE n es l)]))
theorem iowns_other {w : World} {b : Nat} {v : Value} {l : List Int} (h : IOwns w b v l) {k i : Nat} (hk : k < b) (u : Value) : IOwns (w.setCell ⟨k, i, none⟩ u) b v l := ownsRow_setCell_below h (by exact hk) u
theorem below_grown {B : Nat} {a w w' : World} {v : Value} {base n : Nat} {xs : List Value} {e : TypeId} {size : Nat} (h : Below B a w) (ho : w.ownsRow base e size v n xs) (hB : B ≤ base) (hw : B ≤ w.heap.size) (hg : w.grownBy w' v.ownBlock) : Below B a w' :=
  h.grown hg hw fun k hk => Nat.le_trans hB (World.ownsRow.lt ho k hk).1

set_option maxRecDepth 100000 in
set_option maxHeartbeats 4000000 in
theorem part28 (n : Int) (p q : Option Addr) (es : List Pt) (l : List Int) (cp cq : Nat) (w : World) (hl : l.length ≤ maxLen) (h : Has w p es) (k : IHas w q l) : Calls Try.prog 28 #[nv n p es.length cp, .slice q l.length cq] w fun e w' => PartPost n es l w e w' ∧ Below w.heap.size w w' := by
  obtain ⟨W, hW, hb, a0, b0⟩ := two_nets w n p es.length cp
  have M := hide (may13 n p es cp W (h.later hb))
  have HH := hide (h.later hb)
  have HK := hide (k.later hb)
  have HB := hide hb
  have HA := hide a0
  have HN := hide b0
  obtain ⟨q0, q1, _, _⟩ := a0
  clear h k hb b0
  obtain ⟨i0, hi0, hz0, hz1, hz2⟩ := info_parts info3
  cases hm : netB n es
  · rw [hm] at M
    go_enter Try.func28, Try.ntmps28
    go_wp2_with fail
    rw [← hW]
    clear hW
    go_wp2_with fail
    refine M.out.mono ?_
    rintro e w1 ⟨rfl, hb1⟩
    have HB1 := hide (below_step HB.out hb1)
    have HN1 := hide (HN.out.later hb1)
    obtain ⟨r0, r1, r2, r3⟩ := HN1.out
    clear hb1 q0 q1
    go_wp2
    obtain ⟨V, hV⟩ : ∃ V, V = (w1.setCell ⟨w.heap.size + 1, 0, none⟩ (.int .i64 0)).setCell ⟨w.heap.size + 1, 1, none⟩ (.slice none 0 0) := ⟨_, rfl⟩
    have kV : NOwn V (w.heap.size + 1) 0 none 0 0 := by rw [hV]; exact HN1.out.set 0 none 0 0
    have bV : Below w.heap.size w V := by rw [hV]; exact (HB1.out.setCell (by simp) _).setCell (by simp) _
    rw [← hV]
    exact bodyPost_ret (ret_net3 Try.results28 rfl rfl rfl kV) rfl ⟨Or.inr ⟨by simp [partE, hm], by simp [partE, hm]⟩, bV⟩
  · rw [hm] at M
    obtain ⟨n0, n1, hes, hends⟩ := netB_is hm
    have HE := hide hends
    clear hends
    obtain ⟨m, rfl⟩ : ∃ m : Nat, n = m := ⟨n.toNat, by omega⟩
    go_enter Try.func28, Try.ntmps28
    go_wp2_with fail
    rw [← hW]
    clear hW
    go_wp2_with fail
    refine M.out.mono ?_
    rintro e w1 ⟨rfl, hb1⟩
    have HB1 := hide (below_step HB.out hb1)
    have HN1 := hide (HN.out.later hb1)
    have HA1 := hide (HA.out.later hb1)
    have HH1 := hide (HH.out.later hb1)
    have HK1 := hide (HK.out.later hb1)
    clear q0 q1 hb1 HA HN HB HH HK M
    obtain ⟨q0, q1, _, _⟩ := HA1.out
    have P := hide (places49 q l cq m w1 hl (by omega) HK1.out)
    go_wp2_with fail
    refine P.out.mono ?_
    rintro e w2 ⟨hP, hb2⟩
    have HB2 := hide (below_step HB1.out hb2)
    have HN2 := hide (HN1.out.later hb2)
    have HA2 := hide (HA1.out.later hb2)
    have HH2 := hide (HH1.out.later hb2)
    have HK2 := hide (HK1.out.later hb2)
    have hs12 := hb2.size
    clear hb2 q0 q1 HA1 HN1 HB1 HH1 HK1 P
    rcases hP with ⟨hE, g, rfl, hr⟩ | ⟨hE, rfl⟩
    · have hS : Hid (partE m es l = 0) := by show _ = _; unfold partE; rw [hm, if_pos rfl, hE]
      have hlm := chosen_le hE
      have hPL : Hid (placesOf m l = plN l m l.length) := by show _ = _; unfold placesOf; rw [Int.toNat_natCast]
      have HR := hide hr
      clear hE hr
      obtain ⟨pl, hpl⟩ : ∃ pl, plN l m l.length = pl := ⟨_, rfl⟩
      rw [hpl] at HR hPL
      have hplm : pl.length = m := by rw [← hpl]; exact plN_length _ _ _
      clear hpl
      obtain ⟨q0, q1, _, _⟩ := HA2.out
      go_wp2_with fail
      go_loopw [9, 30] (fun v t wr => ∃ i : Nat, i ≤ es.length ∧ t = .int .i64 i ∧ Hid (Below w2.heap.size w2 wr) ∧ Hid (IOwns wr w2.heap.size v (takeN (fun j => insB pl (at' es j)) i))) (fun _ t _ => es.length - (intOf t).toNat)
      case atStart => exact ⟨0, by omega, rfl, Below.refl _ _, IOwns.nil _ _⟩
      case round =>
        obtain ⟨i, hi, rfl, HBr, HO⟩ := hrel
        by_cases hlt : i < es.length
        · rcases HH2.out.later HBr.out with h | ⟨b, off, rfl, hL⟩
          · subst h; simp at hlt
          obtain ⟨c0, c1⟩ := hL i hlt
          obtain ⟨hx0, hx1, hy0, hy1⟩ := HE.out i hlt
          have hT : Hid (takeN (fun j => insB pl (at' es j)) (i + 1) = if insB pl (at' es i) then takeN (fun j => insB pl (at' es j)) i ++ [(i : Int)] else takeN (fun j => insB pl (at' es j)) i) := rfl
          have hTl := takeN_length (fun j => insB pl (at' es j)) i
          obtain ⟨T, hTT⟩ : ∃ T, takeN (fun j => insB pl (at' es j)) i = T := ⟨_, rfl⟩
          rw [hTT] at hT HO hTl
          obtain ⟨r, hr⟩ : ∃ r, at' es i = r := ⟨_, rfl⟩
          rw [hr] at c0 c1 hx0 hx1 hy0 hy1 hT
          obtain ⟨x, y⟩ := r
          simp only at c0 c1 hx0 hx1 hy0 hy1
          obtain ⟨xn, rfl⟩ : ∃ xn : Nat, x = xn := ⟨x.toNat, by omega⟩
          obtain ⟨yn, rfl⟩ : ∃ yn : Nat, y = yn := ⟨y.toNat, by omega⟩
          have hIns : Hid (insB pl ⟨xn, yn⟩ = (decide (iat pl xn ≠ -1) && decide (iat pl yn ≠ -1))) := rfl
          obtain ⟨d0, _⟩ := (HR.out.later HBr.out).cell (j := xn) (by omega)
          obtain ⟨d1, _⟩ := (HR.out.later HBr.out).cell (j := yn) (by omega)
          have zg : g < wr.heap.size := block_lt_of_cell d0
          have zb : b < wr.heap.size := block_lt_of_cell c0
          obtain ⟨u, hu⟩ : ∃ u, iat pl xn = u := ⟨_, rfl⟩
          obtain ⟨v, hv⟩ : ∃ v, iat pl yn = v := ⟨_, rfl⟩
          rw [hu] at d0
          rw [hv] at d1
          rw [hu, hv] at hIns
          clear hL hTT hr hu hv
          by_cases hu1 : u = -1
          · subst hu1
            go_wp2
            go_roundw
            case rel => 
              have hb := HBr.out
              refine ⟨i + 1, by omega, by go_num, by show Below _ _ _; have := hb.size; go_grown, ?_⟩
              rw [hT.out, hIns.out, if_neg (by simp)]
              exact HO.out.later (by go_grown)
            case measure => simp [intOf]; omega
          · have hub : (u == -1) = false := by simpa using hu1
            by_cases hv1 : v = -1
            · subst hv1
              go_wp2
              go_roundw
              case rel =>
                have hb := HBr.out
                refine ⟨i + 1, by omega, by go_num, by show Below _ _ _; have := hb.size; go_grown, ?_⟩
                rw [hT.out, hIns.out, if_neg (by simp)]
                exact HO.out.later (by go_grown)
              case measure => simp [intOf]; omega
            · have hvb : (v == -1) = false := by simpa using hv1
              have hvb2 : (v != -1) = true := by simpa using hv1
              have hub2 : (u != -1) = true := by simpa using hu1
              rw [if_pos (by rw [hIns.out]; simp [hu1, hv1])] at hT
              obtain ⟨p0, c, rfl, _, _, _, _⟩ := HO.out.form
              have hOW : wr.ownsRow w2.heap.size 3 1 (.slice p0 T.length c) T.length (icells T) := HO.out
              have hsz := HBr.out.size
              clear hIns
              go_wp2_with (at_builtin; refine wpList_append_own _ rfl _ _ 25 rfl w2.heap.size 3 i0 (.int .i64 0) 1 8 Try.underlying25 hi0 hz0 hz1 hz2 rfl (by decide) _ _ _ rfl (World.ownsRow.alloc (World.ownsRow.alloc hOW _) _) ⟨wr.heap.size + 1, 0, none⟩ 1 1 [.int .i64 i] rfl rfl ?c1 ?c2 ?c3 ?c4 ?c5 ?_)
              case c1 =>
                intro j u hj
                match j, hj with
                | 0, hj => simp at hj; subst hj; simp [Addr.add]
              case c2 => intro u hu; simp at hu; subst hu; rfl
              case c3 => unfold maxLen; omega
              case c4 => omega
              case c5 => simp; omega
              intro v' w3 hown' hgrow _
              have ho := hide (iowns_more hown')
              have hbg : Below w2.heap.size wr w3 := below_grown (w := (wr.alloc (bx ⟨xn, yn⟩)).alloc (.cells #[.int .i64 i] 3)) (by go_grown) (World.ownsRow.alloc (World.ownsRow.alloc hOW _) _) (Nat.le_refl _) (by simp; omega) hgrow
              have HBg := hide hbg
              clear hown' hgrow hbg hOW
              go_wp2
              go_roundw
              case rel => exact ⟨i + 1, by omega, by go_num, Below.trans HBr.out HBg.out, by rw [hT.out]; exact ho.out⟩
              case measure => simp [intOf]; omega
        · have hin : i = es.length := by omega
          subst hin
          have hwh : Hid (which es pl = takeN (fun j => insB pl (at' es j)) es.length) := rfl
          have hTl := takeN_length (fun j => insB pl (at' es j)) es.length
          have hTi := hide (takeN_in (fun j => insB pl (at' es j)) es.length)
          obtain ⟨T, hTT⟩ : ∃ T, takeN (fun j => insB pl (at' es j)) es.length = T := ⟨_, rfl⟩
          rw [hTT] at hwh HO hTl hTi
          clear hTT
          obtain ⟨p0, c, rfl, hIH, _, _, _⟩ := HO.out.form
          have HB3 := hide (below_step HB2.out HBr.out)
          have HN3 := hide (HN2.out.later HBr.out)
          have HA3 := hide (HA2.out.later HBr.out)
          have HH3 := hide (HH2.out.later HBr.out)
          have HR3 := hide (HR.out.later HBr.out)
          obtain ⟨q0', q1', _, _⟩ := HA3.out
          have PK := hide (picked54 p p0 es T cp c wr (by omega) hTi.out HH3.out hIH)
          clear hIH q0 q1
          go_wp2_with fail
          refine PK.out.mono ?_
          rintro e w4 ⟨g4, rfl, hr4, hb4⟩
          have HB4 := hide (below_step HB3.out hb4)
          have hs4 := hb4.size
          have HN4 := hide (HN3.out.later hb4)
          have HR4 := hide (HR3.out.later hb4)
          have HO4 := hide (HO.out.later hb4)
          have RN := renamed50 (some ⟨g4, 0, none⟩) (some ⟨g, 0, none⟩) (pick es T) pl T.length m w4 (by rw [pick_length]; omega) (fun j hj => by
            rw [pick_length] at hj
            obtain ⟨t0, t1⟩ := hTi.out j hj
            have := HE.out (iat T j).toNat (by omega)
            rw [pick_at _ _ hj, hplm]
            exact this) hr4.has HR4.out.has
          rw [pick_length] at RN
          have RN' := hide RN
          clear hb4 hr4 RN
          rw [hplm] at RN'
          go_wp2_with fail
          refine RN'.out.mono ?_
          rintro e w5 ⟨g5, rfl, hr5, hb5⟩
          have HB5 := hide (below_step HB4.out hb5)
          have HN5 := hide (HN4.out.later hb5)
          have HO5 := hide (HO4.out.later hb5)
          have HR5 := hide hr5
          have hs5 := HB4.out.size
          obtain ⟨s0, s1, s2, s3⟩ := HN5.out
          have hws : w.heap.size + 1 < w2.heap.size := block_lt_of_cell HN2.out.1
          have hs42 : w2.heap.size ≤ w4.heap.size := Nat.le_trans HBr.out.size hs4
          have hg5 := HR5.out.lt
          clear hb5 hr5 RN' PK
          go_wp2
          obtain ⟨V, hV⟩ : ∃ V, V = (w5.setCell ⟨w.heap.size + 1, 0, none⟩ (.int .i64 l.length)).setCell ⟨w.heap.size + 1, 1, none⟩ (.slice (some ⟨g5, 0, none⟩) T.length T.length) := ⟨_, rfl⟩
          have kV : NOwn V (w.heap.size + 1) l.length (some ⟨g5, 0, none⟩) T.length T.length := by rw [hV]; exact HN5.out.set _ _ _ _
          have bV : Below w.heap.size w V := by rw [hV]; exact (HB5.out.setCell (by simp) _).setCell (by simp) _
          have rV : PRow V w.heap.size g5 T.length (rename (pick es T) pl) := by rw [hV]; exact (prow_other (prow_other HR5.out (by omega) _) (by omega) _).base (by omega)
          have oV : IOwns V w.heap.size (.slice p0 T.length c) T := by rw [hV]; exact (iowns_other (iowns_other HO5.out hws _) hws _).base (by omega)
          rw [← hV]
          have e1 : which es (placesOf m l) = T := by rw [hPL.out]; exact hwh.out
          have e2 : partN m es l = rename (pick es T) pl := by unfold partN; rw [e1, hPL.out]
          have e3 : (partN m es l).length = T.length := by rw [partN_length, e1]
          exact bodyPost_ret (ret_net3 Try.results28 rfl rfl rfl kV) rfl ⟨Or.inl ⟨hS.out, g5, _, by rw [e3]; rfl, by rw [e3, e2]; exact rV, by rw [e1]; exact oV⟩, bV⟩
    · obtain ⟨E, hEE⟩ : ∃ E, errL l m = E := ⟨_, rfl⟩
      have hS : Hid (partE m es l = E) := by show _ = _; unfold partE; rw [hm, if_pos rfl, hEE]
      rw [hEE] at hE ⊢
      have hEb : (E == 0) = false := by simpa using hE
      obtain ⟨r0, r1, r2, r3⟩ := HN2.out
      go_wp2
      obtain ⟨V, hV⟩ : ∃ V, V = (w2.setCell ⟨w.heap.size + 1, 0, none⟩ (.int .i64 0)).setCell ⟨w.heap.size + 1, 1, none⟩ (.slice none 0 0) := ⟨_, rfl⟩
      have kV : NOwn V (w.heap.size + 1) 0 none 0 0 := by rw [hV]; exact HN2.out.set 0 none 0 0
      have bV : Below w.heap.size w V := by rw [hV]; exact (HB2.out.setCell (by simp) _).setCell (by simp) _
      rw [← hV]
      exact bodyPost_ret (ret_net3 Try.results28 rfl rfl rfl kV) rfl ⟨Or.inr ⟨by rw [hS.out]; exact hE, by rw [hS.out]; rfl⟩, bV⟩
end Go.Proofs.Ytmmbbfmkhbengaa
