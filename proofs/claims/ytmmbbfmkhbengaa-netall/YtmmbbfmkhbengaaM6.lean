/- Bare, in every world. -/
import Derived.Test.YtmmbbfmkhbengaaM2
namespace Go.Proofs.Ytmmbbfmkhbengaa
open Go.RowKit Go.Sort
open Go

def bareB (es : List Pt) (j : Nat) : Bool := !repB es j && !decide ((at' es j).x = (at' es j).y)
def bareL (es : List Pt) : List Int := takeN (bareB es) es.length
def BarePost (n : Int) (es : List Pt) (w : World) (e : Ending) (w' : World) : Prop :=
  (netB n es = true ∧ ∃ g v, e = .returned (.tuple #[nv n (some ⟨g, 0, none⟩) (bareL es).length (bareL es).length, v, .int .i64 0]) ∧ PRow w' w.heap.size g (bareL es).length (pick es (bareL es)) ∧ IOwns w' w.heap.size v (bareL es)) ∨ (netB n es = false ∧ e = .returned (.tuple #[nv 0 none 0 0, .slice none 0 0, .int .i64 1]))

set_option maxRecDepth 100000 in
set_option maxHeartbeats 8000000 in
theorem bare32 (n : Int) (p : Option Addr) (es : List Pt) (cp : Nat) (w : World) (h : Has w p es) : Calls Try.prog 32 #[nv n p es.length cp] w fun e w' => BarePost n es w e w' ∧ Below w.heap.size w w' := by
  obtain ⟨W, hW, hb, a0, b0⟩ := two_nets w n p es.length cp
  have M := hide (may13 n p es cp W (h.later hb))
  have HH := hide (h.later hb)
  have HB := hide hb
  have HA := hide a0
  have HN := hide b0
  obtain ⟨q0, q1, _, _⟩ := a0
  clear h hb b0
  obtain ⟨i0, hi0, hz0, hz1, hz2⟩ := info_parts info3
  cases hm : netB n es
  · rw [hm] at M
    go_enter Try.func32, Try.ntmps32
    go_wp2_with fail
    rw [← hW]
    clear hW
    go_wp2_with fail
    refine M.out.mono ?_
    rintro e w1 ⟨rfl, hb1⟩
    have HB1 := hide (below_step HB.out hb1)
    have HN1 := hide (HN.out.later hb1)
    obtain ⟨r0, r1, r2, r3⟩ := HN1.out
    clear hb1 q0 q1
    go_wp2
    obtain ⟨V, hV⟩ : ∃ V, V = (w1.setCell ⟨w.heap.size + 1, 0, none⟩ (.int .i64 0)).setCell ⟨w.heap.size + 1, 1, none⟩ (.slice none 0 0) := ⟨_, rfl⟩
    have kV : NOwn V (w.heap.size + 1) 0 none 0 0 := by rw [hV]; exact HN1.out.set 0 none 0 0
    have bV : Below w.heap.size w V := by rw [hV]; exact (HB1.out.setCell (by simp) _).setCell (by simp) _
    rw [← hV]
    exact bodyPost_ret (ret_net3 Try.results32 rfl rfl rfl kV) rfl ⟨Or.inr ⟨hm, rfl⟩, bV⟩
  · rw [hm] at M
    obtain ⟨n0, n1, hes, hends⟩ := netB_is hm
    have HE := hide hends
    clear hends
    go_enter Try.func32, Try.ntmps32
    go_wp2_with fail
    rw [← hW]
    clear hW
    go_wp2_with fail
    refine M.out.mono ?_
    rintro e w1 ⟨rfl, hb1⟩
    have HB1 := hide (below_step HB.out hb1)
    have HN1 := hide (HN.out.later hb1)
    have HA1 := hide (HA.out.later hb1)
    have HH1 := hide (HH.out.later hb1)
    clear q0 q1 hb1 HA HN HB HH M
    obtain ⟨q0, q1, _, _⟩ := HA1.out
    have R := hide (repeats55 p es cp w1 (by omega) (fun j hj => by have := HE.out j hj; exact ⟨by omega, by omega, by omega, by omega⟩) HH1.out)
    go_wp2_with fail
    refine R.out.mono ?_
    rintro e w2 ⟨gr, rfl, hr, hb2⟩
    have HB2 := hide (below_step HB1.out hb2)
    have HN2 := hide (HN1.out.later hb2)
    have HA2 := hide (HA1.out.later hb2)
    have HH2 := hide (HH1.out.later hb2)
    have HR2 := hide hr
    have hws : w.heap.size + 1 < w2.heap.size := block_lt_of_cell HN2.out.1
    clear hb2 hr q0 q1 R HB1 HN1 HA1 HH1
    go_wp2_with fail
    go_loopw [5, 16] (fun v t wr => ∃ i : Nat, i ≤ es.length ∧ t = .int .i64 i ∧ Hid (Below w2.heap.size w2 wr) ∧ Hid (IOwns wr w2.heap.size v (takeN (bareB es) i))) (fun _ t _ => es.length - (intOf t).toNat)
    case atStart => exact ⟨0, by omega, rfl, Below.refl _ _, IOwns.nil _ _⟩
    case round =>
      obtain ⟨i, hi, rfl, HBr, HO⟩ := hrel
      have HAr := hide (HA2.out.later HBr.out)
      obtain ⟨q0, q1, _, _⟩ := HAr.out
      by_cases hlt : i < es.length
      · obtain ⟨d0, _⟩ := (HR2.out.later HBr.out).cell hlt
        rw [reps_at _ hlt] at d0
        rcases HH2.out.later HBr.out with h | ⟨b, off, rfl, hL⟩
        · subst h; simp at hlt
        obtain ⟨c0, c1⟩ := hL i hlt
        have hT : Hid (takeN (bareB es) (i + 1) = if bareB es i then takeN (bareB es) i ++ [(i : Int)] else takeN (bareB es) i) := rfl
        have hBB : Hid (bareB es i = (!repB es i && !decide ((at' es i).x = (at' es i).y))) := rfl
        have hTl := takeN_length (bareB es) i
        obtain ⟨T, hTT⟩ : ∃ T, takeN (bareB es) i = T := ⟨_, rfl⟩
        rw [hTT] at hT HO hTl
        obtain ⟨r, hr⟩ : ∃ r, at' es i = r := ⟨_, rfl⟩
        obtain ⟨rb, hrb⟩ : ∃ rb, repB es i = rb := ⟨_, rfl⟩
        rw [hr] at c0 c1 hBB
        rw [hrb] at d0 hBB
        obtain ⟨p0, c, rfl, _, _, _, _⟩ := HO.out.form
        have I := hide (isLoop56 r wr)
        have i1 : (i : Int) < es.length := by omega
        have HTL := hide hTl
        clear hL hTT hr hrb hTl
        cases rb
        · cases hlo : decide (r.x = r.y)
          · rw [hlo] at I hBB
            rw [hBB.out, if_pos (by simp)] at hT
            go_wp2_with fail
            refine I.out.mono ?_
            rintro e w4 ⟨rfl, hb4⟩
            have HB4 := hide (Below.trans HBr.out (hb4.mono HBr.out.size))
            have hOW : w4.ownsRow w2.heap.size 3 1 (.slice p0 T.length c) T.length (icells T) := HO.out.later hb4
            have hsz := HB4.out.size
            clear hb4 q0 q1 c0 c1 d0 hBB
            go_wp2_with (at_builtin; refine wpList_append_own _ rfl _ _ 25 rfl w2.heap.size 3 i0 (.int .i64 0) 1 8 Try.underlying25 hi0 hz0 hz1 hz2 rfl (by decide) _ _ _ rfl (World.ownsRow.alloc hOW _) ⟨w4.heap.size, 0, none⟩ 1 1 [.int .i64 i] rfl rfl ?a1 ?a2 ?a3 ?a4 ?a5 ?_)
            case a1 =>
              intro j u hj
              match j, hj with
              | 0, hj => simp at hj; subst hj; simp [Addr.add]
            case a2 => intro u hu; simp at hu; subst hu; rfl
            case a3 => have := HTL.out; unfold maxLen; omega
            case a4 => have := HTL.out; omega
            case a5 => simp; omega
            intro v' w5 hown' hgrow _
            have ho := hide (iowns_more hown')
            have hbg : Below w2.heap.size w4 w5 := below_grown (w := w4.alloc (.cells #[.int .i64 i] 3)) (by go_grown) (World.ownsRow.alloc hOW _) (Nat.le_refl _) (by simp; omega) hgrow
            have HBg := hide hbg
            clear hown' hgrow hbg hOW
            go_wp2
            go_roundw
            case rel => exact ⟨i + 1, by omega, by go_num, Below.trans HB4.out HBg.out, by rw [hT.out]; exact ho.out⟩
            case measure => simp [intOf]; omega
          · rw [hlo] at I hBB
            rw [hBB.out, if_neg (by simp)] at hT
            go_wp2_with fail
            refine I.out.mono ?_
            rintro e w4 ⟨rfl, hb4⟩
            have HB4 := hide (Below.trans HBr.out (hb4.mono HBr.out.size))
            have HO4 := hide (HO.out.later hb4)
            clear hb4 q0 q1 c0 c1 d0 hBB
            go_wp2
            go_roundw
            case rel => exact ⟨i + 1, by omega, by go_num, HB4.out, by rw [hT.out]; exact HO4.out⟩
            case measure => simp [intOf]; omega
        · rw [hBB.out, if_neg (by simp)] at hT
          clear I c0 c1 hBB
          go_wp2
          go_roundw
          case rel => exact ⟨i + 1, by omega, by go_num, HBr.out, by rw [hT.out]; exact HO.out⟩
          case measure => simp [intOf]; omega
      · have hin : i = es.length := by omega
        subst hin
        have hwh : Hid (bareL es = takeN (bareB es) es.length) := rfl
        have hTl := takeN_length (bareB es) es.length
        have hTi := hide (takeN_in (bareB es) es.length)
        obtain ⟨T, hTT⟩ : ∃ T, takeN (bareB es) es.length = T := ⟨_, rfl⟩
        rw [hTT] at hwh HO hTl hTi
        clear hTT
        obtain ⟨p0, c, rfl, hIH, _, _, _⟩ := HO.out.form
        have HIH := hide hIH
        have HB3 := hide (below_step HB2.out HBr.out)
        have HN3 := hide (HN2.out.later HBr.out)
        have HH3 := hide (HH2.out.later HBr.out)
        obtain ⟨w3, rfl⟩ : ∃ w3, w3 = wr := ⟨wr, rfl⟩
        have hs23 := HBr.out.size
        have PK : Hid (∀ w4, Below w3.heap.size w3 w4 → Calls Try.prog 54 #[.slice p es.length cp, .slice p0 T.length c] w4 fun e w' => ∃ g, e = .returned (.slice (some ⟨g, 0, none⟩) T.length T.length) ∧ PRow w' w4.heap.size g T.length (pick es T) ∧ Below w4.heap.size w4 w') := fun w4 h4 => picked54 p p0 es T cp c w4 (by omega) hTi.out (HH3.out.later h4) (HIH.out.later h4)
        obtain ⟨r0, r1, r2, r3⟩ := HN3.out
        clear hIH
        go_wp2_with fail
        go_region_held3 (fun W => W.cell? ⟨w.heap.size, 0, none⟩ = some (.int .i64 n) ∧ W.cell? ⟨w.heap.size, 1, none⟩ = some (.slice p es.length cp))
          (first | exact ⟨HAr.out.1, HAr.out.2.1⟩ | exact ⟨HA4.out.1, HA4.out.2.1⟩ | exact ⟨other2 HA4.out.1 (by simp), other2 HA4.out.2.1 (by simp)⟩)
          (first | (go_at_call 54; refine (PK.out _ (by go_grown)).mono ?_; rintro e w4 ⟨g4, rfl, hr4, hb4'⟩; have hb4 : Below w3.heap.size w3 w4 := below_step (below_drew w3) hb4'; clear hb4'; have HA4 := hide (HAr.out.later hb4); have HN4 := hide (HN3.out.later hb4); have HR4 : Hid (PRow w4 w3.heap.size g4 T.length (pick es T)) := hr4; have HO4 := hide (HO.out.later hb4); have HB4 := hide (below_step HB3.out hb4); clear hb4 hr4; obtain ⟨s0, s1, s2, s3⟩ := HN4.out))
        rename_i hHeld
        clear hHeld
        have hg4 := HR4.out.lt
        obtain ⟨V, hV⟩ : ∃ V, V = (w4.setCell ⟨w.heap.size + 1, 0, none⟩ (.int .i64 n)).setCell ⟨w.heap.size + 1, 1, none⟩ (.slice (some ⟨g4, 0, none⟩) T.length T.length) := ⟨_, rfl⟩
        have kV : NOwn V (w.heap.size + 1) n (some ⟨g4, 0, none⟩) T.length T.length := by rw [hV]; exact HN4.out.set _ _ _ _
        have bV : Below w.heap.size w V := by rw [hV]; exact (HB4.out.setCell (by simp) _).setCell (by simp) _
        have rV : PRow V w.heap.size g4 T.length (pick es T) := by rw [hV]; exact (prow_other (prow_other HR4.out (by omega) _) (by omega) _).base (by omega)
        have oV : IOwns V w.heap.size (.slice p0 T.length c) T := by rw [hV]; exact (iowns_other (iowns_other HO4.out hws _) hws _).base (by omega)
        rw [← hV]
        go_wp2_with fail
        exact bodyPost_ret (ret_net3 Try.results32 rfl rfl rfl kV) rfl ⟨Or.inl ⟨hm, g4, _, by rw [hwh.out]; rfl, by rw [hwh.out]; exact rV, by rw [hwh.out]; exact oV⟩, bV⟩
end Go.Proofs.Ytmmbbfmkhbengaa
