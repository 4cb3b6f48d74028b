/- slices.Clone and rot.Mirror, in every world. -/
import Derived.Test.YtllkadgpkbaghaaY13
import Derived.Test.YtllkadgpkbaghaaD2
namespace Go.Proofs.Ytllkadgpkbaghaa
open Go.RowKit Go.Sort
open Go

set_option maxRecDepth 100000 in
set_option maxHeartbeats 8000000 in
theorem clone61 (p : Option Addr) (l : List Int) (c : Nat) (w : World) (m : IHas w p l) (hnil : p = none → c = 0) (hl : l.length ≤ 90000) : Calls Try.prog 61 #[.slice p l.length c] w fun e w' => ∃ v, e = .returned v ∧ IOwns w' w.heap.size v l ∧ Below w.heap.size w w' := by
  have hq := Lib.run_eql_slice_nil (P := Try.prog) w 27 3 p l.length c 0 0 Try.underlying27
  cases p with
  | none =>
    have hl0 : l = [] := by
      rcases m with h | ⟨b, off, h, _⟩
      · exact h
      · cases h
    subst hl0
    clear m hnil
    simp only [List.length_nil] at hq ⊢
    go_enter Try.func61, Try.ntmps61
    go_wp2
    go_ret
    exact ⟨_, rfl, IOwns.nil _ _, Below.refl _ _⟩
  | some ad =>
    have hb0 : Below w.heap.size w (w.alloc (.cells #[] 3)) := by go_grown
    have o0 : IOwns (w.alloc (.cells #[] 3)) w.heap.size (.slice (some ⟨w.heap.size, 0, none⟩) 0 0) [] := ⟨rfl, Or.inr ⟨w.heap.size, 0, #[], rfl, Nat.le_refl _, (by show (w.heap.push _)[w.heap.size]? = _; rw [Array.getElem?_push, if_pos rfl]), Nat.le_refl _, Nat.zero_le _, rfl, rfl⟩⟩
    obtain ⟨v1, D, ea, o1, g1⟩ := append_ints o0 (some ad) c l hnil (m.later hb0) hb0.size (by simp; omega)
    rw [List.nil_append] at o1
    have HB : Hid (Below w.heap.size w D) := below_grown hb0 o0 (Nat.le_refl _) hb0.size g1
    have HO := hide o1
    clear m hnil o0 o1 g1 hb0
    go_enter Try.func61, Try.ntmps61
    go_wp2_with (at_builtin; refine wpList_run_append rfl (.tmp 5) (.tmp 6) 27 rfl 27 rfl _ _ _ D rfl rfl ea ?_)
    go_ret
    exact ⟨_, rfl, HO.out, HB.out⟩
/-- A row is written anew, the others stay. -/
theorem Rows.turn {w w' : World} {B g n a : Nat} {rv : Nat → Value} {L : Nat → List Int} {l' : List Int} (h : Rows w B g n rv L) (ha : a < n) (o : IOwns w' B (rv a) l') (fr : Frame w w' (fun i => (rv a).ownBlock = some i)) : Rows w' B g n rv (upd L a l') := by
  obtain ⟨h1, h2, h3⟩ := h
  obtain ⟨cur, hg⟩ := row_kind h1
  refine ⟨fr.row h1 (fun i hi e => ?_), h2, fun v hv => ?_⟩
  · simp only [Value.ownBlock, Option.some.injEq] at hi
    subst hi
    exact row_apart hg (h3 a ha) (by decide) e
  · by_cases hva : v = a
    · rw [hva, upd_same]; exact o
    · rw [upd_other _ _ hva]
      exact fr.iowns (h3 v hv) (fun i hi e => hva (h2 v a i hv ha hi e))
def mirrorL (rs : List (List Int)) : List (List Int) := canonL (rs.map List.reverse)
theorem mirrorL_length (rs : List (List Int)) : (mirrorL rs).length = rs.length := by simp [mirrorL, canonL]
theorem lat_mirror {rs : List (List Int)} {v : Nat} (hv : v < rs.length) : lat (mirrorL rs) v = turnL (lat rs v).reverse := by
  unfold mirrorL
  rw [lat_canon (by simpa using hv), lat_map List.reverse hv]
set_option maxRecDepth 100000 in
set_option maxHeartbeats 16000000 in
theorem mirror27 (n : Int) (p : Option Addr) (es : List Pt) (cp : Nat) (q : Option Addr) (rs : List (List Int)) (cq : Nat) (w : World) (h : Has w p es) (hr : RHas w q rs) (h0 : rotI n es rs = 0) : Calls Try.prog 27 #[nv n p es.length cp, .slice q rs.length cq] w fun e w' => ∃ g rv, e = .returned (.tuple #[.slice (some ⟨g, 0, none⟩) rs.length rs.length, .int .i64 0]) ∧ Rows w' w.heap.size g rs.length rv (fun v => lat (mirrorL rs) v) ∧ Below w.heap.size w w' := by
  obtain ⟨i0, hi0, hz0, hz1, hz2⟩ := info_parts info41
  obtain ⟨W, hW, hb0, a0⟩ := one_net w n p es.length cp
  have M := hide (mayR13 n p es cp q rs cq W (h.later hb0) (hr.later hb0))
  obtain ⟨z1, z2⟩ := rot_bounds h0
  rw [h0] at M
  have HR := hide (hr.later hb0)
  have HB := hide hb0
  have HZ := hide z2
  clear h hr hb0 a0 h0 z2
  go_enter Try.func27, Try.ntmps27
  go_wp2_with fail
  rw [← hW]
  clear hW
  refine M.out.mono ?_
  rintro e w1 ⟨rfl, hb1⟩
  have HB1 := hide hb1
  clear hb1 M
  go_wp2_with (refine wpList_make_full _ rfl (.tmp 17) (.tmp 17) 26 rfl w1.heap.size 27 i0 (.slice none 0 0) 1 Try.underlying26 hi0 hz0 hz1 .i64 .i64 _ _ rs.length rfl rfl rfl rfl ?c1 ?c2 ?c3 ?_)
  case c1 => rw [hz2]; omega
  case c2 => unfold maxLen; omega
  case c3 => exact Nat.le_refl _
  intro w2 hown hgrow
  have HB2 := hide (below_step HB1.out (below_made hgrow))
  have hr2 : Rows w2 w1.heap.size w1.heap.size rs.length (fun _ => .slice none 0 0) (fun v => if v < 0 then (lat rs v).reverse else []) := (rows_made [] hown).congr (fun v _ => by simp [outL])
  obtain ⟨g, hg⟩ : ∃ g, w1.heap.size = g := ⟨_, rfl⟩
  have HR2 : Hid (Rows w2 w1.heap.size g rs.length (fun _ => .slice none 0 0) (fun v => if v < 0 then (lat rs v).reverse else [])) := by show Rows _ _ _ _ _ _; rw [hg] at hr2 ⊢; exact hr2
  try rw [hg]
  have HS1 : Hid (W.heap.size ≤ w1.heap.size) := HB1.out.size
  clear hown hgrow hg hr2 hi0 hz0 hz1 hz2 i0
  go_wp2_with fail
  go_loopw [21] (fun t21 wr => ∃ (v : Nat) (rv : Nat → Value), v ≤ rs.length ∧ t21 = .int .i64 v ∧ Hid (Below W.heap.size W wr) ∧ Hid (w1.heap.size ≤ wr.heap.size) ∧ Hid (Rows wr w1.heap.size g rs.length rv (fun u => if u < v then (lat rs u).reverse else []))) (fun t21 _ => rs.length - (intOf t21).toNat)
  case atStart => exact ⟨0, _, by omega, rfl, HB2.out, by show _ ≤ _; have := HR2.out.size; omega, HR2.out⟩
  case round =>
    obtain ⟨v, rv, hv, rfl, HBr, HSr, HRr⟩ := hrel
    clear HB2 HR2
    by_cases hlt : v < rs.length
    · obtain ⟨b1, o1, a1, k1, rfl, c0W, m1, z3⟩ := HR.out.at_ hlt
      have c0 := later HBr.out c0W
      have e1 : (v : Int) < rs.length := by omega
      have hl9 := HZ.out v hlt
      have CL := hide (clone61 a1 (lat rs v) k1 wr (m1.later HBr.out) z3.2.2 (by omega))
      have HSTEP : Hid (∀ (V : World) (rv' : Nat → Value), Rows V w1.heap.size g rs.length rv' (upd (upd (fun u => if u < v then (lat rs u).reverse else []) v (lat rs v)) v (lat rs v).reverse) → Rows V w1.heap.size g rs.length rv' (fun u => if u < v + 1 then (lat rs u).reverse else [])) := fun V rv' hR => hR.congr (fun u _ => by
        by_cases hu : u = v
        · subst hu; rw [upd_same, if_pos (by omega)]
        · rw [upd_other _ _ hu, upd_other _ _ hu]
          by_cases h : u < v
          · rw [if_pos h, if_pos (by omega)]
          · rw [if_neg h, if_neg (by omega)])
      clear m1 z3 c0W
      go_wp2_with fail
      refine CL.out.mono ?_
      rintro e V2 ⟨v1, rfl, o7, hb7⟩
      obtain ⟨p7, c7, h7, _⟩ := o7.form
      have HLAY := hide (HRr.out.lay hlt hb7 HSr.out o7)
      have HB7 := hide (below_step HBr.out hb7)
      have hs7 := hb7.size
      have HGE : Hid (w1.heap.size ≤ g) := HRr.out.size.1
      obtain ⟨d0, f0⟩ := (HRr.out.later hb7).cell hlt
      subst h7
      obtain ⟨V3, hV3⟩ : ∃ V, V = V2.setCell ⟨g, v, none⟩ (.slice p7 (lat rs v).length c7) := ⟨_, rfl⟩
      have HB8 : Hid (Below W.heap.size W V3) := by show Below _ _ _; rw [hV3]; exact HB7.out.setCell (p := ⟨g, v, none⟩) (by have := HGE.out; have := HS1.out; show _ ≤ g; omega) _
      rw [← hV3] at HLAY
      have HS3 : Hid (w1.heap.size ≤ V3.heap.size) := by show _ ≤ _; rw [hV3]; have := HSr.out; simp [World.setCell]; omega
      have o8 := HLAY.out.2.2 v hlt
      rw [upd_same, upd_same] at o8
      have RV := hide (reverse58 p7 c7 w1.heap.size (lat rs v) V3 o8 (by omega))
      obtain ⟨x0, _⟩ := HLAY.out.cell hlt
      rw [upd_same] at x0
      clear CL hb7 o7 c0 hs7 o8
      go_upto_region 9 with fail
      rw [← hV3]
      clear hV3 d0 f0
      go_wp2_with fail
      refine RV.out.mono ?_
      rintro e V4 ⟨rfl, o9, fr⟩
      have HR4 := hide (HSTEP.out _ _ (HLAY.out.turn hlt (by rw [upd_same]; exact o9) (by rw [upd_same]; exact fr)))
      have HB4 : Hid (Below W.heap.size W V4) := HB8.out.trans (fr.below HB8.out.size (fun i hi => by
        have := (World.ownsRow.lt (HLAY.out.2.2 v hlt) i (by rw [upd_same]; exact hi)).1
        have := HS1.out
        omega))
      have HS4 : Hid (w1.heap.size ≤ V4.heap.size) := Nat.le_trans HS3.out fr.size
      clear o9 fr RV x0 HLAY
      go_wp2
      go_roundw
      case rel => exact ⟨v + 1, _, by omega, by go_num, HB4.out, HS4.out, HR4.out⟩
      case measure => simp [intOf]; omega
    · have hve : v = rs.length := by omega
      have e1 : ¬ (v : Int) < rs.length := by omega
      have hlm : (rs.map List.reverse).length = rs.length := by simp
      have HF : Hid (RHas wr (some ⟨g, 0, none⟩) (rs.map List.reverse)) := HRr.out.has hlm (fun u hu => by rw [if_pos (by omega), lat_map List.reverse hu]) (fun u hu => by rw [lat_map List.reverse hu, List.length_reverse]; have := HZ.out u hu; unfold maxLen; omega)
      have T1 := hide (turned54 (some ⟨g, 0, none⟩) (rs.map List.reverse) rs.length wr HF.out (by rw [hlm]; omega) (fun u hu => by rw [hlm] at hu; rw [lat_map List.reverse hu, List.length_reverse]; have := HZ.out u hu; omega))
      rw [hlm] at T1
      clear hve hlm
      go_wp2_with fail
      refine T1.out.mono ?_
      rintro e w5 ⟨g5, rv5, rfl, hr5, hb5⟩
      have HB5 := hide (below_step (below_step HB.out HBr.out) hb5)
      have HR5 : Hid (Rows w5 w.heap.size g5 rs.length rv5 (fun v => lat (mirrorL rs) v)) := (hr5.base (below_step HB.out HBr.out).size).congr (fun u hu => by rw [lat_mirror hu, lat_map List.reverse hu])
      clear hr5 hb5 T1
      go_wp2
      go_ret2
      exact ⟨g5, rv5, rfl, HR5.out, HB5.out⟩
end Go.Proofs.Ytllkadgpkbaghaa
