/- The document's Canon and Same, in every world. -/
import Derived.Test.YtllkadgpkbaghaaY8
namespace Go.Proofs.Ytllkadgpkbaghaa
open Go.RowKit Go.Sort
open Go

set_option maxRecDepth 100000 in
set_option maxHeartbeats 16000000 in
theorem canon49 (q : Option Addr) (rs : List (List Int)) (cq : Nat) (w : World) (hr : RHas w q rs) (hn : rs.length ≤ 100000) (hl : ∀ v, v < rs.length → (lat rs v).length ≤ 40000) : Calls Try.prog 49 #[.slice q rs.length cq] w fun e w' => ∃ g rv, e = .returned (.slice (some ⟨g, 0, none⟩) rs.length rs.length) ∧ Rows w' w.heap.size g rs.length rv (fun v => turnL (lat rs v)) ∧ Below w.heap.size w w' := by
  obtain ⟨i0, hi0, hz0, hz1, hz2⟩ := info_parts info41
  have HR := hide hr
  have HLL := hide hl
  clear hr hl
  go_enter Try.func49, Try.ntmps49
  go_wp2_with (refine wpList_make_full _ rfl (.tmp 6) (.tmp 6) 26 rfl w.heap.size 27 i0 (.slice none 0 0) 1 Try.underlying26 hi0 hz0 hz1 .i64 .i64 _ _ rs.length rfl rfl rfl rfl ?c1 ?c2 ?c3 ?_)
  case c1 => rw [hz2]; omega
  case c2 => unfold maxLen; omega
  case c3 => exact Nat.le_refl _
  intro w2 hown hgrow
  have HB2 := hide (below_made hgrow)
  have HR2 : Hid (Rows w2 w.heap.size w.heap.size rs.length (fun _ => .slice none 0 0) (fun v => if v < 0 then turnL (lat rs v) else [])) := (rows_made [] hown).congr (fun v _ => by simp [outL])
  obtain ⟨g, hg⟩ : ∃ g, w.heap.size = g := ⟨_, rfl⟩
  have HG := hide hg
  rw [show Rows w2 w.heap.size w.heap.size rs.length (fun _ => Value.slice none 0 0) (fun v => if v < 0 then turnL (lat rs v) else []) = Rows w2 w.heap.size g rs.length (fun _ => Value.slice none 0 0) (fun v => if v < 0 then turnL (lat rs v) else []) by rw [hg]] at HR2
  try rw [hg]
  clear hown hgrow hg hi0 hz0 hz1 hz2 i0
  go_wp2_with fail
  go_loopw [4] (fun t4 wr => ∃ (v : Nat) (rv : Nat → Value), v ≤ rs.length ∧ t4 = .int .i64 v ∧ Hid (Below w.heap.size w wr) ∧ Hid (Rows wr w.heap.size g rs.length rv (fun u => if u < v then turnL (lat rs u) else []))) (fun t4 _ => rs.length - (intOf t4).toNat)
  case atStart => exact ⟨0, _, by omega, rfl, HB2.out, HR2.out⟩
  case round =>
    obtain ⟨v, rv, hv, rfl, HBr, HRr⟩ := hrel
    clear HB2 HR2
    by_cases hlt : v < rs.length
    · obtain ⟨b1, o1, a1, k1, rfl, c0W, m1, z1⟩ := HR.out.at_ hlt
      have c0 := later HBr.out c0W
      have e1 : (v : Int) < rs.length := by omega
      have TU := hide (turned70 a1 (lat rs v) k1 wr (m1.later HBr.out) z1.2.1 z1.2.2 (HLL.out v hlt))
      have HSTEP : Hid (∀ (V : World) (rv' : Nat → Value) (x : List Int), x = turnL (lat rs v) → Rows V w.heap.size g rs.length rv' (upd (fun u => if u < v then turnL (lat rs u) else []) v x) → Rows V w.heap.size g rs.length rv' (fun u => if u < v + 1 then turnL (lat rs u) else [])) := fun V rv' x hx hR => hR.congr (fun u _ => by
        by_cases hu : u = v
        · subst hu; rw [upd_same, if_pos (by omega), hx]
        · rw [upd_other _ _ hu]
          by_cases h : u < v
          · rw [if_pos h, if_pos (by omega)]
          · rw [if_neg h, if_neg (by omega)])
      clear m1 z1 c0W
      go_wp2_with fail
      refine TU.out.mono ?_
      rintro e V2 ⟨v1, rfl, o1', hb7⟩
      obtain ⟨p7, l7, c7, rfl⟩ : ∃ p7 l7 c7, v1 = .slice p7 l7 c7 := by obtain ⟨p7, c7, h7, _⟩ := o1'.form; exact ⟨_, _, _, h7⟩
      have HB7 := hide (below_step HBr.out hb7)
      have HLAY := hide (HRr.out.lay hlt hb7 HBr.out.size o1')
      obtain ⟨d0, f0⟩ := (HRr.out.later hb7).cell hlt
      have HGE : Hid (w.heap.size ≤ g) := HRr.out.size.1
      have HR8 := hide (HSTEP.out _ _ _ rfl HLAY.out)
      have HB8 : Hid (Below w.heap.size w (V2.setCell ⟨g, v, none⟩ (.slice p7 l7 c7))) := HB7.out.setCell (p := ⟨g, v, none⟩) HGE.out _
      clear TU hb7 o1' c0
      go_wp2
      go_roundw
      case rel => exact ⟨v + 1, _, by omega, by go_num, HB8.out, HR8.out⟩
      case measure => simp [intOf]; omega
    · have hve : v = rs.length := by omega
      have e1 : ¬ (v : Int) < rs.length := by omega
      have HF := hide (HRr.out.congr (L' := fun u => turnL (lat rs u)) (fun u hu => by rw [if_pos (by omega)]))
      clear hve
      go_wp2
      go_ret
      exact ⟨g, rfl, ⟨rv, HF.out⟩, HBr.out⟩
set_option maxRecDepth 100000 in
set_option maxHeartbeats 16000000 in
theorem same20 (q1 q2 : Option Addr) (a b : List (List Int)) (k1 k2 : Nat) (w : World) (ha : RHas w q1 a) (hb : RHas w q2 b) (na : a.length ≤ 100000) (nb : b.length ≤ 100000) (la : ∀ v, v < a.length → (lat a v).length ≤ 40000) (lb : ∀ v, v < b.length → (lat b v).length ≤ 40000) : Calls Try.prog 20 #[.slice q1 a.length k1, .slice q2 b.length k2] w fun e w' => e = .returned (.bool (decide (canonL a = canonL b))) ∧ Below w.heap.size w w' := by
  have C1 := hide (canon49 q1 a k1 w ha na la)
  have HRb := hide hb
  have HLA := hide la
  have HLB := hide lb
  clear ha hb la lb
  go_enter Try.func20, Try.ntmps20
  go_wp2_with fail
  refine C1.out.mono ?_
  rintro e w1 ⟨g1, rv1, rfl, hr1, hb1⟩
  have HB1 := hide hb1
  have HR1 := hide hr1
  have C2 := hide (canon49 q2 b k2 w1 (HRb.out.later hb1) nb HLB.out)
  clear hr1 hb1 C1
  go_wp2_with fail
  refine C2.out.mono ?_
  rintro e w2 ⟨g2, rv2, rfl, hr2, hb2⟩
  have HB2 := hide (below_step HB1.out hb2)
  have HF1 : Hid (RHas w2 (some ⟨g1, 0, none⟩) (canonL a)) := (HR1.out.later hb2).has (canonL_length a) (fun v hv => (lat_canon hv).symm) (fun v hv => by rw [lat_canon hv, turnL_length]; have := HLA.out v hv; unfold maxLen; omega)
  have HF2 : Hid (RHas w2 (some ⟨g2, 0, none⟩) (canonL b)) := hr2.has (canonL_length b) (fun v hv => (lat_canon hv).symm) (fun v hv => by rw [lat_canon hv, turnL_length]; have := HLB.out v hv; unfold maxLen; omega)
  have EQ := hide (lists29 (some ⟨g1, 0, none⟩) (some ⟨g2, 0, none⟩) (canonL a) (canonL b) a.length b.length w2 (by rw [canonL_length]; unfold maxLen; omega) HF1.out HF2.out)
  rw [canonL_length, canonL_length] at EQ
  clear hr2 hb2 C2
  go_wp2_with fail
  refine EQ.out.mono ?_
  rintro e w3 ⟨rfl, hb3⟩
  have HB3 := hide (below_step HB2.out hb3)
  clear hb3 EQ
  go_wp2
  go_ret
  exact ⟨rfl, HB3.out⟩
end Go.Proofs.Ytllkadgpkbaghaa
