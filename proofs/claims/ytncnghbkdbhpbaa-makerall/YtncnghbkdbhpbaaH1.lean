/- What the statements use besides: Room, Spoil, names, in every world. -/
import Derived.Test.YtncnghbkdbhpbaaE2
namespace Go.Proofs.Ytncnghbkdbhpbaa
open Go.RowKit Go.Sort
open Go

theorem room32 (a b : Int) (w : World) (h0 : 0 ≤ a) (h1 : a ≤ 100000) : Calls Try.prog 32 #[.int .i64 a, .int .i64 b] w fun e w' => (∃ r, e = .returned (.int .i64 r) ∧ r ≤ a + 2000) ∧ w' = w := by
  go_enter Try.func32, Try.ntmps32
  go_wp2
  all_goals go_ret
  all_goals exact ⟨⟨_, rfl, by omega⟩, rfl⟩
def lenAt (w : World) (k : Nat) : Nat :=
  match w.cell? ⟨k, 1, none⟩ with
  | some (.slice _ l _) => l
  | _ => 0
theorem lenAt_is {w : World} {k B : Nat} {n : Int} {es : List Pt} (h : GB w k B n es) : lenAt w k = es.length := by
  obtain ⟨_, p, c, hS, _⟩ := h
  unfold lenAt
  rw [hS.cell.2.1]
theorem GB.put {w : World} {k B g cap : Nat} {n : Int} {es : List Pt} (h0 : B ≤ k) (hS : SBox w k n (.slice (some ⟨g, 0, none⟩) es.length cap)) (hO : Owns w B (.slice (some ⟨g, 0, none⟩) es.length cap) es) (i : Nat) (q : Pt) : GB ((w.setCell ⟨g, i * 2, none⟩ (.int .i64 q.x)).setCell ⟨g, i * 2 + 1, none⟩ (.int .i64 q.y)) k B n (es.set i q) := by
  have hne : g ≠ k := fun h => SBox.apart hS hO (by simp [Value.ownBlock, h])
  refine ⟨h0, some ⟨g, 0, none⟩, cap, ?_, hO.set i q⟩
  rw [List.length_set]
  have a1 : SBox (w.setCell ⟨g, i * 2, none⟩ (.int .i64 q.x)) k n (.slice (some ⟨g, 0, none⟩) es.length cap) := ownsRow_setCell_other (a := ⟨g, i * 2, none⟩) hS (by simp [Value.ownBlock]; omega) _
  exact ownsRow_setCell_other (a := ⟨g, i * 2 + 1, none⟩) a1 (by simp [Value.ownBlock]; omega) _
set_option maxRecDepth 100000 in
set_option maxHeartbeats 8000000 in
theorem spoil11 (n : Int) (p : Option Addr) (es : List Pt) (cap B : Nat) (w : World) (ho : Owns w B (.slice p es.length cap) es) (hB : B ≤ w.heap.size) (hl : es.length ≤ 20000) : Calls Try.prog 11 #[nv n p es.length cap] w fun e w' => e = .returned (.tuple #[]) ∧ Below B w w' := by
  obtain ⟨U, hU⟩ : ∃ U, U = w.alloc (.cells #[.int .i64 n, .slice p es.length cap] 28) := ⟨_, rfl⟩
  have HG : Hid (GB U w.heap.size B n es) := by show GB _ _ _ _ _; rw [hU]; exact GB.made hB ho
  have HBU : Hid (Below B w U) := by show Below _ _ _; rw [hU]; go_grown
  obtain ⟨i0, hi0, hz0, hz1, hz2⟩ := info_parts info48
  have R := hide (room32 es.length cap U (by omega) (by omega))
  clear ho
  go_enter Try.func11, Try.ntmps11
  go_wp2_with fail
  rw [← hU]
  obtain ⟨k, hk⟩ : ∃ k, w.heap.size = k := ⟨_, rfl⟩
  rw [hk] at HG hB ⊢
  clear hU hk
  refine R.out.mono ?_
  rintro e w' ⟨⟨r, rfl, hr⟩, hw⟩
  have hw := hw.symm
  subst hw
  clear R
  go_wp2_with fail
  go_loopw [11] (fun _ wr => Hid (Below B w wr) ∧ Hid (∃ L : List Pt, L.length ≤ 30000 ∧ GB wr k B n L)) (fun _ wr => 30000 - lenAt wr k)
  case atStart => exact ⟨HBU.out, es, by omega, HG.out⟩
  case round =>
    obtain ⟨HBr, HLr⟩ := hrel
    obtain ⟨L, hL, hGL⟩ := HLr.out
    have HLA := hide (lenAt_is hGL)
    obtain ⟨h0, p1, c1, hS, hO⟩ := id hGL
    have HGL := hide hGL
    have HS := hide hS
    obtain ⟨q0, q1, q2, q3⟩ := hS.cell
    have hkl : k < wr.heap.size := block_lt_of_cell q0
    have hkn : k ≠ wr.heap.size := by omega
    by_cases hlt : (L.length : Int) < r
    · have hOW : wr.ownsRow B 48 2 (.slice p1 L.length c1) L.length (cells L) := hO
      clear hO hGL hS
      go_wp2_with (at_builtin; refine wpList_append_own _ rfl _ _ 26 rfl B 48 i0 (.agg #[.int .i64 0, .int .i64 0]) 2 16 Try.underlying26 hi0 hz0 hz1 hz2 rfl (by decide) _ _ _ rfl (World.ownsRow.alloc hOW _) ⟨wr.heap.size, 0, none⟩ 1 1 [.int .i64 0, .int .i64 0] rfl rfl ?d1 ?d2 ?d3 ?d4 ?d5 ?_)
      case d1 =>
        intro j u hj
        rw [Go.WideShapes.add_plain]
        match j, hj with
        | 0, hj => simp at hj; subst hj; simp
        | 1, hj => simp at hj; subst hj; simp
      case d2 => intro u hu; simp at hu; subst hu; rfl
      case d3 => unfold maxLen; omega
      case d4 => omega
      case d5 => simp; omega
      intro v' w5 hown' hgrow _
      have ho := hide (owns_more (p := ⟨0, 0⟩) hown')
      have hbg : Below B wr w5 := below_grown (w := (wr.alloc (bx ⟨0, 0⟩))) (by go_grown) (World.ownsRow.alloc hOW _) (Nat.le_refl _) (by simp; omega) hgrow
      have hS5 : SBox w5 k n (.slice p1 L.length c1) := World.ownsRow.kept (World.ownsRow.alloc HS.out _) hgrow (Or.inr fun hc => (SBox.apart (w := wr.alloc (bx ⟨0, 0⟩)) (World.ownsRow.alloc HS.out _) (World.ownsRow.alloc hOW _)) hc.symm)
      have HS5 := hide hS5
      have HB5 := hide (Below.trans HBr.out hbg)
      obtain ⟨p', c', hv', _, _, _, _⟩ := ho.out.form
      subst hv'
      clear q0 q1 q2 q3 hown' hgrow hOW hS5 hbg
      obtain ⟨q0, q1, q2, q3⟩ := HS5.out.cell
      obtain ⟨V, hV⟩ : ∃ V, V = w5.setCell ⟨k, 1, none⟩ (.slice p' (L.length + 1) c') := ⟨_, rfl⟩
      have HGV : Hid (GB V k B n (L ++ [⟨0, 0⟩])) := by
        show GB _ _ _ _ _
        rw [hV]
        refine ⟨h0, p', c', ?_, ?_⟩
        · rw [show (L ++ [(⟨0, 0⟩ : Pt)]).length = L.length + 1 by simp]; exact HS5.out.set _
        · have := ownsRow_setCell_other (a := ⟨k, 1, none⟩) ho.out (HS5.out.apart ho.out) (.slice p' (L.length + 1) c'); exact this
      have HBV : Hid (Below B w V) := by show Below _ _ _; rw [hV]; exact HB5.out.setCell h0 _
      go_wp2
      rw [← hV]
      clear hV
      go_roundw
      case rel => exact ⟨HBV.out, _, by simp; omega, HGV.out⟩
      case measure => rw [HLA.out, lenAt_is HGV.out]; simp; omega
    · clear hO hGL hS
      obtain ⟨m, hm⟩ : ∃ m, L.length = m := ⟨_, rfl⟩
      have HM := hide hm
      have hml : m ≤ 30000 := by omega
      go_wp2_with fail
      clear q0 q1 q2 q3 hm
      obtain ⟨w9, hw9⟩ : ∃ w9, w9 = wr := ⟨_, rfl⟩
      rw [← hw9] at HBr HGL ⊢
      clear hw9 HS HLA HLr hkl hkn
      go_loopw [3] (fun t wr => ∃ i : Nat, i ≤ m ∧ t = .int .i64 i ∧ Hid (Below B w wr) ∧ Hid (∃ L : List Pt, L.length = m ∧ GB wr k B n L)) (fun t _ => m - (intOf t).toNat)
      case atStart => exact ⟨0, by omega, rfl, HBr.out, L, HM.out, HGL.out⟩
      case round =>
        obtain ⟨i, hi, rfl, HBi, HLi⟩ := hrel
        obtain ⟨L2, hL2, _, p2, c2, hS2, hO2⟩ := HLi.out
        obtain ⟨q0, q1, q2, q3⟩ := hS2.cell
        by_cases hlt2 : i < m
        · obtain ⟨g, c3, hv, _, hgB, _⟩ := owns_block hO2 (by omega)
          simp only [Value.slice.injEq, true_and] at hv
          obtain ⟨rfl, rfl⟩ := hv
          obtain ⟨c0, c1⟩ := hO2.lies i (by omega)
          have f0 := World.ownsRow.frozenAt hO2 (i * 2)
          have f1 := World.ownsRow.frozenAt hO2 (i * 2 + 1)
          have HGP := hide (GB.put h0 hS2 hO2 i ⟨-9, -9⟩)
          have HBP : Hid (Below B w ((wr.setCell ⟨g, i * 2, none⟩ (.int .i64 (-9))).setCell ⟨g, i * 2 + 1, none⟩ (.int .i64 (-9)))) := (HBi.out.setCell hgB _).setCell hgB _
          have HL2 := hide hL2
          have i1 : (i : Int) < L2.length := by omega
          have i2 : (0 : Int) ≤ i := by omega
          rw [Nat.zero_add] at c0 c1
          clear hL2 hS2 hO2
          go_wp2
          go_roundw
          case rel => exact ⟨i + 1, by omega, by go_num, HBP.out, L2.set i ⟨-9, -9⟩, by rw [List.length_set, HL2.out], HGP.out⟩
          case measure => simp [intOf]; omega
        · have i1 : ¬ (i : Int) < L2.length := by omega
          clear hL2 hS2 hO2
          go_wp2
          go_end0
          exact ⟨rfl, HBi.out⟩
def nmArr : Array Value := #[.string ⟨#[112, 97, 116, 104]⟩, .string ⟨#[99, 121, 99, 108, 101]⟩, .string ⟨#[99, 111, 109, 112, 108, 101, 116, 101]⟩, .string ⟨#[116, 119, 111]⟩, .string ⟨#[103, 114, 105, 100]⟩, .string ⟨#[119, 104, 101, 101, 108]⟩, .string ⟨#[112, 114, 105, 115, 109]⟩, .string ⟨#[98, 111, 110, 100]⟩, .string ⟨#[114, 97, 110, 100, 111, 109]⟩, .string ⟨#[115, 116, 97, 99, 107]⟩]
theorem names7 (w : World) : Calls Try.prog 7 #[] w fun e w' => e = .returned (.slice (some ⟨w.heap.size, 0, none⟩) 10 10) ∧ w' = w.alloc (.cells nmArr 9) := by
  go_enter Try.func7, Try.ntmps7
  go_wp2
  go_ret
  exact ⟨rfl, rfl⟩
end Go.Proofs.Ytncnghbkdbhpbaa
