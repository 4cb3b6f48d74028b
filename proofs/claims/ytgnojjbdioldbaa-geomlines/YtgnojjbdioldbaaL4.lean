/- The reference's segments, in every world. -/
import Derived.Test.YtgnojjbdioldbaaL3
import Derived.Test.YtgnojjbdioldbaaA4
import Derived.Deep.RegionHeld3
namespace Go.Proofs.Ytgnojjbdioldbaa
open Go.RowKit Go.Sort
open Go

def four' (a b : Pt) : List Value := [.int .i64 a.x, .int .i64 a.y, .int .i64 b.x, .int .i64 b.y]
/-- The cells of a polyline's first n segments. -/
def scells (ps : List Pt) : Nat → List Value
  | 0 => []
  | n + 1 => scells ps n ++ four' (at' ps n) (at' ps (n + 1))
theorem scells_length (ps : List Pt) : ∀ n, (scells ps n).length = n * 4
  | 0 => rfl
  | n + 1 => by simp only [scells, List.length_append, scells_length ps n, four', List.length_cons, List.length_nil]; omega
theorem scells_at (ps : List Pt) : ∀ n j k, j < n → k < 4 → (scells ps n)[j * 4 + k]? = (four' (at' ps j) (at' ps (j + 1)))[k]?
  | 0, j, k, h, _ => by omega
  | n + 1, j, k, h, hk => by
    simp only [scells]
    by_cases e : j = n
    · subst e
      rw [List.getElem?_append_right (by rw [scells_length]; omega), scells_length, show j * 4 + k - j * 4 = k by omega]
    · rw [List.getElem?_append_left (by rw [scells_length]; omega)]
      exact scells_at ps n j k (by omega) hk
def SOwns (w : World) (base : Nat) (v : Value) (ps : List Pt) (n : Nat) : Prop := w.ownsRow base 90 4 v n (scells ps n)
theorem SOwns.seg {w : World} {base g c : Nat} {ps : List Pt} {n : Nat} (h : SOwns w base (.slice (some ⟨g, 0, none⟩) n c) ps n) {j : Nat} (hj : j < n) : SegAt w g j (at' ps j) (at' ps (j + 1)) := by
  have e : ∀ k, k < 4 → w.cell? ⟨g, j * 4 + k, none⟩ = (four' (at' ps j) (at' ps (j + 1)))[k]? := fun k hk => by
    rw [World.ownsRow.cellAt h (j * 4 + k) (by omega), scells_at ps n j k hj hk]
  exact ⟨by rw [show j * 4 = j * 4 + 0 by omega, e 0 (by omega)]; rfl, by rw [e 1 (by omega)]; rfl, by rw [e 2 (by omega)]; rfl, by rw [e 3 (by omega)]; rfl⟩
theorem SOwns.later {w w' : World} {base : Nat} {v : Value} {ps : List Pt} {n : Nat} (h : SOwns w base v ps n) (hb : Below w.heap.size w w') : SOwns w' base v ps n :=
  World.ownsRow.kept h (grown_below hb) (by cases h' : v.ownBlock <;> simp)
theorem info90 : (Try.prog.info? 90).map (fun i => (i.zero, i.size, i.bytes)) = some (some (.agg #[.int .i64 0, .int .i64 0, .int .i64 0, .int .i64 0]), 4, 32) := by kernel_rfl
theorem append_seg {w : World} {base : Nat} {v : Value} {ps : List Pt} {n : Nat} (ho : SOwns w base v ps n) (g : Nat) (hc : SegAt w g 0 (at' ps n) (at' ps (n + 1))) (hb : base ≤ w.heap.size) (hn : n ≤ 4096) :
    ∃ v' w', (Builtin.append_ #[92, 92] 92 #[v, .slice (some ⟨g, 0, none⟩) 1 1]).run Try.prog w = .ok v' w' ∧ SOwns w' base v' ps (n + 1) ∧ w.grownBy w' v.ownBlock := by
  obtain ⟨i0, hi0, hz0, hz1, hz2⟩ := info_parts info90
  have hnews : ∀ j u, (four' (at' ps n) (at' ps (n + 1)))[j]? = some u → w.cell? ((⟨g, 0, none⟩ : Addr).add j) = some u := by
    obtain ⟨c0, c1, c2, c3⟩ := hc
    intro j u hj
    rw [Go.WideShapes.add_plain, Nat.zero_add]
    match j, hj with
    | 0, hj => simp [four'] at hj; subst hj; exact c0
    | 1, hj => simp [four'] at hj; subst hj; exact c1
    | 2, hj => simp [four'] at hj; subst hj; exact c2
    | 3, hj => simp [four'] at hj; subst hj; exact c3
    | j + 4, hj => simp [four'] at hj
  obtain ⟨v', w', h1, h2, h3, _⟩ := run_append_own (P := Try.prog) w base 92 92 90 i0 (.agg #[.int .i64 0, .int .i64 0, .int .i64 0, .int .i64 0]) 4 32 Try.underlying92 hi0 hz0 hz1 hz2 rfl (by decide) v n (scells ps n) ho ⟨g, 0, none⟩ 1 1 (four' (at' ps n) (at' ps (n + 1))) rfl hnews (by intro u hu; simp [four'] at hu; rcases hu with rfl | rfl | rfl | rfl <;> rfl) (by unfold maxLen; omega) (by omega) hb
  exact ⟨v', w', h1, h2, h3⟩
theorem below_grownS {B : Nat} {a w w' : World} {v : Value} {ps : List Pt} {base n : Nat} (h : Below B a w) (ho : SOwns w base v ps n) (hB : B ≤ base) (hw : B ≤ w.heap.size) (hg : w.grownBy w' v.ownBlock) : Below B a w' :=
  h.grown hg hw fun k hk => Nat.le_trans hB (World.ownsRow.lt ho k hk).1
set_option maxRecDepth 100000 in
set_option maxHeartbeats 4000000 in
theorem segments68one (b off cap : Nat) (y : Pt) (w : World) (c0 : w.cell? ⟨b, off, none⟩ = some (.int .i64 y.x)) (c1 : w.cell? ⟨b, off + 1, none⟩ = some (.int .i64 y.y)) : Calls Try.prog 68 #[.slice (some ⟨b, off, none⟩) 1 cap] w fun e w' => ∃ g c : Nat, e = .returned (.slice (some ⟨g, 0, none⟩) 1 c) ∧ SegAt w' g 0 y y ∧ Below w.heap.size w w' := by
  have SK : ∀ V, Below w.heap.size w V → V.cell? ⟨b, off, none⟩ = some (.int .i64 y.x) ∧ V.cell? ⟨b, off + 1, none⟩ = some (.int .i64 y.y) := fun V hB => ⟨later hB c0, later hB c1⟩
  have SK' := hide SK
  clear SK
  go_enter Try.func68, Try.ntmps68
  go_upto_region 2 with fail
  go_region_held3 (fun V => V.cell? ⟨b, off, none⟩ = some (.int .i64 y.x) ∧ V.cell? ⟨b, off + 1, none⟩ = some (.int .i64 y.y))
    (first | exact SK'.out _ (below_drewJ _) | exact SK'.out _ (by go_grown))
    (fail)
  rename_i hHeld
  clear hHeld
  go_wp2_with fail
  go_ret
  refine ⟨w.heap.size, 1, rfl, ⟨by go_cell, by go_cell, by go_cell, by go_cell⟩, by go_grown⟩
theorem SOwns.form {w : World} {base : Nat} {v : Value} {ps : List Pt} {n : Nat} (h : SOwns w base v ps n) (h0 : 0 < n) : ∃ g c, v = .slice (some ⟨g, 0, none⟩) n c := by
  obtain ⟨g, c, rfl, _, _⟩ := World.ownsRow.form h h0
  exact ⟨g, c, rfl⟩
theorem SOwns.slice {w : World} {base : Nat} {v : Value} {ps : List Pt} {n : Nat} (h : SOwns w base v ps n) : ∃ p c, v = .slice p n c := by
  obtain ⟨_, ⟨rfl, h2⟩ | ⟨g, cap, cur, rfl, _, _, _, _⟩⟩ := h
  · exact ⟨none, 0, by rw [h2]⟩
  · exact ⟨_, _, rfl⟩
set_option maxRecDepth 100000 in
set_option maxHeartbeats 4000000 in
theorem segments68two (b off cap : Nat) (ps : List Pt) (w : World) (h2 : 2 ≤ ps.length) (hl : ps.length ≤ 4096) (h : Lies w b off ps) : Calls Try.prog 68 #[.slice (some ⟨b, off, none⟩) ps.length cap] w fun e w' => ∃ g c : Nat, e = .returned (.slice (some ⟨g, 0, none⟩) (ps.length - 1) c) ∧ (∀ j, j < ps.length - 1 → SegAt w' g j (at' ps j) (at' ps (j + 1))) ∧ Below w.heap.size w w' := by
  have HL := hide h
  obtain ⟨n, hn⟩ : ∃ n, ps.length = n + 1 := ⟨ps.length - 1, by omega⟩
  have HNN := hide hn
  rw [hn] at hl h2 ⊢
  rw [show n + 1 - 1 = n by omega]
  have n1 : ((n : Int) + 1 == 1) = false := beq_eq_false_iff_ne.2 (by omega)
  have n0 : ¬ n = 0 := by omega
  clear h hn h2
  go_enter Try.func68, Try.ntmps68
  go_wp2_with fail
  go_loopw [3, 4] (fun s t wr => ∃ i : Nat, i ≤ n ∧ t = .int .i64 i ∧ Hid (Below w.heap.size w wr) ∧ Hid (SOwns wr w.heap.size s ps i)) (fun _ t _ => n - (intOf t).toNat)
  case atStart => exact ⟨0, by omega, rfl, Below.refl _ _, World.ownsRow_nil _ _ _ _⟩
  case round =>
    obtain ⟨i, hi, rfl, HBr, HO⟩ := hrel
    obtain ⟨p0, c, hv⟩ := HO.out.slice
    subst hv
    by_cases hlt : i < n
    · obtain ⟨c0, c1⟩ := HL.out.later HBr.out i (by rw [HNN.out]; omega)
      obtain ⟨d0, d1⟩ := HL.out.later HBr.out (i + 1) (by rw [HNN.out]; omega)
      obtain ⟨y, hy⟩ : ∃ y, at' ps i = y := ⟨_, rfl⟩
      obtain ⟨z, hz⟩ : ∃ z, at' ps (i + 1) = z := ⟨_, rfl⟩
      rw [hy] at c0 c1
      rw [hz] at d0 d1
      have i1 : (i : Int) < (n : Int) + 1 := by omega
      have i2 : (0 : Int) ≤ i := by omega
      have i3 : (i : Int) + 1 < (n : Int) + 1 := by omega
      have i4 : (0 : Int) ≤ (i : Int) + 1 := by omega
      have wi : IntKind.i64.wrap ((i : Int) + 1) = (i : Int) + 1 := by rw [IntKind.wrap_i64]; omega
      have hbD : Below wr.heap.size wr (wr.alloc (.cells #[.int .i64 y.x, .int .i64 y.y, .int .i64 z.x, .int .i64 z.y] 90)).drew := by go_grown
      have sD : SegAt (wr.alloc (.cells #[.int .i64 y.x, .int .i64 y.y, .int .i64 z.x, .int .i64 z.y] 90)).drew wr.heap.size 0 (at' ps i) (at' ps (i + 1)) := by
        rw [hy, hz]
        exact ⟨by go_cell, by go_cell, by go_cell, by go_cell⟩
      obtain ⟨v1, D1, e1, o1, gr1⟩ := append_seg (HO.out.later hbD) wr.heap.size sD (Nat.le_trans HBr.out.size hbD.size) (by omega)
      have hb1 : Below w.heap.size w D1 := below_grownS (Below.trans HBr.out (hbD.mono HBr.out.size)) (HO.out.later hbD) (Nat.le_refl _) (Nat.le_trans HBr.out.size hbD.size) gr1
      have HO1 := hide o1
      have HB1 := hide hb1
      have SC : ∀ V, Below w.heap.size w V → V.cell? ⟨b, off + i * 2, none⟩ = some (.int .i64 y.x) ∧ V.cell? ⟨b, off + i * 2 + 1, none⟩ = some (.int .i64 y.y) ∧ V.cell? ⟨b, off + (i + 1) * 2, none⟩ = some (.int .i64 z.x) ∧ V.cell? ⟨b, off + (i + 1) * 2 + 1, none⟩ = some (.int .i64 z.y) := fun V hB => by
        have q1 := HL.out.later hB i (by rw [HNN.out]; omega)
        have q2 := HL.out.later hB (i + 1) (by rw [HNN.out]; omega)
        rw [hy] at q1
        rw [hz] at q2
        exact ⟨q1.1, q1.2, q2.1, q2.2⟩
      have S1 := hide (SC _ (Below.trans HBr.out ((below_drewJ _).mono HBr.out.size)))
      have S2 := hide (SC _ (Below.trans HBr.out (hbD.mono HBr.out.size)))
      have S3 := hide (SC _ hb1)
      clear SC o1 gr1 hb1 hbD sD hy hz
      go_upto_region 7 with fail
      go_region_held3 (fun V => V.cell? ⟨b, off + i * 2, none⟩ = some (.int .i64 y.x) ∧ V.cell? ⟨b, off + i * 2 + 1, none⟩ = some (.int .i64 y.y) ∧ V.cell? ⟨b, off + (i + 1) * 2, none⟩ = some (.int .i64 z.x) ∧ V.cell? ⟨b, off + (i + 1) * 2 + 1, none⟩ = some (.int .i64 z.y))
        (first | exact S1.out | exact S2.out | exact S3.out)
        (first | (refine step_run_append (by rfl) (.tmp 23) (.tmp 34) 92 (by rfl) 92 (by rfl) (.slice p0 i c) (.slice (some ⟨wr.heap.size, 0, none⟩) 1 1) v1 D1 (by rfl) (by rfl) ?_ ?_; with_reducible exact e1))
      rename_i hHeld
      clear hHeld S1 S2 S3 e1 c0 c1 d0 d1
      go_wp2
      go_roundw
      case rel => exact ⟨i + 1, by omega, by go_num, HB1.out, HO1.out⟩
      case measure => simp [intOf]; omega
    · have hin : i = n := by omega
      subst hin
      go_wp2
      go_ret
      obtain ⟨g, c', hv⟩ := HO.out.form (by omega)
      rw [hv] at HO ⊢
      exact ⟨g, c', rfl, fun j hj => HO.out.seg hj, HBr.out⟩
theorem segments68all (b off cap : Nat) (ps : List Pt) (w : World) (h1 : 0 < ps.length) (hl : ps.length ≤ 4096) (h : Lies w b off ps) : Calls Try.prog 68 #[.slice (some ⟨b, off, none⟩) ps.length cap] w fun e w' => ∃ g c : Nat, e = .returned (.slice (some ⟨g, 0, none⟩) (segN ps) c) ∧ (∀ j, j < segN ps → SegAt w' g j (at' ps j) (segZ ps j)) ∧ Below w.heap.size w w' := by
  by_cases h2 : ps.length = 1
  · obtain ⟨c0, c1⟩ := h 0 h1
    have e1 : segN ps = 1 := by unfold segN; rw [if_pos h2]
    rw [h2, e1]
    refine (segments68one b off cap (at' ps 0) w (by simpa using c0) (by simpa using c1)).mono ?_
    rintro e w' ⟨g, c, rfl, hs, hb⟩
    refine ⟨g, c, rfl, fun j hj => ?_, hb⟩
    have hj0 : j = 0 := by omega
    subst hj0
    unfold segZ
    rw [if_pos h2]
    exact hs
  · have e1 : segN ps = ps.length - 1 := by unfold segN; rw [if_neg h2]
    rw [e1]
    refine (segments68two b off cap ps w (by omega) hl h).mono ?_
    rintro e w' ⟨g, c, rfl, hs, hb⟩
    refine ⟨g, c, rfl, fun j hj => ?_, hb⟩
    unfold segZ
    rw [if_neg h2]
    exact hs j hj
end Go.Proofs.Ytgnojjbdioldbaa
