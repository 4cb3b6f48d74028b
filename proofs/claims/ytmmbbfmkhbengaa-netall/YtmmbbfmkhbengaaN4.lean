/- Edges picked by their numbers; edges whose ends get other names. -/
import Derived.Test.YtmmbbfmkhbengaaN3
import Derived.Deep.RegionHeld3
namespace Go.Proofs.Ytmmbbfmkhbengaa
open Go.RowKit Go.Sort
open Go

/-- n pairs in block g of one's own. -/
def PRow (w : World) (base g n : Nat) (ps : List Pt) : Prop := ps.length = n ∧ Owns w base (.slice (some ⟨g, 0, none⟩) ps.length n) ps
theorem PRow.cell {w : World} {base g n : Nat} {ps : List Pt} (h : PRow w base g n ps) {j : Nat} (hj : j < n) : w.cell? ⟨g, j * 2, none⟩ = some (.int .i64 (at' ps j).x) ∧ w.cell? ⟨g, j * 2 + 1, none⟩ = some (.int .i64 (at' ps j).y) ∧ w.frozen? ⟨g, j * 2, none⟩ = false ∧ w.frozen? ⟨g, j * 2 + 1, none⟩ = false := by
  have := h.2.lies j (by rw [h.1]; exact hj)
  rw [Nat.zero_add] at this
  exact ⟨this.1, this.2, World.ownsRow.frozenAt h.2 _, World.ownsRow.frozenAt h.2 _⟩
theorem PRow.set {w : World} {base g n : Nat} {ps : List Pt} (h : PRow w base g n ps) (j : Nat) (q : Pt) : PRow ((w.setCell ⟨g, j * 2, none⟩ (.int .i64 q.x)).setCell ⟨g, j * 2 + 1, none⟩ (.int .i64 q.y)) base g n (ps.set j q) := ⟨by rw [List.length_set]; exact h.1, h.2.set j q⟩
theorem PRow.later {w w' : World} {base g n : Nat} {ps : List Pt} (h : PRow w base g n ps) (hb : Below w.heap.size w w') : PRow w' base g n ps := ⟨h.1, h.2.later hb⟩
theorem PRow.lt {w : World} {base g n : Nat} {ps : List Pt} (h : PRow w base g n ps) : base ≤ g ∧ g < w.heap.size := World.ownsRow.lt h.2 g rfl
theorem PRow.has {w : World} {base g n : Nat} {ps : List Pt} (h : PRow w base g n ps) : Has w (some ⟨g, 0, none⟩) ps := Or.inr ⟨g, 0, rfl, h.2.lies⟩
theorem IRow.has {w : World} {base g n : Nat} {l : List Int} (h : IRow w base g n l) : IHas w (some ⟨g, 0, none⟩) l := Or.inr ⟨g, 0, rfl, h.2.lies⟩
theorem made_pairs (n : Nat) : (madeCells #[Value.int .i64 0, Value.int .i64 0] (n * 2)).toList = List.replicate (n * 2) (.int .i64 0) := by
  apply List.ext_getElem
  · simp [madeCells]
  · intro j h1 h2
    simp only [madeCells, Array.toList_map, List.getElem_map, List.getElem_replicate]
    simp only [Array.getElem_toList, Array.getElem_range]
    rcases Nat.mod_two_eq_zero_or_one j with h | h <;> simp [h]
theorem prow_made {w : World} {base g n : Nat} (h : w.ownsRow base 60 2 (.slice (some ⟨g, 0, none⟩) n n) n (madeCells #[.int .i64 0, .int .i64 0] (n * 2)).toList) : PRow w base g n (List.replicate n ⟨0, 0⟩) := by
  rw [made_pairs] at h
  refine ⟨List.length_replicate, ?_⟩
  unfold Owns
  rw [List.length_replicate, cells_zero]
  exact h
theorem at_set (l : List Pt) (j k : Nat) (x : Pt) (hk : k < l.length) : at' (l.set j x) k = if j = k then x else at' l k := by
  unfold at'
  rw [List.getD_eq_getElem?_getD, List.getD_eq_getElem?_getD, List.getElem?_set]
  by_cases h : j = k
  · subst h; simp [hk]
  · simp [h]
theorem at_map {α : Type} (f : α → Pt) (l : List α) (d : α) {j : Nat} (h : j < l.length) : at' (l.map f) j = f (l.getD j d) := by
  unfold at'
  rw [List.getD_eq_getElem?_getD, List.getD_eq_getElem?_getD, List.getElem?_map, List.getElem?_eq_getElem h]
  rfl
theorem iat_map {α : Type} (f : α → Int) (l : List α) (d : α) {j : Nat} (h : j < l.length) : iat (l.map f) j = f (l.getD j d) := by
  unfold iat
  rw [List.getD_eq_getElem?_getD, List.getD_eq_getElem?_getD, List.getElem?_map, List.getElem?_eq_getElem h]
  rfl
def pick (es : List Pt) (l : List Int) : List Pt := l.map fun x => at' es x.toNat
def rename (es : List Pt) (t : List Int) : List Pt := es.map fun p => ⟨iat t p.x.toNat, iat t p.y.toNat⟩
theorem pick_length (es : List Pt) (l : List Int) : (pick es l).length = l.length := List.length_map ..
theorem rename_length (es : List Pt) (t : List Int) : (rename es t).length = es.length := List.length_map ..
theorem pick_at (es : List Pt) (l : List Int) {j : Nat} (h : j < l.length) : at' (pick es l) j = at' es (iat l j).toNat := at_map _ l 0 h
theorem rename_at (es : List Pt) (t : List Int) {j : Nat} (h : j < es.length) : at' (rename es t) j = ⟨iat t (at' es j).x.toNat, iat t (at' es j).y.toNat⟩ := at_map _ es ⟨0, 0⟩ h

set_option maxRecDepth 100000 in
set_option maxHeartbeats 4000000 in
theorem picked54 (p q : Option Addr) (es : List Pt) (l : List Int) (cp cq : Nat) (w : World) (hl : l.length ≤ 100000) (hin : ∀ j, j < l.length → 0 ≤ iat l j ∧ iat l j < es.length) (h : Has w p es) (k : IHas w q l) : Calls Try.prog 54 #[.slice p es.length cp, .slice q l.length cq] w fun e w' => ∃ g, e = .returned (.slice (some ⟨g, 0, none⟩) l.length l.length) ∧ PRow w' w.heap.size g l.length (pick es l) ∧ Below w.heap.size w w' := by
  have HH := hide h
  have HK := hide k
  have HIN := hide hin
  clear h k hin
  obtain ⟨i0, hi0, hz0, hz1, hz2⟩ := info_parts info60
  go_enter Try.func54, Try.ntmps54
  go_wp2_with (refine wpList_make_full _ rfl (.tmp 9) (.tmp 9) 22 rfl w.heap.size 60 i0 (.agg #[.int .i64 0, .int .i64 0]) 2 Try.underlying22 hi0 hz0 hz1 .i64 .i64 _ _ l.length rfl rfl rfl rfl ?c1 ?c2 ?c3 ?_)
  case c1 => rw [hz2]; omega
  case c2 => unfold maxLen; omega
  case c3 => exact Nat.le_refl _
  intro w1 hown hgrow
  have HR1 := hide (prow_made hown)
  have HB1 := hide (below_made hgrow)
  clear hown hgrow
  go_wp2_with fail
  go_loopw [13] (fun t wr => ∃ i : Nat, i ≤ l.length ∧ t = .int .i64 i ∧ Hid (Below w.heap.size w wr) ∧ Hid (∃ r, PRow wr w.heap.size w.heap.size l.length r ∧ ∀ j, j < i → at' r j = at' es (iat l j).toNat)) (fun t _ => l.length - (intOf t).toNat)
  case atStart => exact ⟨0, by omega, rfl, HB1.out, _, HR1.out, fun j hj => by omega⟩
  case round =>
    obtain ⟨i, hi, rfl, HB, HR⟩ := hrel
    by_cases hlt : i < l.length
    · obtain ⟨r, hr, hall⟩ := HR.out
      have HR' := hide hr
      have HA := hide hall
      obtain ⟨c0, c1, c2, c3⟩ := hr.cell hlt
      clear hr hall HR
      obtain ⟨hx0, hx1⟩ := HIN.out i hlt
      rcases HK.out.later HB.out with h | ⟨bl, ol, rfl, hL⟩
      · subst h; simp at hlt
      have cl := hL i hlt
      obtain ⟨x, hx⟩ : ∃ x, iat l i = x := ⟨_, rfl⟩
      rw [hx] at hx0 hx1 cl
      obtain ⟨xn, rfl⟩ : ∃ xn : Nat, x = xn := ⟨x.toNat, by omega⟩
      have hxn : xn < es.length := by omega
      rcases HH.out.later HB.out with h | ⟨be, oe, rfl, hE⟩
      · subst h; simp at hxn
      obtain ⟨d0, d1⟩ := hE xn hxn
      obtain ⟨y, hy⟩ : ∃ y, at' es xn = y := ⟨_, rfl⟩
      rw [hy] at d0 d1
      clear hL hE
      go_wp2
      go_roundw
      case rel =>
        refine ⟨i + 1, by omega, by go_num, (HB.out.setCell (by simp) _).setCell (by simp) _, _, HR'.out.set i y, more (fun j hj => ?_) ?_⟩
        · rw [at_set _ _ _ _ (by rw [HR'.out.1]; omega), if_neg (by omega)]; exact HA.out j hj
        · rw [at_set _ _ _ _ (by rw [HR'.out.1]; omega), if_pos rfl, hx, ← hy]; rfl
      case measure => simp [intOf]; omega
    · have hin : i = l.length := by omega
      subst hin
      obtain ⟨r, hr, hall⟩ := HR.out
      have e : Hid (r = pick es l) := at_ext (by rw [hr.1, pick_length]) fun j hj => by rw [hr.1] at hj; rw [hall j hj, pick_at _ _ hj]
      have HR' := hide hr
      clear hr hall HR
      go_wp2
      go_ret
      refine ⟨_, rfl, ?_, HB.out⟩
      rw [← e.out]; exact HR'.out

theorem other2 {U : World} {g i j : Nat} {a b v : Value} {A : Addr} (h : U.cell? A = some v) (hne : A.block ≠ g) : ((U.setCell ⟨g, i, none⟩ a).setCell ⟨g, j, none⟩ b).drew.cell? A = some v := by
  have n1 : (⟨g, i, none⟩ : Addr) ≠ A := fun e => hne (by rw [← e])
  have n2 : (⟨g, j, none⟩ : Addr) ≠ A := fun e => hne (by rw [← e])
  show ((U.setCell ⟨g, i, none⟩ a).setCell ⟨g, j, none⟩ b).cell? A = some v
  rw [World.cell?_setCell_other _ _ _ _ n2, World.cell?_setCell_other _ _ _ _ n1]; exact h
set_option maxRecDepth 100000 in
set_option maxHeartbeats 4000000 in
theorem renamed50 (p q : Option Addr) (es : List Pt) (l : List Int) (cp cq : Nat) (w : World) (hl : es.length ≤ 100000) (hin : ∀ j, j < es.length → 0 ≤ (at' es j).x ∧ (at' es j).x < l.length ∧ 0 ≤ (at' es j).y ∧ (at' es j).y < l.length) (h : Has w p es) (k : IHas w q l) : Calls Try.prog 50 #[.slice p es.length cp, .slice q l.length cq] w fun e w' => ∃ g, e = .returned (.slice (some ⟨g, 0, none⟩) es.length es.length) ∧ PRow w' w.heap.size g es.length (rename es l) ∧ Below w.heap.size w w' := by
  have HH := hide h
  have HK := hide k
  have HIN := hide hin
  clear h k hin
  obtain ⟨i0, hi0, hz0, hz1, hz2⟩ := info_parts info60
  go_enter Try.func50, Try.ntmps50
  go_wp2_with (refine wpList_make_full _ rfl (.tmp 9) (.tmp 9) 22 rfl w.heap.size 60 i0 (.agg #[.int .i64 0, .int .i64 0]) 2 Try.underlying22 hi0 hz0 hz1 .i64 .i64 _ _ es.length rfl rfl rfl rfl ?c1 ?c2 ?c3 ?_)
  case c1 => rw [hz2]; omega
  case c2 => unfold maxLen; omega
  case c3 => exact Nat.le_refl _
  intro w1 hown hgrow
  have HR1 := hide (prow_made hown)
  have HB1 := hide (below_made hgrow)
  clear hown hgrow
  go_wp2_with fail
  go_loopw [13] (fun t wr => ∃ i : Nat, i ≤ es.length ∧ t = .int .i64 i ∧ Hid (Below w.heap.size w wr) ∧ Hid (∃ r, PRow wr w.heap.size w.heap.size es.length r ∧ ∀ j, j < i → at' r j = at' (rename es l) j)) (fun t _ => es.length - (intOf t).toNat)
  case atStart => exact ⟨0, by omega, rfl, HB1.out, _, HR1.out, fun j hj => by omega⟩
  case round =>
    obtain ⟨i, hi, rfl, HB, HR⟩ := hrel
    by_cases hlt : i < es.length
    · obtain ⟨r, hr, hall⟩ := HR.out
      have HR' := hide hr
      have HA := hide hall
      obtain ⟨c0, c1, c2, c3⟩ := hr.cell hlt
      have hgl := hr.lt.2
      clear hr hall HR
      obtain ⟨hx0, hx1, hy0, hy1⟩ := HIN.out i hlt
      have HQ := hide (rename_at es l hlt)
      rcases HH.out.later HB.out with h | ⟨be, oe, rfl, hE⟩
      · subst h; simp at hlt
      obtain ⟨d0, d1⟩ := hE i hlt
      obtain ⟨q, hq⟩ : ∃ q, at' es i = q := ⟨_, rfl⟩
      rw [hq] at hx0 hx1 hy0 hy1 d0 d1 HQ
      obtain ⟨x, y⟩ := q
      simp only at hx0 hx1 hy0 hy1 d0 d1 HQ
      obtain ⟨xn, rfl⟩ : ∃ xn : Nat, x = xn := ⟨x.toNat, by omega⟩
      obtain ⟨yn, rfl⟩ : ∃ yn : Nat, y = yn := ⟨y.toNat, by omega⟩
      have hxn : xn < l.length := by omega
      have hyn : yn < l.length := by omega
      rcases HK.out with h | ⟨bl, ol, rfl, hL0⟩
      · subst h; simp at hxn
      have hL := hL0.later HB.out
      have nB : bl ≠ w.heap.size := Nat.ne_of_lt (block_lt_of_cell (hL0 xn hxn))
      have nW : wr.heap.size ≠ w.heap.size := by omega
      clear hL0
      have cx := hL xn hxn
      have cy := hL yn hyn
      obtain ⟨u, hu⟩ : ∃ u, iat l xn = u := ⟨_, rfl⟩
      obtain ⟨v, hv⟩ : ∃ v, iat l yn = v := ⟨_, rfl⟩
      rw [hu] at cx
      rw [hv] at cy
      rw [Int.toNat_natCast, Int.toNat_natCast, hu, hv] at HQ
      clear hL hE hu hv hq
      have zb : be < wr.heap.size := block_lt_of_cell d0
      have zl : bl < wr.heap.size := block_lt_of_cell cx
      have i1 : (i : Int) < es.length := by omega
      have i2 : (0 : Int) ≤ i := by omega
      have x2 : (0 : Int) ≤ xn := by omega
      have y2 : (0 : Int) ≤ yn := by omega
      go_wp2_with fail
      obtain ⟨U, hU⟩ : ∃ U, U = wr.alloc (bx ⟨xn, yn⟩) := ⟨_, rfl⟩
      have hbU : Below wr.heap.size wr U := by rw [hU]; go_grown
      have u0 : U.cell? ⟨wr.heap.size, 0, none⟩ = some (.int .i64 xn) := by rw [hU]; go_cell
      have u1 : U.cell? ⟨wr.heap.size, 1, none⟩ = some (.int .i64 yn) := by rw [hU]; go_cell
      have cx' := later hbU cx
      have cy' := later hbU cy
      obtain ⟨c0', c1', c2', c3'⟩ := (HR'.out.later hbU).cell hlt
      have HBU := hide (Below.trans HB.out (hbU.mono HB.out.size))
      have HRU := hide (HR'.out.later hbU)
      have CC : Hid (U.cell? ⟨wr.heap.size, 0, none⟩ = some (.int .i64 xn) ∧ U.cell? ⟨wr.heap.size, 1, none⟩ = some (.int .i64 yn) ∧ U.cell? ⟨bl, ol + xn, none⟩ = some (.int .i64 u) ∧ U.cell? ⟨bl, ol + yn, none⟩ = some (.int .i64 v)) := ⟨u0, u1, cx', cy'⟩
      rw [show wr.alloc (bx ⟨xn, yn⟩) = U from hU.symm]
      clear hU hbU cx cy c0 c1 c2 c3 d0 d1
      go_region_held3 (fun W => W.cell? ⟨wr.heap.size, 0, none⟩ = some (.int .i64 xn) ∧ W.cell? ⟨wr.heap.size, 1, none⟩ = some (.int .i64 yn) ∧ W.cell? ⟨bl, ol + xn, none⟩ = some (.int .i64 u) ∧ W.cell? ⟨bl, ol + yn, none⟩ = some (.int .i64 v))
        (first | exact CC.out | exact ⟨other2 CC.out.1 nW, other2 CC.out.2.1 nW, other2 CC.out.2.2.1 nB, other2 CC.out.2.2.2 nB⟩)
        (first | fail)
      rename_i hHeld
      clear hHeld
      obtain ⟨V, hV⟩ : ∃ V, V = (U.setCell ⟨w.heap.size, i * 2, none⟩ (.int .i64 u)).setCell ⟨w.heap.size, i * 2 + 1, none⟩ (.int .i64 v) := ⟨_, rfl⟩
      have HBV : Hid (Below w.heap.size w V) := by show Below _ _ _; rw [hV]; exact (HBU.out.setCell (by simp) _).setCell (by simp) _
      have HRV : Hid (PRow V w.heap.size w.heap.size es.length (r.set i ⟨u, v⟩)) := by show PRow _ _ _ _ _; rw [hV]; exact HRU.out.set i ⟨u, v⟩
      rw [← hV]
      clear hV c0' c1' c2' c3' cx' cy' u0 u1 CC HBU HRU
      go_wp2
      go_roundw
      case rel =>
        have hb := HBV.out
        refine ⟨i + 1, by omega, by go_num, by show Below _ _ _; go_grown, _, HRV.out.later (by go_grown), more (fun j hj => ?_) ?_⟩
        · rw [at_set _ _ _ _ (by rw [HR'.out.1]; omega), if_neg (by omega)]; exact HA.out j hj
        · rw [at_set _ _ _ _ (by rw [HR'.out.1]; omega), if_pos rfl, HQ.out]
      case measure => simp [intOf]; omega
    · have hin : i = es.length := by omega
      subst hin
      obtain ⟨r, hr, hall⟩ := HR.out
      have e : Hid (r = rename es l) := at_ext (by rw [hr.1, rename_length]) fun j hj => by rw [hr.1] at hj; exact hall j hj
      have HR' := hide hr
      clear hr hall HR
      go_wp2
      go_ret
      refine ⟨_, rfl, ?_, HB.out⟩
      rw [← e.out]; exact HR'.out
end Go.Proofs.Ytmmbbfmkhbengaa
