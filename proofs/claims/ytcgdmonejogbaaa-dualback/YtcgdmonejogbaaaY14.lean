/- slices.Clone and rot.Mirror, in every world. -/
import Derived.Test.YtcgdmonejogbaaaY13
import Derived.Test.YtcgdmonejogbaaaD2
namespace Go.Proofs.Ytcgdmonejogbaaa
open Go.RowKit Go.Sort
open Go

set_option maxRecDepth 100000 in
set_option maxHeartbeats 8000000 in
theorem clone61 (p : Option Addr) (l : List Int) (c : Nat) (w : World) (m : IHas w p l) (hnil : p = none → c = 0) (hl : l.length ≤ 90000) : Calls Try.prog 87 #[.slice p l.length c] w fun e w' => ∃ v, e = .returned v ∧ IOwns w' w.heap.size v l ∧ Below w.heap.size w w' := by
  have hq := Lib.run_eql_slice_nil (P := Try.prog) w 44 3 p l.length c 0 0 Try.underlying44
  cases p with
  | none =>
    have hl0 : l = [] := by
      rcases m with h | ⟨b, off, h, _⟩
      · exact h
      · cases h
    subst hl0
    clear m hnil
    simp only [List.length_nil] at hq ⊢
    go_enter Try.func87, Try.ntmps87
    go_wp2
    go_ret
    exact ⟨_, rfl, IOwns.nil _ _, Below.refl _ _⟩
  | some ad =>
    have hb0 : Below w.heap.size w (w.alloc (.cells #[] 3)) := by go_grown
    have o0 : IOwns (w.alloc (.cells #[] 3)) w.heap.size (.slice (some ⟨w.heap.size, 0, none⟩) 0 0) [] := ⟨rfl, Or.inr ⟨w.heap.size, 0, #[], rfl, Nat.le_refl _, (by show (w.heap.push _)[w.heap.size]? = _; rw [Array.getElem?_push, if_pos rfl]), Nat.le_refl _, Nat.zero_le _, rfl, rfl⟩⟩
    obtain ⟨v1, D, ea, o1, g1⟩ := append_ints o0 (some ad) c l hnil (m.later hb0) hb0.size (by simp; omega)
    rw [List.nil_append] at o1
    have HB : Hid (Below w.heap.size w D) := below_grown hb0 o0 (Nat.le_refl _) hb0.size g1
    have HO := hide o1
    clear m hnil o0 o1 g1 hb0
    go_enter Try.func87, Try.ntmps87
    go_wp2_with (at_builtin; refine wpList_run_append rfl (.tmp 5) (.tmp 6) 44 rfl 44 rfl _ _ _ D rfl rfl ea ?_)
    go_ret
    exact ⟨_, rfl, HO.out, HB.out⟩
/-- A row is written anew, the others stay. -/
theorem Rows.turn {w w' : World} {B g n a : Nat} {rv : Nat → Value} {L : Nat → List Int} {l' : List Int} (h : Rows w B g n rv L) (ha : a < n) (o : IOwns w' B (rv a) l') (fr : Frame w w' (fun i => (rv a).ownBlock = some i)) : Rows w' B g n rv (upd L a l') := by
  obtain ⟨h1, h2, h3⟩ := h
  obtain ⟨cur, hg⟩ := row_kind h1
  refine ⟨fr.row h1 (fun i hi e => ?_), h2, fun v hv => ?_⟩
  · simp only [Value.ownBlock, Option.some.injEq] at hi
    subst hi
    exact row_apart hg (h3 a ha) (by decide) e
  · by_cases hva : v = a
    · rw [hva, upd_same]; exact o
    · rw [upd_other _ _ hva]
      exact fr.iowns (h3 v hv) (fun i hi e => hva (h2 v a i hv ha hi e))
def mirrorL (rs : List (List Int)) : List (List Int) := canonL (rs.map List.reverse)
theorem mirrorL_length (rs : List (List Int)) : (mirrorL rs).length = rs.length := by simp [mirrorL, canonL]
theorem lat_mirror {rs : List (List Int)} {v : Nat} (hv : v < rs.length) : lat (mirrorL rs) v = turnL (lat rs v).reverse := by
  unfold mirrorL
  rw [lat_canon (by simpa using hv), lat_map List.reverse hv]
end Go.Proofs.Ytcgdmonejogbaaa
