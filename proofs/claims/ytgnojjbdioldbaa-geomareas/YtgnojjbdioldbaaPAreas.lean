/- For every list of points and every place, GeomAreas returns true and leaves its arguments as they were: a polygon turned about has the opposite area, one begun elsewhere the same, and one cut in two that of both (3 to 100 points). No condition. -/
import Derived.Test.YtgnojjbdioldbaaP2
import Derived.Test.YtgnojjbdioldbaaA3
import Derived.Test.YtgnojjbdioldbaaChecked
namespace Go.Proofs.Ytgnojjbdioldbaa
open Go.RowKit
open Go
open Go.ChangeShapes Go.WideShapes Go.ChangeAt

theorem areas_walk (p : Option Addr) (ps : List Pt) (cap : Nat) (k : Int) (w : World) (hcap : ps.length ≤ cap) (h : Has w p ps) : Calls Try.prog 8 #[.slice p ps.length cap, .int .i64 k] w fun e w' => e = .returned (.bool true) ∧ Below w.heap.size w w' := by
  cases hno : arOk ps k
  · exact areas_no p ps cap k w h hno
  · unfold arOk at hno
    simp only [Bool.and_eq_true, decide_eq_true_eq] at hno
    obtain ⟨⟨⟨h3, h100⟩, hE⟩, hk1, hk2⟩ := hno
    exact areas_yes p ps cap k w hcap h h3 h100 hE hk1 hk2

set_option maxRecDepth 100000 in
theorem areas_lifted (os : Os) (started : os.Started) (H : Type) (enc : TypeId × Value → H) :
    ReturnsInHanded {} Try.checked os 8 .any (Rows.geomAreasSpec.pre6 enc Try.prog Try.f8 Rows.geomAreasRow.domain false) (Rows.geomAreasSpec.post enc Try.prog Try.f8 false true false false) := by
  refine returnsInHanded_of_change (C := Try.checked) own started (by kernel_rfl) Try.func8
    (ChangeSpec.witness6 (enc := enc) (C := Try.checked) false ⟨#[], #[.slice none 0 0, .int .i64 0], []⟩ 8 (by kernel_rfl) (by kernel_rfl) (by kernel_rfl) (by kernel_rfl)) ?_
  intro W base args ds gs before hval0 hW _ _
  have hval : ∀ (j : Nat) t v, Try.f8.params[j]? = some t → args[j]? = some v → Value.okWide Try.prog W .any base t v := hval0
  have hW' := hW
  obtain ⟨p, q, hA0, hV, rfl, _, _⟩ := hW
  have hA : DataW.TrodAll enc Try.prog W 0 (fun _ => true) true Try.f8.params.toList args.toList ds p := hA0
  rw [Try.params8] at hA hval
  obtain ⟨v0, v1, d0, d1, p0, p1, rfl, rfl, rfl, h0, h1⟩ := trodAll_two hA
  obtain ⟨rfl, rfl⟩ := trodVars_none hV
  obtain ⟨a, ps, cap, rfl, hcap, hHas⟩ := open_ptsC (hval 0 27 v0 rfl rfl) h0
  obtain ⟨x1, rfl, rfl, rfl, w1⟩ := open_int Try.underlying3 (hval 1 3 v1 rfl rfl) h1
  clear hA0 hval0
  simp only [List.append_nil] at hW'
  have hlt : ∀ x ∈ p0, x.block < W.heap.size := fun x hx => by simpa using hW'.lt x hx
  refine (areas_walk a ps cap x1 W hcap hHas).mono fun e W' ⟨he, hb⟩ => ?_
  subst he
  have hargs := trodAll_mk2 (Below.trod (enc := enc) laidOut (by kernel_rfl) (of_decide_eq_true (by kernel_rfl)) h0 hb hlt) (shut_int Try.underlying3 w1)
  simp only [List.append_nil] at hargs
  exact ⟨_, rfl, _, _, _, [], _, [], hW', trodAll_mk1 (shut_bool Try.underlying4 _), hargs, rfl, hb.frame _, fun h => by cases h⟩

theorem areas_holds : Rows.GeomAreasSaid :=
  OpenClaim.holds_of_wide 8 Try.f8 rfl rfl rfl rfl rfl rfl rfl ⟨rfl, rfl, rfl, rfl, rfl⟩ rfl rfl rfl rfl rfl (by kernel_rfl) Try.func8 (by kernel_rfl)
    (of_decide_eq_true (by kernel_rfl)) (by unfold Func.isWrapper; first | (rw [if_pos (by decide +kernel)]; kernel_rfl) | (rw [if_neg (by decide +kernel)]; exact ⟨rfl, rfl⟩))
    (fun os started H enc _ => areas_lifted os started H enc)
#print axioms areas_holds
end Go.Proofs.Ytgnojjbdioldbaa
