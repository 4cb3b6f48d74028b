/- For every four points, GeomFour returns true and leaves its arguments as they were: turns, points on segments, and how two segments meet are the document's. No condition. -/
import Derived.Test.YtgnojjbdioldbaaP0
import Derived.Test.YtgnojjbdioldbaaF3
import Derived.Test.YtgnojjbdioldbaaChecked
namespace Go.Proofs.Ytgnojjbdioldbaa
open Go.RowKit
open Go
open Go.ChangeShapes Go.WideShapes Go.ChangeAt

set_option maxRecDepth 100000 in
theorem four_lifted (os : Os) (started : os.Started) (H : Type) (enc : TypeId × Value → H) :
    ReturnsInHanded {} Try.checked os 3 .any (Rows.geomFourSpec.pre6 enc Try.prog Try.f3 Rows.geomFourRow.domain false) (Rows.geomFourSpec.post enc Try.prog Try.f3 false true false false) := by
  refine returnsInHanded_of_change (C := Try.checked) own started (by kernel_rfl) Try.func3
    (ChangeSpec.witness6 (enc := enc) (C := Try.checked) false ⟨#[], #[.agg #[.int .i64 0, .int .i64 0], .agg #[.int .i64 0, .int .i64 0], .agg #[.int .i64 0, .int .i64 0], .agg #[.int .i64 0, .int .i64 0]], []⟩ 8 (by kernel_rfl) (by kernel_rfl) (by kernel_rfl) (by kernel_rfl)) ?_
  intro W base args ds gs before hval0 hW _ _
  have hval : ∀ (j : Nat) t v, Try.f3.params[j]? = some t → args[j]? = some v → Value.okWide Try.prog W .any base t v := hval0
  have hW' := hW
  obtain ⟨p, q, hA0, hV, rfl, _, _⟩ := hW
  have hA : DataW.TrodAll enc Try.prog W 0 (fun _ => true) true Try.f3.params.toList args.toList ds p := hA0
  rw [Try.params3] at hA hval
  obtain ⟨v0, v1, v2, v3, d0, d1, d2, d3, p0, p1, p2, p3, rfl, rfl, rfl, h0, h1, h2, h3⟩ := trodAll_four hA
  obtain ⟨rfl, rfl⟩ := trodVars_none hV
  obtain ⟨a, rfl, rfl, ra⟩ := open_pt (hval 0 23 v0 rfl rfl) h0
  obtain ⟨b, rfl, rfl, rb⟩ := open_pt (hval 1 23 v1 rfl rfl) h1
  obtain ⟨c, rfl, rfl, rc⟩ := open_pt (hval 2 23 v2 rfl rfl) h2
  obtain ⟨d, rfl, rfl, rd⟩ := open_pt (hval 3 23 v3 rfl rfl) h3
  clear hA0 hval0
  simp only [List.append_nil] at hW'
  refine (four_walk a b c d W).mono fun e W' ⟨he, hb⟩ => ?_
  subst he
  exact ⟨_, rfl, _, _, _, [], [], [], hW', trodAll_mk1 (shut_bool Try.underlying4 _), trodAll_mk4 (ra W' _) (rb W' _) (rc W' _) (rd W' _), rfl, hb.frame _, fun h => by cases h⟩

theorem four_holds : Rows.GeomFourSaid :=
  OpenClaim.holds_of_wide 3 Try.f3 rfl rfl rfl rfl rfl rfl rfl ⟨rfl, rfl, rfl, rfl, rfl⟩ rfl rfl rfl rfl rfl (by kernel_rfl) Try.func3 (by kernel_rfl)
    (of_decide_eq_true (by kernel_rfl)) (by unfold Func.isWrapper; first | (rw [if_pos (by decide +kernel)]; kernel_rfl) | (rw [if_neg (by decide +kernel)]; exact ⟨rfl, rfl⟩))
    (fun os started H enc _ => four_lifted os started H enc)
#print axioms four_holds
end Go.Proofs.Ytgnojjbdioldbaa
