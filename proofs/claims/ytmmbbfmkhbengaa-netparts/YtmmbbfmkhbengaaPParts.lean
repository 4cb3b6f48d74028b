/- For every net and every four lists of numbers, NetParts returns true and leaves its arguments as they were: a part of a part is the part by the nodes of both, and Sub of a Sub goes by both lists. No condition. -/
import Derived.Test.YtmmbbfmkhbengaaP0
import Derived.Test.YtmmbbfmkhbengaaS1
import Derived.Test.YtmmbbfmkhbengaaChecked
namespace Go.Proofs.Ytmmbbfmkhbengaa
open Go.RowKit
open Go
open Go.ChangeShapes Go.WideShapes Go.ChangeAt

set_option maxRecDepth 100000 in
theorem parts_lifted (os : Os) (started : os.Started) (H : Type) (enc : TypeId × Value → H) :
    ReturnsInHanded {} Try.checked os 7 .any (Rows.netPartsSpec.pre6 enc Try.prog Try.f7 Rows.netPartsRow.domain false) (Rows.netPartsSpec.post enc Try.prog Try.f7 false true false false) := by
  refine returnsInHanded_of_change (C := Try.checked) own started (by kernel_rfl) Try.func7
    (ChangeSpec.witness6 (enc := enc) (C := Try.checked) false ⟨#[], #[.agg #[.int .i64 0, .slice none 0 0], .slice none 0 0, .slice none 0 0, .slice none 0 0, .slice none 0 0], []⟩ 8 (by kernel_rfl) (by kernel_rfl) (by kernel_rfl) (by kernel_rfl)) ?_
  intro W base args ds gs before hval0 hW _ _
  have hval : ∀ (j : Nat) t v, Try.f7.params[j]? = some t → args[j]? = some v → Value.okWide Try.prog W .any base t v := hval0
  have hW' := hW
  obtain ⟨p, q, hA0, hV, rfl, _, _⟩ := hW
  have hA : DataW.TrodAll enc Try.prog W 0 (fun _ => true) true Try.f7.params.toList args.toList ds p := hA0
  rw [Try.params7] at hA hval
  obtain ⟨v0, v1, v2, v3, v4, d0, d1, d2, d3, d4, p0, p1, p2, p3, p4, rfl, rfl, rfl, h0, h1, h2, h3, h4⟩ := trodAll_five hA
  obtain ⟨rfl, rfl⟩ := trodVars_none hV
  obtain ⟨n, a0, es, cap0, rfl, _, _, hH⟩ := open_net24 (hval 0 24 v0 rfl rfl) h0
  obtain ⟨a1, l1, cap1, rfl, _, m1, k1⟩ := open_ints25 (hval 1 25 v1 rfl rfl) h1
  obtain ⟨a2, l2, cap2, rfl, _, m2, k2⟩ := open_ints25 (hval 2 25 v2 rfl rfl) h2
  obtain ⟨a3, l3, cap3, rfl, _, m3, k3⟩ := open_ints25 (hval 3 25 v3 rfl rfl) h3
  obtain ⟨a4, l4, cap4, rfl, _, m4, k4⟩ := open_ints25 (hval 4 25 v4 rfl rfl) h4
  clear hA0 hval0
  simp only [List.append_nil] at hW'
  have hlt : ∀ x ∈ p0 ++ (p1 ++ (p2 ++ (p3 ++ p4))), x.block < W.heap.size := fun x hx => by simpa using hW'.lt x hx
  refine (parts_walk n a0 a1 a2 a3 a4 es l1 l2 l3 l4 cap0 cap1 cap2 cap3 cap4 W m1 m2 m3 m4 hH k1 k2 k3 k4).mono fun e W' ⟨he, hb⟩ => ?_
  subst he
  have l0 : ∀ x ∈ p0, x.block < W.heap.size := fun x hx => hlt x (List.mem_append_left _ hx)
  have l1' : ∀ x ∈ p1, x.block < W.heap.size := fun x hx => hlt x (List.mem_append_right _ (List.mem_append_left _ hx))
  have l2' : ∀ x ∈ p2, x.block < W.heap.size := fun x hx => hlt x (List.mem_append_right _ (List.mem_append_right _ (List.mem_append_left _ hx)))
  have l3' : ∀ x ∈ p3, x.block < W.heap.size := fun x hx => hlt x (List.mem_append_right _ (List.mem_append_right _ (List.mem_append_right _ (List.mem_append_left _ hx))))
  have l4' : ∀ x ∈ p4, x.block < W.heap.size := fun x hx => hlt x (List.mem_append_right _ (List.mem_append_right _ (List.mem_append_right _ (List.mem_append_right _ hx))))
  exact ⟨_, rfl, _, _, _, [], _, [], hW', trodAll_mk1 (shut_bool Try.underlying4 _), trodAll_mk5 (stay24 h0 hb l0) (stay25 h1 hb l1') (stay25 h2 hb l2') (stay25 h3 hb l3') (stay25 h4 hb l4'), rfl, hb.frame _, fun h => by cases h⟩

theorem parts_holds : Rows.NetPartsSaid :=
  OpenClaim.holds_of_wide 7 Try.f7 rfl rfl rfl rfl rfl rfl rfl ⟨rfl, rfl, rfl, rfl, rfl⟩ rfl rfl rfl rfl rfl (by kernel_rfl) Try.func7 (by kernel_rfl)
    (of_decide_eq_true (by kernel_rfl)) (by unfold Func.isWrapper; first | (rw [if_pos (by decide +kernel)]; kernel_rfl) | (rw [if_neg (by decide +kernel)]; exact ⟨rfl, rfl⟩))
    (fun os started H enc _ => parts_lifted os started H enc)
#print axioms parts_holds
end Go.Proofs.Ytmmbbfmkhbengaa
