/- What the law calls first. -/
import Derived.Test.YtcgdmonejogbaaaH4
import Derived.Test.YtcgdmonejogbaaaWA
import Derived.Test.YtcgdmonejogbaaaWB
/- The triangle, and what the law calls first. -/
namespace Go.Proofs.Ytcgdmonejogbaaa
open Go.RowKit Go.Sort
open Go
def triE : List Pt := [⟨0, 1⟩, ⟨1, 2⟩, ⟨2, 0⟩]
def triR : List (List Int) := [[0, 5], [1, 2], [3, 4]]
theorem tri_is : rotI 3 triE triR = 0 := by decide
theorem tri_faces : (facesL triE triR).length = 2 := by decide
theorem tri_dual : dualB triE triR = true := by decide
theorem tri_hop : hopL (facesL triE triR) (ofL triE triR) (dist (facesL triE triR) (ofL triE triR) 1) 1 ((facesL triE triR).length + 1) 0 = [0] := by decide
theorem tri_near : 0 ≤ iat (dist (facesL triE triR) (ofL triE triR) 1) 0 := by decide
theorem tri_face : faceI triR (ofL triE triR) 0 0 = faceI triR (ofL triE triR) 1 2 := by decide
theorem tri_ca : corB triR 0 0 = true := by decide
theorem tri_cb : corB triR 1 2 = true := by decide
set_option maxRecDepth 100000 in
set_option maxHeartbeats 4000000 in
theorem tri42 (w : World) : Calls Try.prog 42 #[] w fun e w' => ∃ g k, e = .returned (.tuple #[nv 3 (some ⟨g, 0, none⟩) 3 3, .slice (some ⟨k, 0, none⟩) 3 3]) ∧ Has w' (some ⟨g, 0, none⟩) triE ∧ RHas w' (some ⟨k, 0, none⟩) triR ∧ Below w.heap.size w w' := by
  go_enter Try.func42, Try.ntmps42
  go_wp2
  obtain ⟨V, hV⟩ : ∃ V, V = (((((w.alloc (.cells #[.int .i64 3, .slice (some ⟨w.heap.size + 1, 0, none⟩) 3 3] 24)).alloc (.cells #[.int .i64 0, .int .i64 1, .int .i64 1, .int .i64 2, .int .i64 2, .int .i64 0] 64)).alloc (.cells #[.int .i64 0, .int .i64 5] 3)).alloc (.cells #[.int .i64 1, .int .i64 2] 3)).alloc (.cells #[.int .i64 3, .int .i64 4] 3)).alloc (.cells #[.slice (some ⟨w.heap.size + 1 + 1, 0, none⟩) 2 2, .slice (some ⟨w.heap.size + 1 + 1 + 1, 0, none⟩) 2 2, .slice (some ⟨w.heap.size + 1 + 1 + 1 + 1, 0, none⟩) 2 2] 44) := ⟨_, rfl⟩
  have hN : NOwn V w.heap.size 3 (some ⟨w.heap.size + 1, 0, none⟩) 3 3 := by rw [hV]; exact ⟨by go_cell, by go_cell, by go_cell, by go_cell⟩
  have hb : Below w.heap.size w V := by rw [hV]; go_grown
  rw [← hV]
  refine bodyPost_ret (ret_net Try.results42 rfl rfl hN) rfl ⟨_, _, rfl, Or.inr ⟨w.heap.size + 1, 0, rfl, fun j hj => ?_⟩, Or.inr ⟨w.heap.size + 1 + 1 + 1 + 1 + 1, 0, rfl, fun v hv => ?_⟩, hb⟩
  · rw [hV]
    simp only [triE, List.length_cons, List.length_nil] at hj
    rcases (by omega : j = 0 ∨ j = 1 ∨ j = 2) with rfl | rfl | rfl
    all_goals exact ⟨by simp only [at', triE, List.getD_cons_zero, List.getD_cons_succ]; go_cell, by simp only [at', triE, List.getD_cons_zero, List.getD_cons_succ]; go_cell⟩
  · rw [hV]
    simp only [triR, List.length_cons, List.length_nil] at hv
    rcases (by omega : v = 0 ∨ v = 1 ∨ v = 2) with rfl | rfl | rfl
    · refine ⟨some ⟨w.heap.size + 1 + 1, 0, none⟩, 2, by simp only [triR, lat, List.getD_cons_zero, List.length_cons, List.length_nil]; go_cell, Or.inr ⟨w.heap.size + 1 + 1, 0, rfl, fun j hj => ?_⟩, by simp [triR, lat]; unfold maxLen; omega, by simp [triR, lat], fun h => by cases h⟩
      simp only [triR, lat, List.getD_cons_zero, List.length_cons, List.length_nil] at hj
      rcases (by omega : j = 0 ∨ j = 1) with rfl | rfl
      all_goals (simp only [triR, lat, iat, List.getD_cons_zero, List.getD_cons_succ]; go_cell)
    · refine ⟨some ⟨w.heap.size + 1 + 1 + 1, 0, none⟩, 2, by simp only [triR, lat, List.getD_cons_zero, List.getD_cons_succ, List.length_cons, List.length_nil]; go_cell, Or.inr ⟨w.heap.size + 1 + 1 + 1, 0, rfl, fun j hj => ?_⟩, by simp [triR, lat]; unfold maxLen; omega, by simp [triR, lat], fun h => by cases h⟩
      simp only [triR, lat, List.getD_cons_zero, List.getD_cons_succ, List.length_cons, List.length_nil] at hj
      rcases (by omega : j = 0 ∨ j = 1) with rfl | rfl
      all_goals (simp only [triR, lat, iat, List.getD_cons_zero, List.getD_cons_succ]; go_cell)
    · refine ⟨some ⟨w.heap.size + 1 + 1 + 1 + 1, 0, none⟩, 2, by simp only [triR, lat, List.getD_cons_zero, List.getD_cons_succ, List.length_cons, List.length_nil]; go_cell, Or.inr ⟨w.heap.size + 1 + 1 + 1 + 1, 0, rfl, fun j hj => ?_⟩, by simp [triR, lat]; unfold maxLen; omega, by simp [triR, lat], fun h => by cases h⟩
      simp only [triR, lat, List.getD_cons_zero, List.getD_cons_succ, List.length_cons, List.length_nil] at hj
      rcases (by omega : j = 0 ∨ j = 1) with rfl | rfl
      all_goals (simp only [triR, lat, iat, List.getD_cons_zero, List.getD_cons_succ]; go_cell)
end Go.Proofs.Ytcgdmonejogbaaa
namespace Go.Proofs.Ytcgdmonejogbaaa
open Go.RowKit Go.Sort
open Go
theorem tri_lay : ¬ layG 3 triE triR 0 0 1 2 := fun h => h.2 tri_face
theorem tri_of (p q : Option Addr) (w : World) (h : Has w p triE) (hr : RHas w q triR) : Calls Try.prog 14 #[nv 3 p 3 3, .slice q 3 3] w fun r w' => (∃ g p1 c1, r = .returned (.tuple #[nv 2 (some ⟨g, 0, none⟩) 3 3, .slice p1 2 c1, .int .i64 0])) ∧ Below w.heap.size w w' := by
  refine (dualOf14 3 p triE 3 q triR 3 w h hr tri_is).mono ?_
  rintro e w' ⟨hp, hb⟩
  refine ⟨?_, hb⟩
  rcases hp with ⟨_, g, p1, c1, rv, he, _, _⟩ | ⟨h1, _⟩
  · rw [tri_faces] at he
    exact ⟨g, p1, c1, he⟩
  · rw [tri_dual] at h1; cases h1
theorem tri_laid (p q : Option Addr) (w : World) (h : Has w p triE) (hp : p = none → (3 : Nat) = 0) (hr : RHas w q triR) : Calls Try.prog 16 #[nv 3 p 3 3, .slice q 3 3, cv 0 0, cv 1 2] w fun r w' => (∃ px cx g, r = .returned (.tuple #[nv 3 px 4 cx, .slice (some ⟨g, 0, none⟩) 3 3, .int .i64 0])) ∧ Below w.heap.size w w' := by
  refine (lay16 3 p triE 3 q triR 3 0 1 0 2 w h hp hr (by decide) tri_is tri_ca tri_cb (by omega) (by omega)).mono ?_
  rintro e w' ⟨hp, hb⟩
  refine ⟨?_, hb⟩
  rcases hp with ⟨h1, _⟩ | ⟨_, h1, _⟩ | ⟨_, _, px, cx, g, rv, he, _⟩
  · exact absurd (by decide) h1
  · exact absurd h1 tri_lay
  · exact ⟨px, cx, g, he⟩
theorem tri_hops (p q : Option Addr) (w : World) (h : Has w p triE) (hr : RHas w q triR) : Calls Try.prog 19 #[nv 3 p 3 3, .slice q 3 3, .int .i64 0, .int .i64 1] w fun r w' => (∃ g c, r = .returned (.tuple #[.slice (some ⟨g, 0, none⟩) 1 c, .int .i64 0]) ∧ w'.cell? ⟨g, 0, none⟩ = some (.int .i64 0)) ∧ Below w.heap.size w w' := by
  refine (hop19 3 p triE 3 q triR 3 0 1 w h hr tri_is (by rw [tri_faces]; omega) (by rw [tri_faces]; omega)).mono ?_
  rintro e w' ⟨hp, hb⟩
  refine ⟨?_, hb⟩
  rcases hp with ⟨h1, _⟩ | ⟨_, p1, c1, he, ho⟩
  · have := tri_near; omega
  · rw [tri_hop] at he ho
    obtain ⟨gz, cz, hz, _⟩ := iowns_block ho (by decide)
    rw [hz] at ho
    injection hz with e1 _ e3
    subst e1
    subst e3
    exact ⟨gz, c1, he, ho.at_ (j := 0) (by decide)⟩
set_option maxRecDepth 100000 in
set_option maxHeartbeats 16000000 in
theorem begun9 (w : World) : Calls Try.prog 9 #[] w fun e w' => e = .returned (.bool true) ∧ Below w.heap.size w w' := by
  have T1 := hide (tri42 w)
  go_enter Try.func9, Try.ntmps9
  go_wp2_with fail
  refine T1.out.mono ?_
  rintro e w1 ⟨g1, k1, rfl, hE, hR, b1⟩
  obtain ⟨W1, hW1, bW1, a1⟩ := one_net w1 3 (some ⟨g1, 0, none⟩) 3 3
  have HB1 := hide (below_step b1 bW1)
  have HE := hide (hE.later bW1)
  have HR := hide (hR.later bW1)
  have HA := hide a1
  have OF := hide (tri_of _ _ W1 HE.out HR.out)
  clear T1 hE hR b1 bW1
  obtain ⟨x0, x1, _, _⟩ := a1
  obtain ⟨kg, hkg⟩ : ∃ k, w1.heap.size = k := ⟨_, rfl⟩
  go_wp2_with fail
  rw [← hW1]
  clear hW1
  rw [hkg] at x0 x1 HA
  try rw [hkg]
  clear hkg
  go_wp2_with fail
  refine OF.out.mono ?_
  rintro e w2 ⟨⟨g2, p2, c2, rfl⟩, b2⟩
  obtain ⟨W2, hW2, bW2, a2⟩ := one_net w2 2 (some ⟨g2, 0, none⟩) 3 3
  have HB2 := hide (below_step HB1.out (below_step b2 bW2))
  have HV2 := hide (below_step b2 bW2)
  have HA2 := hide a2
  have LA := hide (tri_laid _ _ W2 (HE.out.later HV2.out) (fun h => by cases h) (HR.out.later HV2.out))
  clear OF b2 bW2 x0 x1 a2
  obtain ⟨x0, x1, _, _⟩ := HA.out.later HV2.out
  obtain ⟨kd, hkd⟩ : ∃ k, w2.heap.size = k := ⟨_, rfl⟩
  go_upto_region 3 with fail
  rw [← hW2]
  clear hW2
  rw [hkd] at HA2
  try rw [hkd]
  clear hkd
  go_wp2_with fail
  refine LA.out.mono ?_
  rintro e w3 ⟨⟨p3, c3, g3, rfl⟩, b3⟩
  obtain ⟨W3, hW3, bW3, a3⟩ := one_net w3 3 p3 4 c3
  have HV3 := hide (below_step b3 bW3)
  have HA3 := hide a3
  have HO := hide (tri_hops _ _ W3 ((HE.out.later HV2.out).later HV3.out) ((HR.out.later HV2.out).later HV3.out))
  clear LA b3 bW3 x0 x1 a3
  obtain ⟨x0, x1, _, _⟩ := (HA.out.later HV2.out).later HV3.out
  obtain ⟨ke, hke⟩ : ∃ k, w3.heap.size = k := ⟨_, rfl⟩
  go_upto_region 4 with fail
  rw [← hW3]
  clear hW3
  rw [hke] at HA3
  try rw [hke]
  clear hke
  go_wp2_with fail
  refine HO.out.mono ?_
  rintro e w4 ⟨⟨g4, c4, rfl, z0⟩, b4⟩
  obtain ⟨y0, y1, _, _⟩ := (HA2.out.later HV3.out).later b4
  obtain ⟨u0, u1, _, _⟩ := HA3.out.later b4
  have HB4 := hide (below_step HB2.out (below_step HV3.out b4))
  clear HO b4 x0 x1
  go_wp2
  go_ret
  exact ⟨rfl, HB4.out⟩
end Go.Proofs.Ytcgdmonejogbaaa
