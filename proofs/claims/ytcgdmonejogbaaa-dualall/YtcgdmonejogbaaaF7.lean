/- The document's Lay, where a corner is none. -/
import Derived.Test.YtcgdmonejogbaaaF4
open List renaming getElem_toArray → lA, getElem_cons_zero → lB, getElem_cons_succ → lC, setIfInBounds_toArray → lD, set_cons_zero → lE, set_cons_succ → lF
namespace Go.Proofs.Ytcgdmonejogbaaa
open Go.RowKit Go.Sort
open Go
set_option maxRecDepth 100000 in
set_option maxHeartbeats 16000000 in
theorem face25row (n : Int) (p : Option Addr) (es : List Pt) (cp : Nat) (q : Option Addr) (rs : List (List Int)) (cq : Nat) (v : Nat) (a : Int) (w : World) (hr : RHas w q rs) (h0 : rotI n es rs = 0) (hc : corB rs v a = true) (hrow : ¬ (lat rs v).length = 0) : Calls Try.prog 25 #[nv n p es.length cp, .slice q rs.length cq, cv v a] w fun r w' => r = .returned (.tuple #[.int .i64 (faceI rs (ofL es rs) v a), .int .i64 0]) ∧ Below w.heap.size w w' := by
  obtain ⟨W, hW, hb0, a0, s2, s2'⟩ := face_boxes w n p es.length cp v a
  obtain ⟨n0, n1, hes, _⟩ := netB_is (rot_is h0).1
  obtain ⟨_, z2⟩ := rot_bounds h0
  have hrn := (rot_is h0).2.1
  have hv := corB_lt hc
  have hV : v < rs.length := by omega
  have PL := hide (place64 n p es.length cp q rs cq v a W (hr.later hb0) hrn (fun u hu => by have := z2 u hu; omega))
  have ha : a ∈ lat rs v := by
    unfold corB at hc
    rw [Int.toNat_natCast, decide_eq_false hrow] at hc
    simpa [hV] using hc
  have hf : faceI rs (ofL es rs) v a = iat (ofL es rs) (iat (lat rs v) (((lat rs v).idxOf a + 1) % (lat rs v).length)).toNat := by unfold faceI; rw [if_neg hrow]
  have hpl : plI rs v a = ((lat rs v).idxOf a : Nat) := by unfold plI; rw [if_pos hv, Int.toNat_natCast, if_neg hrow, idxI_in ha]
  obtain ⟨i1, _, _⟩ := idxOf_at ha
  have hlv := z2 v hV
  have hol : (ofL es rs).length = 2 * es.length := (edge_ok (rot_is h0).2.2).len
  obtain ⟨b1, o1, a1, k1, rfl, c0, m1, z1, _⟩ := (hr.later hb0).at_ hV
  have hmod : ((lat rs v).idxOf a + 1) % (lat rs v).length < (lat rs v).length := Nat.mod_lt _ (by omega)
  have hin := rot_in h0 v (by omega) _ hmod
  have OF : Hid (∀ V, Below W.heap.size W V → Calls Try.prog 39 #[nv n p es.length cp, .slice (some ⟨b1, o1, none⟩) rs.length cq] V fun e w' => ∃ g, e = .returned (.slice (some ⟨g, 0, none⟩) (2 * es.length) (2 * es.length)) ∧ IRow w' V.heap.size g (2 * es.length) (ofL es rs) ∧ Below V.heap.size V w') := fun V hV => of46 n p es cp (some ⟨b1, o1, none⟩) rs cq V ((hr.later hb0).later hV) h0
  rw [hpl] at PL
  rw [hf]
  obtain ⟨x, hx⟩ : ∃ x : Nat, iat (lat rs v) (((lat rs v).idxOf a + 1) % (lat rs v).length) = x := ⟨(iat (lat rs v) (((lat rs v).idxOf a + 1) % (lat rs v).length)).toNat, by omega⟩
  rw [hx] at hin ⊢
  rw [Int.toNat_natCast]
  rcases m1 with hn | ⟨b2, o2, rfl, l2⟩
  · exact absurd (by rw [hn]; rfl) hrow
  have d0 := l2 _ hmod
  rw [hx] at d0
  obtain ⟨k, hk⟩ : ∃ k, (lat rs v).idxOf a = k := ⟨_, rfl⟩
  obtain ⟨m, hm⟩ : ∃ m, (lat rs v).length = m := ⟨_, rfl⟩
  rw [hk, hm] at d0 hmod
  rw [hk] at PL i1
  rw [hm] at i1 hlv c0
  have hrem : Int.tmod ((k : Int) + 1) m = (((k + 1) % m : Nat) : Int) := by
    rw [Int.tmod_eq_emod_of_nonneg (by omega)]
    have := Int.natCast_emod (k + 1) m
    rw [this]; rfl
  obtain ⟨r, hr2⟩ : ∃ r, (k + 1) % m = r := ⟨_, rfl⟩
  rw [hr2] at hmod d0 hrem
  obtain ⟨y, hy⟩ : ∃ y, iat (ofL es rs) x = y := ⟨_, rfl⟩
  rw [hy]
  have HY := hide hy
  have hx2 : x < 2 * es.length := by omega
  have j0 : ¬ (k : Int) < 0 := by omega
  have j1 : (v : Int) < rs.length := by omega
  have j2 : (r : Int) < m := by omega
  have j3 : ¬ (m : Int) = 0 := by omega
  have j4 : (m : Int) > 0 := by omega
  have q1 : IntKind.i64.wrap ((k : Int) + 1) = (k : Int) + 1 := by rw [IntKind.wrap_i64]; omega
  have q2 : IntKind.i64.wrap (r : Int) = r := by rw [IntKind.wrap_i64]; omega
  have q3 : ¬ (r : Int) < 0 := by omega
  have j6 : (x : Int) < 2 * (es.length : Int) := by omega
  have HB := hide hb0
  obtain ⟨g0, g1, _, _⟩ := a0
  obtain ⟨kg, hkg⟩ : ∃ z, w.heap.size = z := ⟨_, rfl⟩
  rw [hkg] at g0 g1 s2 s2'
  have HS : Hid (∀ V, Below W.heap.size W V → V.cell? ⟨kg, 0, none⟩ = some (.int .i64 n) ∧ V.cell? ⟨kg, 1, none⟩ = some (.slice p es.length cp) ∧ V.cell? ⟨kg + 1, 0, none⟩ = some (.int .i64 v) ∧ V.cell? ⟨b1, o1 + v, none⟩ = some (.slice (some ⟨b2, o2, none⟩) m k1) ∧ V.cell? ⟨b2, o2 + r, none⟩ = some (.int .i64 x)) := fun V hV => by exact ⟨later hV g0, later hV g1, later hV s2, later hV c0, later hV d0⟩
  have HKG := hide hkg
  clear hr hb0 h0 z2 hrn hv hV ha hf hpl hol z1 hin hx l2 hk hm hr2 hy hc hrow i1 HKG
  go_enter Try.func25, Try.ntmps25
  go_upto_region 1 with fail
  rw [← hW]
  clear hW
  go_wp2_with fail
  refine PL.out.mono ?_
  rintro e w1 ⟨rfl, hb1⟩
  have HB1 := hide hb1
  clear PL hb1 g0 g1 s2 s2' c0 d0
  obtain ⟨g0, g1, s2, c0, d0⟩ := HS.out _ HB1.out
  go_upto_region 5 with fail
  have j7 : ¬ m = 0 := by omega
  refine wp_region_held_drew (S := (fun V => V.cell? ⟨kg, 0, none⟩ = some (.int .i64 n) ∧ V.cell? ⟨kg, 1, none⟩ = some (.slice p es.length cp) ∧ V.cell? ⟨kg + 1, 0, none⟩ = some (.int .i64 v) ∧ V.cell? ⟨b1, o1 + v, none⟩ = some (.slice (some ⟨b2, o2, none⟩) m k1) ∧ V.cell? ⟨b2, o2 + r, none⟩ = some (.int .i64 x))) (by kernel_rfl) (by exact HS.out _ (below_step HB1.out (below_drew w1))) (fun hHeld => ?_)
  obtain ⟨V0, hV0⟩ : ∃ V, V = w1.drew := ⟨_, rfl⟩
  have HBV : Hid (Below W.heap.size W V0) := by show Below _ _ _; rw [hV0]; exact below_step HB1.out (below_drew w1)
  rw [← hV0] at hHeld ⊢
  clear hV0 g0 g1 s2 c0 d0
  obtain ⟨s0, s1, s2, s3, s4⟩ := HS.out _ HBV.out
  refine wpAnyH_take (i := 0) (v := ?v1) rfl (by kernel_rfl) (by kernel_rfl) (by kernel_rfl) (fun _ _ _ h => h) (Or.inl ⟨by rfl, ?hy1⟩) (by assumption) ?rest1
  case hy1 => (intro w hSw; (try dsimp only at hSw); go_simp; try with_reducible rfl)
  try simp only [Act.put, lA, lB, lD, lE, lF]
  refine wpAnyH_take (i := 1) (v := ?v2) rfl (by kernel_rfl) (by kernel_rfl) (by kernel_rfl) (fun _ _ _ h => h) (Or.inl ⟨by rfl, ?hy2⟩) (by assumption) ?rest2
  case hy2 => (intro w hSw; (try dsimp only at hSw); go_simp; try with_reducible rfl)
  try simp only [Act.put, lA, lB, lC, lD, lE, lF]
  refine wpAnyH_take (i := 3) (v := ?v3) rfl (by kernel_rfl) (by kernel_rfl) (by kernel_rfl) (fun _ _ _ h => h) (Or.inl ⟨by rfl, ?hy3⟩) (by assumption) ?rest3
  case hy3 => (intro w hSw; (try dsimp only at hSw); go_simp; try with_reducible rfl)
  try simp only [Act.put, lA, lB, lC, lD, lE, lF]
  refine wpAnyH_take (i := 4) (v := ?v4) rfl (by kernel_rfl) (by kernel_rfl) (by kernel_rfl) (fun _ _ _ h => h) (Or.inl ⟨by rfl, ?hy4⟩) (by assumption) ?rest4
  case hy4 => (intro w hSw; (try dsimp only at hSw); go_simp; try with_reducible rfl)
  try simp only [Act.put, lA, lB, lC, lD, lE, lF]
  refine wpAnyH_take (i := 5) (v := ?v5) rfl (by kernel_rfl) (by kernel_rfl) (by kernel_rfl) (fun _ _ _ h => h) (Or.inl ⟨by rfl, ?hy5⟩) (by assumption) ?rest5
  case hy5 => (intro w hSw; (try dsimp only at hSw); go_simp; try with_reducible rfl)
  try simp only [Act.put, lA, lB, lC, lD, lE, lF]
  refine wpAnyH_take (i := 6) (v := ?v6) rfl (by kernel_rfl) (by kernel_rfl) (by kernel_rfl) (fun _ _ _ h => h) (Or.inl ⟨by rfl, ?hy6⟩) (by assumption) ?rest6
  case hy6 => (intro w hSw; (try dsimp only at hSw); go_simp; try with_reducible rfl)
  try simp only [Act.put, lA, lB, lC, lD, lE, lF]
  refine wpAnyH_take (i := 7) (v := ?v7) rfl (by kernel_rfl) (by kernel_rfl) (by kernel_rfl) (fun _ _ _ h => h) (Or.inl ⟨by rfl, ?hy7⟩) (by assumption) ?rest7
  case hy7 => (intro w hSw; (try dsimp only at hSw); go_simp; try with_reducible rfl)
  try simp only [Act.put, lA, lB, lC, lD, lE, lF]
  refine wpAnyH_take (i := 8) (v := ?v8) rfl (by kernel_rfl) (by kernel_rfl) (by kernel_rfl) (fun _ _ _ h => h) (Or.inl ⟨by rfl, ?hy8⟩) (by assumption) ?rest8
  case hy8 => (intro w hSw; (try dsimp only at hSw); go_simp; try with_reducible rfl)
  try simp only [Act.put, lA, lB, lC, lD, lE, lF]
  refine wpAnyH_take (i := 9) (v := ?v9) rfl (by kernel_rfl) (by kernel_rfl) (by kernel_rfl) (fun _ _ _ h => h) (Or.inl ⟨by rfl, ?hy9⟩) (by assumption) ?rest9
  case hy9 => (intro w hSw; (try dsimp only at hSw); go_simp; try with_reducible rfl)
  try simp only [Act.put, lA, lB, lC, lD, lE, lF]
  refine wpAnyH_take (i := 10) (v := ?v10) rfl (by kernel_rfl) (by kernel_rfl) (by kernel_rfl) (fun _ _ _ h => h) (Or.inl ⟨by rfl, ?hy10⟩) (by assumption) ?rest10
  case hy10 => (intro w hSw; (try dsimp only at hSw); go_simp; try with_reducible rfl)
  try simp only [Act.put, lA, lB, lC, lD, lE, lF]
  refine wpAnyH_take (i := 11) (v := ?v11) rfl (by kernel_rfl) (by kernel_rfl) (by kernel_rfl) (fun _ _ _ h => h) (Or.inl ⟨by rfl, ?hy11⟩) (by assumption) ?rest11
  case hy11 => (intro w hSw; (try dsimp only at hSw); go_simp; try with_reducible rfl)
  try simp only [Act.put, lA, lB, lC, lD, lE, lF]
  refine wpAnyH_take (i := 12) (v := ?v12) rfl (by kernel_rfl) (by kernel_rfl) (by kernel_rfl) (fun _ _ _ h => h) (Or.inl ⟨by rfl, ?hy12⟩) (by assumption) ?rest12
  case hy12 => (intro w hSw; (try dsimp only at hSw); go_simp; try with_reducible rfl)
  try simp only [Act.put, lA, lB, lC, lD, lE, lF]
  refine wpAnyH_take (i := 13) (v := ?v13) rfl (by kernel_rfl) (by kernel_rfl) (by kernel_rfl) (fun _ _ _ h => h) (Or.inl ⟨by rfl, ?hy13⟩) (by assumption) ?rest13
  case hy13 => (intro w hSw; (try dsimp only at hSw); go_simp; try with_reducible rfl)
  try simp only [Act.put, lA, lB, lC, lD, lE, lF]
  refine wpAnyH_take (i := 14) (v := ?v14) rfl (by kernel_rfl) (by kernel_rfl) (by kernel_rfl) (fun _ _ _ h => h) (Or.inl ⟨by rfl, ?hy14⟩) (by assumption) ?rest14
  case hy14 => (intro w hSw; (try dsimp only at hSw); go_simp; try with_reducible rfl)
  try simp only [Act.put, lA, lB, lC, lD, lE, lF]
  refine wpAnyH_take (i := 15) (v := ?v15) rfl (by kernel_rfl) (by kernel_rfl) (by kernel_rfl) (fun _ _ _ h => h) (Or.inl ⟨by rfl, ?hy15⟩) (by assumption) ?rest15
  case hy15 => (intro w hSw; (try dsimp only at hSw); go_simp; try with_reducible rfl)
  try simp only [Act.put, lA, lB, lC, lD, lE, lF]
  refine wpAnyH_take (i := 16) (v := ?v16) rfl (by kernel_rfl) (by kernel_rfl) (by kernel_rfl) (fun _ _ _ h => h) (Or.inl ⟨by rfl, ?hy16⟩) (by assumption) ?rest16
  case hy16 => (intro w hSw; (try dsimp only at hSw); go_simp; try with_reducible rfl)
  try simp only [Act.put, lA, lB, lC, lD, lE, lF]
  refine wpAnyH_take (i := 17) (v := ?v17) rfl (by kernel_rfl) (by kernel_rfl) (by kernel_rfl) (fun _ _ _ h => h) (Or.inl ⟨by rfl, ?hy17⟩) (by assumption) ?rest17
  case hy17 => (intro w hSw; (try dsimp only at hSw); go_simp; try with_reducible rfl)
  try simp only [Act.put, lA, lB, lC, lD, lE, lF]
  refine wpAnyH_take (i := 18) (v := ?v18) rfl (by kernel_rfl) (by kernel_rfl) (by kernel_rfl) (fun _ _ _ h => h) (Or.inl ⟨by rfl, ?hy18⟩) (by assumption) ?rest18
  case hy18 => (intro w hSw; (try dsimp only at hSw); go_simp; try with_reducible rfl)
  try simp only [Act.put, lA, lB, lC, lD, lE, lF]
  refine wpAnyH_ready (rs := [2]) (by kernel_rfl) (by simp) ?_
  refine AllReadyH.cons rfl (fun K hK => ?_) ?_
  · clear hHeld
    go_simp
    refine (OF.out _ HBV.out).mono ?_
    rintro e w9 ⟨g9, rfl, hr9, hb9⟩
    have HV9 := hide (below_step HBV.out hb9)
    have d9 := (hr9.cell hx2).1
    rw [HY.out] at d9
    clear hb9 hr9 s0 s1 s2 s3 s4
    obtain ⟨s0, s1, s2, s3, s4⟩ := HS.out _ HV9.out
    refine hK.out _ _ (by first | with_reducible exact ⟨s0, s1, s2, s3, s4⟩ | (dsimp only; with_reducible exact ⟨s0, s1, s2, s3, s4⟩)) (fun hHeld => ?_)
    clear hK K
    try simp only [Act.put, lA, lB, lC, lD, lE, lF]
    refine wpAnyH_take (i := 19) (v := ?v19) rfl (by kernel_rfl) (by kernel_rfl) (by kernel_rfl) (fun _ _ _ h => h) (Or.inl ⟨by rfl, ?hy19⟩) (by assumption) ?rest19
    case hy19 => (intro w hSw; (try dsimp only at hSw); go_simp; try with_reducible rfl)
    try simp only [Act.put, lA, lB, lC, lD, lE, lF]
    refine wpAnyH_ready (rs := [20]) (by kernel_rfl) (by simp) ?_
    refine AllReadyH.cons rfl (fun K hK => ?_) ?_
    · clear hHeld
      go_simp
      refine hK.out _ _ (by first | with_reducible exact ⟨s0, s1, s2, s3, s4⟩ | (dsimp only; with_reducible exact ⟨s0, s1, s2, s3, s4⟩)) (fun hHeld => ?_)
      clear hK K
      try simp only [Act.put, lA, lB, lC, lD, lE, lF]
      refine wpAnyH_take (i := 21) (v := ?v20) rfl (by kernel_rfl) (by kernel_rfl) (by kernel_rfl) (fun _ _ _ h => h) (Or.inl ⟨by rfl, ?hy20⟩) (by assumption) ?rest20
      case hy20 => (intro w hSw; (try dsimp only at hSw); go_simp; try with_reducible rfl)
      try simp only [Act.put, lA, lB, lC, lD, lE, lF]
      refine wpAnyH_take (i := 22) (v := ?v21) rfl (by kernel_rfl) (by kernel_rfl) (by kernel_rfl) (fun _ _ _ h => h) (Or.inl ⟨by rfl, ?hy21⟩) (by assumption) ?rest21
      case hy21 => (intro w hSw; (try dsimp only at hSw); go_simp; try with_reducible rfl)
      try simp only [Act.put, lA, lB, lC, lD, lE, lF]
      refine wpAnyH_done (by kernel_rfl) ?_ _
      clear hHeld
      have HBE := hide (below_step HB.out HV9.out)
      clear s0 s1 s2 s3 s4
      go_wp2_with fail
      go_ret2
      exact ⟨rfl, HBE.out⟩
    exact AllReadyH.nil
  exact AllReadyH.nil
end Go.Proofs.Ytcgdmonejogbaaa
namespace Go.Proofs.Ytcgdmonejogbaaa
open Go.RowKit Go.Sort
open Go
theorem mxN_ge (O : List Int) : ∀ k j, j < k → iat O j + 1 ≤ mxN O k
  | 0, j, h => by omega
  | k + 1, j, h => by
    by_cases hj : j = k
    · subst hj
      unfold mxN
      split <;> omega
    · have := mxN_ge O k j (by omega)
      unfold mxN
      split <;> omega
theorem mxN_all {O : List Int} {K : Nat} (h1 : ∀ j, j < O.length → iat O j < (K : Int)) (h2 : ∀ i, i < K → ∃ j, j < O.length ∧ iat O j = (i : Int)) : mxN O O.length = (K : Int) := by
  obtain ⟨a, b⟩ := mxN_in O K (by omega) h1 O.length (Nat.le_refl _)
  by_cases hK : K = 0
  · omega
  · obtain ⟨j, hj, e⟩ := h2 (K - 1) (by omega)
    have := mxN_ge O O.length j hj
    omega
theorem mxN_of {es : List Pt} {rs : List (List Int)} (h : holdsP es rs) : mxN (ofL es rs) (ofL es rs).length = ((edgeF es rs).length : Int) := by
  have k := edge_ok h
  have hol : (ofL es rs).length = 2 * es.length := k.len
  refine mxN_all (fun j hj => ?_) (fun i hi => ?_)
  · rcases k.mrk j (by omega) with h1 | ⟨i, j2, hi, _, h1, _⟩
    · have h3 : iat (ofL es rs) j = -1 := h1
      omega
    · have h3 : iat (ofL es rs) j = (i : Int) := h1
      omega
  · obtain ⟨a, p, ha, _, hp, _, _, h1, _⟩ := k.fc i hi
    exact ⟨a, by omega, (h1 0 hp).1⟩
set_option maxRecDepth 100000 in
set_option maxHeartbeats 16000000 in
theorem face25bare (n : Int) (p : Option Addr) (es : List Pt) (cp : Nat) (q : Option Addr) (rs : List (List Int)) (cq : Nat) (v : Nat) (a : Int) (w : World) (hr : RHas w q rs) (h0 : rotI n es rs = 0) (hc : corB rs v a = true) (hrow : (lat rs v).length = 0) : Calls Try.prog 25 #[nv n p es.length cp, .slice q rs.length cq, cv v a] w fun r w' => r = .returned (.tuple #[.int .i64 (faceI rs (ofL es rs) v a), .int .i64 0]) ∧ Below w.heap.size w w' := by
  obtain ⟨W, hW, hb0, a0, s2, s2'⟩ := face_boxes w n p es.length cp v a
  obtain ⟨n0, n1, hes, _⟩ := netB_is (rot_is h0).1
  obtain ⟨_, z2⟩ := rot_bounds h0
  have hrn := (rot_is h0).2.1
  have hv := corB_lt hc
  have hV : v < rs.length := by omega
  have PL := hide (place64 n p es.length cp q rs cq v a W (hr.later hb0) hrn (fun u hu => by have := z2 u hu; omega))
  have hf : faceI rs (ofL es rs) v a = ((edgeF es rs).length : Int) + (emptyN rs v).length := by
    unfold faceI
    rw [if_pos hrow, mxN_of (rot_is h0).2.2]
  have hpl : 0 ≤ plI rs v a := by
    have := plI_neg (rs := rs) (v := (v : Int)) (a := a)
    rw [hc] at this
    simpa using this
  have FC : Hid (∀ V, Below W.heap.size W V → Calls Try.prog 36 #[nv n p es.length cp, .slice q rs.length cq] V fun e w' => ∃ p1 c1 rv, e = .returned (.slice p1 (facesL es rs).length c1) ∧ FB w' V.heap.size (.slice p1 (facesL es rs).length c1) (facesL es rs) rv ∧ Below V.heap.size V w') := fun V hV => faces45 n p es cp q rs cq V ((hr.later hb0).later hV) h0
  have hfl : (facesL es rs).length = (edgeF es rs).length + (emptyN rs rs.length).length := by unfold facesL; rw [List.length_append]
  have hle := edgeF_le es rs
  have hem := emptyN_le rs rs.length
  have HRH := hide (hr.later hb0)
  have HZ2 := hide z2
  rw [hf]
  obtain ⟨pv, hpv⟩ : ∃ z, plI rs v a = z := ⟨_, rfl⟩
  rw [hpv] at PL hpl
  rw [hfl] at FC
  obtain ⟨E, hE⟩ : ∃ E, (edgeF es rs).length = E := ⟨_, rfl⟩
  rw [hE] at FC hle ⊢
  have HB := hide hb0
  obtain ⟨g0, g1, _, _⟩ := a0
  obtain ⟨kg, hkg⟩ : ∃ z, w.heap.size = z := ⟨_, rfl⟩
  rw [hkg] at g0 g1 s2 s2'
  have HS : Hid (∀ V, Below W.heap.size W V → V.cell? ⟨kg, 0, none⟩ = some (.int .i64 n) ∧ V.cell? ⟨kg, 1, none⟩ = some (.slice p es.length cp) ∧ V.cell? ⟨kg + 1, 0, none⟩ = some (.int .i64 v)) := fun V hV => by exact ⟨later hV g0, later hV g1, later hV s2⟩
  have HHR := hide hrow
  obtain ⟨b1, o1, a1, k1, hq1, c0W, m1, z1, _⟩ := (hr.later hb0).at_ hV
  rw [hrow] at c0W
  have j0 : ¬ pv < 0 := by omega
  have j1 : (v : Int) < rs.length := by omega
  clear hr hb0 h0 z2 hc hf hfl hpv hE m1 z1 hrow
  subst hq1
  go_enter Try.func25, Try.ntmps25
  go_upto_region 1 with fail
  rw [← hW]
  clear hW
  go_wp2_with fail
  refine PL.out.mono ?_
  rintro e w1 ⟨rfl, hb1⟩
  have HB1 := hide hb1
  have c0 := later hb1 c0W
  clear PL hb1 g0 g1 s2 s2'
  obtain ⟨g0, g1, s2⟩ := HS.out _ HB1.out
  go_upto_region 8 with (go_at_call 36; refine Calls.mono (FC.out _ HB1.out) ?_; rintro e w2 ⟨p1, c1, rv, rfl, _, hb2⟩; have HB2 := hide (below_step HB1.out hb2); clear hb2)
  clear g0 g1 s2 c0 FC
  obtain ⟨g0, g1, s2⟩ := HS.out _ HB2.out
  go_wp2_with fail
  go_loopw [10, 11] (fun t10 t11 wr => ∃ k : Nat, k ≤ rs.length ∧ v ≤ k ∧ t11 = .int .i64 ((k : Int) - 1) ∧ t10 = .int .i64 ((E : Int) + (emptyN rs k).length) ∧ Hid (Below W.heap.size W wr)) (fun _ t11 _ => (intOf t11 + 1).toNat)
  case atStart => exact ⟨rs.length, by omega, by omega, by go_num, rfl, HB2.out⟩
  case round =>
    obtain ⟨k, hk, hvk, rfl, rfl, HBr⟩ := hrel
    clear g0 g1 s2
    obtain ⟨g0, g1, s2⟩ := HS.out _ HBr.out
    have hek := emptyN_le rs k
    by_cases hkv : v < k
    · obtain ⟨j, rfl⟩ : ∃ j, k = j + 1 := ⟨k - 1, by omega⟩
      have hj : j < rs.length := by omega
      obtain ⟨_, _, a3, k3, hq3, c3, _⟩ := HRH.out.at_ hj
      obtain ⟨rfl, rfl⟩ : b1 = _ ∧ o1 = _ := by simpa using hq3
      have d3 := later HBr.out c3
      have hlj := HZ2.out j hj
      have q1 : (((j + 1 : Nat) : Int) - 1) = (j : Int) := by omega
      rw [q1]
      have q2 : (j : Int) ≥ v := by omega
      have q3 : (j : Int) < rs.length := by omega
      obtain ⟨m, hm⟩ : ∃ m, (lat rs j).length = m := ⟨_, rfl⟩
      by_cases h0 : m = 0
      · have HE : Hid ((emptyN rs (j + 1)).length = (emptyN rs j).length + 1) := by
          show _ = _
          have : emptyN rs (j + 1) = if (lat rs j).length = 0 then emptyN rs j ++ [[]] else emptyN rs j := rfl
          rw [this, if_pos (by rw [hm]; exact h0), List.length_append]
          rfl
        rw [HE.out] at hek ⊢
        rw [hm, h0] at d3
        clear c3 hm hq3
        go_wp2_with fail
        go_roundw
        case rel => exact ⟨j, by omega, by omega, by go_num, by go_num, HBr.out⟩
        case measure => simp [intOf]
      · have HE : Hid ((emptyN rs (j + 1)).length = (emptyN rs j).length) := by
          show _ = _
          have : emptyN rs (j + 1) = if (lat rs j).length = 0 then emptyN rs j ++ [[]] else emptyN rs j := rfl
          rw [this, if_neg (by rw [hm]; exact h0)]
        rw [HE.out] at hek ⊢
        rw [hm] at d3
        have t0 : ((m : Int) == 0) = false := beq_eq_false_iff_ne.2 (by omega)
        clear c3 hm hq3
        go_wp2_with fail
        go_roundw
        case rel => exact ⟨j, by omega, by omega, by go_num, rfl, HBr.out⟩
        case measure => simp [intOf]
    · obtain rfl : k = v := by omega
      have q2 : ¬ (k : Int) - 1 ≥ k := by omega
      go_wp2_with fail
      go_ret2
      exact ⟨rfl, by rw [← hkg]; exact below_step HB.out HBr.out⟩
theorem face25 (n : Int) (p : Option Addr) (es : List Pt) (cp : Nat) (q : Option Addr) (rs : List (List Int)) (cq : Nat) (v : Nat) (a : Int) (w : World) (hr : RHas w q rs) (h0 : rotI n es rs = 0) (hc : corB rs v a = true) : Calls Try.prog 25 #[nv n p es.length cp, .slice q rs.length cq, cv v a] w fun r w' => r = .returned (.tuple #[.int .i64 (faceI rs (ofL es rs) v a), .int .i64 0]) ∧ Below w.heap.size w w' := by
  by_cases hrow : (lat rs v).length = 0
  · exact face25bare n p es cp q rs cq v a w hr h0 hc hrow
  · exact face25row n p es cp q rs cq v a w hr h0 hc hrow
end Go.Proofs.Ytcgdmonejogbaaa
namespace Go.Proofs.Ytcgdmonejogbaaa
open Go.RowKit Go.Sort
open Go
set_option maxRecDepth 100000 in
set_option maxHeartbeats 16000000 in
theorem lay26off (n : Int) (p : Option Addr) (es : List Pt) (cp : Nat) (q : Option Addr) (rs : List (List Int)) (cq : Nat) (va aa vb ab : Int) (w : World) (hr : RHas w q rs) (h0 : rotI n es rs = 0) (hc : ¬ (corB rs va aa = true ∧ corB rs vb ab = true)) : Calls Try.prog 26 #[nv n p es.length cp, .slice q rs.length cq, cv va aa, cv vb ab] w fun r w' => r = .returned (.tuple #[nv 0 none 0 0, .slice none 0 0, .int .i64 2]) ∧ Below w.heap.size w w' := by
  obtain ⟨W, hW, hb0, a0, ⟨s2, s2'⟩, ⟨s3, s3'⟩, z0⟩ := lay_boxes w n p es.length cp va aa vb ab
  have HR := hide (hr.later hb0)
  have H0 := hide h0
  have HB := hide hb0
  have HZ := hide z0
  have HA := hide a0
  have HSB := hide (And.intro s3 s3')
  obtain ⟨g0, g1, _, _⟩ := a0
  clear hr hb0 z0 h0
  by_cases hca : corB rs va aa = true
  · have hcb : ¬ corB rs vb ab = true := fun e => hc ⟨hca, e⟩
    have hv := corB_lt hca
    obtain ⟨V, rfl⟩ : ∃ V : Nat, va = V := ⟨va.toNat, by omega⟩
    have C1 := hide (face25 n p es cp q rs cq V aa W HR.out H0.out hca)
    obtain ⟨f, hf⟩ : ∃ f, faceI rs (ofL es rs) V aa = f := ⟨_, rfl⟩
    rw [hf] at C1
    have HCB := hide hcb
    clear hca hcb hv hc hf
    go_enter Try.func26, Try.ntmps26
    go_upto_region 1 with fail
    rw [← hW]
    clear hW
    go_wp2_with fail
    refine C1.out.mono ?_
    rintro r w2 ⟨rfl, hb2⟩
    have HB2 := hide hb2
    have C2 := hide (face25off n p es cp q rs cq vb ab w2 (HR.out.later HB2.out) H0.out HCB.out)
    clear C1 hb2 s2 s2' s3 s3' g0 g1
    obtain ⟨s3, s3'⟩ := HSB.out
    have s3 := later HB2.out s3
    have s3' := later HB2.out s3'
    obtain ⟨g0, g1, _, _⟩ := HA.out.later HB2.out
    go_wp2_with fail
    refine C2.out.mono ?_
    rintro r w3 ⟨rfl, hb3⟩
    have HB3 := hide (below_step HB2.out hb3)
    have HZ1 := hide (HZ.out.later HB3.out)
    clear C2 hb3 s3 s3' g0 g1
    obtain ⟨r0, r1, r2, r3⟩ := HZ1.out
    go_wp2
    obtain ⟨V, hV⟩ : ∃ V, V = (w3.setCell ⟨w.heap.size + 3, 0, none⟩ (.int .i64 0)).setCell ⟨w.heap.size + 3, 1, none⟩ (.slice none 0 0) := ⟨_, rfl⟩
    have kV : NOwn V (w.heap.size + 3) 0 none 0 0 := by rw [hV]; exact HZ1.out.set 0 none 0 0
    have bV : Below w.heap.size w V := by rw [hV]; exact ((below_step HB.out HB3.out).setCell (by simp) _).setCell (by simp) _
    rw [← hV]
    exact bodyPost_ret (ret_net3 Try.results26 rfl rfl rfl kV) rfl ⟨rfl, bV⟩
  · have C1 := hide (face25off n p es cp q rs cq va aa W HR.out H0.out hca)
    clear hca hc
    go_enter Try.func26, Try.ntmps26
    go_upto_region 1 with fail
    rw [← hW]
    clear hW
    go_wp2_with fail
    refine C1.out.mono ?_
    rintro r w3 ⟨rfl, hb2⟩
    have HB3 := hide hb2
    have HZ1 := hide (HZ.out.later HB3.out)
    clear C1 hb2 s2 s2' s3 s3' g0 g1
    obtain ⟨r0, r1, r2, r3⟩ := HZ1.out
    go_wp2
    obtain ⟨V, hV⟩ : ∃ V, V = (w3.setCell ⟨w.heap.size + 3, 0, none⟩ (.int .i64 0)).setCell ⟨w.heap.size + 3, 1, none⟩ (.slice none 0 0) := ⟨_, rfl⟩
    have kV : NOwn V (w.heap.size + 3) 0 none 0 0 := by rw [hV]; exact HZ1.out.set 0 none 0 0
    have bV : Below w.heap.size w V := by rw [hV]; exact ((below_step HB.out HB3.out).setCell (by simp) _).setCell (by simp) _
    rw [← hV]
    exact bodyPost_ret (ret_net3 Try.results26 rfl rfl rfl kV) rfl ⟨rfl, bV⟩
end Go.Proofs.Ytcgdmonejogbaaa
