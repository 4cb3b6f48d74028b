/- The law's beginning: the sample's answers. -/
import Derived.Test.YtobkejnlkjieoaaZF3
import Derived.Test.YtobkejnlkjieoaaZE4
import Derived.Test.YtobkejnlkjieoaaZC21
import Derived.Test.YtobkejnlkjieoaaZC24
namespace Go.Proofs.Ytobkejnlkjieoaa
open Go.RowKit Go.Sort
open Go
def smE : List Pt := [⟨0, 1⟩, ⟨1, 2⟩, ⟨2, 0⟩, ⟨2, 3⟩, ⟨3, 3⟩]
theorem sm_net : netB 4 smE = true := by kernel_rfl
theorem sm_cts : ctsB 4 smE = 3 := by kernel_rfl
theorem sm_cuts : cutsB 4 smE = [2, 3] := by kernel_rfl
theorem sm_brid : bridB 4 smE = [3] := by kernel_rfl
theorem sm_joH : joH smE (ofB 4 smE) [2, 3] 3 10 = [⟨0, 3⟩, ⟨0, 3⟩, ⟨1, 3⟩, ⟨1, 4⟩, ⟨2, 4⟩, ⟨2, 4⟩] := by kernel_rfl
theorem mem_ddN {L : List Pt} {p : Pt} : ∀ {i : Nat}, i ≤ L.length → p ∈ ddN L i → p ∈ L
  | 0, _, h => by cases h
  | i + 1, hi, h => by
    unfold ddN at h
    split at h
    · rcases List.mem_append.1 h with h | h
      · exact mem_ddN (by omega) h
      · rw [List.mem_singleton] at h
        subst h
        exact at_mem (by omega)
    · exact mem_ddN (by omega) h
theorem mem_joB {es : List Pt} {of : Nat → Int} {cu : List Int} {ct : Int} {p : Pt} (h : p ∈ joB es of cu ct) : p ∈ joH es of cu ct (2 * es.length) :=
  (List.mergeSort_perm _ _).mem_iff.1 (mem_ddN (Nat.le_refl _) h)
theorem joB_len (es : List Pt) (of : Nat → Int) (cu : List Int) (ct : Int) : (joB es of cu ct).length ≤ (joH es of cu ct (2 * es.length)).length := by
  unfold joB ddP
  exact Nat.le_trans (ddN_len _ _) (by rw [sortP_len]; exact Nat.le_refl _)
theorem sm_trN : trN 4 smE = 5 := by unfold trN; rw [sm_cts, sm_cuts]; rfl
theorem sm_tree : netB (trN 4 smE) (trE 4 smE) = true := by
  have hm : ∀ p, p ∈ trE 4 smE → p ∈ [(⟨0, 3⟩ : Pt), ⟨0, 3⟩, ⟨1, 3⟩, ⟨1, 4⟩, ⟨2, 4⟩, ⟨2, 4⟩] := fun p hp => by
    unfold trE at hp
    have := mem_joB hp
    rw [sm_cuts, sm_cts] at this
    exact sm_joH ▸ this
  have hl : (trE 4 smE).length ≤ 10 := by
    unfold trE
    exact Nat.le_trans (joB_len _ _ _ _) (joH_len _ _ _ _ _)
  rw [sm_trN]
  refine net_yes (by omega) (by unfold fitsB; simp; omega) fun j hj => ?_
  have := hm _ (at_mem hj)
  simp only [List.mem_cons, List.not_mem_nil, or_false] at this
  rcases this with e | e | e | e | e | e <;> rw [e] <;> decide
def e1E : List Pt := [⟨0, 1⟩]
def e2E : List Pt := [⟨0, 1⟩, ⟨0, 1⟩]
theorem e1_bi : (netB 2 e1E && biB 2 e1E) = true := by kernel_rfl
theorem e1_net : netB 2 e1E = true := by kernel_rfl
theorem e2_ear : earE 2 e2E = 0 := by kernel_rfl
theorem e2_ears : (earsB 2 e2E).length = 1 := by kernel_rfl
theorem e1_has (U : World) : Has (U.alloc (.cells #[.int .i64 0, .int .i64 1] 56)) (some ⟨U.heap.size, 0, none⟩) e1E := by
  refine Or.inr ⟨_, _, rfl, fun j hj => ?_⟩
  have : j = 0 := by change j < 1 at hj; omega
  subst this
  exact ⟨by simp only [at', e1E]; go_cell, by simp only [at', e1E]; go_cell⟩
theorem e2_has (U : World) : Has (U.alloc (.cells #[.int .i64 0, .int .i64 1, .int .i64 0, .int .i64 1] 56)) (some ⟨U.heap.size, 0, none⟩) e2E := by
  refine Or.inr ⟨_, _, rfl, fun j hj => ?_⟩
  have : j = 0 ∨ j = 1 := by change j < 2 at hj; omega
  rcases this with rfl | rfl <;> exact ⟨by simp only [at', e2E]; go_cell, by simp only [at', e2E]; go_cell⟩
set_option maxRecDepth 100000 in
set_option maxHeartbeats 4000000 in
theorem sample35 (w : World) : Calls Try.prog 35 #[] w fun e w' => ∃ q c, e = .returned (nv 4 q smE.length c) ∧ Has w' q smE ∧ Below w.heap.size w w' := by
  obtain ⟨V, hV⟩ : ∃ V, V = (w.alloc (.cells #[.int .i64 4, .slice (some ⟨w.heap.size + 1, 0, none⟩) 5 5] 24)).alloc (.cells #[.int .i64 0, .int .i64 1, .int .i64 1, .int .i64 2, .int .i64 2, .int .i64 0, .int .i64 2, .int .i64 3, .int .i64 3, .int .i64 3] 56) := ⟨_, rfl⟩
  go_enter Try.func35, Try.ntmps35
  go_wp2_with fail
  rw [← hV]
  have hb : Below w.heap.size w V := by rw [hV]; go_grown
  have hN : NOwn V w.heap.size 4 (some ⟨w.heap.size + 1, 0, none⟩) 5 5 := by rw [hV]; exact ⟨by go_cell, by go_cell, by go_cell, by go_cell⟩
  have hL : Lies V (w.heap.size + 1) 0 smE := by
    intro j hj
    rw [hV]
    have : j = 0 ∨ j = 1 ∨ j = 2 ∨ j = 3 ∨ j = 4 := by change j < 5 at hj; omega
    rcases this with rfl | rfl | rfl | rfl | rfl <;> exact ⟨by simp only [at', smE]; go_cell, by simp only [at', smE]; go_cell⟩
  exact bodyPost_ret (ret_net1 Try.results35 rfl hN) rfl ⟨_, 5, rfl, Or.inr ⟨_, _, rfl, hL⟩, hb⟩
set_option maxRecDepth 100000 in
set_option maxHeartbeats 16000000 in
theorem begun8 (w : World) : Calls Try.prog 8 #[] w fun e w' => e = .returned (.bool true) ∧ Below w.heap.size w w' := by
  go_enter Try.func8, Try.ntmps8
  go_wp2_with fail
  refine (sample35 _).mono ?_
  rintro e w1 ⟨q1, c1, rfl, h1, b1⟩
  have C1 := hide (blocks11 4 q1 smE c1 w1 h1)
  have HB1 := hide b1
  clear h1 b1
  go_wp2_with fail
  refine C1.out.mono ?_
  rintro e w2 ⟨hp, b2⟩
  have HB2 := hide (below_step HB1.out b2)
  clear C1 b2 HB1
  rcases hp with ⟨_, g, v, rfl, _, hO⟩ | ⟨hm, _⟩
  case inr => rw [sm_net] at hm; cases hm
  rw [show (4 : Int).toNat = 4 from rfl] at *
  rw [sm_cuts] at hO
  rw [sm_cts]
  obtain ⟨pv, cv, rfl, _⟩ := hO.form
  clear hO
  unfold blV
  go_upto_region 2 with fail
  obtain ⟨V, hV⟩ : ∃ V, V = w2.alloc (.cells #[.slice (some ⟨g, 0, none⟩) smE.length smE.length, .slice pv 2 cv, .int .i64 3] 34) := ⟨_, rfl⟩
  have hbV : Below w2.heap.size w2 V := by rw [hV]; go_grown
  obtain ⟨kt, hkt⟩ : ∃ k, w2.heap.size = k := ⟨_, rfl⟩
  have t1 : V.cell? ⟨kt, 1, none⟩ = some (.slice pv 2 cv) := by rw [hV, ← hkt]; go_cell
  have t2 : V.cell? ⟨kt, 2, none⟩ = some (.int .i64 3) := by rw [hV, ← hkt]; go_cell
  have HT : Hid (∀ X, Below V.heap.size V X → X.cell? ⟨kt, 1, none⟩ = some (.slice pv 2 cv) ∧ X.cell? ⟨kt, 2, none⟩ = some (.int .i64 3)) := fun X hX => ⟨later hX t1, later hX t2⟩
  have HBV := hide (below_step HB2.out hbV)
  rw [← hV]
  try rw [hkt]
  clear hV hbV hkt t1 t2 HB2
  go_wp2_with fail
  refine (sample35 _).mono ?_
  rintro e w3 ⟨q2, c2, rfl, h3, b3⟩
  have C2 := hide (bridges12 4 q2 smE c2 w3 h3)
  have HB3 := hide b3
  clear h3 b3
  go_wp2_with fail
  refine C2.out.mono ?_
  rintro e w4 ⟨hp, b4⟩
  have HB4 := hide (below_step HB3.out b4)
  clear C2 b4 HB3
  rcases hp with ⟨_, v2, rfl, hO⟩ | ⟨hm, _⟩
  case inr => rw [sm_net] at hm; cases hm
  rw [show (4 : Int).toNat = 4 from rfl, sm_brid] at hO
  obtain ⟨pb, cb, rfl, hI, _⟩ := hO.form
  obtain ⟨gb, ob, rfl, c0⟩ := hI.at_ (j := 0) (by simp)
  have c0' : w4.cell? ⟨gb, ob + 0, none⟩ = some (.int .i64 3) := c0
  have HC : Hid (∀ X, Below w4.heap.size w4 X → X.cell? ⟨gb, ob + 0, none⟩ = some (.int .i64 3)) := fun X hX => later hX c0'
  clear hO hI c0 c0'
  go_wp2_with fail
  refine (sample35 _).mono ?_
  rintro e w5 ⟨q3, c3, rfl, h5, b5⟩
  have C3 := hide (tree13 4 q3 smE c3 w5 h5)
  have HB5 := hide b5
  clear h5 b5
  go_wp2_with fail
  refine C3.out.mono ?_
  rintro e w6 ⟨hp, b6⟩
  have HB6 := hide (below_step HB5.out b6)
  clear C3 b6 HB5
  rcases hp with ⟨hm, _⟩ | ⟨_, hm, _⟩ | ⟨_, _, q4, c4, rfl, _⟩
  · rw [sm_net] at hm; cases hm
  · rw [show (4 : Int).toNat = 4 from rfl, sm_tree] at hm; cases hm
  rw [show (4 : Int).toNat = 4 from rfl, sm_trN]
  obtain ⟨lt, hlt⟩ : ∃ l, (trE 4 smE).length = l := ⟨_, rfl⟩
  rw [hlt]
  clear hlt
  go_upto_region 4 with fail
  obtain ⟨U, hU⟩ : ∃ U, U = w6.alloc (.cells #[.int .i64 5, .slice q4 lt c4] 24) := ⟨_, rfl⟩
  have hbU : Below w6.heap.size w6 U := by rw [hU]; go_grown
  obtain ⟨ku, hku⟩ : ∃ k, w6.heap.size = k := ⟨_, rfl⟩
  have u0 : U.cell? ⟨ku, 0, none⟩ = some (.int .i64 5) := by rw [hU, ← hku]; go_cell
  have HU : Hid (∀ X, Below U.heap.size U X → X.cell? ⟨ku, 0, none⟩ = some (.int .i64 5)) := fun X hX => later hX u0
  have HBU := hide (below_step HB6.out hbU)
  rw [← hU]
  try rw [hku]
  clear hU hbU hku u0 HB6
  have C4 := hide (biconnected14 2 (some ⟨U.heap.size, 0, none⟩) e1E 1 (U.alloc (.cells #[.int .i64 0, .int .i64 1] 56)) (e1_has U))
  have HBE : Hid (Below U.heap.size U (U.alloc (.cells #[.int .i64 0, .int .i64 1] 56))) := by show Below _ _ _; go_grown
  rw [e1_bi, e1_net] at C4
  go_wp2_with fail
  refine C4.out.mono ?_
  rintro e w7 ⟨rfl, b7⟩
  have HB7 := hide (below_step HBE.out b7)
  clear C4 b7 HBE
  rw [if_pos trivial]
  go_upto_region 5 with fail
  have C5 := hide (ear26 2 (some ⟨w7.heap.size, 0, none⟩) e2E 2 (w7.alloc (.cells #[.int .i64 0, .int .i64 1, .int .i64 0, .int .i64 1] 56)) (e2_has w7))
  have HBE : Hid (Below w7.heap.size w7 (w7.alloc (.cells #[.int .i64 0, .int .i64 1, .int .i64 0, .int .i64 1] 56))) := by show Below _ _ _; go_grown
  go_wp2_with fail
  refine C5.out.mono ?_
  rintro e w8 ⟨hp, b8⟩
  have HB8 := hide (below_step HBE.out b8)
  clear C5 b8 HBE
  rcases hp with ⟨_, _, _, _, v5, rfl, hL⟩ | ⟨hm, _⟩
  case inr => exact absurd e2_ear hm
  obtain ⟨pe, ce, rfl⟩ := hL.form
  rw [show (2 : Int).toNat = 2 from rfl, e2_ears]
  clear hL
  have hb3 : Below U.heap.size U w8 := below_step HB7.out HB8.out
  have hb2 : Below w4.heap.size w4 w8 := below_step HBU.out hb3
  have hb1 : Below V.heap.size V w8 := below_step HB4.out hb2
  obtain ⟨t1, t2⟩ := HT.out w8 hb1
  have t3 : w8.cell? ⟨gb, ob, none⟩ = some (.int .i64 3) := HC.out w8 hb2
  have t4 := HU.out w8 hb3
  have HBF := hide (below_step HBV.out hb1)
  clear hb1 hb2 hb3 HT HC HU HB4 HBU HB7 HB8 HBV
  go_wp2
  go_ret
  exact ⟨rfl, HBF.out⟩
end Go.Proofs.Ytobkejnlkjieoaa
