/- DualLays: its walk. -/
import Derived.Test.YtcgdmonejogbaaaWB
import Derived.Test.YtcgdmonejogbaaaD9
import Derived.Deep.DeepCutAuto
import Derived.Deep.QuietTactic
/- dual.Lay where it refuses. -/
namespace Go.Proofs.Ytcgdmonejogbaaa
open Go.RowKit Go.Sort
open Go
set_option maxRecDepth 100000 in
set_option maxHeartbeats 16000000 in
theorem lay16no (n : Int) (p : Option Addr) (es : List Pt) (cp : Nat) (q : Option Addr) (rs : List (List Int)) (cq : Nat) (va aa vb ab : Int) (w : World) (h : Has w p es) (hr : RHas w q rs) (h0 : ¬ rotI n es rs = 0) : Calls Try.prog 16 #[nv n p es.length cp, .slice q rs.length cq, cv va aa, cv vb ab] w fun r w' => r = .returned (.tuple #[nv 0 none 0 0, .slice none 0 0, .int .i64 (rotI n es rs)]) ∧ Below w.heap.size w w' := by
  obtain ⟨W, hW, hb0, a0, ⟨s2, s2'⟩, ⟨s3, s3'⟩, z0⟩ := lay_boxes w n p es.length cp va aa vb ab
  have OF := hide (of40no n p es cp q rs cq W (h.later hb0) (hr.later hb0) h0)
  have HB := hide hb0
  have HZ := hide z0
  obtain ⟨x, hx⟩ : ∃ x, rotI n es rs = x := ⟨_, rfl⟩
  rw [hx] at OF h0 ⊢
  have t1 : (x == 0) = false := by simp [h0]
  obtain ⟨g0, g1, _, _⟩ := a0
  clear h hr hb0 z0 hx
  go_enter Try.func16, Try.ntmps16
  go_wp2_with fail
  rw [← hW]
  clear hW
  go_wp2_with fail
  refine OF.out.mono ?_
  rintro r w1 ⟨rfl, hb1⟩
  have HB1 := hide hb1
  have HZ1 := hide (HZ.out.later hb1)
  clear OF hb1 g0 g1 s2 s2' s3 s3'
  obtain ⟨r0, r1, r2, r3⟩ := HZ1.out
  go_wp2
  obtain ⟨V, hV⟩ : ∃ V, V = (w1.setCell ⟨w.heap.size + 3, 0, none⟩ (.int .i64 0)).setCell ⟨w.heap.size + 3, 1, none⟩ (.slice none 0 0) := ⟨_, rfl⟩
  have kV : NOwn V (w.heap.size + 3) 0 none 0 0 := by rw [hV]; exact HZ1.out.set 0 none 0 0
  have bV : Below w.heap.size w V := by rw [hV]; exact ((below_step HB.out HB1.out).setCell (by simp) _).setCell (by simp) _
  rw [← hV]
  exact bodyPost_ret (ret_net3 Try.results16 rfl rfl rfl kV) rfl ⟨rfl, bV⟩
set_option maxRecDepth 100000 in
set_option maxHeartbeats 16000000 in
theorem lay16off (n : Int) (p : Option Addr) (es : List Pt) (cp : Nat) (q : Option Addr) (rs : List (List Int)) (cq : Nat) (va aa vb ab : Int) (w : World) (h : Has w p es) (hr : RHas w q rs) (h0 : rotI n es rs = 0) (hc : ¬ (corB rs va aa = true ∧ corB rs vb ab = true)) : Calls Try.prog 16 #[nv n p es.length cp, .slice q rs.length cq, cv va aa, cv vb ab] w fun r w' => r = .returned (.tuple #[nv 0 none 0 0, .slice none 0 0, .int .i64 2]) ∧ Below w.heap.size w w' := by
  obtain ⟨W, hW, hb0, a0, ⟨s2, s2'⟩, ⟨s3, s3'⟩, z0⟩ := lay_boxes w n p es.length cp va aa vb ab
  obtain ⟨_, z2⟩ := rot_bounds h0
  have OF := hide (of40 n p es cp q rs cq W (h.later hb0) (hr.later hb0) h0)
  have HR := hide (hr.later hb0)
  have HB := hide hb0
  have HZ := hide z0
  have HZ2 := hide z2
  have HSA := hide (And.intro s2 s2')
  have HSB := hide (And.intro s3 s3')
  obtain ⟨g0, g1, _, _⟩ := a0
  clear h hr hb0 z0 h0 z2
  go_enter Try.func16, Try.ntmps16
  go_wp2_with fail
  rw [← hW]
  clear hW
  go_wp2_with fail
  refine OF.out.mono ?_
  rintro r w1 ⟨go, rfl, _, hb1⟩
  have HB1 := hide hb1
  have C1 := hide (corner48 q rs cq va aa w1 (HR.out.later hb1) (fun u hu => by have := HZ2.out u hu; omega))
  clear OF hb1 g0 g1 s2 s2' s3 s3'
  obtain ⟨s2, s2'⟩ := HSA.out
  have s2 := later HB1.out s2
  have s2' := later HB1.out s2'
  by_cases hca : corB rs va aa = true
  · rw [hca] at C1
    have hcb : corB rs vb ab = false := by
      cases e : corB rs vb ab
      · rfl
      · exact absurd ⟨hca, e⟩ hc
    go_wp2_with fail
    refine C1.out.mono ?_
    rintro r w2 ⟨rfl, hb2⟩
    have HB2 := hide (below_step HB1.out hb2)
    have C2 := corner48 q rs cq vb ab w2 (HR.out.later HB2.out) (fun u hu => by have := HZ2.out u hu; omega)
    rw [hcb] at C2
    have C2 := hide C2
    clear C1 hb2 s2 s2'
    obtain ⟨s3, s3'⟩ := HSB.out
    have s3 := later HB2.out s3
    have s3' := later HB2.out s3'
    go_wp2_with fail
    refine C2.out.mono ?_
    rintro r w3 ⟨rfl, hb3⟩
    have HB3 := hide (below_step HB2.out hb3)
    have HZ1 := hide (HZ.out.later HB3.out)
    clear C2 hb3 s3 s3'
    obtain ⟨r0, r1, r2, r3⟩ := HZ1.out
    go_wp2
    obtain ⟨V, hV⟩ : ∃ V, V = (w3.setCell ⟨w.heap.size + 3, 0, none⟩ (.int .i64 0)).setCell ⟨w.heap.size + 3, 1, none⟩ (.slice none 0 0) := ⟨_, rfl⟩
    have kV : NOwn V (w.heap.size + 3) 0 none 0 0 := by rw [hV]; exact HZ1.out.set 0 none 0 0
    have bV : Below w.heap.size w V := by rw [hV]; exact ((below_step HB.out HB3.out).setCell (by simp) _).setCell (by simp) _
    rw [← hV]
    exact bodyPost_ret (ret_net3 Try.results16 rfl rfl rfl kV) rfl ⟨rfl, bV⟩
  · rw [Bool.eq_false_iff.2 hca] at C1
    go_wp2_with fail
    refine C1.out.mono ?_
    rintro r w3 ⟨rfl, hb2⟩
    have HB3 := hide (below_step HB1.out hb2)
    have HZ1 := hide (HZ.out.later HB3.out)
    clear C1 hb2 s2 s2'
    obtain ⟨r0, r1, r2, r3⟩ := HZ1.out
    go_wp2
    obtain ⟨V, hV⟩ : ∃ V, V = (w3.setCell ⟨w.heap.size + 3, 0, none⟩ (.int .i64 0)).setCell ⟨w.heap.size + 3, 1, none⟩ (.slice none 0 0) := ⟨_, rfl⟩
    have kV : NOwn V (w.heap.size + 3) 0 none 0 0 := by rw [hV]; exact HZ1.out.set 0 none 0 0
    have bV : Below w.heap.size w V := by rw [hV]; exact ((below_step HB.out HB3.out).setCell (by simp) _).setCell (by simp) _
    rw [← hV]
    exact bodyPost_ret (ret_net3 Try.results16 rfl rfl rfl kV) rfl ⟨rfl, bV⟩
end Go.Proofs.Ytcgdmonejogbaaa

namespace Go.Proofs.Ytcgdmonejogbaaa
open Go.RowKit Go.Sort
open Go
def LaysOk (n : Int) (es : List Pt) (rs : List (List Int)) (va aa vb ab : Int) : Prop := rotI n es rs = 0 ∧ corB rs va aa = true ∧ corB rs vb ab = true ∧ es.length + 1 ≤ 3072 ∧ ¬ layG n.toNat es rs va.toNat aa vb.toNat ab
theorem corB_lt {rs : List (List Int)} {v a : Int} (h : corB rs v a = true) : 0 ≤ v ∧ v < rs.length := by
  unfold corB at h
  rw [Bool.and_eq_true] at h
  exact of_decide_eq_true h.1
theorem lay16u (n : Int) (p : Option Addr) (es : List Pt) (cp : Nat) (q : Option Addr) (rs : List (List Int)) (cq : Nat) (va aa vb ab : Int) (w : World) (h : Has w p es) (hpn : p = none → cp = 0) (hr : RHas w q rs) (hcap : rs.length ≤ cq) (hbad : ¬ LaysOk n es rs va aa vb ab) : ∃ x : Int, x ≠ 0 ∧ Calls Try.prog 16 #[nv n p es.length cp, .slice q rs.length cq, cv va aa, cv vb ab] w fun r w' => r = .returned (.tuple #[nv 0 none 0 0, .slice none 0 0, .int .i64 x]) ∧ Below w.heap.size w w' := by
  by_cases h0 : rotI n es rs = 0
  · by_cases hc : corB rs va aa = true ∧ corB rs vb ab = true
    · have hrn := (rot_is h0).2.1
      have b1 := corB_lt hc.1
      have b2 := corB_lt hc.2
      obtain ⟨N, rfl⟩ : ∃ N : Nat, n = N := ⟨n.toNat, by omega⟩
      obtain ⟨A, rfl⟩ : ∃ A : Nat, va = A := ⟨va.toNat, by omega⟩
      obtain ⟨B, rfl⟩ : ∃ B : Nat, vb = B := ⟨vb.toNat, by omega⟩
      have L := lay16 N p es cp q rs cq A B aa ab w h hpn hr hcap h0 hc.1 hc.2 (by omega) (by omega)
      by_cases hlim : es.length + 1 ≤ 3072
      · refine ⟨5, by decide, L.mono ?_⟩
        rintro e w' ⟨hp, hb⟩
        refine ⟨?_, hb⟩
        rcases hp with ⟨h1, _⟩ | ⟨_, _, he⟩ | ⟨_, h1, _⟩
        · exact absurd hlim h1
        · exact he
        · exact absurd ⟨h0, hc.1, hc.2, hlim, h1⟩ hbad
      · refine ⟨3, by decide, L.mono ?_⟩
        rintro e w' ⟨hp, hb⟩
        refine ⟨?_, hb⟩
        rcases hp with ⟨_, he⟩ | ⟨h1, _⟩ | ⟨h1, _⟩
        · exact he
        · exact absurd h1 hlim
        · exact absurd h1 hlim
    · exact ⟨2, by decide, lay16off n p es cp q rs cq va aa vb ab w h hr h0 hc⟩
  · exact ⟨_, h0, lay16no n p es cp q rs cq va aa vb ab w h hr h0⟩
theorem lay16y (N : Nat) (p : Option Addr) (es : List Pt) (cp : Nat) (q : Option Addr) (rs : List (List Int)) (cq : Nat) (A B : Nat) (aa ab : Int) (w : World) (h : Has w p es) (hpn : p = none → cp = 0) (hr : RHas w q rs) (hcap : rs.length ≤ cq) (ok : LaysOk N es rs A aa B ab) : Calls Try.prog 16 #[nv N p es.length cp, .slice q rs.length cq, cv A aa, cv B ab] w fun r w' => ∃ px cx g, r = .returned (.tuple #[nv N px (es.length + 1) cx, .slice (some ⟨g, 0, none⟩) rs.length rs.length, .int .i64 0]) ∧ Has w' px (layN es A B) ∧ RHas w' (some ⟨g, 0, none⟩) (canonL (betR rs A aa B ab (2 * es.length : Nat))) ∧ Below w.heap.size w w' := by
  obtain ⟨h0, c1, c2, hlim, hg⟩ := ok
  have hrn := (rot_is h0).2.1
  have b1 := corB_lt c1
  have b2 := corB_lt c2
  have hlr := lay_rot (aa := aa) (ab := ab) h0 (show A < N by omega) (show B < N by omega) (by rw [lay_net (rot_is h0).1 (by omega) (by omega)]; exact decide_eq_true hlim)
  refine (lay16 N p es cp q rs cq A B aa ab w h hpn hr hcap h0 c1 c2 (by omega) (by omega)).mono ?_
  rintro e w' ⟨hp, hb⟩
  rcases hp with ⟨h1, _⟩ | ⟨_, h1, _⟩ | ⟨_, _, px, cx, g, rv, he, hh, _, hrow⟩
  · exact absurd hlim h1
  · exact absurd h1 hg
  · refine ⟨px, cx, g, he, hh, hrow.has (by rw [canonL_length, betR_length]) (fun v hv => rfl) (fun v hv => ?_), hb⟩
    have := (rot_bounds (faces_canon hlr).1).2 v (by rw [canonL_length, betR_length]; exact hv)
    unfold maxLen
    omega
/-- What an edge laid does. -/
theorem lays_facts {N : Nat} {es : List Pt} {rs : List (List Int)} {A B : Nat} {aa ab : Int} (ok : LaysOk N es rs A aa B ab) : A < N ∧ B < N ∧ rotI N (layN es A B) (canonL (betR rs A aa B ab (2 * es.length : Nat))) = 0 ∧ genusI N (layN es A B) (canonL (betR rs A aa B ab (2 * es.length : Nat))) = genusI N es rs ∧ (Conn es A B → (facesL (layN es A B) (canonL (betR rs A aa B ab (2 * es.length : Nat)))).length = (facesL es rs).length + 1 ∧ compN N (layN es A B) = compN N es) ∧ (¬ Conn es A B → (facesL es rs).length = (facesL (layN es A B) (canonL (betR rs A aa B ab (2 * es.length : Nat)))).length + 1 ∧ compN N es = compN N (layN es A B) + 1) := by
  obtain ⟨h0, c1, c2, hlim, hg⟩ := ok
  have hrn := (rot_is h0).2.1
  have b1 := corB_lt c1
  have b2 := corB_lt c2
  have hA : A < N := by omega
  have hB : B < N := by omega
  have hm : netB N (layN es A B) = true := by rw [lay_net (rot_is h0).1 hA hB]; exact decide_eq_true hlim
  have hlr := lay_rot (aa := aa) (ab := ab) h0 hA hB hm
  obtain ⟨f1, f2, f3⟩ := faces_canon hlr
  obtain ⟨m1, m2⟩ := lay_counts (aa := aa) (ab := ab) h0 hA hB hm
  rw [f2, f3]
  have key : Conn es A B → ¬ LayO es rs A aa B ab := fun hc => by
    refine lay_sides h0 hA hB hm c1 c2 hc (Classical.byContradiction fun hne => hg ?_)
    obtain ⟨r, L⟩ := parts_lab (n := N) (es := es) (rot_is h0).1
    exact ⟨(L.conn (rot_is h0).1 hA hB).2 hc, hne⟩
  refine ⟨hA, hB, f1, ?_, fun hc => ⟨((m2 hc).2 (key hc)).1, (m2 hc).1⟩, fun hc => ⟨(m1 hc).1, (m1 hc).2.1⟩⟩
  by_cases hc : Conn es A B
  · exact ((m2 hc).2 (key hc)).2
  · exact (m1 hc).2.2
theorem lays_boxes (w : World) (n : Int) (p : Option Addr) (l c : Nat) (va aa vb ab : Int) : ∃ W, W = ((w.alloc (nbx n p l c)).alloc (cbx va aa)).alloc (cbx vb ab) ∧ Below w.heap.size w W ∧ NOwn W w.heap.size n p l c ∧ (W.cell? ⟨w.heap.size + 1, 0, none⟩ = some (.int .i64 va) ∧ W.cell? ⟨w.heap.size + 1, 1, none⟩ = some (.int .i64 aa)) ∧ (W.cell? ⟨w.heap.size + 2, 0, none⟩ = some (.int .i64 vb) ∧ W.cell? ⟨w.heap.size + 2, 1, none⟩ = some (.int .i64 ab)) :=
  ⟨_, rfl, by go_grown, ⟨by go_cell, by go_cell, by simp [go_sem], by simp [go_sem]⟩, ⟨by go_cell, by go_cell⟩, ⟨by go_cell, by go_cell⟩⟩
set_option maxRecDepth 100000 in
set_option maxHeartbeats 16000000 in
theorem lays_walk (n : Int) (p : Option Addr) (es : List Pt) (cp : Nat) (q : Option Addr) (rs : List (List Int)) (cq : Nat) (va aa vb ab : Int) (w : World) (h : Has w p es) (hpn : p = none → cp = 0) (hr : RHas w q rs) (hcap : rs.length ≤ cq) (lr : rs.length ≤ maxLen) : Calls Try.prog 5 #[nv n p es.length cp, .slice q rs.length cq, cv va aa, cv vb ab] w fun e w' => e = .returned (.bool true) ∧ Below w.heap.size w w' := by
  obtain ⟨W0, hW, hb0, a0, sa, sb⟩ := lays_boxes w n p es.length cp va aa vb ab
  have BG := hide (begun9 W0)
  have HB0 := hide hb0
  have HA0 := hide a0
  have HSA := hide sa
  have HSB := hide sb
  have HH0 := hide (h.later hb0)
  have HR0 := hide (hr.later hb0)
  have HLr := hide lr
  have HPN := hide hpn
  clear h hr hb0 a0 lr sa sb hpn
  go_enter Try.func5, Try.ntmps5
  go_wp2_with fail
  rw [← hW]
  clear hW
  obtain ⟨kg, hkg⟩ : ∃ k, w.heap.size = k := ⟨_, rfl⟩
  rw [hkg] at HA0 HSA HSB
  try rw [hkg]
  have HKG := hide hkg
  clear hkg
  refine BG.out.mono ?_
  rintro r w1 ⟨rfl, hb1⟩
  have HB1 := hide hb1
  have L1 := hide (light9r n p es cp q rs cq w1 (HH0.out.later hb1) (HR0.out.later hb1) HLr.out)
  obtain ⟨g0, g1, _, _⟩ := HA0.out.later hb1
  clear hb1 BG
  go_wp2_with fail
  refine L1.out.mono ?_
  rintro r w2 ⟨⟨x1, rfl⟩, hb2⟩
  have HB2 := hide (below_step HB1.out hb2)
  clear hb2 L1 g0 g1
  cases x1
  · go_wp2
    go_ret
    exact ⟨rfl, below_step HB0.out HB2.out⟩
  obtain ⟨g0, g1, _, _⟩ := HA0.out.later HB2.out
  have s2 := later HB2.out HSA.out.1
  have s2' := later HB2.out HSA.out.2
  have s3 := later HB2.out HSB.out.1
  have s3' := later HB2.out HSB.out.2
  by_cases hbad : ¬ LaysOk n es rs va aa vb ab
  · obtain ⟨x, hx0, SE0⟩ := lay16u n p es cp q rs cq va aa vb ab w2 (HH0.out.later HB2.out) HPN.out (HR0.out.later HB2.out) hcap hbad
    have SE := hide SE0
    clear SE0
    have t1 : (x == 0) = false := by simp [hx0]
    go_wp2_with fail
    refine SE.out.mono ?_
    rintro r w11 ⟨rfl, hb11⟩
    have HB12 := hide (below_step HB0.out (below_step HB2.out hb11))
    clear hb11 SE g0 g1 s2 s2' s3 s3'
    go_upto_region 6 with fail
    obtain ⟨U6, hU6⟩ : ∃ U, U = w11.alloc (nbx 0 none 0 0) := ⟨_, rfl⟩
    have HBU : Hid (Below w.heap.size w U6) := by show Below _ _ _; rw [hU6]; exact below_step HB12.out (by go_grown)
    have hK6 : NOwn U6 w11.heap.size 0 none 0 0 := by rw [hU6]; exact ⟨by go_cell, by go_cell, by simp [go_sem], by simp [go_sem]⟩
    rw [← hU6]
    obtain ⟨c0, c1, _, _⟩ := hK6
    clear hU6
    go_wp2
    go_ret
    exact ⟨rfl, HBU.out⟩
  have ok := Classical.not_not.1 hbad
  have b1 := corB_lt ok.2.1
  have b2 := corB_lt ok.2.2.1
  have hrn := (rot_is ok.1).2.1
  obtain ⟨n0, n1, hes, _⟩ := netB_is (rot_is ok.1).1
  obtain ⟨N, rfl⟩ : ∃ N : Nat, n = N := ⟨n.toNat, by omega⟩
  obtain ⟨A, rfl⟩ : ∃ A : Nat, va = A := ⟨va.toNat, by omega⟩
  obtain ⟨B, rfl⟩ : ∃ B : Nat, vb = B := ⟨vb.toNat, by omega⟩
  have LY := hide (lay16y N p es cp q rs cq A B aa ab w2 (HH0.out.later HB2.out) HPN.out (HR0.out.later HB2.out) hcap ok)
  obtain ⟨hA, hB, hrq, hgen, hw, hnw⟩ := lays_facts ok
  have hbk := lay_back (va := A) (vb := B) (aa := aa) (ab := ab) ok.1
  have hpk := lay_pick es A B
  have hl2 := layN_length es A B
  have hlq : (canonL (betR rs A aa B ab (2 * es.length : Nat))).length = rs.length := by rw [canonL_length, betR_length]
  have hlim := ok.2.2.2.1
  have hf1 := facesL_le ok.1
  have hf2 := facesL_le hrq
  have hc1 := comp_le (rot_is ok.1).1
  have hc2 := comp_le (rot_is hrq).1
  have HRT := hide ok.1
  obtain ⟨es', hes'⟩ : ∃ x, layN es A B = x := ⟨_, rfl⟩
  obtain ⟨Q, hQ⟩ : ∃ x, canonL (betR rs A aa B ab (2 * es.length : Nat)) = x := ⟨_, rfl⟩
  rw [hes', hQ] at LY hrq hgen hw hnw hbk
  rw [hes'] at hpk hl2 hc2
  rw [hes', hQ] at hf2
  rw [hQ] at hlq
  have HRQ := hide hrq
  have HGEN := hide hgen
  have HW := hide hw
  have HNW := hide hnw
  have HBK := hide hbk
  have HPK := hide hpk
  have HL2 := hide hl2
  have HLQ := hide hlq
  have HRN := hide hrn
  clear ok hbad hrq hgen hw hnw hbk hpk hl2 hlq hes' hQ b1 b2 hrn
  go_wp2_with fail
  refine LY.out.mono ?_
  rintro r w3 ⟨px, cx, gy, rfl, hpx, hqy, hb3⟩
  clear LY g0 g1 s2 s2' s3 s3'
  go_upto_region 6 with fail
  obtain ⟨U6, hU6⟩ : ∃ U, U = w3.alloc (nbx N px (es.length + 1) cx) := ⟨_, rfl⟩
  have hbU6 : Below w3.heap.size w3 U6 := by rw [hU6]; go_grown
  have HK6 : Hid (NOwn U6 w3.heap.size N px (es.length + 1) cx) := by show NOwn _ _ _ _ _ _; rw [hU6]; exact ⟨by go_cell, by go_cell, by simp [go_sem], by simp [go_sem]⟩
  rw [← hU6]
  obtain ⟨kh, hkh⟩ : ∃ k, w3.heap.size = k := ⟨_, rfl⟩
  rw [hkh] at HK6
  try rw [hkh]
  have HX6 : Hid (Has U6 px es') := hpx.later hbU6
  have HY6 := hide (hqy.later hbU6)
  have HB6 := hide (below_step HB2.out (below_step hb3 hbU6))
  clear hU6 hbU6 hkh hpx hqy hb3
  have PT := hide (parts26 N p es cp U6 (HH0.out.later HB6.out) (rot_is HRT.out).1)
  obtain ⟨g0, g1, _, _⟩ := HA0.out.later HB6.out
  go_wp2_with fail
  refine PT.out.mono ?_
  rintro r w7 ⟨gp, C, rr, rfl, hrp, hlab, hb7⟩
  have HV7 := hide hb7
  have HP7 := hide hrp
  have HJ : Hid (iat C A = iat C B ↔ Conn es A B) := hlab.conn (rot_is HRT.out).1 hA hB
  clear PT hrp hlab hb7 g0 g1
  obtain ⟨F, hF⟩ : ∃ F, (facesL es rs).length = F := ⟨_, rfl⟩
  obtain ⟨F', hF'⟩ : ∃ F, (facesL es' Q).length = F := ⟨_, rfl⟩
  have F1 : Hid (∀ V, Below w7.heap.size w7 V → Calls Try.prog 36 #[nv N p es.length cp, .slice q rs.length cq] V fun e w' => ∃ p1 c1, e = .returned (.slice p1 F c1) ∧ Below V.heap.size V w') := fun V hV => (faces45 N p es cp q rs cq V ((HR0.out.later (below_step HB6.out HV7.out)).later hV) HRT.out).mono fun e w' ⟨p1, c1, rv, he, _, hb⟩ => ⟨p1, c1, by rw [← hF]; exact he, hb⟩
  have F2 : Hid (∀ V, Below w7.heap.size w7 V → Calls Try.prog 36 #[nv N px (es.length + 1) cx, .slice (some ⟨gy, 0, none⟩) rs.length rs.length] V fun e w' => ∃ p1 c1, e = .returned (.slice p1 F' c1) ∧ Below V.heap.size V w') := fun V hV => by
    have := faces45 N px es' cx (some ⟨gy, 0, none⟩) Q rs.length V ((HY6.out.later HV7.out).later hV) HRQ.out
    rw [HL2.out, HLQ.out] at this
    exact this.mono fun e w' ⟨p1, c1, rv, he, _, hb⟩ => ⟨p1, c1, by rw [← hF']; exact he, hb⟩
  rw [hF] at hf1 HW HNW
  rw [hF'] at hf2 HW HNW
  clear hF hF'
  have HS : Hid (∀ V, Below w7.heap.size w7 V → (V.cell? ⟨kg, 0, none⟩ = some (.int .i64 N) ∧ V.cell? ⟨kg, 1, none⟩ = some (.slice p es.length cp)) ∧ V.cell? ⟨kh, 0, none⟩ = some (.int .i64 N) ∧ V.cell? ⟨kh, 1, none⟩ = some (.slice px (es.length + 1) cx)) := fun V hV => by
    obtain ⟨x0, x1, _, _⟩ := (HA0.out.later HB6.out).later (below_step HV7.out hV)
    obtain ⟨y0, y1, _, _⟩ := HK6.out.later (below_step HV7.out hV)
    exact ⟨⟨x0, x1⟩, y0, y1⟩
  obtain ⟨⟨g0, g1⟩, c0, c1⟩ := HS.out w7 (Below.refl _ _)
  go_upto_region 9 with fail
  go_region_held3 (fun V => (V.cell? ⟨kg, 0, none⟩ = some (.int .i64 N) ∧ V.cell? ⟨kg, 1, none⟩ = some (.slice p es.length cp)) ∧ V.cell? ⟨kh, 0, none⟩ = some (.int .i64 N) ∧ V.cell? ⟨kh, 1, none⟩ = some (.slice px (es.length + 1) cx))
    (first | exact HS.out _ (below_drew w7) | exact HS.out _ (Below.refl _ _) | exact HS.out _ HV8.out | exact HS.out _ HV9.out)
    (first | (go_at_call 36; have hv8 := HV8.out; refine (F2.out _ hv8).mono ?_; rintro e w9 ⟨p9, c9, rfl, hb9'⟩; have HV9 := hide (below_step hv8 hb9'); clear hb9' hv8 g0 g1 c0 c1; obtain ⟨⟨g0, g1⟩, c0, c1⟩ := HS.out w9 HV9.out) | (go_at_call 36; refine (F1.out _ (below_drew w7)).mono ?_; rintro e w8 ⟨p8, c8, rfl, hb8'⟩; have HV8 := hide (below_step (below_drew w7) hb8'); clear hb8' g0 g1 c0 c1; obtain ⟨⟨g0, g1⟩, c0, c1⟩ := HS.out w8 HV8.out))
  rename_i hHeld
  clear hHeld
  have HB9 := hide (below_step HB6.out (below_step HV7.out HV9.out))
  have HU9 := hide (below_step HV7.out HV9.out)
  obtain ⟨x, hx⟩ : ∃ z, iat C A = z := ⟨_, rfl⟩
  obtain ⟨y, hy⟩ : ∃ z, iat C B = z := ⟨_, rfl⟩
  rw [hx, hy] at HJ
  obtain ⟨q1, _⟩ := (HP7.out.later HV9.out).cell hA
  obtain ⟨q2, _⟩ := (HP7.out.later HV9.out).cell hB
  rw [hx] at q1
  rw [hy] at q2
  have s2 := later HB9.out HSA.out.1
  have s3 := later HB9.out HSB.out.1
  have Q1 := cell_regrown q1
  have Q2 := cell_regrown q2
  have S2 := cell_regrown s2
  have S3 := cell_regrown s3
  have k1 : (A : Int) < N := by omega
  have k2 : (B : Int) < N := by omega
  clear g0 g1 c0 c1 hx hy
  go_upto_region 10 with fail
  refine wp_region_quiet_below (by kernel_rfl) (by kernel_rfl) ?_
  repeat (go_big_quiet_step (fail))
  refine wpQuiet_nil ?_
  intro w10 hw'
  have hb10 : Below w9.heap.size w9 w10 := by
    obtain ⟨⟨dq, osq⟩, hw''⟩ := hw'
    rw [hw'']
    exact below_regrown w9 dq osq
  have HB10 := hide (below_step HB9.out hb10)
  have HU10 := hide (below_step HU9.out hb10)
  clear hw' hb10 Q1 Q2 S2 S3 q1 q2 s2 s3
  have PT := parts26 N px es' cx w10 (HX6.out.later HU10.out) (rot_is HRQ.out).1
  rw [HL2.out] at PT
  have PT := hide PT
  obtain ⟨c0, c1, _, _⟩ := HK6.out.later HU10.out
  go_wp2_with fail
  refine PT.out.mono ?_
  rintro r w11 ⟨gp2, C2, rr2, rfl, _, _, hb11⟩
  have HB11 := hide (below_step HB10.out hb11)
  have HU11 := hide (below_step HU10.out hb11)
  clear PT hb11 c0 c1
  obtain ⟨gI, hgI⟩ : ∃ z, genusI N es rs = z := ⟨_, rfl⟩
  have C1 : ∀ dd os, Calls Try.prog 33 #[nv N p es.length cp, .slice q rs.length cq] (grow (redrawn w11 dd) os) fun e w'' => e = .returned (.int .i64 gI) ∧ ∃ p : Regrown, w'' = grow (redrawn w11 p.d) p.os := fun dd os => by
    have := genus47 N p es cp q rs cq (grow (redrawn w11 dd) os) ((HH0.out.later HB11.out).later (below_regrown w11 dd os)) ((HR0.out.later HB11.out).later (below_regrown w11 dd os)) HRT.out
    rw [hgI] at this
    exact Calls.regrown_of this
  have C3 : ∀ dd os, Calls Try.prog 33 #[nv N px (es.length + 1) cx, .slice (some ⟨gy, 0, none⟩) rs.length rs.length] (grow (redrawn w11 dd) os) fun e w'' => e = .returned (.int .i64 gI) ∧ ∃ p : Regrown, w'' = grow (redrawn w11 p.d) p.os := fun dd os => by
    have := genus47 N px es' cx (some ⟨gy, 0, none⟩) Q rs.length (grow (redrawn w11 dd) os) ((HX6.out.later HU11.out).later (below_regrown w11 dd os)) ((HY6.out.later HU11.out).later (below_regrown w11 dd os)) HRQ.out
    rw [HGEN.out, hgI, HL2.out, HLQ.out] at this
    exact Calls.regrown_of this
  obtain ⟨g0, g1, _, _⟩ := HA0.out.later HB11.out
  obtain ⟨c0, c1, _, _⟩ := HK6.out.later HU11.out
  have G0 := cell_regrown g0
  have G1 := cell_regrown g1
  have E0 := cell_regrown c0
  have E1 := cell_regrown c1
  obtain ⟨cc, hcc⟩ : ∃ z, compN N es = z := ⟨_, rfl⟩
  obtain ⟨cd, hcd⟩ : ∃ z, compN N es' = z := ⟨_, rfl⟩
  rw [hcc] at HW HNW hc1
  rw [hcd] at HW HNW hc2
  try rw [hcc]
  try rw [hcd]
  clear hcc hcd hgI
  go_upto_region 12 with fail
  obtain ⟨bw, hbw⟩ : ∃ b, (x == y) = b := ⟨_, rfl⟩
  rw [hbw]
  go_cut [111] (fun s111 wx => s111 = .bool false ∧ Below w11.heap.size w11 wx)
  case first =>
    refine wp_region_quiet_below (by kernel_rfl) (by kernel_rfl) ?_
    cases bw
    · have hxy : ¬ x = y := by simpa using hbw
      obtain ⟨e1, e2⟩ := HNW.out (fun hc => hxy (HJ.out.2 hc))
      have d1 : IntKind.i64.wrap ((F : Int) - 1) = F - 1 := by rw [IntKind.wrap_i64]; omega
      have d2 : IntKind.i64.wrap ((cc : Int) - 1) = cc - 1 := by rw [IntKind.wrap_i64]; omega
      have t1 : ((F' : Int) != (F : Int) - 1) = false := by simp; omega
      have t2 : ((cd : Int) != (cc : Int) - 1) = false := by simp; omega
      clear e1 e2
      repeat (go_big_quiet_step (first | with_reducible exact C1 _ _ | with_reducible exact C3 _ _))
      refine wpQuiet_nil ?_
      intro w12 hw'
      have hb12 : Below w11.heap.size w11 w12 := by
        obtain ⟨⟨dq, osq⟩, hw''⟩ := hw'
        rw [hw'']
        exact below_regrown w11 dq osq
      clear hw'
      go_wp2_with fail
      go_meet
      exact ⟨rfl, hb12⟩
    · have hxy : x = y := by simpa using hbw
      obtain ⟨e1, e2⟩ := HW.out (HJ.out.1 hxy)
      have d1 : IntKind.i64.wrap ((F : Int) + 1) = F + 1 := by rw [IntKind.wrap_i64]; omega
      have t1 : ((F' : Int) != (F : Int) + 1) = false := by simp; omega
      have t2 : ((cd : Int) != (cc : Int)) = false := by simp; omega
      clear e1 e2
      repeat (go_big_quiet_step (first | with_reducible exact C1 _ _ | with_reducible exact C3 _ _))
      refine wpQuiet_nil ?_
      intro w12 hw'
      have hb12 : Below w11.heap.size w11 w12 := by
        obtain ⟨⟨dq, osq⟩, hw''⟩ := hw'
        rw [hw'']
        exact below_regrown w11 dq osq
      clear hw'
      go_wp2_with fail
      go_meet
      exact ⟨rfl, hb12⟩
  case rest =>
    obtain ⟨rfl, hb12⟩ := hcut
    have HB12 := hide (below_step HB11.out hb12)
    have HU12 := hide (below_step HU11.out hb12)
    clear C1 C3 G0 G1 E0 E1 g0 g1 c0 c1 hb12
    obtain ⟨w12, hw12⟩ : ∃ z, z = wc := ⟨_, rfl⟩
    subst hw12
    have hkl : (kpE es.length (es.length + 1)).length = es.length := by rw [kpE_len, if_pos (by omega)]; omega
    have TK := take17 N px es' cx (some ⟨gy, 0, none⟩) Q rs.length es.length w12 (HX6.out.later HU12.out) (HY6.out.later HU12.out) HRQ.out (by have := HL2.out; omega)
    have hrz0 := (take_genus HRQ.out (e := es.length) (by have := HL2.out; omega)).1
    rw [HL2.out, HLQ.out] at TK
    rw [HL2.out] at HPK HBK hrz0
    rw [HPK.out] at TK hrz0
    rw [hkl] at TK
    obtain ⟨Z, hZ⟩ : ∃ Z, canonL (subL es' Q (kpE es.length (es.length + 1))) = Z := ⟨_, rfl⟩
    have hZl : Z.length = rs.length := by rw [← hZ, canonL_length, subL_length]; exact HLQ.out
    rw [hZ] at TK HBK hrz0
    have TK := hide TK
    have HRZ := hide hrz0
    have HZL := hide hZl
    clear hZ hrz0 hZl hkl
    obtain ⟨g0, g1, _, _⟩ := HA0.out.later HB12.out
    obtain ⟨c0, c1, _, _⟩ := HK6.out.later HU12.out
    go_wp2_with fail
    refine TK.out.mono ?_
    rintro r w13 ⟨gx, gz, rvz, rfl, hpx, hrz, hb13⟩
    have hz' : RHas w13 (some ⟨gz, 0, none⟩) Z := hrz.has HZL.out (fun v hv => rfl) (fun v hv => by have := (rot_bounds HRZ.out).2 v (by rw [HZL.out]; exact hv); unfold maxLen; omega)
    clear TK g0 g1 c0 c1
    go_upto_region 15 with fail
    obtain ⟨U14, hU14⟩ : ∃ U, U = w13.alloc (nbx N (some ⟨gx, 0, none⟩) es.length es.length) := ⟨_, rfl⟩
    have hbU14 : Below w13.heap.size w13 U14 := by rw [hU14]; go_grown
    have HK14 : Hid (NOwn U14 w13.heap.size N (some ⟨gx, 0, none⟩) es.length es.length) := by show NOwn _ _ _ _ _ _; rw [hU14]; exact ⟨by go_cell, by go_cell, by simp [go_sem], by simp [go_sem]⟩
    rw [← hU14]
    obtain ⟨kx, hkx⟩ : ∃ k, w13.heap.size = k := ⟨_, rfl⟩
    rw [hkx] at HK14
    try rw [hkx]
    have HX14 : Hid (Has U14 (some ⟨gx, 0, none⟩) es) := hpx.has.later hbU14
    have HZ14 := hide (hz'.later hbU14)
    have HB14 := hide (below_step HB12.out (below_step hb13 hbU14))
    clear hU14 hbU14 hkx hpx hz' hrz hb13
    have M1 := same22 N N (some ⟨gx, 0, none⟩) p es es es.length cp U14 (by omega) HX14.out (HH0.out.later HB14.out)
    rw [show sameB N N es es = true by unfold sameB; simp] at M1
    have M1 := hide M1
    obtain ⟨g0, g1, _, _⟩ := HA0.out.later HB14.out
    obtain ⟨c0, c1, _, _⟩ := HK14.out
    go_wp2_with fail
    refine M1.out.mono ?_
    rintro r w15 ⟨rfl, hb15⟩
    have HB15 := hide (below_step HB14.out hb15)
    have M2 := same20 (some ⟨gz, 0, none⟩) q Z rs rs.length cq w15 (HZ14.out.later hb15) (HR0.out.later HB15.out) (by have := (rot_bounds HRZ.out).1; omega) (by have := (rot_bounds HRT.out).1; omega) (fun v hv => by have := (rot_bounds HRZ.out).2 v hv; omega) (fun v hv => by have := (rot_bounds HRT.out).2 v hv; omega)
    rw [HZL.out, decide_eq_true HBK.out] at M2
    have M2 := hide M2
    clear M1 hb15 g0 g1 c0 c1
    go_wp2_with fail
    refine M2.out.mono ?_
    rintro r w16 ⟨rfl, hb16⟩
    have HBE := hide (below_step HB0.out (below_step HB15.out hb16))
    clear M2 hb16
    go_wp2
    go_ret
    exact ⟨rfl, HBE.out⟩
end Go.Proofs.Ytcgdmonejogbaaa
