/- RotLess: its walk. -/
import Derived.Test.YtllkadgpkbaghaaE7
import Derived.Test.YtllkadgpkbaghaaY15
import Derived.Deep.DeepCutAuto
namespace Go.Proofs.Ytllkadgpkbaghaa
open Go.RowKit Go.Sort
open Go
theorem subE_err {n : Int} {es : List Pt} {l : List Int} (h : subE n es l = 0) : errL l es.length = 0 := by
  unfold subE at h
  split at h
  · exact h
  · exact absurd h (by decide)
/-- What Sub answers, refused or not. -/
theorem sub30u (n : Int) (p : Option Addr) (es : List Pt) (cp : Nat) (q : Option Addr) (rs : List (List Int)) (cq : Nat) (t : Option Addr) (l : List Int) (ct : Nat) (w : World) (h : Has w p es) (hr : RHas w q rs) (hl : l.length ≤ maxLen) (hk : IHas w t l) (hbad : ¬ (rotI n es rs = 0 ∧ subE n es l = 0)) : ∃ x : Int, x ≠ 0 ∧ Calls Try.prog 30 #[nv n p es.length cp, .slice q rs.length cq, .slice t l.length ct] w fun e w' => e = .returned (.tuple #[nv 0 none 0 0, .slice none 0 0, .int .i64 x]) ∧ Below w.heap.size w w' := by
  by_cases h0 : rotI n es rs = 0
  · have h1 : ¬ subE n es l = 0 := fun e => hbad ⟨h0, e⟩
    exact ⟨_, h1, sub30err n p es cp q rs cq t l ct w h hr hl hk h0 h1⟩
  · exact ⟨_, h0, sub30no n p es cp q rs cq t l ct w h hr h0⟩
set_option maxRecDepth 100000 in
set_option maxHeartbeats 16000000 in
theorem less_walk (n : Int) (p : Option Addr) (es : List Pt) (cp : Nat) (q t : Option Addr) (rs : List (List Int)) (l : List Int) (cq ct : Nat) (w : World) (h : Has w p es) (hr : RHas w q rs) (ht : IHas w t l) (lr : rs.length ≤ maxLen) (ll : l.length ≤ maxLen) : Calls Try.prog 6 #[nv n p es.length cp, .slice q rs.length cq, .slice t l.length ct] w fun e w' => e = .returned (.bool true) ∧ Below w.heap.size w w' := by
  obtain ⟨W0, hW, hb0, a0⟩ := one_net w n p es.length cp
  have BG := hide (begun8 W0)
  have HB0 := hide hb0
  have HA0 := hide a0
  have HH0 := hide (h.later hb0)
  have HR0 := hide (hr.later hb0)
  have HT0 := hide (ht.later hb0)
  have HLr := hide lr
  have HLl := hide ll
  unfold maxLen at lr ll
  clear h hr ht hb0 a0
  go_enter Try.func6, Try.ntmps6
  go_wp2_with fail
  rw [← hW]
  clear hW
  obtain ⟨kg, hkg⟩ : ∃ k, w.heap.size = k := ⟨_, rfl⟩
  have HKG := hide hkg
  rw [hkg] at HA0
  try rw [hkg]
  clear hkg
  refine BG.out.mono ?_
  rintro e w1 ⟨rfl, hb1⟩
  have HB1 := hide hb1
  have L1 := hide (light9r n p es cp q rs cq w1 (HH0.out.later hb1) (HR0.out.later hb1) HLr.out)
  obtain ⟨g0, g1, _, _⟩ := HA0.out.later hb1
  clear hb1 BG
  go_wp2_with fail
  refine L1.out.mono ?_
  rintro e w2 ⟨⟨x1, rfl⟩, hb2⟩
  have HB2 := hide (below_step HB1.out hb2)
  clear hb2 L1 g0 g1
  cases x1
  · go_wp2
    go_ret
    exact ⟨rfl, below_step HB0.out HB2.out⟩
  by_cases hl3 : 300 < l.length
  · have e1 : (300 : Int) < l.length := by omega
    go_wp2
    go_ret
    exact ⟨rfl, below_step HB0.out HB2.out⟩
  have e1 : ¬ (300 : Int) < l.length := by omega
  obtain ⟨g0, g1, _, _⟩ := HA0.out.later HB2.out
  by_cases hbad : ¬ (rotI n es rs = 0 ∧ subE n es l = 0)
  · obtain ⟨x, hx0, SE0⟩ := sub30u n p es cp q rs cq t l ct w2 (HH0.out.later HB2.out) (HR0.out.later HB2.out) HLl.out (HT0.out.later HB2.out) hbad
    have SE := hide SE0
    clear SE0
    have t1 : (x == 0) = false := by simp [hx0]
    go_wp2_with fail
    refine SE.out.mono ?_
    rintro e w11 ⟨rfl, hb11⟩
    have HB12 := hide (below_step HB0.out (below_step HB2.out hb11))
    clear hb11 SE g0 g1
    go_upto_region 6 with fail
    obtain ⟨U6, hU6⟩ : ∃ U, U = w11.alloc (nbx 0 none 0 0) := ⟨_, rfl⟩
    have HBU : Hid (Below w.heap.size w U6) := by show Below _ _ _; rw [hU6]; exact below_step HB12.out (by go_grown)
    have hK6 : NOwn U6 w11.heap.size 0 none 0 0 := by rw [hU6]; exact ⟨by go_cell, by go_cell, by simp [go_sem], by simp [go_sem]⟩
    rw [← hU6]
    obtain ⟨c0, c1, _, _⟩ := hK6
    clear hU6
    go_wp2
    go_ret
    exact ⟨rfl, HBU.out⟩
  have hgood : rotI n es rs = 0 ∧ subE n es l = 0 := Decidable.not_not.1 hbad
  obtain ⟨r0, hs⟩ := hgood
  have HRT := hide r0
  obtain ⟨n0, n1, hes, _⟩ := netB_is (rot_is r0).1
  have hrn : (rs.length : Int) = n := (rot_is r0).2.1
  obtain ⟨N, rfl⟩ : ∃ N : Nat, n = N := ⟨n.toNat, by omega⟩
  have herr := subE_err hs
  obtain ⟨s1, a, b, ea, eb, hab⟩ := genus_sub herr r0
  have hcomp : compN N es ≤ 10000 := by have := comp_le (rot_is r0).1; omega
  have hcomp2 : compN N (pick es l) ≤ 10000 := by have := comp_le (rot_is s1).1; omega
  have hlen2 : (pick es l).length = l.length := pick_length _ _
  obtain ⟨rs', hrs'⟩ : ∃ x, canonL (subL es rs l) = x := ⟨_, rfl⟩
  have hrl : rs'.length = rs.length := by rw [← hrs', canonL_length, subL_length]
  have hat : ∀ v, v < rs.length → turnL (rnL (plN l es.length l.length) (lat rs v)) = lat rs' v := fun v hv => by
    rw [← hrs', lat_canon (by rw [subL_length]; exact hv), subL_at hv]
    rfl
  rw [hrs'] at s1 eb
  have SB := hide (sub30 N p es cp q rs cq t l ct w2 (HH0.out.later HB2.out) (HR0.out.later HB2.out) HLl.out (HT0.out.later HB2.out) r0 hs)
  have HAT := hide hat
  have HS1 := hide s1
  have HEA := hide ea
  have HEB := hide eb
  have HAB := hide hab
  have HC2 := hide hcomp2
  have HC1 := hide hcomp
  have HRL := hide hrl
  have HL2 := hide hlen2
  clear r0 hs hbad hrn n0 n1 herr s1 ea eb hab hrs' hat hcomp hcomp2 hrl hlen2
  go_wp2_with fail
  refine SB.out.mono ?_
  rintro e w3 ⟨gx, gy, rvy, rfl, hpx, hry, hb3⟩
  clear SB g0 g1
  have hy' : RHas w3 (some ⟨gy, 0, none⟩) rs' := hry.has HRL.out HAT.out (fun v hv => by have := (rot_bounds HS1.out).2 v (by rw [HRL.out]; exact hv); unfold maxLen; omega)
  go_upto_region 6 with fail
  obtain ⟨U6, hU6⟩ : ∃ U, U = w3.alloc (nbx N (some ⟨gx, 0, none⟩) l.length l.length) := ⟨_, rfl⟩
  have hbU6 : Below w3.heap.size w3 U6 := by rw [hU6]; go_grown
  have HK6 : Hid (NOwn U6 w3.heap.size N (some ⟨gx, 0, none⟩) l.length l.length) := by show NOwn _ _ _ _ _ _; rw [hU6]; exact ⟨by go_cell, by go_cell, by simp [go_sem], by simp [go_sem]⟩
  rw [← hU6]
  have HX := hide (hpx.has.later hbU6)
  have HY := hide (hy'.later hbU6)
  have HB12 := hide (below_step HB2.out (below_step hb3 hbU6))
  clear hU6 hbU6 hb3 hpx hry hy'
  obtain ⟨k6, hk6⟩ : ∃ k, w3.heap.size = k := ⟨_, rfl⟩
  rw [hk6] at HK6 ⊢
  clear hk6
  have G1 := genus22 N p es cp q rs cq U6 (HH0.out.later HB12.out) (HR0.out.later HB12.out) HRT.out HC1.out
  rw [HEA.out] at G1
  have G1 := hide G1
  obtain ⟨g0, g1, _, _⟩ := HA0.out.later HB12.out
  go_wp2_with fail
  refine G1.out.mono ?_
  rintro e w12 ⟨rfl, hb12⟩
  have HV12 := hide hb12
  have HB13 := hide (below_step HB12.out hb12)
  clear hb12 G1 g0 g1
  have G2 := genus22 N (some ⟨gx, 0, none⟩) (pick es l) l.length (some ⟨gy, 0, none⟩) rs' rs.length w12 (HX.out.later HV12.out) (HY.out.later HV12.out) HS1.out HC2.out
  rw [HL2.out, HRL.out, HEB.out] at G2
  have G2 := hide G2
  obtain ⟨c0, c1, _, _⟩ := HK6.out.later HV12.out
  go_wp2_with fail
  refine G2.out.mono ?_
  rintro e w13 ⟨rfl, hb13⟩
  have HB14 := hide (below_step HB0.out (below_step HB13.out hb13))
  clear hb13 G2 c0 c1
  have i1 : (b : Int) ≤ a := by have := HAB.out; omega
  have i2 : (0 : Int) ≤ b := by omega
  go_wp2
  go_ret
  exact ⟨rfl, HB14.out⟩
end Go.Proofs.Ytllkadgpkbaghaa
