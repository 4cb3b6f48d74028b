/- One form for what each call answers. -/
import Derived.Test.YtmmbbfmkhbengaaK2
import Derived.Test.YtmmbbfmkhbengaaK3
import Derived.Test.YtmmbbfmkhbengaaY4
import Derived.Test.YtmmbbfmkhbengaaW2
import Derived.Test.YtmmbbfmkhbengaaV3
import Derived.Test.YtmmbbfmkhbengaaM5
import Derived.Test.YtmmbbfmkhbengaaT3
namespace Go.Proofs.Ytmmbbfmkhbengaa
open Go.RowKit Go.Sort
open Go

theorem prow_owns {w : World} {base g n : Nat} {ps : List Pt} (h : PRow w base g n ps) : Owns w base (.slice (some ⟨g, 0, none⟩) ps.length n) ps := h.2
def outE (n : Int) (es : List Pt) (v : Int) : Int := if netB n es then (if belowB v n then 0 else 2) else 1
def outA (n : Int) (es : List Pt) (v : Int) : List Int := if netB n es && belowB v n then outN es v es.length else []
theorem out26u (n : Int) (p : Option Addr) (es : List Pt) (cp : Nat) (v : Int) (w : World) (h : Has w p es) : Calls Try.prog 26 #[nv n p es.length cp, .int .i64 v] w fun e w' => ∃ s, e = .returned (.tuple #[s, .int .i64 (outE n es v)]) ∧ IOwns w' w.heap.size s (outA n es v) ∧ Below w.heap.size w w' := by
  refine (out26 n p es cp v w h).mono ?_
  rintro e w' ⟨⟨a, b, s, rfl, o⟩ | ⟨a, b, rfl⟩ | ⟨a, rfl⟩, hb⟩
  · exact ⟨s, by simp [outE, a, b], by simp [outA, a, b]; exact o, hb⟩
  · exact ⟨_, by simp [outE, a, b]; rfl, by simp [outA, a, b]; exact IOwns.nil _ _, hb⟩
  · exact ⟨_, by simp [outE, a]; rfl, by simp [outA, a]; exact IOwns.nil _ _, hb⟩
def degE (n : Int) (es : List Pt) : Int := if netB n es then 0 else 1
def degA (n : Int) (es : List Pt) : List Int := if netB n es then degN es n.toNat es.length else []
theorem deg25u (n : Int) (p : Option Addr) (es : List Pt) (cp : Nat) (w : World) (h : Has w p es) : Calls Try.prog 25 #[nv n p es.length cp] w fun e w' => ∃ s, e = .returned (.tuple #[s, .int .i64 (degE n es)]) ∧ IOwns w' w.heap.size s (degA n es) ∧ Below w.heap.size w w' := by
  refine (degrees25 n p es cp w h).mono ?_
  rintro e w' ⟨⟨a, g, rfl, o⟩ | ⟨a, rfl⟩, hb⟩
  · exact ⟨_, by simp [degE, a]; rfl, by simp [degA, a]; exact o.owns, hb⟩
  · exact ⟨_, by simp [degE, a]; rfl, by simp [degA, a]; exact IOwns.nil _ _, hb⟩
/-- What Look tells. -/
structure Lk where
  a : Int
  b : Int
  c : Int
  d : Int
  s : Bool
def lookA (n : Int) (es : List Pt) : Lk := if netB n es then ⟨loopsI es, parI es, leastI n.toNat es, mostI n.toNat es, simpleB es⟩ else ⟨0, 0, 0, 0, false⟩
abbrev lkV (l : Lk) : Value := lv l.a l.b l.c l.d l.s
theorem look33u (n : Int) (p : Option Addr) (es : List Pt) (cp : Nat) (w : World) (h : Has w p es) : Calls Try.prog 33 #[nv n p es.length cp] w fun e w' => e = .returned (.tuple #[lkV (lookA n es), .int .i64 (degE n es)]) ∧ Below w.heap.size w w' := by
  refine (look33 n p es cp w h).mono ?_
  rintro e w' ⟨⟨a, rfl⟩ | ⟨a, rfl⟩, hb⟩
  · exact ⟨by simp [degE, lookA, a], hb⟩
  · exact ⟨by simp [degE, lookA, a], hb⟩
def spN (n : Int) (es : List Pt) (e : Int) : Int := if splitE n es e = 0 then n + 1 else 0
def spA (n : Int) (es : List Pt) (e : Int) : List Pt := if splitE n es e = 0 then splitL n es e.toNat else []
theorem split29u (n : Int) (p : Option Addr) (es : List Pt) (cp : Nat) (e0 : Int) (w : World) (h : Has w p es) : Calls Try.prog 29 #[nv n p es.length cp, .int .i64 e0] w fun e w' => ∃ q c, e = .returned (.tuple #[nv (spN n es e0) q (spA n es e0).length c, .int .i64 (splitE n es e0)]) ∧ Owns w' w.heap.size (.slice q (spA n es e0).length c) (spA n es e0) ∧ Below w.heap.size w w' := by
  refine (split29 n p es cp e0 w h).mono ?_
  rintro e w' ⟨⟨a, g, rfl, o⟩ | ⟨a, rfl⟩, hb⟩
  · have hl : (spA n es e0).length = es.length + 1 := by unfold spA; rw [if_pos a, splitL_length]
    refine ⟨some ⟨g, 0, none⟩, es.length + 1, by rw [hl, a]; simp [spN, a], ?_, hb⟩
    have o' := prow_owns o
    unfold spA
    rw [if_pos a]
    exact o'
  · exact ⟨none, 0, by simp [spN, spA, a], by simp [spA, a]; exact Owns.nil _ _, hb⟩
def baN (n : Int) (es : List Pt) : Int := if netB n es then n else 0
def baL (n : Int) (es : List Pt) : List Int := if netB n es then bareL es else []
def baA (n : Int) (es : List Pt) : List Pt := pick es (baL n es)
theorem bare32u (n : Int) (p : Option Addr) (es : List Pt) (cp : Nat) (w : World) (h : Has w p es) : Calls Try.prog 32 #[nv n p es.length cp] w fun e w' => ∃ q c s, e = .returned (.tuple #[nv (baN n es) q (baA n es).length c, s, .int .i64 (degE n es)]) ∧ Owns w' w.heap.size (.slice q (baA n es).length c) (baA n es) ∧ IOwns w' w.heap.size s (baL n es) ∧ Below w.heap.size w w' := by
  refine (bare32 n p es cp w h).mono ?_
  rintro e w' ⟨⟨a, g, v, rfl, o, k⟩ | ⟨a, rfl⟩, hb⟩
  · have hl : (baA n es).length = (bareL es).length := by unfold baA baL; rw [if_pos a, pick_length]
    refine ⟨some ⟨g, 0, none⟩, (bareL es).length, v, by rw [hl]; simp [baN, degE, a], ?_, by unfold baL; rw [if_pos a]; exact k, hb⟩
    have o' := prow_owns o
    unfold baA baL
    rw [if_pos a]
    exact o'
  · have hl : baL n es = [] := by unfold baL; rw [if_neg (by rw [a]; simp)]
    refine ⟨none, 0, .slice none 0 0, by simp [baN, baA, hl, degE, a, pick], ?_, by rw [hl]; exact IOwns.nil _ _, hb⟩
    unfold baA
    rw [hl]
    exact Owns.nil _ _
def suN (n : Int) (es : List Pt) (l : List Int) : Int := if subE n es l = 0 then n else 0
def suA (n : Int) (es : List Pt) (l : List Int) : List Pt := if subE n es l = 0 then pick es l else []
theorem sub27u (n : Int) (p q : Option Addr) (es : List Pt) (l : List Int) (cp cq : Nat) (w : World) (hl : l.length ≤ maxLen) (h : Has w p es) (k : IHas w q l) : Calls Try.prog 27 #[nv n p es.length cp, .slice q l.length cq] w fun e w' => ∃ q c, e = .returned (.tuple #[nv (suN n es l) q (suA n es l).length c, .int .i64 (subE n es l)]) ∧ Owns w' w.heap.size (.slice q (suA n es l).length c) (suA n es l) ∧ Below w.heap.size w w' := by
  refine (sub27 n p q es l cp cq w hl h k).mono ?_
  rintro e w' ⟨⟨a, g, rfl, o⟩ | ⟨a, rfl⟩, hb⟩
  · have hl : (suA n es l).length = l.length := by unfold suA; rw [if_pos a, pick_length]
    refine ⟨some ⟨g, 0, none⟩, l.length, by rw [hl, a]; simp [suN, a], ?_, hb⟩
    have o' := prow_owns o
    unfold suA
    rw [if_pos a]
    exact o'
  · exact ⟨none, 0, by simp [suN, suA, a], by simp [suA, a]; exact Owns.nil _ _, hb⟩
def paN (n : Int) (es : List Pt) (l : List Int) : Int := if partE n es l = 0 then l.length else 0
def paA (n : Int) (es : List Pt) (l : List Int) : List Pt := if partE n es l = 0 then partN n es l else []
def paL (n : Int) (es : List Pt) (l : List Int) : List Int := if partE n es l = 0 then which es (placesOf n l) else []
theorem part28u (n : Int) (p q : Option Addr) (es : List Pt) (l : List Int) (cp cq : Nat) (w : World) (hl : l.length ≤ maxLen) (h : Has w p es) (k : IHas w q l) : Calls Try.prog 28 #[nv n p es.length cp, .slice q l.length cq] w fun e w' => ∃ q c s, e = .returned (.tuple #[nv (paN n es l) q (paA n es l).length c, s, .int .i64 (partE n es l)]) ∧ Owns w' w.heap.size (.slice q (paA n es l).length c) (paA n es l) ∧ IOwns w' w.heap.size s (paL n es l) ∧ Below w.heap.size w w' := by
  refine (part28 n p q es l cp cq w hl h k).mono ?_
  rintro e w' ⟨⟨a, g, v, rfl, o, k⟩ | ⟨a, rfl⟩, hb⟩
  · refine ⟨some ⟨g, 0, none⟩, (partN n es l).length, v, by simp [paN, paA, a], ?_, by unfold paL; rw [if_pos a]; exact k, hb⟩
    unfold paA
    rw [if_pos a]
    exact prow_owns o
  · exact ⟨none, 0, .slice none 0 0, by simp [paN, paA, a], by simp [paA, a]; exact Owns.nil _ _, by simp [paL, a]; exact IOwns.nil _ _, hb⟩
def meN (n : Int) (es : List Pt) (u v : Int) : Int := if mergE n es u v = 0 then n - 1 else 0
def meL (n : Int) (es : List Pt) (u v : Int) : List Int := if mergE n es u v = 0 then mergeL n.toNat u.toNat v.toNat else []
def meA (n : Int) (es : List Pt) (u v : Int) : List Pt := if mergE n es u v = 0 then rename es (mergeL n.toNat u.toNat v.toNat) else []
theorem merge31u (n : Int) (p : Option Addr) (es : List Pt) (cp : Nat) (u v : Int) (w : World) (h : Has w p es) : Calls Try.prog 31 #[nv n p es.length cp, .int .i64 u, .int .i64 v] w fun e w' => ∃ q c s, e = .returned (.tuple #[nv (meN n es u v) q (meA n es u v).length c, s, .int .i64 (mergE n es u v)]) ∧ Owns w' w.heap.size (.slice q (meA n es u v).length c) (meA n es u v) ∧ IOwns w' w.heap.size s (meL n es u v) ∧ Below w.heap.size w w' := by
  refine (merge31 n p es cp u v w h).mono ?_
  rintro e w' ⟨⟨a, g, h2, rfl, o, k⟩ | ⟨a, rfl⟩, hb⟩
  · have hl : (meA n es u v).length = es.length := by unfold meA; rw [if_pos a, rename_length]
    refine ⟨some ⟨g, 0, none⟩, es.length, _, by rw [hl]; simp [meN, a]; rfl, ?_, by unfold meL; rw [if_pos a]; exact k.owns, hb⟩
    unfold meA
    rw [if_pos a]
    exact prow_owns o
  · exact ⟨none, 0, .slice none 0 0, by simp [meN, meA, a], by simp [meA, a]; exact Owns.nil _ _, by simp [meL, a]; exact IOwns.nil _ _, hb⟩
/-- The document's Merge. -/
theorem merge46u (m : Nat) (p : Option Addr) (es : List Pt) (cp : Nat) (u v : Int) (w : World) (h : Has w p es) (hm : netB m es = true) : Calls Try.prog 46 #[nv m p es.length cp, .int .i64 u, .int .i64 v] w fun e w' => ∃ q c s, e = .returned (.tuple #[nv (meN m es u v) q (meA m es u v).length c, s, .int .i64 (mergE m es u v)]) ∧ Owns w' w.heap.size (.slice q (meA m es u v).length c) (meA m es u v) ∧ IOwns w' w.heap.size s (meL m es u v) ∧ Below w.heap.size w w' := by
  by_cases a : mergE m es u v = 0
  · obtain ⟨_, hu, hv, huv⟩ := mergE_is a
    obtain ⟨u', rfl⟩ : ∃ u' : Nat, u = u' := ⟨u.toNat, by omega⟩
    obtain ⟨v', rfl⟩ : ∃ v' : Nat, v = v' := ⟨v.toNat, by omega⟩
    refine (merge46yes m u' v' p es cp w h hm (by omega) (by omega) (by omega)).mono ?_
    rintro e w' ⟨⟨q, c, s, rfl, o, k⟩, hb⟩
    have hl : (meA m es u' v').length = es.length := by unfold meA; rw [if_pos a, rename_length]
    refine ⟨q, c, s, by rw [hl]; simp [meN, a], ?_, ?_, hb⟩
    · rw [hl]
      unfold meA
      rw [if_pos a, Int.toNat_natCast, Int.toNat_natCast, Int.toNat_natCast]
      exact o
    · unfold meL
      rw [if_pos a, Int.toNat_natCast, Int.toNat_natCast, Int.toNat_natCast]
      exact k
  · refine (merge46no m p es cp u v w hm a).mono ?_
    rintro e w' ⟨rfl, hb⟩
    exact ⟨none, 0, .slice none 0 0, by simp [meN, meA, a], by simp [meA, a]; exact Owns.nil _ _, by simp [meL, a]; exact IOwns.nil _ _, hb⟩
/-- The document's Part. -/
theorem part45u (m : Nat) (p q : Option Addr) (es : List Pt) (l : List Int) (cp cq : Nat) (w : World) (hl : l.length ≤ 90000) (h : Has w p es) (hq : IHas w q l) (hm : netB m es = true) : Calls Try.prog 45 #[nv m p es.length cp, .slice q l.length cq] w fun e w' => ∃ q c s, e = .returned (.tuple #[nv (paN m es l) q (paA m es l).length c, s, .int .i64 (partE m es l)]) ∧ Owns w' w.heap.size (.slice q (paA m es l).length c) (paA m es l) ∧ IOwns w' w.heap.size s (paL m es l) ∧ Below w.heap.size w w' := by
  have hE : partE m es l = errL l m := by unfold partE; rw [if_pos hm]
  refine (part45 m p q es l cp cq w hl h hq hm).mono ?_
  rintro e w' ⟨⟨a, q, c, s, rfl, o, k⟩ | ⟨a, rfl⟩, hb⟩
  · rw [← hE] at a
    refine ⟨q, c, s, by simp [paN, paA, a], ?_, by unfold paL; rw [if_pos a]; exact k, hb⟩
    unfold paA
    rw [if_pos a]
    exact o
  · rw [← hE] at a ⊢
    exact ⟨none, 0, .slice none 0 0, by simp [paN, paA, a], by simp [paA, a]; exact Owns.nil _ _, by simp [paL, a]; exact IOwns.nil _ _, hb⟩
set_option maxRecDepth 100000 in
set_option maxHeartbeats 8000000 in
/-- The document's Sub, where it refuses. -/
theorem sub44no (n : Int) (p q : Option Addr) (es : List Pt) (l : List Int) (cp cq : Nat) (w : World) (hlen : l.length ≤ 90000) (hc : errL l es.length ≠ 0) (hq : IHas w q l) : Calls Try.prog 44 #[nv n p es.length cp, .slice q l.length cq] w fun e w' => e = .returned (.tuple #[nv 0 none 0 0, .int .i64 (errL l es.length)]) ∧ Below w.heap.size w w' := by
  obtain ⟨W, hW, hb, a0, b0⟩ := two_nets w n p es.length cp
  have C1 := hide (chosen52 q l cq es.length W (by unfold maxLen; omega) (hq.later hb))
  have HB := hide hb
  have HN := hide b0
  obtain ⟨er, her⟩ : ∃ er, errL l es.length = er := ⟨_, rfl⟩
  rw [her] at hc C1 ⊢
  have t1 : (er == 0) = false := by simp [hc]
  have t2 : (er != 0) = true := by simp [hc]
  clear hq hb a0 b0 her
  go_enter Try.func44, Try.ntmps44
  go_wp2_with fail
  rw [← hW]
  clear hW
  refine C1.out.mono ?_
  rintro e w1 ⟨rfl, hb1⟩
  have HB1 := hide (below_step HB.out hb1)
  have HN1 := hide (HN.out.later hb1)
  obtain ⟨n0, n1, n2, n3⟩ := HN1.out
  clear C1 hb1
  go_wp2_with fail
  refine bodyPost_ret (ret_net Try.results44 rfl rfl (by first | exact HN1.out | exact HN1.out.set _ _ _ _)) rfl ⟨rfl, ?_⟩
  first | exact HB1.out | exact (HB1.out.setCell (p := ⟨w.heap.size + 1, 0, none⟩) (by simp) _).setCell (p := ⟨w.heap.size + 1, 1, none⟩) (by simp) _
theorem sub44u (m : Nat) (p q : Option Addr) (es : List Pt) (l : List Int) (cp cq : Nat) (w : World) (hlen : l.length ≤ 90000) (h : Has w p es) (hq : IHas w q l) (hm : netB m es = true) : Calls Try.prog 44 #[nv m p es.length cp, .slice q l.length cq] w fun e w' => ∃ q c, e = .returned (.tuple #[nv (suN m es l) q (suA m es l).length c, .int .i64 (subE m es l)]) ∧ Owns w' w.heap.size (.slice q (suA m es l).length c) (suA m es l) ∧ Below w.heap.size w w' := by
  have hE : subE m es l = errL l es.length := by unfold subE; rw [if_pos hm]
  by_cases a : errL l es.length = 0
  · refine (sub50 m p q es l cp cq w hlen a (fun j hj => (chk_zero (errN_all _ a j hj)).1) h hq).mono ?_
    rintro e w' ⟨q', c, rfl, o, hb⟩
    rw [← hE] at a
    have hl : (suA m es l).length = l.length := by unfold suA; rw [if_pos a, pick_length]
    refine ⟨q', c, by rw [hl, a]; simp [suN, a], ?_, hb⟩
    rw [hl]
    unfold suA
    rw [if_pos a]
    exact o
  · refine (sub44no m p q es l cp cq w hlen a hq).mono ?_
    rintro e w' ⟨rfl, hb⟩
    rw [← hE] at a ⊢
    exact ⟨none, 0, by simp [suN, suA, a], by simp [suA, a]; exact Owns.nil _ _, hb⟩
set_option maxRecDepth 100000 in
set_option maxHeartbeats 8000000 in
/-- The document's Split, beyond the edges. -/
theorem split39no (m : Nat) (p : Option Addr) (es : List Pt) (cp : Nat) (e0 : Int) (w : World) (hno : ¬ (0 ≤ e0 ∧ e0 < es.length)) : Calls Try.prog 39 #[nv m p es.length cp, .int .i64 e0] w fun e w' => e = .returned (.tuple #[nv 0 none 0 0, .int .i64 2]) ∧ Below w.heap.size w w' := by
  obtain ⟨W, hW, hb, a0, b0⟩ := two_nets w m p es.length cp
  have HB := hide hb
  have HN := hide b0
  obtain ⟨q0, q1, _, _⟩ := a0
  obtain ⟨z0, z1, z2, z3⟩ := b0
  clear hb
  have key : e0 < 0 ∨ (¬ e0 < 0 ∧ e0 ≥ es.length) := by omega
  go_enter Try.func39, Try.ntmps39
  rcases key with h1 | ⟨h1, h2⟩
  all_goals
    go_wp2_with fail
    rw [← hW]
    clear hW
    go_wp2_with fail
    refine bodyPost_ret (ret_net Try.results39 rfl rfl (by first | exact HN.out | exact HN.out.set _ _ _ _)) rfl ⟨rfl, ?_⟩
    first | exact HB.out | exact (HB.out.setCell (p := ⟨w.heap.size + 1, 0, none⟩) (by simp) _).setCell (p := ⟨w.heap.size + 1, 1, none⟩) (by simp) _
theorem split39u (m : Nat) (p : Option Addr) (es : List Pt) (cp : Nat) (e0 : Int) (w : World) (h : Has w p es) (hnil : p = none → cp = 0) (hm : netB m es = true) (h1 : m ≤ 300) (h2 : es.length ≤ 300) : Calls Try.prog 39 #[nv m p es.length cp, .int .i64 e0] w fun e w' => ∃ q c, e = .returned (.tuple #[nv (spN m es e0) q (spA m es e0).length c, .int .i64 (splitE m es e0)]) ∧ Owns w' w.heap.size (.slice q (spA m es e0).length c) (spA m es e0) ∧ Below w.heap.size w w' := by
  by_cases hin : 0 ≤ e0 ∧ e0 < es.length
  · have a : splitE m es e0 = 0 := by
      unfold splitE
      rw [if_pos hm, if_pos (by simp [belowB, hin]), if_pos (by simp [fitsB]; omega)]
    obtain ⟨b, rfl⟩ : ∃ b : Nat, e0 = b := ⟨e0.toNat, by omega⟩
    refine (split8 m p es cp b w h hnil hm (by omega) (by omega) (by omega)).mono ?_
    rintro e w' ⟨q, c, rfl, o, hb⟩
    have hl : (spA m es b).length = es.length + 1 := by unfold spA; rw [if_pos a, splitL_length]
    refine ⟨q, c, by rw [hl, a]; simp [spN, a], ?_, hb⟩
    unfold spA
    rw [if_pos a, Int.toNat_natCast]
    exact o
  · have a : splitE m es e0 = 2 := by
      unfold splitE
      rw [if_pos hm, if_neg (by simp [belowB]; omega)]
    refine (split39no m p es cp e0 w hin).mono ?_
    rintro e w' ⟨rfl, hb⟩
    exact ⟨none, 0, by simp [spN, spA, a], by simp [spA, a]; exact Owns.nil _ _, hb⟩
end Go.Proofs.Ytmmbbfmkhbengaa
