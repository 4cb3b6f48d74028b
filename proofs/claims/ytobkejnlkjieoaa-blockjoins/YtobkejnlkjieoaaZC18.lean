/- The walk goes over an edge. -/
import Derived.Test.YtobkejnlkjieoaaZC17
namespace Go.Proofs.Ytobkejnlkjieoaa
open Go.RowKit Go.Sort
open Go
section
variable {B k n : Nat} {p : Option Addr} {es : List Pt} {cp gr gp gl go cs cc co gof : Nat} {rv : Nat → Value}
theorem nums_push (l : List Nat) (x : Nat) : ((l ++ [x]).map fun (x : Nat) => (x : Int)) = (l.map fun (x : Nat) => (x : Int)) ++ [(x : Int)] := by simp
set_option maxRecDepth 100000 in
set_option maxHeartbeats 8000000 in
theorem goOver75 {w : World} {vt vo : Value} {s : BS} {h : Nat} (hp : PM w B k n p es cp gr gp gl go cs cc co gof rv vt vo s) (hh : Has w p es) (hm : netB n es = true) (hl : h < 2 * es.length) (hn : s.ov (h / 2) = false) (hnod : s.op.Nodup) (hin : ∀ e ∈ s.op, e < es.length ∧ s.ov e = true) (hc : s.ct ≤ 90000) (hol : s.op.length ≤ 80000) (htl : s.tr.length ≤ 80000) (hfd : s.fd ≤ 90000) : Calls Try.prog 75 #[.pointer (some ⟨k, 0, none⟩), .int .i64 h] w fun e w' => e = .returned (.int .i64 ((goOverB es h s).2 : Nat)) ∧ (∃ vt' vo', PM w' B k n p es cp gr gp gl go cs cc co gof rv vt' vo' (goOverB es h s).1) ∧ Frame w w' (fun b => B ≤ b) := by
  obtain ⟨n0, n1, hes, hE⟩ := netB_is hm
  have hf1 := fromL_in hm h hl
  have hg1 := toL_in hm h hl
  obtain ⟨x, hx⟩ : ∃ x : Nat, fromL es h = x := ⟨(fromL es h).toNat, by omega⟩
  obtain ⟨y, hy⟩ : ∃ y : Nat, toL es h = y := ⟨(toL es h).toNat, by omega⟩
  have hxn : x < n := by omega
  have hyn : y < n := by omega
  have hfx : fN es h = x := by unfold fN; rw [hx]; simp
  have hgy : gN es h = y := by unfold gN; rw [hy]; simp
  have CL : ∀ dd os, Calls Try.prog 85 #[nv n p es.length cp, .int .i64 h] (grow (redrawn w dd) os) fun e w'' => e = .returned (.int .i64 x) ∧ ∃ p : Regrown, w'' = grow (redrawn w p.d) p.os := fun dd os => Calls.regrown_of (by rw [← hx]; exact leaves85 n p es cp h _ (hh.later (below_regrown w dd os)) hl (by omega))
  have CT : ∀ dd os, Calls Try.prog 70 #[nv n p es.length cp, .int .i64 h] (grow (redrawn w dd) os) fun e w'' => e = .returned (.int .i64 y) ∧ ∃ p : Regrown, w'' = grow (redrawn w p.d) p.os := fun dd os => Calls.regrown_of (by rw [← hy]; exact comes54 n p es cp h _ (hh.later (below_regrown w dd os)) hl (by omega))
  have HP := hide hp
  have HI := hide hin
  have HN := hide hnod
  have HFX := hide hfx
  have HGY := hide hgy
  have HNV := hide hn
  obtain ⟨c0, _⟩ := hp.sm.cell 0 (by omega)
  obtain ⟨c1, _⟩ := hp.sm.cell 1 (by omega)
  simp only [List.getElem?_cons_succ, List.getElem?_cons_zero] at c0 c1
  have c0r := cell_regrown c0
  have c1r := cell_regrown c1
  have hd : Int.tdiv (h : Int) 2 = ((h / 2 : Nat) : Int) := by rw [Int.tdiv_eq_ediv_of_nonneg (by omega)]; exact (Int.natCast_ediv h 2).symm
  have hed : h / 2 < es.length := by omega
  obtain ⟨d, hdd⟩ : ∃ d, h / 2 = d := ⟨_, rfl⟩
  have HD := hide hdd
  rw [hdd] at hd hed
  have hb2 := hp.sizes.1
  clear hp hh hE hf1 hg1 hx hy hfx hgy hnod hin hn hdd hl
  go_enter Try.func75, Try.ntmps75
  go_upto_region 1 with fail
  refine wp_region_quiet_below (by kernel_rfl) (by kernel_rfl) ?_
  repeat (go_big_quiet_step (first | with_reducible exact CL _ _ | with_reducible exact CT _ _))
  refine wpQuiet_nil ?_
  intro w1 hw'
  have HB1 : Hid (Below w.heap.size w w1) := by
    obtain ⟨⟨dq, osq⟩, hw''⟩ := hw'
    rw [hw'']
    exact below_regrown w dq osq
  have HP1 := hide (HP.out.later HB1.out)
  clear hw' CL CT c0 c1 c0r c1r
  obtain ⟨c5, _⟩ := HP1.out.sm.cell 5 (by omega)
  simp only [List.getElem?_cons_succ, List.getElem?_cons_zero] at c5
  obtain ⟨o0, o1⟩ := HP1.out.sm.ov.cell hed
  obtain ⟨b0, hb0⟩ : ∃ z, s.ov d = z := ⟨_, rfl⟩
  rw [hb0] at o0
  have hed1 : (d : Int) < es.length := by omega
  obtain ⟨U, hU⟩ : ∃ U, U = w1.setCell ⟨go, d, none⟩ (.bool true) := ⟨_, rfl⟩
  have HP2 : Hid (PM U B k n p es cp gr gp gl go cs cc co gof rv vt vo { s with ov := upd s.ov d true }) := by
    show PM _ _ _ _ _ _ _ _ _ _ _ _ _ _ _ _ _ _ _
    rw [hU]
    exact HP1.out.setOver hed
  have HF2 : Hid (Frame w U (fun b => B ≤ b)) := by
    show Frame _ _ _
    rw [hU]
    exact (Frame.of_below HB1.out _).trans (Frame.set _ _ _ HP1.out.sizes.2.2.2.1)
  go_upto_region 3 with fail
  rw [← hU]
  clear hU c5 o0 o1 hb0
  obtain ⟨c8, f8⟩ := HP2.out.sm.cell 8 (by omega)
  simp only [List.getElem?_cons_succ, List.getElem?_cons_zero] at c8
  obtain ⟨Z, hZ⟩ : ∃ Z, Z = U.alloc (.cells #[.int .i64 (d : Int)] 3) := ⟨_, rfl⟩
  have hbZ : Below U.heap.size U Z := by rw [hZ]; go_grown
  have hlit : Z.cell? ⟨U.heap.size, 0, none⟩ = some (.int .i64 (d : Int)) := by rw [hZ]; exact one_int _ _
  have HP3 := HP2.out.later hbZ
  obtain ⟨v1, D, e1, o1, gr1, at1⟩ := append_int HP3.sm.op hlit HP3.sizes.2.2.2.2.2.2.2.1 (by rw [List.length_map]; show s.op.length ≤ 90000; omega)
  obtain ⟨p1, l1, c1, rfl⟩ : ∃ p1 l1 c1, v1 = .slice p1 l1 c1 := by obtain ⟨p1, c1, h1, _⟩ := o1.form; exact ⟨_, _, _, h1⟩
  rw [← nums_push] at o1
  obtain ⟨HP4, hF4⟩ := HP3.pushO gr1 o1 at1
  have HP4' : Hid (PM (D.setCell ⟨k, 8, none⟩ (.slice p1 l1 c1)) B k n p es cp gr gp gl go cs cc co gof rv vt (.slice p1 l1 c1) (overB h s)) := by
    show PM _ _ _ _ _ _ _ _ _ _ _ _ _ _ _ _ _ _ _
    unfold overB
    rw [HD.out]
    exact HP4
  have HF4 : Hid (Frame w (D.setCell ⟨k, 8, none⟩ (.slice p1 l1 c1)) (fun b => B ≤ b)) := (HF2.out.trans (Frame.of_below hbZ _)).trans hF4
  have kb : k < U.heap.size := HP2.out.sizes.2.2.2.2.2.2.2.2
  have kne : vo.ownBlock ≠ some k := HP2.out.sm.nes.2.2.2.1
  have y0 := later hbZ c8
  have y1 := laterF hbZ c8 f8
  obtain ⟨y2, y3⟩ := grown_cell gr1 y0 kne
  rw [y1] at y3
  have kd : k < D.heap.size := block_lt_of_cell y2
  rw [hZ] at e1
  clear HP3 HP4 hF4 hlit hbZ hZ gr1 at1 o1 y0 y1 f8
  go_upto_region 4 with (at_builtin; refine wpList_run_append rfl (.tmp 30) (.tmp 33) 32 rfl 32 rfl _ _ _ D rfl rfl e1 ?_)
  clear e1 c8
  obtain ⟨V, hV⟩ : ∃ V, V = D.setCell ⟨k, 8, none⟩ (.slice p1 l1 c1) := ⟨_, rfl⟩
  rw [← hV] at HP4' HF4
  rw [← hV]
  clear hV y2 y3
  by_cases hxy : x = y
  · subst hxy
    obtain ⟨c9, _⟩ := HP4'.out.sm.cell 9 (by omega)
    simp only [List.getElem?_cons_succ, List.getElem?_cons_zero] at c9
    unfold shV at c9
    have CS := hide (shut58 (f := d) HP4'.out (by show d ∈ s.op ++ [h / 2]; rw [HD.out]; simp) (by
      show (s.op ++ [h / 2]).Nodup
      rw [List.nodup_append]
      refine ⟨HN.out, by simp, fun a ha b hb e => ?_⟩
      simp at hb
      have h1 := (HI.out a ha).2
      rw [e, hb, HNV.out] at h1
      cases h1) (fun e he => by
      have he' : e ∈ s.op ++ [h / 2] := he
      rcases List.mem_append.1 he' with k | k
      · exact (HI.out e k).1
      · simp at k
        rw [k, HD.out]; exact hed) (by show s.ct ≤ 100000; omega) (by show (s.op ++ [h / 2]).length ≤ 100000; simp; omega))
    have HR : Hid (goOverB es h s = (shutB d (overB h s), x)) := by
      show _ = _
      unfold goOverB
      rw [HFX.out, HGY.out, if_pos rfl, HD.out]
    go_wp2_with fail
    refine CS.out.mono ?_
    rintro e w3 ⟨rfl, ⟨vo3, h3⟩, h4⟩
    have HP5 := hide h3
    have HF5 := hide (HF4.out.trans h4)
    clear h3 h4 CS c9
    go_wp2
    go_ret
    exact ⟨retI (by rw [HR.out]), ⟨_, _, by rw [HR.out]; exact HP5.out⟩, HF5.out⟩
  · obtain ⟨c2, _⟩ := HP4'.out.sm.cell 2 (by omega)
    obtain ⟨c3, _⟩ := HP4'.out.sm.cell 3 (by omega)
    obtain ⟨c4, _⟩ := HP4'.out.sm.cell 4 (by omega)
    simp only [List.getElem?_cons_succ, List.getElem?_cons_zero] at c2 c3 c4
    obtain ⟨q0, _⟩ := HP4'.out.sm.pl.cell hyn
    obtain ⟨q1, q2⟩ := HP4'.out.sm.lw.cell hxn
    rw [fnL_at _ hyn] at q0
    rw [fnL_at _ hxn] at q1
    obtain ⟨py, hpy⟩ : ∃ z, s.pl y = z := ⟨_, rfl⟩
    obtain ⟨lx, hlx⟩ : ∃ z, s.lw x = z := ⟨_, rfl⟩
    have q0' : V.cell? ⟨gp, y, none⟩ = some (.int .i64 py) := by rw [← hpy]; exact q0
    have q1' : V.cell? ⟨gl, x, none⟩ = some (.int .i64 lx) := by rw [← hlx]; exact q1
    have HPY := hide hpy
    have HLX := hide hlx
    have i1 : (x : Int) < n := by omega
    have i2 : (y : Int) < n := by omega
    have i3 : (0 : Int) ≤ x := by omega
    have i4 : (0 : Int) ≤ y := by omega
    have ixy : ¬ (x : Int) = y := by omega
    clear q0 q1 hpy hlx
    by_cases hpp : 0 ≤ py
    · have HR : Hid (goOverB es h s = ({ overB h s with lw := upd (overB h s).lw x (min lx py) }, x)) := by
        show _ = _
        unfold goOverB
        rw [HFX.out, HGY.out, if_neg hxy, HPY.out, HLX.out, if_pos hpp]
        rfl
      have HP5 := hide (HP4'.out.putLw hxn (min lx py))
      have HF5 : Hid (Frame w (V.setCell ⟨gl, x, none⟩ (.int .i64 (min lx py))) (fun b => B ≤ b)) := HF4.out.trans (Frame.set _ _ _ HP4'.out.sizes.2.2.1)
      have hmin : min lx py = if lx ≤ py then lx else py := by
        by_cases hc : lx ≤ py
        · rw [if_pos hc]; exact Int.min_eq_left hc
        · rw [if_neg hc]; exact Int.min_eq_right (by omega)
      rw [hmin] at HP5 HF5 HR
      clear hmin
      by_cases hle : lx ≤ py
      · simp only [hle, if_true] at HP5 HF5 HR
        go_upto_region 8 with fail
        go_region
        go_wp2
        go_ret
        exact ⟨retI (by rw [HR.out]), ⟨_, _, by rw [HR.out]; exact HP5.out.later (below_drew _)⟩, HF5.out.trans (Frame.of_below (below_drew _) _)⟩
      · simp only [hle, if_false] at HP5 HF5 HR
        go_upto_region 8 with fail
        go_region
        go_wp2
        go_ret
        exact ⟨retI (by rw [HR.out]), ⟨_, _, by rw [HR.out]; exact HP5.out.later (below_drew _)⟩, HF5.out.trans (Frame.of_below (below_drew _) _)⟩
    · have HR : Hid (goOverB es h s = ({ findB y (overB h s) with tr := s.tr ++ [h] }, y)) := by
        show _ = _
        unfold goOverB
        rw [HFX.out, HGY.out, if_neg hxy, HPY.out, if_neg hpp]
      have C74 := hide (find74' y HP4'.out hyn (by show s.fd ≤ 100000; omega))
      have hpp2 : py < 0 := by omega
      clear hpp
      go_wp2_with fail
      refine C74.out.mono ?_
      rintro e w3 ⟨rfl, h3, h4⟩
      have HP5 := hide h3
      have HF5 := hide (HF4.out.trans h4)
      clear h3 h4 C74 c2 c3 c4 q0' q1' q2
      obtain ⟨c7, f7⟩ := HP5.out.sm.cell 7 (by omega)
      simp only [List.getElem?_cons_succ, List.getElem?_cons_zero] at c7
      obtain ⟨Z, hZ⟩ : ∃ Z, Z = w3.alloc (.cells #[.int .i64 (h : Int)] 3) := ⟨_, rfl⟩
      have hbZ : Below w3.heap.size w3 Z := by rw [hZ]; go_grown
      have hlit : Z.cell? ⟨w3.heap.size, 0, none⟩ = some (.int .i64 (h : Int)) := by rw [hZ]; exact one_int _ _
      have HP6 := HP5.out.later hbZ
      obtain ⟨v1, D2, e1, o1, gr1, at1⟩ := append_int HP6.sm.tr hlit HP6.sizes.2.2.2.2.2.2.2.1 (by rw [List.length_map]; show s.tr.length ≤ 90000; omega)
      obtain ⟨p2, l2, c2, rfl⟩ : ∃ p1 l1 c1, v1 = .slice p1 l1 c1 := by obtain ⟨p1, c1, h1, _⟩ := o1.form; exact ⟨_, _, _, h1⟩
      rw [← nums_push] at o1
      obtain ⟨HP7, hF7⟩ := HP6.pushT gr1 o1 at1
      have HP7' := hide HP7
      have HF7 : Hid (Frame w (D2.setCell ⟨k, 7, none⟩ (.slice p2 l2 c2)) (fun b => B ≤ b)) := (HF5.out.trans (Frame.of_below hbZ _)).trans hF7
      have kb : k < w3.heap.size := HP5.out.sizes.2.2.2.2.2.2.2.2
      have kne : vt.ownBlock ≠ some k := HP5.out.sm.nes.1
      have y0 := later hbZ c7
      have y1 := laterF hbZ c7 f7
      obtain ⟨y2, y3⟩ := grown_cell gr1 y0 kne
      rw [y1] at y3
      have kd2 : k < D2.heap.size := block_lt_of_cell y2
      rw [hZ] at e1
      clear HP6 HP7 hF7 hlit hbZ hZ gr1 at1 o1 y0 y1 f7
      go_wp2_with (at_builtin; refine wpList_run_append rfl (.tmp 87) (.tmp 89) 32 rfl 32 rfl _ _ _ D2 rfl rfl e1 ?_)
      go_ret
      exact ⟨retI (by rw [HR.out]), ⟨_, _, by rw [HR.out]; exact HP7'.out⟩, HF7.out⟩
end
end Go.Proofs.Ytobkejnlkjieoaa

/- The walk goes back. -/
namespace Go.Proofs.Ytobkejnlkjieoaa
open Go.RowKit Go.Sort
open Go
section
variable {B k n : Nat} {p : Option Addr} {es : List Pt} {cp gr gp gl go cs cc co gof : Nat} {rv : Nat → Value}
set_option maxRecDepth 100000 in
set_option maxHeartbeats 8000000 in
theorem goBack76 {w : World} {vt vo : Value} {s : BS} {h : Nat} (hp : PM w B k n p es cp gr gp gl go cs cc co gof rv vt vo s) (hh : Has w p es) (hpB : ∀ a, p = some a → es = [] ∨ a.block < B) (hm : netB n es = true) (ht : s.tr.getLast? = some h) (hl : h < 2 * es.length) (hnod : s.op.Nodup) (hin : ∀ e ∈ s.op, e < es.length) (hop : h / 2 ∈ s.op) (hc : s.ct ≤ 90000) (hol : s.op.length ≤ 80000) (htl : s.tr.length ≤ 80000) : Calls Try.prog 76 #[.pointer (some ⟨k, 0, none⟩)] w fun e w' => e = .returned (.int .i64 ((goBackB es h s).2 : Nat)) ∧ (∃ vt' vo', PM w' B k n p es cp gr gp gl go cs cc co gof rv vt' vo' (goBackB es h s).1) ∧ Frame w w' (fun b => B ≤ b) := by
  obtain ⟨n0, n1, hes, hE⟩ := netB_is hm
  have hf1 := fromL_in hm h hl
  have hg1 := toL_in hm h hl
  obtain ⟨x, hx⟩ : ∃ x : Nat, fromL es h = x := ⟨(fromL es h).toNat, by omega⟩
  obtain ⟨y, hy⟩ : ∃ y : Nat, toL es h = y := ⟨(toL es h).toNat, by omega⟩
  have hxn : x < n := by omega
  have hyn : y < n := by omega
  have hfx : fN es h = x := by unfold fN; rw [hx]; simp
  have hgy : gN es h = y := by unfold gN; rw [hy]; simp
  have HX := hide hx
  have HY := hide hy
  have HH := hide hh
  have HPB := hide hpB
  have HHL := hide hl
  have HP := hide hp
  have HI := hide hin
  have HN := hide hnod
  have HOP := hide hop
  have HFX := hide hfx
  have HGY := hide hgy
  have hb2 := hp.sizes.1
  -- the trail
  obtain ⟨t, ht2⟩ := List.getLast?_eq_some_iff.1 ht
  have hlen : (s.tr.map fun (x : Nat) => (x : Int)).length = t.length + 1 := by rw [ht2]; simp
  obtain ⟨g, c, e1, e2, e3⟩ := iowns_take hp.sm.tr (by omega)
  have o0 : w.cell? ⟨g, t.length, none⟩ = some (.int .i64 (h : Int)) := by
    have h1 := hp.sm.tr
    rw [e1] at h1
    have := h1.at_ (j := t.length) (by omega)
    rw [show iat (s.tr.map fun (x : Nat) => (x : Int)) t.length = (h : Int) by rw [ht2]; unfold iat; simp] at this
    exact this
  rw [hlen] at e1 e2 e3
  subst e1
  obtain ⟨q, hq⟩ : ∃ q, t.length = q := ⟨_, rfl⟩
  rw [hq] at e2 e3 o0 HP
  have HO : Hid (IOwns w B (.slice (some ⟨g, 0, none⟩) q c) (s.tr.dropLast.map fun (x : Nat) => (x : Int))) := by
    have := e3
    rw [show q + 1 - 1 = q by omega, ← List.map_dropLast] at this
    exact this
  obtain ⟨c7, f7⟩ := HP.out.sm.cell 7 (by omega)
  simp only [List.getElem?_cons_succ, List.getElem?_cons_zero] at c7
  have hqb : q ≤ 80000 := by have : s.tr.length = t.length + 1 := by rw [ht2]; simp
                             omega
  have hqc : q + 1 ≤ c := e2
  have hd : Int.tdiv (h : Int) 2 = ((h / 2 : Nat) : Int) := by rw [Int.tdiv_eq_ediv_of_nonneg (by omega)]; exact (Int.natCast_ediv h 2).symm
  obtain ⟨d, hdd⟩ : ∃ d, h / 2 = d := ⟨_, rfl⟩
  have HD := hide hdd
  rw [hdd] at hd
  have hhb : h ≤ 100000 := by omega
  have hdb : d ≤ 100000 := by omega
  clear hp hh hpB hE hf1 hg1 hx hy hfx hgy hnod hin hop hdd hl ht ht2 hlen e3 hq t
  go_enter Try.func76, Try.ntmps76
  go_upto_region 1 with fail
  go_region
  obtain ⟨V, hV⟩ : ∃ V, V = w.drew := ⟨_, rfl⟩
  have hbV : Below w.heap.size w V := by rw [hV]; exact below_drew _
  have k2 := later hbV c7
  have l2 := laterF hbV c7 f7
  have HV := hide hbV
  rw [← hV]
  clear hV c7 f7 o0 hbV
  go_upto_region 2 with fail
  go_region
  obtain ⟨U, hU⟩ : ∃ U, U = (V.setCell ⟨k, 7, none⟩ (.slice (some ⟨g, 0, none⟩) q c)).drew := ⟨_, rfl⟩
  have HP3 : Hid (PM U B k n p es cp gr gp gl go cs cc co gof rv (.slice (some ⟨g, 0, none⟩) q c) vo { s with tr := s.tr.dropLast }) := by
    show PM _ _ _ _ _ _ _ _ _ _ _ _ _ _ _ _ _ _ _
    rw [hU]
    exact ((HP.out.later HV.out).popT (vt' := .slice (some ⟨g, 0, none⟩) q c) (HO.out.later HV.out) rfl).later (below_drew _)
  have HF3 : Hid (Frame w U (fun b => B ≤ b)) := by
    show Frame _ _ _
    rw [hU]
    exact ((Frame.of_below HV.out _).trans (Frame.set _ _ _ hb2)).trans (Frame.of_below (below_drew _) _)
  rw [← hU]
  clear hU k2 l2 HO HV HP
  have HH3 : Hid (Has U p es) := HF3.out.has HH.out fun a ha => (HPB.out a ha).imp_right fun h => by omega
  have CL : ∀ dd os, Calls Try.prog 85 #[nv n p es.length cp, .int .i64 h] (grow (redrawn U dd) os) fun e w'' => e = .returned (.int .i64 x) ∧ ∃ p : Regrown, w'' = grow (redrawn U p.d) p.os := fun dd os => Calls.regrown_of (by rw [← HX.out]; exact leaves85 n p es cp h _ (HH3.out.later (below_regrown U dd os)) HHL.out (by omega))
  have CT : ∀ dd os, Calls Try.prog 70 #[nv n p es.length cp, .int .i64 h] (grow (redrawn U dd) os) fun e w'' => e = .returned (.int .i64 y) ∧ ∃ p : Regrown, w'' = grow (redrawn U p.d) p.os := fun dd os => Calls.regrown_of (by rw [← HY.out]; exact comes54 n p es cp h _ (HH3.out.later (below_regrown U dd os)) HHL.out (by omega))
  obtain ⟨c0, _⟩ := HP3.out.sm.cell 0 (by omega)
  obtain ⟨c1, _⟩ := HP3.out.sm.cell 1 (by omega)
  simp only [List.getElem?_cons_succ, List.getElem?_cons_zero] at c0 c1
  have c0r := cell_regrown c0
  have c1r := cell_regrown c1
  go_upto_region 3 with fail
  refine wp_region_quiet_below (by kernel_rfl) (by kernel_rfl) ?_
  repeat (go_big_quiet_step (first | with_reducible exact CL _ _ | with_reducible exact CT _ _))
  refine wpQuiet_nil ?_
  intro w1 hw'
  have HB1 : Hid (Below U.heap.size U w1) := by
    obtain ⟨⟨dq, osq⟩, hw''⟩ := hw'
    rw [hw'']
    exact below_regrown U dq osq
  have HP4 := hide (HP3.out.later HB1.out)
  have HF4 : Hid (Frame w w1 (fun b => B ≤ b)) := HF3.out.trans (Frame.of_below HB1.out _)
  clear hw' CL CT c0 c1 c0r c1r HH3 HB1 HF3 HP3
  obtain ⟨c4, _⟩ := HP4.out.sm.cell 4 (by omega)
  simp only [List.getElem?_cons_succ, List.getElem?_cons_zero] at c4
  obtain ⟨q0, _⟩ := HP4.out.sm.lw.cell hyn
  obtain ⟨q1, q2⟩ := HP4.out.sm.lw.cell hxn
  rw [fnL_at _ hyn] at q0
  rw [fnL_at _ hxn] at q1
  obtain ⟨ly, hly⟩ : ∃ z, s.lw y = z := ⟨_, rfl⟩
  obtain ⟨lx, hlx⟩ : ∃ z, s.lw x = z := ⟨_, rfl⟩
  have q0' : w1.cell? ⟨gl, y, none⟩ = some (.int .i64 ly) := by rw [← hly]; exact q0
  have q1' : w1.cell? ⟨gl, x, none⟩ = some (.int .i64 lx) := by rw [← hlx]; exact q1
  have i1 : (x : Int) < n := by omega
  have i2 : (y : Int) < n := by omega
  have i3 : (0 : Int) ≤ x := by omega
  have i4 : (0 : Int) ≤ y := by omega
  have HLW : Hid ((lowB es h s) = { s with tr := s.tr.dropLast, lw := upd s.lw x (if lx ≤ ly then lx else ly) }) := by
    show _ = _
    unfold lowB
    rw [HFX.out, HGY.out, hly, hlx]
    congr 2
  have HP5 : Hid (∀ z, z = (if lx ≤ ly then lx else ly) → PM (w1.setCell ⟨gl, x, none⟩ (.int .i64 z)) B k n p es cp gr gp gl go cs cc co gof rv (.slice (some ⟨g, 0, none⟩) q c) vo (lowB es h s)) := fun z hz => by
    rw [HLW.out, ← hz]
    exact HP4.out.putLw hxn z
  have hgl := HP4.out.sizes.2.2.1
  have HF5 : Hid (∀ z, Frame w (w1.setCell ⟨gl, x, none⟩ (.int .i64 z)) (fun b => B ≤ b)) := fun z => HF4.out.trans (Frame.set _ _ _ hgl)
  clear q0 q1 hly hlx HP4 HF4
  by_cases hle : lx ≤ ly
  · have HP6 := hide (HP5.out lx (by rw [if_pos hle]))
    have HF6 := hide (HF5.out lx)
    clear HP5 HF5
    go_upto_region 4 with fail
    go_region
    obtain ⟨W2, hW2⟩ : ∃ W2, W2 = (w1.setCell ⟨gl, x, none⟩ (.int .i64 lx)).drew := ⟨_, rfl⟩
    have HP7 : Hid (PM W2 B k n p es cp gr gp gl go cs cc co gof rv (.slice (some ⟨g, 0, none⟩) q c) vo (lowB es h s)) := by
      show PM _ _ _ _ _ _ _ _ _ _ _ _ _ _ _ _ _ _ _
      rw [hW2]
      exact HP6.out.later (below_drew _)
    have HF7 : Hid (Frame w W2 (fun b => B ≤ b)) := by
      show Frame _ _ _
      rw [hW2]
      exact HF6.out.trans (Frame.of_below (below_drew _) _)
    rw [← hW2]
    clear hW2 HP6 HF6 c4 q0' q1' q2
    obtain ⟨c3, _⟩ := HP7.out.sm.cell 3 (by omega)
    obtain ⟨c4, _⟩ := HP7.out.sm.cell 4 (by omega)
    obtain ⟨c9, _⟩ := HP7.out.sm.cell 9 (by omega)
    simp only [List.getElem?_cons_succ, List.getElem?_cons_zero] at c3 c4 c9
    unfold shV at c9
    obtain ⟨q0, _⟩ := HP7.out.sm.lw.cell hyn
    obtain ⟨q1, _⟩ := HP7.out.sm.pl.cell hxn
    rw [fnL_at _ hyn] at q0
    rw [fnL_at _ hxn] at q1
    obtain ⟨L, hL⟩ : ∃ z, (lowB es h s).lw y = z := ⟨_, rfl⟩
    obtain ⟨P, hP⟩ : ∃ z, s.pl x = z := ⟨_, rfl⟩
    have q0' : W2.cell? ⟨gl, y, none⟩ = some (.int .i64 L) := by rw [← hL]; exact q0
    have q1' : W2.cell? ⟨gp, x, none⟩ = some (.int .i64 P) := by rw [← hP]; exact q1
    have HL := hide hL
    have HPP := hide hP
    clear q0 q1 hL hP
    by_cases hPL : P ≤ L
    · have HR : Hid (goBackB es h s = (shutB d (lowB es h s), x)) := by
        show _ = _
        unfold goBackB
        rw [HFX.out, HGY.out, HPP.out, HL.out, if_pos hPL, HD.out]
      have CS := hide (shut58 (f := d) HP7.out (by rw [← HD.out]; exact HOP.out) HN.out HI.out (by show s.ct ≤ 100000; omega) (by show s.op.length ≤ 100000; omega))
      go_upto_region 5 with fail
      go_region
      obtain ⟨W3, hW3⟩ : ∃ W3, W3 = W2.drew := ⟨_, rfl⟩
      have hb3 : Below W2.heap.size W2 W3 := by rw [hW3]; exact below_drew _
      have c9' := later hb3 c9
      have CS3 := hide (shut58 (f := d) (HP7.out.later hb3) (by rw [← HD.out]; exact HOP.out) HN.out HI.out (by show s.ct ≤ 100000; omega) (by show s.op.length ≤ 100000; omega))
      have HB3 := hide hb3
      rw [← hW3]
      clear hW3 c3 c4 c9 q0' q1' CS hb3
      go_wp2_with fail
      refine CS3.out.mono ?_
      rintro e w5 ⟨rfl, ⟨vo5, h5⟩, h6⟩
      have HP8 := hide h5
      have HF8 : Hid (Frame w w5 (fun b => B ≤ b)) := (HF7.out.trans (Frame.of_below HB3.out (fun b => B ≤ b))).trans h6
      clear h5 h6 CS3 c9'
      go_wp2
      go_ret
      exact ⟨retI (by rw [HR.out]), ⟨_, _, by rw [HR.out]; exact HP8.out⟩, HF8.out⟩
    · have HR : Hid (goBackB es h s = (lowB es h s, x)) := by
        show _ = _
        unfold goBackB
        rw [HFX.out, HGY.out, HPP.out, HL.out, if_neg hPL]
      go_upto_region 5 with fail
      go_region
      go_wp2
      go_ret
      exact ⟨retI (by rw [HR.out]), ⟨_, _, by rw [HR.out]; exact HP7.out.later (below_drew _)⟩, HF7.out.trans (Frame.of_below (below_drew _) _)⟩
  · have HP6 := hide (HP5.out ly (by rw [if_neg hle]))
    have HF6 := hide (HF5.out ly)
    have hlt : ly < lx := by omega
    clear HP5 HF5 hle
    go_upto_region 4 with fail
    go_region
    obtain ⟨W2, hW2⟩ : ∃ W2, W2 = (w1.setCell ⟨gl, x, none⟩ (.int .i64 ly)).drew := ⟨_, rfl⟩
    have HP7 : Hid (PM W2 B k n p es cp gr gp gl go cs cc co gof rv (.slice (some ⟨g, 0, none⟩) q c) vo (lowB es h s)) := by
      show PM _ _ _ _ _ _ _ _ _ _ _ _ _ _ _ _ _ _ _
      rw [hW2]
      exact HP6.out.later (below_drew _)
    have HF7 : Hid (Frame w W2 (fun b => B ≤ b)) := by
      show Frame _ _ _
      rw [hW2]
      exact HF6.out.trans (Frame.of_below (below_drew _) _)
    rw [← hW2]
    clear hW2 HP6 HF6 c4 q0' q1' q2
    obtain ⟨c3, _⟩ := HP7.out.sm.cell 3 (by omega)
    obtain ⟨c4, _⟩ := HP7.out.sm.cell 4 (by omega)
    obtain ⟨c9, _⟩ := HP7.out.sm.cell 9 (by omega)
    simp only [List.getElem?_cons_succ, List.getElem?_cons_zero] at c3 c4 c9
    unfold shV at c9
    obtain ⟨q0, _⟩ := HP7.out.sm.lw.cell hyn
    obtain ⟨q1, _⟩ := HP7.out.sm.pl.cell hxn
    rw [fnL_at _ hyn] at q0
    rw [fnL_at _ hxn] at q1
    obtain ⟨L, hL⟩ : ∃ z, (lowB es h s).lw y = z := ⟨_, rfl⟩
    obtain ⟨P, hP⟩ : ∃ z, s.pl x = z := ⟨_, rfl⟩
    have q0' : W2.cell? ⟨gl, y, none⟩ = some (.int .i64 L) := by rw [← hL]; exact q0
    have q1' : W2.cell? ⟨gp, x, none⟩ = some (.int .i64 P) := by rw [← hP]; exact q1
    have HL := hide hL
    have HPP := hide hP
    clear q0 q1 hL hP
    by_cases hPL : P ≤ L
    · have HR : Hid (goBackB es h s = (shutB d (lowB es h s), x)) := by
        show _ = _
        unfold goBackB
        rw [HFX.out, HGY.out, HPP.out, HL.out, if_pos hPL, HD.out]
      have CS := hide (shut58 (f := d) HP7.out (by rw [← HD.out]; exact HOP.out) HN.out HI.out (by show s.ct ≤ 100000; omega) (by show s.op.length ≤ 100000; omega))
      go_upto_region 5 with fail
      go_region
      obtain ⟨W3, hW3⟩ : ∃ W3, W3 = W2.drew := ⟨_, rfl⟩
      have hb3 : Below W2.heap.size W2 W3 := by rw [hW3]; exact below_drew _
      have c9' := later hb3 c9
      have CS3 := hide (shut58 (f := d) (HP7.out.later hb3) (by rw [← HD.out]; exact HOP.out) HN.out HI.out (by show s.ct ≤ 100000; omega) (by show s.op.length ≤ 100000; omega))
      have HB3 := hide hb3
      rw [← hW3]
      clear hW3 c3 c4 c9 q0' q1' CS hb3
      go_wp2_with fail
      refine CS3.out.mono ?_
      rintro e w5 ⟨rfl, ⟨vo5, h5⟩, h6⟩
      have HP8 := hide h5
      have HF8 : Hid (Frame w w5 (fun b => B ≤ b)) := (HF7.out.trans (Frame.of_below HB3.out (fun b => B ≤ b))).trans h6
      clear h5 h6 CS3 c9'
      go_wp2
      go_ret
      exact ⟨retI (by rw [HR.out]), ⟨_, _, by rw [HR.out]; exact HP8.out⟩, HF8.out⟩
    · have HR : Hid (goBackB es h s = (lowB es h s, x)) := by
        show _ = _
        unfold goBackB
        rw [HFX.out, HGY.out, HPP.out, HL.out, if_neg hPL]
      go_upto_region 5 with fail
      go_region
      go_wp2
      go_ret
      exact ⟨retI (by rw [HR.out]), ⟨_, _, by rw [HR.out]; exact HP7.out.later (below_drew _)⟩, HF7.out.trans (Frame.of_below (below_drew _) _)⟩
end
end Go.Proofs.Ytobkejnlkjieoaa

/- The walk through a component. -/
namespace Go.Proofs.Ytobkejnlkjieoaa
open Go.RowKit Go.Sort
open Go
theorem DI.few {n : Nat} {es : List Pt} (hm : netB n es = true) {r v : Nat} {s : BS} (h : DI n es r s v) : s.ct ≤ 3072 ∧ s.op.length ≤ 3072 ∧ s.tr.length ≤ 3072 ∧ s.fd ≤ 1024 := by
  obtain ⟨n0, n1, hes, _⟩ := netB_is hm
  have h1 := h.cn
  have h2 := cb_le es.length s.ov
  have h3 := h.bi.sub.length_le
  rw [List.length_map] at h3
  have h4 := cf_le n s.pl
  have h5 := h.fd
  omega
theorem ob_le {n : Nat} {es : List Pt} (hm : netB n es = true) (u : Nat) : (ob es u).length ≤ 6144 := by
  obtain ⟨n0, n1, hes, _⟩ := netB_is hm
  have : (ob es u).length ≤ 2 * es.length := outL_length es (2 * es.length) u
  omega
section
variable {B k n : Nat} {p : Option Addr} {es : List Pt} {cp gr gp gl go cs cc co gof : Nat}
/-- What lies at a node's row, where something is left of it. -/
theorem PM.row {w : World} {rv : Nat → Value} {vt vo : Value} {s : BS} (h : PM w B k n p es cp gr gp gl go cs cc co gof rv vt vo s) {u : Nat} (hu : u < n) (hl : s.rs u < (ob es u).length) : ∃ b off c q, (ob es u).length = s.rs u + (q + 1) ∧ rv u = .slice (some ⟨b, off, none⟩) (q + 1) c ∧ q + 1 ≤ c ∧ b ≠ gr ∧ w.cell? ⟨b, off, none⟩ = some (.int .i64 (nextH es u s)) ∧ IHas w (some ⟨b, off + 1, none⟩) ((ob es u).drop (s.rs u + 1)) := by
  obtain ⟨a, c, e1, e2, e3, e4, e5, e6⟩ := h.sm.rw.row u hu
  have hlen : ((ob es u).drop (s.rs u)).length = (ob es u).length - s.rs u := List.length_drop
  have hne : (ob es u).drop (s.rs u) ≠ [] := fun e => by rw [e] at hlen; simp at hlen; omega
  rcases e2 with e2 | ⟨b, off, rfl, hL⟩
  · exact absurd e2 hne
  · refine ⟨b, off, c, (ob es u).length - s.rs u - 1, by omega, ?_, by omega, e6 hne _ rfl, ?_, Or.inr ⟨b, off + 1, rfl, fun j hj => ?_⟩⟩
    · rw [e1, hlen]
      congr 1
      omega
    · have := hL 0 (by omega)
      rw [Nat.add_zero] at this
      rw [this]
      congr 2
      obtain ⟨_, _, n3⟩ := next_is (es := es) (s := s) hl
      rw [← n3]
      unfold iat
      rw [List.getD_eq_getElem?_getD, List.getD_eq_getElem?_getD, List.getElem?_drop, Nat.add_zero]
    · rw [List.length_drop] at hj
      have := hL (j + 1) (by omega)
      rw [show off + (j + 1) = off + 1 + j by omega] at this
      rw [this]
      congr 2
      unfold iat
      rw [List.getD_eq_getElem?_getD, List.getD_eq_getElem?_getD, List.getElem?_drop, List.getElem?_drop, show s.rs u + (j + 1) = s.rs u + 1 + j by omega]
set_option maxRecDepth 100000 in
set_option maxHeartbeats 8000000 in
theorem through59 {w : World} {rv : Nat → Value} {vt vo : Value} {s : BS} {v : Nat} (hp : PM w B k n p es cp gr gp gl go cs cc co gof rv vt vo s) (hh : Has w p es) (hpB : ∀ a, p = some a → es = [] ∨ a.block < B) (hm : netB n es = true) (hv : v < n) (ho : OI n es s) (hpl : s.pl v < 0) : Calls Try.prog 59 #[.pointer (some ⟨k, 0, none⟩), .int .i64 v] w fun e w' => e = .returned (.tuple #[]) ∧ (∃ rv' vt' vo', PM w' B k n p es cp gr gp gl go cs cc co gof rv' vt' vo' (throughB n es s v)) ∧ Frame w w' (fun b => B ≤ b) := by
  have HM := hide hm
  have HH := hide hh
  have HPB := hide hpB
  have HD := hide (ho.find hv hpl)
  have hfd : s.fd ≤ 100000 := by
    obtain ⟨n0, n1, _, _⟩ := netB_is hm
    have := cf_le n s.pl
    have := ho.fd
    omega
  have C74 := hide (find74' v hp hv hfd)
  clear hp hh hpB hm ho hpl hfd
  obtain ⟨R, hR⟩ : ∃ R, throughB n es s v = R := ⟨_, rfl⟩
  have HR : Hid (thrB es (phB n es (findB v s)) (findB v s) v = R) := hR
  rw [hR]
  clear hR
  go_enter Try.func59, Try.ntmps59
  go_wp2_with fail
  refine C74.out.mono ?_
  rintro e w3 ⟨rfl, h3, h4⟩
  have HP := hide h3
  have HF := hide h4
  clear h3 h4 C74
  go_wp2_with fail
  obtain ⟨s0, hs0⟩ : ∃ s0, findB v s = s0 := ⟨_, rfl⟩
  rw [hs0] at HD HP HR
  clear hs0
  go_loopg [1] (phB n es s0 + 1) (fun gk t1 wr => ∃ (u K : Nat) (s' : BS), t1 = .int .i64 u ∧ K < gk ∧ Hid (phB n es s' ≤ K) ∧ Hid (DI n es v s' u) ∧ Hid (thrB es K s' u = R) ∧ Hid (∃ rv vt vo, PM wr B k n p es cp gr gp gl go cs cc co gof rv vt vo s') ∧ Hid (Frame w wr (fun b => B ≤ b)))
  case atStart => exact ⟨v, _, s0, rfl, by omega, Nat.le_refl _, HD.out, HR.out, ⟨_, _, _, HP.out⟩, HF.out⟩
  case round =>
    clear HD HP HR HF
    obtain ⟨u, K, s', rfl, hKg, HK, HD, HR, HP, HF⟩ := hrel
    obtain ⟨rv, vt, vo, hP⟩ := HP.out
    have HP' := hide hP
    have hun := HD.out.bi.vn.1
    have i1 : (u : Int) < n := by omega
    have i2 : (0 : Int) ≤ u := by omega
    obtain ⟨c2, _⟩ := hP.sm.cell 2 (by omega)
    simp only [List.getElem?_cons_succ, List.getElem?_cons_zero] at c2
    obtain ⟨r0, r1⟩ := hP.sm.rw.cell hun
    by_cases hl : s'.rs u < (ob es u).length
    · obtain ⟨b, off, c, q, e1, e2, e3, e4, e5, e6⟩ := hP.row hun hl
      obtain ⟨h, hh⟩ : ∃ h, nextH es u s' = h := ⟨_, rfl⟩
      have HNX := hide hh
      obtain ⟨x1, x2, _⟩ := next_is (es := es) (s := s') hl
      rw [hh] at e5 x1 x2
      rw [e2] at r0
      have HE6 := hide e6
      have HE1 := hide e1
      have HL := hide hl
      have hqb : q ≤ 100000 := by have := ob_le HM.out u; omega
      have hhb : h ≤ 100000 := by obtain ⟨_, _, hes, _⟩ := netB_is HM.out; omega
      have HX1 := hide x1
      have HE4 := hide (And.intro e2 e4)
      have hgr := hP.sizes.2.2.2.2.1
      clear hP HP e1 e2 e6 hh hl x1 x2 e4
      go_upto_region 3 with fail
      go_region
      obtain ⟨_, _, hes, _⟩ := netB_is HM.out
      have hdl : ((ob es u).drop (s'.rs u + 1)).length = q := by rw [List.length_drop]; have := HE1.out; omega
      obtain ⟨A, hA⟩ : ∃ A : Option Addr, (if c = 1 then some ⟨b, off, none⟩ else some ⟨b, off + 1, none⟩) = A := ⟨_, rfl⟩
      have hAb : ∀ z, (Value.slice A q (c - 1)).ownBlock = some z → b = z := fun z hz => by
        rw [← hA] at hz
        by_cases hc : c = 1
        · rw [if_pos hc] at hz; simpa [Value.ownBlock] using hz
        · rw [if_neg hc] at hz; simpa [Value.ownBlock] using hz
      have hAn : A = none → c - 1 = 0 := fun h0 => by
        rw [← hA] at h0
        split at h0 <;> cases h0
      have hAh : IHas wr A ((ob es u).drop (s'.rs u + 1)) := by
        by_cases hc : c = 1
        · left
          exact List.length_eq_zero_iff.1 (by omega)
        · rw [← hA, if_neg hc]
          exact HE6.out
      obtain ⟨U, hU⟩ : ∃ U, U = (wr.setCell ⟨gr, u, none⟩ (.slice A q (c - 1))).drew := ⟨_, rfl⟩
      have HPU : Hid (PM U B k n p es cp gr gp gl go cs cc co gof (upd rv u (.slice A q (c - 1))) vt vo (lookB u s')) := by
        show PM _ _ _ _ _ _ _ _ _ _ _ _ _ _ _ _ _ _ _
        rw [hU]
        have h1 := HP'.out.cutRow (v := u) (a := A) (c := c - 1) (rs' := s'.rs u + 1) hAh (by rw [hdl]; unfold maxLen; omega) (by rw [hdl]; omega) hAn (fun z hz => by
          rw [hdl] at hz
          rw [HE4.out.1, ← hAb z hz]
          rfl) (fun z hz => by
          rw [HE4.out.1] at hz
          have : some b = some z := hz
          injection this with this
          rw [← this]
          exact HE4.out.2)
        rw [hdl] at h1
        exact h1.later (below_drew _)
      have HFU : Hid (Frame w U (fun b => B ≤ b)) := by
        show Frame _ _ _
        rw [hU]
        exact (HF.out.trans (Frame.set _ _ _ hgr)).trans (Frame.of_below (below_drew _) _)
      rw [hA, ← hU]
      clear hA hAb hAn hAh hU hdl HF HP' r0 r1 c2 e5 HE6 HE4 hgr
      obtain ⟨c5, _⟩ := HPU.out.sm.cell 5 (by omega)
      simp only [List.getElem?_cons_succ, List.getElem?_cons_zero] at c5
      have hd : Int.tdiv (h : Int) 2 = ((h / 2 : Nat) : Int) := by rw [Int.tdiv_eq_ediv_of_nonneg (by omega)]; exact (Int.natCast_ediv h 2).symm
      have hed : h / 2 < es.length := by have := HX1.out; omega
      obtain ⟨d, hdd⟩ : ∃ d, h / 2 = d := ⟨_, rfl⟩
      have HDD := hide hdd
      rw [hdd] at hd hed
      obtain ⟨o0, o1⟩ := HPU.out.sm.ov.cell hed
      obtain ⟨o, hov⟩ : ∃ z, s'.ov d = z := ⟨_, rfl⟩
      have o0' : U.cell? ⟨go, d, none⟩ = some (.bool o) := by rw [← hov]; exact o0
      have hed1 : (d : Int) < es.length := by omega
      have hph := ph_look (n := n) hun HL.out
      obtain ⟨K1, rfl⟩ : ∃ K1, K = K1 + 1 := ⟨K - 1, by have := HK.out; omega⟩
      have HR1 := HR.out
      rw [thrB, if_pos HL.out, HNX.out, hdd, hov] at HR1
      have HK1 := hide HK.out
      clear o0 o1 HK HR hdd
      cases o
      · rw [if_neg (by simp)] at HR1
        have HDI : Hid (DI n es v (goOverB es h (lookB u s')).1 (goOverB es h (lookB u s')).2) := by
          have := HD.out.over HM.out HL.out (by rw [HNX.out, HDD.out]; exact hov)
          rw [HNX.out] at this
          exact this
        have HPH : Hid (phB n es (goOverB es h (lookB u s')).1 ≤ K1) := by
          have := ph_over n es h (lookB u s')
          have := HK1.out
          show _ ≤ _
          omega
        obtain ⟨z1, z2, z3, z4⟩ := HD.out.few HM.out
        have HHU : Hid (Has U p es) := HFU.out.has HH.out fun a ha => (HPB.out a ha).imp_right fun h => by omega
        have CO := hide (goOver75 (h := h) HPU.out HHU.out HM.out HX1.out (by rw [HDD.out]; exact hov) HD.out.bi.nod HD.out.bi.opn (by show s'.ct ≤ 90000; omega) (by show s'.op.length ≤ 80000; omega) (by show s'.tr.length ≤ 80000; omega) (by show s'.fd ≤ 90000; omega))
        have HR2 := hide HR1
        clear HR1 z1 z2 z3 z4 hov hph
        go_wp2_with fail
        refine CO.out.mono ?_
        rintro e w5 ⟨rfl, ⟨vt5, vo5, h5⟩, h6⟩
        have HP5 := hide h5
        have HF5 : Hid (Frame w w5 (fun b => B ≤ b)) := HFU.out.trans h6
        clear h5 h6 CO c5 o0'
        go_wp2
        go_roundg (K1 + 1)
        case measure => omega
        case rel => exact ⟨_, K1, _, rfl, by omega, HPH.out, HDI.out, HR2.out, ⟨_, _, _, HP5.out⟩, HF5.out⟩
      · rw [if_pos rfl] at HR1
        have HDI : Hid (DI n es v (lookB u s') u) := HD.out.look HL.out (by rw [HNX.out, HDD.out]; exact hov)
        have HPH : Hid (phB n es (lookB u s') ≤ K1) := by
          have := HK1.out
          show _ ≤ _
          omega
        have HR2 := hide HR1
        clear HR1 hov hph
        go_wp2
        go_roundg (K1 + 1)
        case measure => omega
        case rel => exact ⟨u, K1, _, rfl, by omega, HPH.out, HDI.out, HR2.out, ⟨_, _, _, HPU.out⟩, HFU.out⟩
    · have hfull : s'.rs u = (ob es u).length := by have := HD.out.bi.rst u; omega
      obtain ⟨a, c, e1, _, _⟩ := hP.sm.rw.row u hun
      have hz : ((ob es u).drop (s'.rs u)).length = 0 := by rw [List.length_drop]; omega
      rw [hz] at e1
      rw [e1] at r0
      obtain ⟨c7, _⟩ := hP.sm.cell 7 (by omega)
      simp only [List.getElem?_cons_succ, List.getElem?_cons_zero] at c7
      obtain ⟨tp, tc, t1, _⟩ := hP.sm.tr.form
      rw [List.length_map] at t1
      rw [t1] at c7
      have HNL := hide hl
      have HFL := hide hfull
      clear HP hz e1 t1 r1 hl hfull
      cases htr : s'.tr.getLast? with
      | none =>
        have h0 : s'.tr.length = 0 := by
          have : s'.tr = [] := by simpa using htr
          rw [this]; rfl
        rw [h0] at c7
        have HE : Hid (s' = R) := by
          show s' = R
          have := HR.out
          cases K with
          | zero => exact this
          | succ K => rw [thrB, if_neg HNL.out, htr] at this; exact this
        have HP6 : Hid (PM wr B k n p es cp gr gp gl go cs cc co gof rv vt vo R) := by
          show PM _ _ _ _ _ _ _ _ _ _ _ _ _ _ _ _ _ _ _
          rw [← HE.out]
          exact HP'.out
        clear hP HP' HR h0 htr
        go_wp2
        refine bodyPost_ret (results_none rfl _ _ _) rfl ?_
        exact ⟨rfl, ⟨_, _, _, HP6.out⟩, HF.out⟩
      | some h =>
        have hne : s'.tr ≠ [] := fun e => by rw [e] at htr; cases htr
        obtain ⟨t, ht⟩ := List.getLast?_eq_some_iff.1 htr
        obtain ⟨q, hq⟩ : ∃ q, s'.tr.length = q + 1 := ⟨s'.tr.length - 1, by have := List.length_pos_iff.2 hne; omega⟩
        obtain ⟨z1, z2, z3, z4⟩ := HD.out.few HM.out
        have hqb : q ≤ 100000 := by omega
        rw [hq] at c7
        have hpb := ph_back n es h s' hne
        have hhl := (HD.out.bi.trl h (by rw [ht]; simp)).1
        have hop : h / 2 ∈ s'.op := HD.out.bi.sub.subset (by rw [ht]; simp)
        have HHU : Hid (Has wr p es) := HF.out.has HH.out fun a ha => (HPB.out a ha).imp_right fun h => by omega
        have CB := hide (goBack76 (h := h) hP HHU.out HPB.out HM.out htr hhl HD.out.bi.nod (fun e he => (HD.out.bi.opn e he).1) hop (by omega) (by omega) (by omega))
        have HDI := hide (HD.out.back HM.out htr HFL.out)
        obtain ⟨K1, rfl⟩ : ∃ K1, K = K1 + 1 := ⟨K - 1, by have := HK.out; omega⟩
        have HPH : Hid (phB n es (goBackB es h s').1 ≤ K1) := by
          have := HK.out
          show _ ≤ _
          omega
        have HR2 : Hid (thrB es K1 (goBackB es h s').1 (goBackB es h s').2 = R) := by
          have := HR.out
          rw [thrB, if_neg HNL.out, htr] at this
          exact this
        clear hP HP' HR HK z1 z2 z3 z4 hq hpb hhl hop htr ht hne t
        go_wp2_with fail
        refine CB.out.mono ?_
        rintro e w5 ⟨rfl, ⟨vt5, vo5, h5⟩, h6⟩
        have HP5 := hide h5
        have HF5 : Hid (Frame w w5 (fun b => B ≤ b)) := HF.out.trans h6
        clear h5 h6 CB c7 c2 r0
        go_wp2
        go_roundg (K1 + 1)
        case measure => omega
        case rel => exact ⟨_, K1, _, rfl, by omega, HPH.out, HDI.out, HR2.out, ⟨_, _, _, HP5.out⟩, HF5.out⟩
end
end Go.Proofs.Ytobkejnlkjieoaa
