/- Split. -/
import Derived.Test.YtgfiofogcnnkhaaGL
namespace Go.Proofs.Ytgfiofogcnnkhaa
open Go.RowKit Go.Sort
open Go

theorem pl_spec : ∀ {l : List Int} (_ : Up l) (x : Int), pl l x ≤ l.length ∧ (∀ t, t < pl l x → iat l t < x) ∧ (∀ t, pl l x ≤ t → t < l.length → x ≤ iat l t)
  | [], _, x => ⟨Nat.le_refl _, fun t ht => absurd ht (Nat.not_lt_zero _), fun t _ ht => absurd ht (Nat.not_lt_zero _)⟩
  | a :: r, h, x => by
    obtain ⟨h1, h2⟩ := List.pairwise_cons.1 h
    obtain ⟨k1, k2, k3⟩ := pl_spec (l := r) h2 x
    by_cases hx : a < x
    · have e : pl (a :: r) x = pl r x + 1 := by unfold pl; rw [List.countP_cons]; simp [hx]
      rw [e]
      refine ⟨by simp; omega, fun t ht => ?_, fun t ht htl => ?_⟩
      · cases t with
        | zero => exact hx
        | succ t => exact k2 t (by omega)
      · cases t with
        | zero => omega
        | succ t => exact k3 t (by omega) (by simpa using htl)
    · have e : pl (a :: r) x = 0 := by
        unfold pl
        rw [List.countP_eq_zero]
        intro y hy
        rcases List.mem_cons.1 hy with rfl | hy
        · simpa using hx
        · have := h1 y hy
          simp
          omega
      rw [e]
      refine ⟨Nat.zero_le _, fun t ht => absurd ht (Nat.not_lt_zero _), fun t _ htl => ?_⟩
      cases t with
      | zero => show x ≤ a; omega
      | succ t =>
        have ht : t < r.length := by simpa using htl
        have := h1 (iat r t) (iat_mem ht)
        show x ≤ iat r t
        omega
theorem pl_mem {l : List Int} (h : Up l) {x : Int} (hx : x ∈ l) : pl l x < l.length ∧ iat l (pl l x) = x := by
  obtain ⟨k1, k2, k3⟩ := pl_spec h x
  exact (srch_mem h k1 k2 k3).1 hx
def splE (G : Gr) (e : Int) : Int := if e ∈ eids G.es then (if 1024 ≤ G.ns.length ∨ 3072 ≤ G.es.length then 3 else 0) else 2
def splD (G : Gr) (e : Int) : Gr := (G.layN.setE (pl (eids G.es) e) 1 G.nn).layE G.nn (eat G.es (pl (eids G.es) e)).b
def splG (G : Gr) (e : Int) : Gr := if splE G e = 0 then splD G e else G
def splV (G : Gr) (e : Int) : Value := if splE G e = 0 then .tuple #[.int .i64 G.nn, .int .i64 G.ne, .int .i64 0] else .tuple #[.int .i64 0, .int .i64 0, .int .i64 (splE G e)]
theorem rem_ns (G : Gr) (u : Un) : (G.rem u).ns = G.ns := rfl
theorem rem_es (G : Gr) (u : Un) : (G.rem u).es = G.es := rfl
theorem rem_ms (G : Gr) (u : Un) : (G.rem u).ms = G.ms := rfl
theorem rem_dn (G : Gr) (u : Un) : (G.rem u).dn.length ≤ G.dn.length + 1 := by
  unfold Gr.rem
  simp only
  split <;> simp
theorem results_TTT {fn : Func} {t u v : Tmp} (h : fn.results = #[.tmp t, .tmp u, .tmp v]) (tmps : Array Value) (P : Program) (w : World) :
    (results fn tmps).run P w = .ok (.tuple #[tmps.getD t undef, tmps.getD u undef, tmps.getD v undef]) w := by
  simp only [results, h]
  simp
set_option maxRecDepth 100000 in
set_option maxHeartbeats 8000000 in
theorem split17 (b : Nat) (s : GV) (G : Gr) (e : Int) (w : World) (h : GAt w b s G) (hl : G.dn.length ≤ 4999000) (hm : G.ms.length ≤ 64) (hn : G.ns.length ≤ 1024) (he : G.es.length ≤ 3072) (hu : Up (eids G.es)) (h0 : 0 ≤ G.ne) (h1 : G.ne ≤ 1000000000) (h2 : 0 ≤ G.nn) (h3 : G.nn ≤ 1000000000) : Calls Try.prog 17 #[ptr b, .int .i64 e] w (Turns w b s (splV G e) (splG G e)) := by
  have A := none50 b s G w h
  have PL := hide (edgePlace51 b s G e w h (by omega) hu)
  have H := hide h
  by_cases hx : e ∈ eids G.es
  · rw [decide_eq_true hx] at PL
    obtain ⟨p0, p1⟩ := pl_mem hu hx
    rw [eids_length] at p0
    obtain ⟨p, hp⟩ : ∃ p, pl (eids G.es) e = p := ⟨_, rfl⟩
    have HPP := hide hp
    rw [hp] at p0 PL
    clear p1
    by_cases hf : 1024 ≤ G.ns.length ∨ 3072 ≤ G.es.length
    · have e0 : splE G e = 3 := by unfold splE; rw [if_pos hx, if_pos hf]
      have e1 : splG G e = G := by unfold splG; rw [e0]; rfl
      have e2 : splV G e = .tuple #[.int .i64 0, .int .i64 0, .int .i64 3] := by unfold splV; rw [e0]; rfl
      rw [e1, e2]
      clear e0 e1 e2 hx hp h
      by_cases hf1 : 1024 ≤ G.ns.length
      · go_enter Try.func17, Try.ntmps17
        go_wp2_with (first | (go_at_call 50; refine A.mono ?_; rintro e w' ⟨rfl, rfl⟩) | (go_at_call 51; refine PL.out.mono ?_; rintro e w1 ⟨rfl, hb1⟩; have HB1 := hide hb1; have B := nodesFull52 b s G w1 (H.out.later hb1) hn; rw [decide_eq_true hf1] at B; clear hb1) | (go_at_call 52; refine B.mono ?_; rintro e w' ⟨rfl, rfl⟩))
        exact bodyPost_ret (results_TTT Try.results17 _ _ _) rfl ⟨rfl, s, H.out.later HB1.out, GFr.of_below HB1.out⟩
      · have hf2 : 3072 ≤ G.es.length := hf.resolve_left hf1
        go_enter Try.func17, Try.ntmps17
        go_wp2_with (first | (go_at_call 50; refine A.mono ?_; rintro e w' ⟨rfl, rfl⟩) | (go_at_call 51; refine PL.out.mono ?_; rintro e w1 ⟨rfl, hb1⟩; have HB1 := hide hb1; have B := nodesFull52 b s G w1 (H.out.later hb1) hn; rw [decide_eq_false hf1] at B; have C := edgesFull53 b s G w1 (H.out.later hb1) he; rw [decide_eq_true hf2] at C; clear hb1) | (go_at_call 52; refine B.mono ?_; rintro e w' ⟨rfl, rfl⟩) | (go_at_call 53; refine C.mono ?_; rintro e w' ⟨rfl, rfl⟩))
        exact bodyPost_ret (results_TTT Try.results17 _ _ _) rfl ⟨rfl, s, H.out.later HB1.out, GFr.of_below HB1.out⟩
    · have e0 : splE G e = 0 := by unfold splE; rw [if_pos hx, if_neg hf]
      have e1 : splG G e = (G.layN.setE p 1 G.nn).layE G.nn (eat G.es p).b := by unfold splG splD; rw [e0, HPP.out]; rfl
      have e2 : splV G e = .tuple #[.int .i64 G.nn, .int .i64 G.ne, .int .i64 0] := by unfold splV; rw [e0]; rfl
      rw [e1, e2]
      clear e0 e1 e2 hx hp
      have hf1 : ¬ 1024 ≤ G.ns.length := fun k => hf (Or.inl k)
      have hf2 : ¬ 3072 ≤ G.es.length := fun k => hf (Or.inr k)
      clear hf
      obtain ⟨pn, cn, pe, ce, pm, cm, pd, cd, _, hs, _⟩ := h.form
      have oe := h.edg
      rw [hs] at oe
      obtain ⟨g, rfl, _, hg⟩ := own_some oe (by omega)
      obtain ⟨x, hx⟩ : ∃ x, (eat G.es p).b = x := ⟨_, rfl⟩
      rw [hx]
      have cw : w.cell? ⟨g, p * 3 + 2, none⟩ = some (.int .i64 x) := by
        rcases own_ehas oe with h | ⟨g', h1, h2⟩
        · rw [h] at p0; simp at p0
        · cases h1
          rw [← hx]
          exact (h2 p p0).2.2
      have q2 : w.cell? ⟨b, 2, none⟩ = some (.slice (some ⟨g, 0, none⟩) G.es.length ce) := by have := h.cells.2.2.1; rw [hs] at this; exact this
      have i0 : (0 : Int) ≤ p := by omega
      have i1 : (p : Int) < G.es.length := by omega
      have HS := hide hs
      clear h oe hx hs
      have hd1 : G.layN.dn.length ≤ G.dn.length + 1 := rem_dn _ _
      have hd2 : (G.layN.setE p 1 G.nn).dn.length ≤ G.layN.dn.length + 1 := rem_dn _ _
      have ee1 : G.layN.es = G.es := rfl
      have ee2 : (G.layN.setE p 1 G.nn).es.length = G.es.length := by show (List.set _ _ _).length = _; rw [List.length_set]; rfl
      have HM2 : Hid ((G.layN.setE p 1 G.nn).ms.length ≤ 64) := hm
      have HE2 : Hid ((G.layN.setE p 1 G.nn).es.length ≤ 5000) := by show _ ≤ _; rw [ee2]; omega
      have HD := hide (And.intro hd1 hd2)
      clear hd1 hd2 ee1 ee2
      go_enter Try.func17, Try.ntmps17
      go_wp2_with (first | (go_at_call 50; refine A.mono ?_; rintro e w' ⟨rfl, rfl⟩) | (go_at_call 51; refine PL.out.mono ?_; rintro e w1 ⟨rfl, hb1⟩; have HB1 := hide hb1; have B := nodesFull52 b s G w1 (H.out.later hb1) hn; rw [decide_eq_false hf1] at B; have C := edgesFull53 b s G w1 (H.out.later hb1) he; rw [decide_eq_false hf2] at C; have q3 := later hb1 q2; have c3 := later hb1 cw; have L := hide (layNode34 b s G w1 (H.out.later hb1) (by omega) hm (by omega) h2 h3); clear hb1) | (go_at_call 52; refine B.mono ?_; rintro e w' ⟨rfl, rfl⟩) | (go_at_call 53; refine C.mono ?_; rintro e w' ⟨rfl, rfl⟩) | (go_at_call 34; refine L.out.mono ?_; rintro e w2 ⟨rfl, s2, g2, r2⟩; have HG2 := hide g2; have HR2 := hide r2; have ST := hide (setEnd54 b s2 G.layN p 1 G.nn w2 g2 (by have := HD.out; omega) hm (show G.es.length ≤ 5000 by omega) (show p < G.es.length from p0) (by omega)); clear g2 r2) | (go_at_call 54; refine ST.out.mono ?_; rintro e w3 ⟨rfl, s3, g3, r3⟩; have HR3 := hide r3; have LE := hide (layEdge35 b s3 (G.layN.setE p 1 G.nn) G.nn x w3 g3 (by have := HD.out; omega) HM2.out HE2.out h0 h1); clear g3 r3) | (go_at_call 35; refine LE.out.mono ?_; rintro e w4 ⟨rfl, s4, g4, r4⟩; have HG4 := hide g4; have HR4 := hide r4; clear g4 r4))
      exact bodyPost_ret (results_TTT Try.results17 _ _ _) rfl ⟨rfl, _, HG4.out, (((GFr.of_below HB1.out).trans HR2.out).trans HR3.out).trans HR4.out⟩
  · rw [decide_eq_false hx] at PL
    have e0 : splE G e = 2 := by unfold splE; rw [if_neg hx]
    have e1 : splG G e = G := by unfold splG; rw [e0]; rfl
    have e2 : splV G e = .tuple #[.int .i64 0, .int .i64 0, .int .i64 2] := by unfold splV; rw [e0]; rfl
    rw [e1, e2]
    clear e0 e1 e2 hx h
    go_enter Try.func17, Try.ntmps17
    go_wp2_with (first | (go_at_call 50; refine A.mono ?_; rintro e w' ⟨rfl, rfl⟩) | (go_at_call 51; refine PL.out.mono ?_; rintro e w1 ⟨rfl, hb1⟩; have HB1 := hide hb1; clear hb1))
    exact bodyPost_ret (results_TTT Try.results17 _ _ _) rfl ⟨rfl, s, H.out.later HB1.out, GFr.of_below HB1.out⟩
end Go.Proofs.Ytgfiofogcnnkhaa
