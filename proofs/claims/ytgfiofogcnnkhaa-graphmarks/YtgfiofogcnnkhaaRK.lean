/- plays: every call but Back and Copy. -/
import Derived.Test.YtgfiofogcnnkhaaRJ
import Derived.Test.YtgfiofogcnnkhaaRH
import Derived.Test.YtgfiofogcnnkhaaRB
namespace Go.Proofs.Ytgfiofogcnnkhaa
open Go.RowKit Go.Sort
open Go

theorem addNv_form (G : Gr) : ∃ x y, addNv G = .tuple #[.int .i64 x, .int .i64 y] := by
  unfold addNv
  split <;> exact ⟨_, _, rfl⟩
theorem addEv_form (G : Gr) (u v : Int) : ∃ x y, addEv G u v = .tuple #[.int .i64 x, .int .i64 y] := by
  unfold addEv
  split <;> exact ⟨_, _, rfl⟩
theorem drV_form (G : Gr) (v : Int) : ∃ x y, drV G v = .tuple #[.int .i64 x, .int .i64 y] := by
  unfold drV
  split <;> exact ⟨_, _, rfl⟩
theorem unV_form (G : Gr) (v : Int) : ∃ x y, unV G v = .tuple #[.int .i64 x, .int .i64 y] := by
  unfold unV
  split <;> exact ⟨_, _, rfl⟩
theorem splV_form (G : Gr) (v : Int) : ∃ x y z, splV G v = .tuple #[.int .i64 x, .int .i64 y, .int .i64 z] := by
  unfold splV
  split <;> exact ⟨_, _, _, rfl⟩
theorem endsV_form (G : Gr) (v : Int) : ∃ x y z, endsV G v = .tuple #[.int .i64 x, .int .i64 y, .int .i64 z] := by
  unfold endsV
  split <;> exact ⟨_, _, _, rfl⟩
theorem Core.addNv {G R : Gr} (h : Core G R) : addNv G = addNv R := by
  obtain ⟨ns, es, nn, ne, ms, lm, dn⟩ := G
  obtain ⟨ns', es', nn', ne', ms', lm', dn'⟩ := R
  obtain ⟨h1, h2, h3, h4⟩ := h
  simp only at h1 h2 h3 h4
  subst h1 h2 h3 h4
  rfl
theorem Core.addEv {G R : Gr} (h : Core G R) (u v : Int) : addEv G u v = addEv R u v := by
  obtain ⟨ns, es, nn, ne, ms, lm, dn⟩ := G
  obtain ⟨ns', es', nn', ne', ms', lm', dn'⟩ := R
  obtain ⟨h1, h2, h3, h4⟩ := h
  simp only at h1 h2 h3 h4
  subst h1 h2 h3 h4
  rfl
theorem Core.drV {G R : Gr} (h : Core G R) (v : Int) : drV G v = drV R v := by
  obtain ⟨ns, es, nn, ne, ms, lm, dn⟩ := G
  obtain ⟨ns', es', nn', ne', ms', lm', dn'⟩ := R
  obtain ⟨h1, h2, h3, h4⟩ := h
  simp only at h1 h2 h3 h4
  subst h1 h2 h3 h4
  rfl
theorem Core.unV {G R : Gr} (h : Core G R) (v : Int) : unV G v = unV R v := by
  obtain ⟨ns, es, nn, ne, ms, lm, dn⟩ := G
  obtain ⟨ns', es', nn', ne', ms', lm', dn'⟩ := R
  obtain ⟨h1, h2, h3, h4⟩ := h
  simp only at h1 h2 h3 h4
  subst h1 h2 h3 h4
  rfl
theorem Core.splV {G R : Gr} (h : Core G R) (v : Int) : splV G v = splV R v := by
  obtain ⟨ns, es, nn, ne, ms, lm, dn⟩ := G
  obtain ⟨ns', es', nn', ne', ms', lm', dn'⟩ := R
  obtain ⟨h1, h2, h3, h4⟩ := h
  simp only at h1 h2 h3 h4
  subst h1 h2 h3 h4
  rfl
theorem Core.endsV {G R : Gr} (h : Core G R) (v : Int) : endsV G v = endsV R v := by
  obtain ⟨ns, es, nn, ne, ms, lm, dn⟩ := G
  obtain ⟨ns', es', nn', ne', ms', lm', dn'⟩ := R
  obtain ⟨h1, h2, h3, h4⟩ := h
  simp only at h1 h2 h3 h4
  subst h1 h2 h3 h4
  rfl
theorem Core.dcE {G R : Gr} (h : Core G R) (v : Int) : dcE G v = dcE R v := by
  obtain ⟨ns, es, nn, ne, ms, lm, dn⟩ := G
  obtain ⟨ns', es', nn', ne', ms', lm', dn'⟩ := R
  obtain ⟨h1, h2, h3, h4⟩ := h
  simp only at h1 h2 h3 h4
  subst h1 h2 h3 h4
  rfl
theorem Core.mvE {G R : Gr} (h : Core G R) (e sd v : Int) : mvE G e sd v = mvE R e sd v := by
  obtain ⟨ns, es, nn, ne, ms, lm, dn⟩ := G
  obtain ⟨ns', es', nn', ne', ms', lm', dn'⟩ := R
  obtain ⟨h1, h2, h3, h4⟩ := h
  simp only at h1 h2 h3 h4
  subst h1 h2 h3 h4
  rfl
theorem idN_take (G : Gr) (v : Int) : ∀ k, k ≤ (plAt G v).length → idN G v k = ((plAt G v).take k).map (fun j => (eat G.es j.toNat).id)
  | 0, _ => rfl
  | k + 1, h => by
    have ih := idN_take G v k (by omega)
    have hk : k < (plAt G v).length := by omega
    simp only [idN, ih]
    rw [List.take_add_one, List.map_append, List.getElem?_eq_getElem hk]
    congr 1
    show [_] = [_]
    unfold iat
    rw [List.getD_eq_getElem?_getD, List.getElem?_eq_getElem hk]
    rfl
theorem rE_map (l : List Ed) (v : Int) : ∀ k, rE l v k = (atN l v k).map (fun j => (eat l j.toNat).id)
  | 0 => rfl
  | k + 1 => by
    simp only [rE, atN, rE_map l v k, List.map_append]
    congr 1
    split
    · simp
    · rfl
theorem idAt_rE (G : Gr) (v : Int) : idAt G v = rE G.es v G.es.length := by
  unfold idAt
  rw [idN_take G v _ (Nat.le_refl _), List.take_length, rE_map]
  rfl
theorem PPost.mono {w0 : World} {kr b br : Nat} {G' R' : Gr} {M' : List (Int × Gr)} {L' : Int} {mk' : List Int} {P Q : Prop} {e : Ending} {w' : World} (h : PPost w0 kr b br G' R' M' L' mk' P e w') (hq : Q → P) : PPost w0 kr b br G' R' M' L' mk' Q e w' := by
  obtain ⟨r, s, V, vk, h1, h2, h3⟩ := h
  exact ⟨r, s, V, vk, h1, fun q => h2 (hq q), h3⟩
theorem tup2 {x y x' y' : Int} (h : Value.tuple #[.int .i64 x, .int .i64 y] = .tuple #[.int .i64 x', .int .i64 y']) : x = x' ∧ y = y' := by
  simp only [Value.tuple.injEq, Array.mk.injEq, List.cons.injEq, Value.int.injEq, true_and, and_true] at h
  exact h
theorem tup3 {x y z x' y' z' : Int} (h : Value.tuple #[.int .i64 x, .int .i64 y, .int .i64 z] = .tuple #[.int .i64 x', .int .i64 y', .int .i64 z']) : x = x' ∧ y = y' ∧ z = z' := by
  simp only [Value.tuple.injEq, Array.mk.injEq, List.cons.injEq, Value.int.injEq, true_and, and_true] at h
  exact h
set_option maxHeartbeats 1000000 in
theorem plays14 (n kr b br : Nat) (s : GV) (V : RV) (G R : Gr) (M : List (Int × Gr)) (L : Int) (vk : Value) (mk : List Int) (o : Opr) (w0 w : World) (h : Run w0 w kr b br s V G R M L vk mk) (hK : Keeps n G R M L mk) (hn : n ≤ 1000) (h11 : o.k ≠ 11) (h12 : o.k ≠ 12) :
    Calls Try.prog 14 #[ptr kr, opv o.k o.a o.b o.c] w (PPost w0 kr b br (opA o G) (opG o R) (opM o R M L) (opL o M L) (opK o G mk) (Core G R ∧ mrkV G = rmV M L)) := by
  obtain ⟨k, a, bb, c⟩ := o
  have hd := hK.dn
  have hm := hK.ms
  have fg := hK.fg
  have fr := hK.fr
  have g1 := fg.n1
  have g2 := fg.n2
  have g3 := fg.e1
  have g4 := fg.e2
  have r1 := fr.n1
  have r2 := fr.n2
  have r3 := fr.e1
  have r4 := fr.e2
  simp only at h11 h12
  show Calls Try.prog 14 #[ptr kr, opv k a bb c] w _
  by_cases h1 : k = 1
  · subst h1
    obtain ⟨x, y, hx⟩ := addNv_form G
    obtain ⟨x', y', hx'⟩ := addNv_form R
    refine (play1 kr b br s V G (addN G) R (addN R) M L vk mk a bb c x y x' y' w0 w h (fun U s hg => ?_) (fun U V hr => ?_)).mono (fun e w' hp => hp.mono (fun hc => tup2 (by rw [← hx, ← hx']; exact hc.1.addNv)))
    · rw [← hx]
      exact addNode23 b s G U hg (by omega) hm fg.ln (by omega) (by omega)
    · rw [← hx']
      exact rAddNode36 br V R M L U hr fr.ln r1 (by omega)
  by_cases h2 : k = 2
  · subst h2
    obtain ⟨x, y, hx⟩ := addEv_form G a bb
    obtain ⟨x', y', hx'⟩ := addEv_form R a bb
    refine (play2 kr b br s V G (addE G a bb) R (addE R a bb) M L vk mk a bb c x y x' y' w0 w h (fun U s hg => ?_) (fun U V hr => ?_)).mono (fun e w' hp => hp.mono (fun hc => tup2 (by rw [← hx, ← hx']; exact hc.1.addEv a bb)))
    · rw [← hx]
      exact addEdge24 b s G a bb U hg (by omega) hm fg.ln fg.un fg.le (by omega) (by omega)
    · rw [← hx']
      exact rAddEdge37 br V R M L a bb U hr fr.le fr.ln fr.un r3 (by omega)
  by_cases h3 : k = 3
  · subst h3
    obtain ⟨x, y, hx⟩ := drV_form G a
    obtain ⟨x', y', hx'⟩ := drV_form R a
    refine (play3 kr b br s V G (drG G a) R (drG R a) M L vk mk a bb c x y x' y' w0 w h (fun U s hg => ?_) (fun U V hr => ?_)).mono (fun e w' hp => hp.mono (fun hc => tup2 (by rw [← hx, ← hx']; exact hc.1.drV a)))
    · rw [← hx]
      exact dropNode25 b s G a U hg (by omega) hm fg.ln fg.le fg.un
    · rw [← hx']
      exact rDropNode38 br V R M L a U hr fr.ln fr.le fr.un
  by_cases h4 : k = 4
  · subst h4
    refine (play4 kr b br s V G (dcG G a) R (dcG R a) M L vk mk a bb c (dcE G a) (dcE R a) w0 w h (fun U s hg => ?_) (fun U V hr => ?_)).mono (fun e w' hp => hp.mono (fun hc => hc.1.dcE a))
    · exact dropEdge27 b s G a U hg (by omega) hm fg.le fg.ue
    · exact rDropEdge39 br V R M L a U hr fr.le fr.ue
  by_cases h5 : k = 5
  · subst h5
    obtain ⟨x, y, z, hx⟩ := splV_form G a
    obtain ⟨x', y', z', hx'⟩ := splV_form R a
    refine (play5 kr b br s V G (splG G a) R (splG R a) M L vk mk a bb c x y z x' y' z' w0 w h (fun U s hg => ?_) (fun U V hr => ?_)).mono (fun e w' hp => hp.mono (fun hc => tup3 (by rw [← hx, ← hx']; exact hc.1.splV a)))
    · rw [← hx]
      exact split17 b s G a U hg (by omega) hm fg.ln fg.le fg.ue (by omega) (by omega) (by omega) (by omega)
    · rw [← hx']
      exact rSplit40 br V R M L a _ U hr fr (by omega)
  by_cases h6 : k = 6
  · subst h6
    obtain ⟨x, y, hx⟩ := unV_form G a
    obtain ⟨x', y', hx'⟩ := unV_form R a
    refine (play6 kr b br s V G (unG G a) R (unG R a) M L vk mk a bb c x y x' y' w0 w h (fun U s hg => ?_) (fun U V hr => ?_)).mono (fun e w' hp => hp.mono (fun hc => tup2 (by rw [← hx, ← hx']; exact hc.1.unV a)))
    · rw [← hx]
      exact unsplit18 b s G a U hg (by omega) hm fg.ln fg.le fg.un
    · rw [← hx']
      exact rUnsplit41 br V R M L a U hr fr.ln fr.le fr.un fr.ue
  by_cases h7 : k = 7
  · subst h7
    refine (play7 kr b br s V G (mvG G a bb c) R (mvG R a bb c) M L vk mk a bb c (mvE G a bb c) (mvE R a bb c) w0 w h (fun U s hg => ?_) (fun U V hr => ?_)).mono (fun e w' hp => hp.mono (fun hc => hc.1.mvE a bb c))
    · exact move28 b s G a bb c U hg (by omega) hm fg.ln fg.le fg.un fg.ue
    · exact rMove42 br V R M L a bb c U hr fr.ln fr.le fr.un fr.ue
  by_cases h8 : k = 8
  · subst h8
    obtain ⟨x, y, z, hx⟩ := endsV_form G a
    obtain ⟨x', y', z', hx'⟩ := endsV_form R a
    have hl1 := fg.le
    have hl2 := fr.le
    refine (play8 kr b br s V G G R R M L vk mk a bb c x y z x' y' z' w0 w h (fun U s hg => ?_) (fun U V hr => ?_)).mono (fun e w' hp => hp.mono (fun hc => tup3 (by rw [← hx, ← hx']; exact hc.1.endsV a)))
    · rw [← hx]
      exact (ends16 b s G a U hg (by omega) fg.ue).mono (fun e w' hp => ⟨hp.1, s, hg.later hp.2, GFr.of_below hp.2⟩)
    · rw [← hx']
      exact (rEnds43 br V R M L a U hr (by omega) fr.ue).mono (fun e w' hp => ⟨hp.1, V, hr.later hp.2, RFr.of_below hp.2⟩)
  by_cases h9 : k = 9
  · subst h9
    have hl1 := fg.le
    have hl2 := fr.le
    exact (play9 kr b br s V G R M L vk mk a bb c w0 w h (by omega) (by omega)).mono (fun e w' hp => hp.mono (fun hc => by rw [idAt_rE, hc.1.es]))
  by_cases h10 : k = 10
  · subst h10
    have hl1 := fr.ln
    have hl2 := fr.le
    have k1 := hK.l1
    have k2 := hK.L1
    have k3 := hK.mkl
    exact (play10 kr b br s V G (mrkG G) R M (rmM R M L) L (rmL M L) vk mk a bb c (mrkV G) (rmV M L) w0 w h (by omega) (fun U s hg => mark21 b s G U hg hm hK.l0 (by omega)) (fun U V hr => rMark45 br V R M L U hr hK.mM hK.L0 (by omega) (by omega) (by omega))).mono (fun e w' hp => hp.mono (fun hc => hc.2))
  · have eA : opA ⟨k, a, bb, c⟩ G = G := by simp [opA, opG, h1, h2, h3, h4, h5, h6, h7, h10]
    have eG : opG ⟨k, a, bb, c⟩ R = R := by simp [opG, h1, h2, h3, h4, h5, h6, h7]
    have eM : opM ⟨k, a, bb, c⟩ R M L = M := if_neg h10
    have eL : opL ⟨k, a, bb, c⟩ M L = L := if_neg h10
    have eK : opK ⟨k, a, bb, c⟩ G mk = mk := if_neg h10
    rw [eA, eG, eM, eL, eK]
    exact (play0 kr b br s V G R M L vk mk k a bb c w0 w h (by omega)).mono (fun e w' hp => hp.mono (fun _ => trivial))
theorem fine_G0 : Fine 1 G0 := ⟨List.Pairwise.nil, List.Pairwise.nil, by decide, by decide, fun x hx => by simp [G0] at hx, fun x hx => by simp [G0] at hx, by decide, by decide, by decide, by decide⟩
end Go.Proofs.Ytgfiofogcnnkhaa
