/- GraphAll's walk. -/
import Derived.Test.YtgfiofogcnnkhaaRC
import Derived.Test.YtgfiofogcnnkhaaR6
import Derived.Test.YtgfiofogcnnkhaaP1
import Derived.Test.YtgfiofogcnnkhaaRJ
import Derived.Test.YtgfiofogcnnkhaaRB
import Derived.Test.YtgfiofogcnnkhaaRT
import Derived.Test.YtgfiofogcnnkhaaRE
import Derived.Test.YtgfiofogcnnkhaaRF
import Derived.Test.YtgfiofogcnnkhaaRM
import Derived.Test.YtgfiofogcnnkhaaRQ
import Derived.Test.YtgfiofogcnnkhaaR2
import Derived.Test.YtgfiofogcnnkhaaHB
/- A call, as what it makes of a graph (pure). -/
namespace Go.Proofs.Ytgfiofogcnnkhaa
open Go.RowKit Go.Sort
open Go

/-- What a call makes of nodes and edges. -/
def opG (o : Opr) (G : Gr) : Gr :=
  if o.k = 1 then addN G else if o.k = 2 then addE G o.a o.b else if o.k = 3 then drG G o.a else if o.k = 4 then dcG G o.a
  else if o.k = 5 then splG G o.a else if o.k = 6 then unG G o.a else if o.k = 7 then mvG G o.a o.b o.c else G
/-- What a call makes of the program's graph. -/
def opA (o : Opr) (G : Gr) : Gr := if o.k = 10 then mrkG G else opG o G
def opM (o : Opr) (R : Gr) (M : List (Int × Gr)) (L : Int) : List (Int × Gr) := if o.k = 10 then rmM R M L else M
def opL (o : Opr) (M : List (Int × Gr)) (L : Int) : Int := if o.k = 10 then rmL M L else L
def opK (o : Opr) (G : Gr) (mk : List Int) : List Int := if o.k = 10 then mk ++ [mrkV G] else mk
theorem Fine.op {N : Int} {G : Gr} (h : Fine N G) (o : Opr) : Fine (N + 2) (opG o G) := by
  unfold opG
  repeat' split
  · exact h.addN.mono (by omega)
  · exact (h.addE _ _).mono (by omega)
  · exact (h.dr _).mono (by omega)
  · exact (h.dc _).mono (by omega)
  · exact h.spl _
  · exact (h.un_ _).mono (by omega)
  · exact (h.mv _ _ _).mono (by omega)
  · exact h.mono (by omega)
theorem Fine.mrk {N : Int} {G : Gr} (h : Fine N G) : Fine N (mrkG G) := by
  unfold mrkG
  split
  · exact h
  · exact ⟨h.un, h.ue, h.ln, h.le, h.bn, h.be, h.n1, h.n2, h.e1, h.e2⟩
theorem Fine.opA {N : Int} {G : Gr} (h : Fine N G) (o : Opr) : Fine (N + 2) (opA o G) := by
  unfold Go.Proofs.Ytgfiofogcnnkhaa.opA
  split
  · exact h.mrk.mono (by omega)
  · exact h.op o
/-- Marks and the last mark's number stay; so many steps come at most. -/
structure Stay (G G' : Gr) : Prop where
  ms : G'.ms = G.ms
  lm : G'.lm = G.lm
  dn : G'.dn.length ≤ G.dn.length + 3100
theorem Stay.refl (G : Gr) : Stay G G := ⟨rfl, rfl, by omega⟩
theorem stay_op {N : Int} {G : Gr} (h : Fine N G) (o : Opr) : Stay G (opG o G) := by
  unfold opG
  repeat' split
  · unfold addN
    split
    · exact Stay.refl G
    · exact ⟨rfl, rfl, by have : G.layN.dn.length ≤ G.dn.length + 1 := rem_dn _ _; omega⟩
  · unfold addE
    split
    · exact ⟨rfl, rfl, by have : (G.layE o.a o.b).dn.length ≤ G.dn.length + 1 := rem_dn _ _; omega⟩
    · exact Stay.refl G
  · unfold drG
    split
    · obtain ⟨_, _, _, h4, h5, h6⟩ := dpE_rest G (plAt G o.a)
      have h7 : (plAt G o.a).length ≤ 3072 := Nat.le_trans (atN_length _ _ _) h.le
      exact ⟨h4, h5, by have : ((dpE G (plAt G o.a)).takeN (pl G.ns o.a)).dn.length ≤ (dpE G (plAt G o.a)).dn.length + 1 := rem_dn _ _; omega⟩
    · exact Stay.refl G
  · unfold dcG
    split
    · exact ⟨rfl, rfl, by have : (G.takeE (pl (eids G.es) o.a)).dn.length ≤ G.dn.length + 1 := rem_dn _ _; omega⟩
    · exact Stay.refl G
  · unfold splG
    split
    · refine ⟨rfl, rfl, ?_⟩
      have h1 : G.layN.dn.length ≤ G.dn.length + 1 := rem_dn _ _
      have h2 : (G.layN.setE (pl (eids G.es) o.a) 1 G.nn).dn.length ≤ G.layN.dn.length + 1 := rem_dn _ _
      have h3 : (splD G o.a).dn.length ≤ (G.layN.setE (pl (eids G.es) o.a) 1 G.nn).dn.length + 1 := rem_dn _ _
      omega
    · exact Stay.refl G
  · unfold unG
    split
    · refine ⟨rfl, rfl, ?_⟩
      have h1 : (G.setE (un0 G o.a) ((eat G.es (un0 G o.a)).side o.a) ((eat G.es (un1 G o.a)).far o.a)).dn.length ≤ G.dn.length + 1 := rem_dn _ _
      have h2 : ((G.setE (un0 G o.a) ((eat G.es (un0 G o.a)).side o.a) ((eat G.es (un1 G o.a)).far o.a)).takeE (un1 G o.a)).dn.length ≤ (G.setE (un0 G o.a) ((eat G.es (un0 G o.a)).side o.a) ((eat G.es (un1 G o.a)).far o.a)).dn.length + 1 := rem_dn _ _
      have h3 : (unD G o.a).dn.length ≤ ((G.setE (un0 G o.a) ((eat G.es (un0 G o.a)).side o.a) ((eat G.es (un1 G o.a)).far o.a)).takeE (un1 G o.a)).dn.length + 1 := rem_dn _ _
      omega
    · exact Stay.refl G
  · unfold mvG
    split
    · exact ⟨rfl, rfl, by have : (G.setE (pl (eids G.es) o.a) o.b.toNat o.c).dn.length ≤ G.dn.length + 1 := rem_dn _ _; omega⟩
    · exact Stay.refl G
  · exact Stay.refl G
theorem Hist.op {N : Int} {A G : Gr} (h : Hist A G) (hf : Fine N G) (hN : N ≤ 800000000) (o : Opr) : Hist A (opG o G) := by
  unfold opG
  repeat' split
  · exact h.addN hf hN
  · exact h.addE hf hN _ _
  · exact h.dr hf hN _
  · exact h.dc hf hN _
  · exact h.spl hf hN _
  · exact h.un hf hN _
  · exact h.mv hf hN _ _ _
  · exact h
theorem Hist.opA {N : Int} {A G : Gr} (h : Hist A G) (hf : Fine N G) (hN : N ≤ 800000000) (o : Opr) : Hist A (opA o G) := by
  unfold Go.Proofs.Ytgfiofogcnnkhaa.opA
  split
  · exact h.mrk
  · exact h.op hf hN o
/-- What a run keeps to behind k calls. -/
structure Keeps (k : Nat) (G R : Gr) (M : List (Int × Gr)) (L : Int) (mk : List Int) : Prop where
  fg : Fine (4000 + 2 * k) G
  fr : Fine (4000 + 2 * k) R
  ms : G.ms.length ≤ 64
  l0 : 0 ≤ G.lm
  l1 : G.lm ≤ k + 1
  dn : G.dn.length ≤ 3100 * k
  mM : M.length ≤ 64
  L0 : 0 ≤ L
  L1 : L ≤ k + 1
  mkl : mk.length ≤ k
theorem Keeps.op {k : Nat} {G R : Gr} {M : List (Int × Gr)} {L : Int} {mk : List Int} (h : Keeps k G R M L mk) (o : Opr) : Keeps (k + 1) (opA o G) (opG o R) (opM o R M L) (opL o M L) (opK o G mk) := by
  have e : (4000 + 2 * (k : Int)) + 2 = 4000 + 2 * ((k + 1 : Nat) : Int) := by omega
  have hfg := h.fg.opA o
  have hfr := h.fr.op o
  rw [e] at hfg hfr
  have h1 := h.ms
  have h2 := h.l0
  have h3 := h.l1
  have h4 := h.dn
  have h5 := h.mM
  have h6 := h.L0
  have h7 := h.L1
  have h8 := h.mkl
  by_cases hk : o.k = 10
  · have eM : opM o R M L = rmM R M L := if_pos hk
    have eL : opL o M L = rmL M L := if_pos hk
    have eK : opK o G mk = mk ++ [mrkV G] := if_pos hk
    have eA : opA o G = mrkG G := if_pos hk
    rw [eM, eL, eK]
    have fA : (opA o G).ms.length ≤ 64 ∧ 0 ≤ (opA o G).lm ∧ (opA o G).lm ≤ ((k + 1 : Nat) : Int) + 1 ∧ (opA o G).dn.length ≤ 3100 * (k + 1) := by
      rw [eA]
      unfold mrkG
      split
      · exact ⟨h1, h2, by omega, by omega⟩
      · refine ⟨?_, ?_, ?_, ?_⟩
        · show (G.ms ++ [(G.lm + 1, G.dn.length)]).length ≤ 64
          rw [List.length_append, List.length_singleton]
          omega
        · show 0 ≤ G.lm + 1
          omega
        · show G.lm + 1 ≤ _
          omega
        · show G.dn.length ≤ _
          omega
    have fM : (rmM R M L).length ≤ 64 := by
      unfold rmM
      split
      · exact h5
      · rw [List.length_append, List.length_singleton]
        omega
    have fL : 0 ≤ rmL M L ∧ rmL M L ≤ ((k + 1 : Nat) : Int) + 1 := by
      unfold rmL
      split <;> omega
    exact ⟨hfg, hfr, fA.1, fA.2.1, fA.2.2.1, fA.2.2.2, fM, fL.1, fL.2, by rw [List.length_append, List.length_singleton]; omega⟩
  · have eM : opM o R M L = M := if_neg hk
    have eL : opL o M L = L := if_neg hk
    have eK : opK o G mk = mk := if_neg hk
    have eA : opA o G = opG o G := if_neg hk
    obtain ⟨s1, s2, s3⟩ := stay_op h.fg o
    rw [eM, eL, eK]
    refine ⟨hfg, hfr, ?_, ?_, ?_, ?_, h5, h6, by omega, by omega⟩
    · rw [eA, s1]; exact h1
    · rw [eA, s2]; exact h2
    · rw [eA, s2]; omega
    · rw [eA]; omega
end Go.Proofs.Ytgfiofogcnnkhaa

/- plays: every call but Back and Copy. -/
namespace Go.Proofs.Ytgfiofogcnnkhaa
open Go.RowKit Go.Sort
open Go

theorem addNv_form (G : Gr) : ∃ x y, addNv G = .tuple #[.int .i64 x, .int .i64 y] := by
  unfold addNv
  split <;> exact ⟨_, _, rfl⟩
theorem addEv_form (G : Gr) (u v : Int) : ∃ x y, addEv G u v = .tuple #[.int .i64 x, .int .i64 y] := by
  unfold addEv
  split <;> exact ⟨_, _, rfl⟩
theorem drV_form (G : Gr) (v : Int) : ∃ x y, drV G v = .tuple #[.int .i64 x, .int .i64 y] := by
  unfold drV
  split <;> exact ⟨_, _, rfl⟩
theorem unV_form (G : Gr) (v : Int) : ∃ x y, unV G v = .tuple #[.int .i64 x, .int .i64 y] := by
  unfold unV
  split <;> exact ⟨_, _, rfl⟩
theorem splV_form (G : Gr) (v : Int) : ∃ x y z, splV G v = .tuple #[.int .i64 x, .int .i64 y, .int .i64 z] := by
  unfold splV
  split <;> exact ⟨_, _, _, rfl⟩
theorem endsV_form (G : Gr) (v : Int) : ∃ x y z, endsV G v = .tuple #[.int .i64 x, .int .i64 y, .int .i64 z] := by
  unfold endsV
  split <;> exact ⟨_, _, _, rfl⟩
theorem Core.addNv {G R : Gr} (h : Core G R) : addNv G = addNv R := by
  obtain ⟨ns, es, nn, ne, ms, lm, dn⟩ := G
  obtain ⟨ns', es', nn', ne', ms', lm', dn'⟩ := R
  obtain ⟨h1, h2, h3, h4⟩ := h
  simp only at h1 h2 h3 h4
  subst h1 h2 h3 h4
  rfl
theorem Core.addEv {G R : Gr} (h : Core G R) (u v : Int) : addEv G u v = addEv R u v := by
  obtain ⟨ns, es, nn, ne, ms, lm, dn⟩ := G
  obtain ⟨ns', es', nn', ne', ms', lm', dn'⟩ := R
  obtain ⟨h1, h2, h3, h4⟩ := h
  simp only at h1 h2 h3 h4
  subst h1 h2 h3 h4
  rfl
theorem Core.drV {G R : Gr} (h : Core G R) (v : Int) : drV G v = drV R v := by
  obtain ⟨ns, es, nn, ne, ms, lm, dn⟩ := G
  obtain ⟨ns', es', nn', ne', ms', lm', dn'⟩ := R
  obtain ⟨h1, h2, h3, h4⟩ := h
  simp only at h1 h2 h3 h4
  subst h1 h2 h3 h4
  rfl
theorem Core.unV {G R : Gr} (h : Core G R) (v : Int) : unV G v = unV R v := by
  obtain ⟨ns, es, nn, ne, ms, lm, dn⟩ := G
  obtain ⟨ns', es', nn', ne', ms', lm', dn'⟩ := R
  obtain ⟨h1, h2, h3, h4⟩ := h
  simp only at h1 h2 h3 h4
  subst h1 h2 h3 h4
  rfl
theorem Core.splV {G R : Gr} (h : Core G R) (v : Int) : splV G v = splV R v := by
  obtain ⟨ns, es, nn, ne, ms, lm, dn⟩ := G
  obtain ⟨ns', es', nn', ne', ms', lm', dn'⟩ := R
  obtain ⟨h1, h2, h3, h4⟩ := h
  simp only at h1 h2 h3 h4
  subst h1 h2 h3 h4
  rfl
theorem Core.endsV {G R : Gr} (h : Core G R) (v : Int) : endsV G v = endsV R v := by
  obtain ⟨ns, es, nn, ne, ms, lm, dn⟩ := G
  obtain ⟨ns', es', nn', ne', ms', lm', dn'⟩ := R
  obtain ⟨h1, h2, h3, h4⟩ := h
  simp only at h1 h2 h3 h4
  subst h1 h2 h3 h4
  rfl
theorem Core.dcE {G R : Gr} (h : Core G R) (v : Int) : dcE G v = dcE R v := by
  obtain ⟨ns, es, nn, ne, ms, lm, dn⟩ := G
  obtain ⟨ns', es', nn', ne', ms', lm', dn'⟩ := R
  obtain ⟨h1, h2, h3, h4⟩ := h
  simp only at h1 h2 h3 h4
  subst h1 h2 h3 h4
  rfl
theorem Core.mvE {G R : Gr} (h : Core G R) (e sd v : Int) : mvE G e sd v = mvE R e sd v := by
  obtain ⟨ns, es, nn, ne, ms, lm, dn⟩ := G
  obtain ⟨ns', es', nn', ne', ms', lm', dn'⟩ := R
  obtain ⟨h1, h2, h3, h4⟩ := h
  simp only at h1 h2 h3 h4
  subst h1 h2 h3 h4
  rfl
theorem idN_take (G : Gr) (v : Int) : ∀ k, k ≤ (plAt G v).length → idN G v k = ((plAt G v).take k).map (fun j => (eat G.es j.toNat).id)
  | 0, _ => rfl
  | k + 1, h => by
    have ih := idN_take G v k (by omega)
    have hk : k < (plAt G v).length := by omega
    simp only [idN, ih]
    rw [List.take_add_one, List.map_append, List.getElem?_eq_getElem hk]
    congr 1
    show [_] = [_]
    unfold iat
    rw [List.getD_eq_getElem?_getD, List.getElem?_eq_getElem hk]
    rfl
theorem rE_map (l : List Ed) (v : Int) : ∀ k, rE l v k = (atN l v k).map (fun j => (eat l j.toNat).id)
  | 0 => rfl
  | k + 1 => by
    simp only [rE, atN, rE_map l v k, List.map_append]
    congr 1
    split
    · simp
    · rfl
theorem idAt_rE (G : Gr) (v : Int) : idAt G v = rE G.es v G.es.length := by
  unfold idAt
  rw [idN_take G v _ (Nat.le_refl _), List.take_length, rE_map]
  rfl
theorem PPost.mono {w0 : World} {kr b br : Nat} {G' R' : Gr} {M' : List (Int × Gr)} {L' : Int} {mk' : List Int} {P Q : Prop} {e : Ending} {w' : World} (h : PPost w0 kr b br G' R' M' L' mk' P e w') (hq : Q → P) : PPost w0 kr b br G' R' M' L' mk' Q e w' := by
  obtain ⟨r, s, V, vk, h1, h2, h3⟩ := h
  exact ⟨r, s, V, vk, h1, fun q => h2 (hq q), h3⟩
theorem tup2 {x y x' y' : Int} (h : Value.tuple #[.int .i64 x, .int .i64 y] = .tuple #[.int .i64 x', .int .i64 y']) : x = x' ∧ y = y' := by
  simp only [Value.tuple.injEq, Array.mk.injEq, List.cons.injEq, Value.int.injEq, true_and, and_true] at h
  exact h
theorem tup3 {x y z x' y' z' : Int} (h : Value.tuple #[.int .i64 x, .int .i64 y, .int .i64 z] = .tuple #[.int .i64 x', .int .i64 y', .int .i64 z']) : x = x' ∧ y = y' ∧ z = z' := by
  simp only [Value.tuple.injEq, Array.mk.injEq, List.cons.injEq, Value.int.injEq, true_and, and_true] at h
  exact h
set_option maxHeartbeats 1000000 in
theorem plays14 (n kr b br : Nat) (s : GV) (V : RV) (G R : Gr) (M : List (Int × Gr)) (L : Int) (vk : Value) (mk : List Int) (o : Opr) (w0 w : World) (h : Run w0 w kr b br s V G R M L vk mk) (hK : Keeps n G R M L mk) (hn : n ≤ 1000) (h11 : o.k ≠ 11) (h12 : o.k ≠ 12) :
    Calls Try.prog 14 #[ptr kr, opv o.k o.a o.b o.c] w (PPost w0 kr b br (opA o G) (opG o R) (opM o R M L) (opL o M L) (opK o G mk) (Core G R ∧ mrkV G = rmV M L)) := by
  obtain ⟨k, a, bb, c⟩ := o
  have hd := hK.dn
  have hm := hK.ms
  have fg := hK.fg
  have fr := hK.fr
  have g1 := fg.n1
  have g2 := fg.n2
  have g3 := fg.e1
  have g4 := fg.e2
  have r1 := fr.n1
  have r2 := fr.n2
  have r3 := fr.e1
  have r4 := fr.e2
  simp only at h11 h12
  show Calls Try.prog 14 #[ptr kr, opv k a bb c] w _
  by_cases h1 : k = 1
  · subst h1
    obtain ⟨x, y, hx⟩ := addNv_form G
    obtain ⟨x', y', hx'⟩ := addNv_form R
    refine (play1 kr b br s V G (addN G) R (addN R) M L vk mk a bb c x y x' y' w0 w h (fun U s hg => ?_) (fun U V hr => ?_)).mono (fun e w' hp => hp.mono (fun hc => tup2 (by rw [← hx, ← hx']; exact hc.1.addNv)))
    · rw [← hx]
      exact addNode23 b s G U hg (by omega) hm fg.ln (by omega) (by omega)
    · rw [← hx']
      exact rAddNode36 br V R M L U hr fr.ln r1 (by omega)
  by_cases h2 : k = 2
  · subst h2
    obtain ⟨x, y, hx⟩ := addEv_form G a bb
    obtain ⟨x', y', hx'⟩ := addEv_form R a bb
    refine (play2 kr b br s V G (addE G a bb) R (addE R a bb) M L vk mk a bb c x y x' y' w0 w h (fun U s hg => ?_) (fun U V hr => ?_)).mono (fun e w' hp => hp.mono (fun hc => tup2 (by rw [← hx, ← hx']; exact hc.1.addEv a bb)))
    · rw [← hx]
      exact addEdge24 b s G a bb U hg (by omega) hm fg.ln fg.un fg.le (by omega) (by omega)
    · rw [← hx']
      exact rAddEdge37 br V R M L a bb U hr fr.le fr.ln fr.un r3 (by omega)
  by_cases h3 : k = 3
  · subst h3
    obtain ⟨x, y, hx⟩ := drV_form G a
    obtain ⟨x', y', hx'⟩ := drV_form R a
    refine (play3 kr b br s V G (drG G a) R (drG R a) M L vk mk a bb c x y x' y' w0 w h (fun U s hg => ?_) (fun U V hr => ?_)).mono (fun e w' hp => hp.mono (fun hc => tup2 (by rw [← hx, ← hx']; exact hc.1.drV a)))
    · rw [← hx]
      exact dropNode25 b s G a U hg (by omega) hm fg.ln fg.le fg.un
    · rw [← hx']
      exact rDropNode38 br V R M L a U hr fr.ln fr.le fr.un
  by_cases h4 : k = 4
  · subst h4
    refine (play4 kr b br s V G (dcG G a) R (dcG R a) M L vk mk a bb c (dcE G a) (dcE R a) w0 w h (fun U s hg => ?_) (fun U V hr => ?_)).mono (fun e w' hp => hp.mono (fun hc => hc.1.dcE a))
    · exact dropEdge27 b s G a U hg (by omega) hm fg.le fg.ue
    · exact rDropEdge39 br V R M L a U hr fr.le fr.ue
  by_cases h5 : k = 5
  · subst h5
    obtain ⟨x, y, z, hx⟩ := splV_form G a
    obtain ⟨x', y', z', hx'⟩ := splV_form R a
    refine (play5 kr b br s V G (splG G a) R (splG R a) M L vk mk a bb c x y z x' y' z' w0 w h (fun U s hg => ?_) (fun U V hr => ?_)).mono (fun e w' hp => hp.mono (fun hc => tup3 (by rw [← hx, ← hx']; exact hc.1.splV a)))
    · rw [← hx]
      exact split17 b s G a U hg (by omega) hm fg.ln fg.le fg.ue (by omega) (by omega) (by omega) (by omega)
    · rw [← hx']
      exact rSplit40 br V R M L a _ U hr fr (by omega)
  by_cases h6 : k = 6
  · subst h6
    obtain ⟨x, y, hx⟩ := unV_form G a
    obtain ⟨x', y', hx'⟩ := unV_form R a
    refine (play6 kr b br s V G (unG G a) R (unG R a) M L vk mk a bb c x y x' y' w0 w h (fun U s hg => ?_) (fun U V hr => ?_)).mono (fun e w' hp => hp.mono (fun hc => tup2 (by rw [← hx, ← hx']; exact hc.1.unV a)))
    · rw [← hx]
      exact unsplit18 b s G a U hg (by omega) hm fg.ln fg.le fg.un
    · rw [← hx']
      exact rUnsplit41 br V R M L a U hr fr.ln fr.le fr.un fr.ue
  by_cases h7 : k = 7
  · subst h7
    refine (play7 kr b br s V G (mvG G a bb c) R (mvG R a bb c) M L vk mk a bb c (mvE G a bb c) (mvE R a bb c) w0 w h (fun U s hg => ?_) (fun U V hr => ?_)).mono (fun e w' hp => hp.mono (fun hc => hc.1.mvE a bb c))
    · exact move28 b s G a bb c U hg (by omega) hm fg.ln fg.le fg.un fg.ue
    · exact rMove42 br V R M L a bb c U hr fr.ln fr.le fr.un fr.ue
  by_cases h8 : k = 8
  · subst h8
    obtain ⟨x, y, z, hx⟩ := endsV_form G a
    obtain ⟨x', y', z', hx'⟩ := endsV_form R a
    have hl1 := fg.le
    have hl2 := fr.le
    refine (play8 kr b br s V G G R R M L vk mk a bb c x y z x' y' z' w0 w h (fun U s hg => ?_) (fun U V hr => ?_)).mono (fun e w' hp => hp.mono (fun hc => tup3 (by rw [← hx, ← hx']; exact hc.1.endsV a)))
    · rw [← hx]
      exact (ends16 b s G a U hg (by omega) fg.ue).mono (fun e w' hp => ⟨hp.1, s, hg.later hp.2, GFr.of_below hp.2⟩)
    · rw [← hx']
      exact (rEnds43 br V R M L a U hr (by omega) fr.ue).mono (fun e w' hp => ⟨hp.1, V, hr.later hp.2, RFr.of_below hp.2⟩)
  by_cases h9 : k = 9
  · subst h9
    have hl1 := fg.le
    have hl2 := fr.le
    exact (play9 kr b br s V G R M L vk mk a bb c w0 w h (by omega) (by omega)).mono (fun e w' hp => hp.mono (fun hc => by rw [idAt_rE, hc.1.es]))
  by_cases h10 : k = 10
  · subst h10
    have hl1 := fr.ln
    have hl2 := fr.le
    have k1 := hK.l1
    have k2 := hK.L1
    have k3 := hK.mkl
    exact (play10 kr b br s V G (mrkG G) R M (rmM R M L) L (rmL M L) vk mk a bb c (mrkV G) (rmV M L) w0 w h (by omega) (fun U s hg => mark21 b s G U hg hm hK.l0 (by omega)) (fun U V hr => rMark45 br V R M L U hr hK.mM hK.L0 (by omega) (by omega) (by omega))).mono (fun e w' hp => hp.mono (fun hc => hc.2))
  · have eA : opA ⟨k, a, bb, c⟩ G = G := by simp [opA, opG, h1, h2, h3, h4, h5, h6, h7, h10]
    have eG : opG ⟨k, a, bb, c⟩ R = R := by simp [opG, h1, h2, h3, h4, h5, h6, h7]
    have eM : opM ⟨k, a, bb, c⟩ R M L = M := if_neg h10
    have eL : opL ⟨k, a, bb, c⟩ M L = L := if_neg h10
    have eK : opK ⟨k, a, bb, c⟩ G mk = mk := if_neg h10
    rw [eA, eG, eM, eL, eK]
    exact (play0 kr b br s V G R M L vk mk k a bb c w0 w h (by omega)).mono (fun e w' hp => hp.mono (fun _ => trivial))
theorem fine_G0 : Fine 1 G0 := ⟨List.Pairwise.nil, List.Pairwise.nil, by decide, by decide, fun x hx => by simp [G0] at hx, fun x hx => by simp [G0] at hx, by decide, by decide, by decide, by decide⟩
end Go.Proofs.Ytgfiofogcnnkhaa

/- plays: every call. -/
/- Both graphs' marks, side by side (pure). -/
namespace Go.Proofs.Ytgfiofogcnnkhaa
open Go.RowKit Go.Sort
open Go

theorem Fine.core {N : Int} {G A : Gr} (h : Fine N A) (c : Core G A) : Fine N G := by
  obtain ⟨c1, c2, c3, c4⟩ := c
  exact ⟨by rw [c1]; exact h.un, by rw [c2]; exact h.ue, by rw [c1]; exact h.ln, by rw [c2]; exact h.le, by rw [c1, c3]; exact h.bn, by rw [c2, c1, c4]; exact h.be, by rw [c3]; exact h.n1, by rw [c3]; exact h.n2, by rw [c4]; exact h.e1, by rw [c4]; exact h.e2⟩
theorem Core.symm {A B : Gr} (h : Core A B) : Core B A := ⟨h.ns.symm, h.es.symm, h.nn.symm, h.ne.symm⟩
theorem mix_mxM : ∀ (ms : List (Int × Nat)) (M : List (Int × Gr)), ms.length = M.length → (∀ j, j < M.length → (mat ms j).1 = (mM M j).1) → ∀ x, mix ms x = mxM M x
  | [], [], _, _, _ => rfl
  | [], _ :: _, h, _, _ => by simp at h
  | _ :: _, [], h, _, _ => by simp at h
  | a :: r, b :: q, h, h1, x => by
    have h0 : a.1 = b.1 := h1 0 (by simp)
    have ih := mix_mxM r q (by simpa using h) (fun j hj => h1 (j + 1) (by simpa using hj)) x
    unfold mix mxM
    rw [h0, ih]
theorem uat_take {l : List Un} {st k : Nat} (h : k < st) : uat (l.take st) k = uat l k := by
  unfold uat
  rw [List.getD_eq_getElem?_getD, List.getD_eq_getElem?_getD, List.getElem?_take, if_pos h]
/-- Gone back by some steps. -/
def bkTo (G : Gr) (st kk : Nat) : Gr := { G.bk (G.dn.length - st) with ms := G.ms.take kk, dn := G.dn.take st }
theorem bkTo_len (G : Gr) {st : Nat} (kk : Nat) (h : st ≤ G.dn.length) : (bkTo G st kk).dn.length = st := by
  show (G.dn.take st).length = st
  rw [List.length_take]
  omega
theorem bkTo_bk (G : Gr) {st : Nat} (kk : Nat) (h : st ≤ G.dn.length) : ∀ t, t ≤ st → Core ((bkTo G st kk).bk t) (G.bk (G.dn.length - st + t))
  | 0, _ => ⟨rfl, rfl, rfl, rfl⟩
  | t + 1, ht => by
    have ih := bkTo_bk G kk h t (by omega)
    show Core (((bkTo G st kk).bk t).undo (uat (bkTo G st kk).dn ((bkTo G st kk).dn.length - 1 - t))) ((G.bk (G.dn.length - st + t)).undo (uat G.dn (G.dn.length - 1 - (G.dn.length - st + t))))
    have e1 : (bkTo G st kk).dn.length - 1 - t = st - 1 - t := by rw [bkTo_len G kk h]
    have e2 : G.dn.length - 1 - (G.dn.length - st + t) = st - 1 - t := by omega
    rw [e1, e2]
    show Core (((bkTo G st kk).bk t).undo (uat (G.dn.take st) (st - 1 - t))) _
    rw [uat_take (by omega)]
    exact ih.undo _
theorem Hist.back {A G : Gr} (h : Hist A G) {st kk j : Nat} (hst : st ≤ G.dn.length) (hA : A.dn.length ≤ st) (hm : A.ms = G.ms.take (j + 1)) (hj : j + 1 ≤ kk) : Hist A (bkTo G st kk) := by
  have hl := bkTo_len G kk hst
  refine ⟨by rw [hl]; exact hA, ?_, fun k h1 h2 => ?_, ?_, ?_, h.some⟩
  · show (G.dn.take st).take A.dn.length = A.dn
    rw [List.take_take, Nat.min_eq_left hA]
    exact h.pre
  · rw [hl] at h2
    have hf := h.fit k h1 (by omega)
    refine Gr.fit_of (B := G.bk (G.dn.length - (k + 1))) ?_ ?_ ⟨hf.ln, hf.le, hf.n0, hf.n1, hf.e0, hf.e1⟩
    · have := bkTo_bk G kk hst (st - (k + 1)) (by omega)
      rw [hl]
      rw [show G.dn.length - st + (st - (k + 1)) = G.dn.length - (k + 1) by omega] at this
      exact this
    · show (G.bk (G.dn.length - (k + 1))).can (uat (G.dn.take st) k)
      rw [uat_take h2]
      exact hf.can
  · have := bkTo_bk G kk hst (st - A.dn.length) (by omega)
    rw [hl]
    rw [show G.dn.length - st + (st - A.dn.length) = G.dn.length - A.dn.length by omega] at this
    exact this.trans h.core
  · refine ⟨(G.ms.take kk).drop (j + 1), ?_⟩
    show G.ms.take kk = A.ms ++ _
    rw [hm]
    have : G.ms.take (j + 1) = (G.ms.take kk).take (j + 1) := by rw [List.take_take, Nat.min_eq_left hj]
    rw [this, List.take_append_drop]
/-- The marks of both graphs. -/
structure MRel (N : Int) (G : Gr) (M : List (Int × Gr)) (L : Int) : Prop where
  lm : G.lm = L
  len : G.ms.length = M.length
  num : ∀ j, j < M.length → (mat G.ms j).1 = (mM M j).1
  fin : ∀ j, j < M.length → Fine N (mM M j).2
  his : ∀ j, j < M.length → ∃ A, Hist A G ∧ Core A (mM M j).2 ∧ A.dn.length = (mat G.ms j).2 ∧ A.ms = G.ms.take (j + 1)
  mono : ∀ i j, i ≤ j → j < M.length → (mat G.ms i).2 ≤ (mat G.ms j).2
theorem MRel.more {N N' : Int} {G : Gr} {M : List (Int × Gr)} {L : Int} (h : MRel N G M L) (hN : N ≤ N') : MRel N' G M L := ⟨h.lm, h.len, h.num, fun j hj => (h.fin j hj).mono hN, h.his, h.mono⟩
theorem MRel.op {N : Int} {G : Gr} {M : List (Int × Gr)} {L : Int} (h : MRel N G M L) (hf : Fine N G) (hN : N ≤ 800000000) (o : Opr) : MRel N (opG o G) M L := by
  obtain ⟨s1, s2, s3⟩ := stay_op hf o
  refine ⟨by rw [s2]; exact h.lm, by rw [s1]; exact h.len, fun j hj => by rw [s1]; exact h.num j hj, h.fin, fun j hj => ?_, fun i j hi hj => by rw [s1]; exact h.mono i j hi hj⟩
  obtain ⟨A, a1, a2, a3, a4⟩ := h.his j hj
  exact ⟨A, a1.op hf hN o, a2, by rw [s1]; exact a3, by rw [s1]; exact a4⟩
theorem mat_old {l : List (Int × Nat)} {x : Int × Nat} {j : Nat} (h : j < l.length) : mat (l ++ [x]) j = mat l j := by
  unfold mat
  rw [List.getD_eq_getElem?_getD, List.getD_eq_getElem?_getD, List.getElem?_append_left h]
theorem mat_new (l : List (Int × Nat)) (x : Int × Nat) : mat (l ++ [x]) l.length = x := by
  unfold mat
  rw [List.getD_eq_getElem?_getD, List.getElem?_append_right (Nat.le_refl _), Nat.sub_self]
  rfl
theorem mM_old {l : List (Int × Gr)} {x : Int × Gr} {j : Nat} (h : j < l.length) : mM (l ++ [x]) j = mM l j := by
  unfold mM
  rw [List.getD_eq_getElem?_getD, List.getD_eq_getElem?_getD, List.getElem?_append_left h]
theorem mM_new (l : List (Int × Gr)) (x : Int × Gr) : mM (l ++ [x]) l.length = x := by
  unfold mM
  rw [List.getD_eq_getElem?_getD, List.getElem?_append_right (Nat.le_refl _), Nat.sub_self]
  rfl
theorem MRel.val {N : Int} {G : Gr} {M : List (Int × Gr)} {L : Int} (h : MRel N G M L) : mrkV G = rmV M L := by
  unfold mrkV rmV
  rw [h.len, h.lm]
theorem MRel.mrk {N : Int} {G R : Gr} {M : List (Int × Gr)} {L : Int} (h : MRel N G M L) (hc : Core G R) (hf : Fine N R) : MRel N (mrkG G) (rmM R M L) (rmL M L) := by
  by_cases hk : 64 ≤ M.length
  · have e1 : mrkG G = G := if_pos (by rw [h.len]; exact hk)
    have e2 : rmM R M L = M := if_pos hk
    have e3 : rmL M L = L := if_pos hk
    rw [e1, e2, e3]
    exact h
  · have e1 : mrkG G = { G with lm := G.lm + 1, ms := G.ms ++ [(G.lm + 1, G.dn.length)] } := if_neg (by rw [h.len]; exact hk)
    have e2 : rmM R M L = M ++ [(L + 1, R)] := if_neg hk
    have e3 : rmL M L = L + 1 := if_neg hk
    have hm : (mrkG G).ms = G.ms ++ [(G.lm + 1, G.dn.length)] := by rw [e1]
    have hd : (mrkG G).dn = G.dn := by rw [e1]
    have hlm : (mrkG G).lm = G.lm + 1 := by rw [e1]
    have hcc : Core (mrkG G) R := by rw [e1]; exact ⟨hc.ns, hc.es, hc.nn, hc.ne⟩
    have hl := h.len
    rw [e2, e3]
    refine ⟨by rw [hlm, h.lm], by rw [hm, List.length_append, List.length_append, hl]; rfl, fun j hj => ?_, fun j hj => ?_, fun j hj => ?_, fun i j hi hj => ?_⟩
    · rw [hm]
      rw [List.length_append, List.length_singleton] at hj
      by_cases hjl : j < M.length
      · rw [mat_old (by omega), mM_old hjl]; exact h.num j hjl
      · have : j = M.length := by omega
        rw [this, mM_new, ← hl, mat_new, h.lm]
    · rw [List.length_append, List.length_singleton] at hj
      by_cases hjl : j < M.length
      · rw [mM_old hjl]; exact h.fin j hjl
      · have : j = M.length := by omega
        rw [this, mM_new]; exact hf
    · rw [List.length_append, List.length_singleton] at hj
      by_cases hjl : j < M.length
      · obtain ⟨A, a1, a2, a3, a4⟩ := h.his j hjl
        refine ⟨A, a1.mrk, by rw [mM_old hjl]; exact a2, by rw [hm, mat_old (by omega)]; exact a3, ?_⟩
        rw [hm, List.take_append_of_le_length (by omega)]
        exact a4
      · have hje : j = M.length := by omega
        refine ⟨mrkG G, Hist.refl (by rw [hm]; simp), by rw [hje, mM_new]; exact hcc, ?_, ?_⟩
        · rw [hd, hm, hje, ← hl, mat_new]
        · rw [List.take_of_length_le]
          rw [hm, List.length_append, List.length_singleton]
          omega
    · rw [List.length_append, List.length_singleton] at hj
      rw [hm]
      by_cases hjl : j < M.length
      · rw [mat_old (by omega), mat_old (by omega)]; exact h.mono i j hi hjl
      · have hje : j = M.length := by omega
        rw [hje, ← hl, mat_new]
        by_cases hil : i < M.length
        · rw [mat_old (by omega)]
          obtain ⟨A, a1, _, a3, _⟩ := h.his i hil
          rw [← a3]
          exact a1.len
        · have : i = M.length := by omega
          rw [this, ← hl, mat_new]
          exact Nat.le_refl _
theorem mat_take {l : List (Int × Nat)} {k j : Nat} (h : j < k) : mat (l.take k) j = mat l j := by
  unfold mat
  rw [List.getD_eq_getElem?_getD, List.getD_eq_getElem?_getD, List.getElem?_take, if_pos h]
theorem mM_take {l : List (Int × Gr)} {k j : Nat} (h : j < k) : mM (l.take k) j = mM l j := by
  unfold mM
  rw [List.getD_eq_getElem?_getD, List.getD_eq_getElem?_getD, List.getElem?_take, if_pos h]
theorem MRel.same {N : Int} {G : Gr} {M : List (Int × Gr)} {L : Int} (h : MRel N G M L) (x : Int) : mix G.ms x = mxM M x := mix_mxM _ _ h.len h.num x
theorem MRel.val2 {N : Int} {G : Gr} {M : List (Int × Gr)} {L : Int} (h : MRel N G M L) (x : Int) : backE G x = rbE M x := by
  unfold backE rbE
  rw [h.same, h.len]
theorem MRel.can {N : Int} {G : Gr} {M : List (Int × Gr)} {L : Int} (h : MRel N G M L) (x : Int) (hx : mix G.ms x < G.ms.length) : steps G x ≤ G.dn.length ∧ ∀ k, steps G x ≤ k → k < G.dn.length → G.fit k := by
  obtain ⟨A, a1, _, a3, _⟩ := h.his (mix G.ms x) (by rw [← h.len]; exact hx)
  unfold steps
  rw [← a3]
  exact ⟨a1.len, fun k => a1.fit k⟩
theorem MRel.back {N : Int} {G R : Gr} {M : List (Int × Gr)} {L : Int} (h : MRel N G M L) (hc : Core G R) (x : Int) : MRel N (backG G x) (rbM M x) L ∧ Core (backG G x) (rbG R M x) := by
  have hs := h.same x
  have hl := h.len
  by_cases hk : mxM M x < M.length
  · obtain ⟨i, hi⟩ : ∃ i, mxM M x = i := ⟨_, rfl⟩
    obtain ⟨A, a1, a2, a3, a4⟩ := h.his i (by rw [← hi]; exact hk)
    have est : steps G x = A.dn.length := by unfold steps; rw [hs, hi, a3]
    have e1 : backG G x = bkTo G A.dn.length (i + 1) := by
      unfold backG
      rw [if_pos (by rw [hs, hl]; exact hk), est, hs, hi]
      rfl
    have e2 : rbM M x = M.take (i + 1) := by unfold rbM; rw [if_pos hk, hi]
    have e3 : rbG R M x = (mM M i).2 := by unfold rbG; rw [if_pos hk, hi]
    rw [hi] at hk
    have hm : (bkTo G A.dn.length (i + 1)).ms = G.ms.take (i + 1) := rfl
    have hlm : (bkTo G A.dn.length (i + 1)).lm = G.lm := (bk_rest G _).2.2
    have hlt : (M.take (i + 1)).length = i + 1 := by rw [List.length_take]; omega
    rw [e1, e2, e3]
    refine ⟨⟨by rw [hlm]; exact h.lm, by rw [hm, hlt, List.length_take]; omega, fun j hj => ?_, fun j hj => ?_, fun j hj => ?_, fun p j hp hj => ?_⟩, ?_⟩
    · rw [hlt] at hj
      rw [hm, mat_take hj, mM_take hj]
      exact h.num j (by omega)
    · rw [hlt] at hj
      rw [mM_take hj]
      exact h.fin j (by omega)
    · rw [hlt] at hj
      obtain ⟨B, b1, b2, b3, b4⟩ := h.his j (by omega)
      refine ⟨B, b1.back a1.len ?_ b4 (by omega), by rw [mM_take hj]; exact b2, by rw [hm, mat_take hj]; exact b3, ?_⟩
      · rw [a3, b3]
        exact h.mono j i (by omega) hk
      · rw [hm, List.take_take, Nat.min_eq_left (by omega)]
        exact b4
    · rw [hlt] at hj
      rw [hm, mat_take (by omega), mat_take hj]
      exact h.mono p j hp (by omega)
    · have := bkTo_bk G (i + 1) a1.len 0 (Nat.zero_le _)
      have h2 : Core (bkTo G A.dn.length (i + 1)) (G.bk (G.dn.length - A.dn.length)) := this
      exact (h2.trans a1.core).trans a2
  · have e1 : backG G x = G := if_neg (by rw [hs, hl]; exact hk)
    have e2 : rbM M x = M := if_neg hk
    have e3 : rbG R M x = R := if_neg hk
    rw [e1, e2, e3]
    exact ⟨h, hc⟩
theorem back_stay (G : Gr) (x : Int) : (backG G x).ms.length ≤ G.ms.length ∧ (backG G x).lm = G.lm ∧ (backG G x).dn.length ≤ G.dn.length := by
  unfold backG
  split
  · refine ⟨?_, (bk_rest G _).2.2, ?_⟩
    · show (G.ms.take _).length ≤ _
      rw [List.length_take]
      omega
    · show (G.dn.take _).length ≤ _
      rw [List.length_take]
      omega
  · exact ⟨Nat.le_refl _, rfl, Nat.le_refl _⟩
end Go.Proofs.Ytgfiofogcnnkhaa

namespace Go.Proofs.Ytgfiofogcnnkhaa
open Go.RowKit Go.Sort
open Go

theorem Core.layN {G R : Gr} (h : Core G R) : Core G.layN R.layN := ⟨by show G.ns ++ [G.nn] = R.ns ++ [R.nn]; rw [h.ns, h.nn], h.es, by show G.nn + 1 = R.nn + 1; rw [h.nn], h.ne⟩
theorem Core.layE {G R : Gr} (h : Core G R) (u v : Int) : Core (G.layE u v) (R.layE u v) := ⟨h.ns, by show G.es ++ [(⟨G.ne, u, v⟩ : Ed)] = R.es ++ [(⟨R.ne, u, v⟩ : Ed)]; rw [h.es, h.ne], h.nn, by show G.ne + 1 = R.ne + 1; rw [h.ne]⟩
theorem Core.takeN {G R : Gr} (h : Core G R) (p : Nat) : Core (G.takeN p) (R.takeN p) := ⟨by show G.ns.eraseIdx p = R.ns.eraseIdx p; rw [h.ns], h.es, h.nn, h.ne⟩
theorem Core.takeE {G R : Gr} (h : Core G R) (p : Nat) : Core (G.takeE p) (R.takeE p) := ⟨h.ns, by show G.es.eraseIdx p = R.es.eraseIdx p; rw [h.es], h.nn, h.ne⟩
theorem Core.setE {G R : Gr} (h : Core G R) (p s : Nat) (v : Int) : Core (G.setE p s v) (R.setE p s v) := ⟨h.ns, by show G.es.set p ((eat G.es p).put s v) = R.es.set p ((eat R.es p).put s v); rw [h.es], h.nn, h.ne⟩
theorem Core.dpE {G R : Gr} (h : Core G R) : ∀ ps : List Int, Core (dpE G ps) (dpE R ps)
  | [] => h
  | p :: r => (h.dpE r).takeE p.toNat
theorem Core.addEe {G R : Gr} (h : Core G R) (u v : Int) : addEe G u v = addEe R u v := by unfold Go.Proofs.Ytgfiofogcnnkhaa.addEe; rw [h.ns, h.es]
theorem Core.plAt {G R : Gr} (h : Core G R) (v : Int) : plAt G v = plAt R v := by unfold Go.Proofs.Ytgfiofogcnnkhaa.plAt; rw [h.es]
theorem Core.splE {G R : Gr} (h : Core G R) (e : Int) : splE G e = splE R e := by unfold Go.Proofs.Ytgfiofogcnnkhaa.splE; rw [h.ns, h.es]
theorem Core.unE {G R : Gr} (h : Core G R) (v : Int) : unE G v = unE R v := by unfold Go.Proofs.Ytgfiofogcnnkhaa.unE btwB; rw [h.plAt, h.ns, h.es]
theorem Core.op {G R : Gr} (h : Core G R) (o : Opr) : Core (opG o G) (opG o R) := by
  unfold opG
  repeat' split
  · unfold addN
    rw [h.ns]
    split
    · exact h
    · exact h.layN
  · unfold addE
    rw [h.addEe]
    split
    · exact h.layE _ _
    · exact h
  · unfold drG
    rw [h.ns, h.plAt]
    split
    · exact (h.dpE _).takeN _
    · exact h
  · unfold dcG
    rw [h.es]
    split
    · exact h.takeE _
    · exact h
  · unfold splG
    rw [h.splE]
    split
    · unfold splD
      rw [h.es, h.nn]
      exact (h.layN.setE _ _ _).layE _ _
    · exact h
  · unfold unG
    rw [h.unE]
    split
    · unfold unD un0 un1
      rw [h.plAt, h.es, h.ns]
      exact ((h.setE _ _ _).takeE _).takeN _
    · exact h
  · unfold mvG
    rw [h.mvE, h.es]
    split
    · exact h.setE _ _ _
    · exact h
  · exact h
/-- All that a run keeps to. -/
structure Good (n : Nat) (G R : Gr) (M : List (Int × Gr)) (L : Int) (mk : List Int) : Prop where
  kp : Keeps n G R M L mk
  co : Core G R
  mr : MRel (4000 + 2 * n) G M L
theorem Good.op {n : Nat} {G R : Gr} {M : List (Int × Gr)} {L : Int} {mk : List Int} (h : Good n G R M L mk) (hn : n ≤ 1000) (o : Opr) : Good (n + 1) (opA o G) (opG o R) (opM o R M L) (opL o M L) (opK o G mk) := by
  refine ⟨h.kp.op o, ?_, ?_⟩
  · by_cases hk : o.k = 10
    · have e1 : opA o G = mrkG G := if_pos hk
      have e2 : opG o R = R := by simp [opG, hk]
      rw [e1, e2]
      unfold mrkG
      split
      · exact h.co
      · exact ⟨h.co.ns, h.co.es, h.co.nn, h.co.ne⟩
    · have e1 : opA o G = opG o G := if_neg hk
      rw [e1]
      exact h.co.op o
  · by_cases hk : o.k = 10
    · have e1 : opA o G = mrkG G := if_pos hk
      have e2 : opM o R M L = rmM R M L := if_pos hk
      have e3 : opL o M L = rmL M L := if_pos hk
      rw [e1, e2, e3]
      exact (h.mr.mrk h.co h.kp.fr).more (by omega)
    · have e1 : opA o G = opG o G := if_neg hk
      have e2 : opM o R M L = M := if_neg hk
      have e3 : opL o M L = L := if_neg hk
      rw [e1, e2, e3]
      exact (h.mr.op h.kp.fg (by omega) o).more (by omega)
theorem Good.back {n : Nat} {G R : Gr} {M : List (Int × Gr)} {L : Int} {mk : List Int} (h : Good n G R M L mk) (x : Int) : Good (n + 1) (backG G x) (rbG R M x) (rbM M x) L mk := by
  obtain ⟨b1, b2⟩ := h.mr.back h.co x
  obtain ⟨s1, s2, s3⟩ := back_stay G x
  have hf : Fine (4000 + 2 * n) (rbG R M x) := by
    unfold rbG
    split
    · next hk => exact h.mr.fin _ hk
    · exact h.kp.fr
  have k1 := h.kp.ms
  have k2 := h.kp.l0
  have k3 := h.kp.l1
  have k4 := h.kp.dn
  have k5 := h.kp.mM
  have k6 := h.kp.L0
  have k7 := h.kp.L1
  have k8 := h.kp.mkl
  have hM : (rbM M x).length ≤ 64 := by
    unfold rbM
    split
    · rw [List.length_take]; omega
    · exact k5
  refine ⟨⟨(hf.core b2).mono (by omega), hf.mono (by omega), by omega, by rw [s2]; exact k2, by rw [s2]; omega, by omega, hM, k6, by omega, by omega⟩, b2, b1.more (by omega)⟩
theorem Good.more {n : Nat} {G R : Gr} {M : List (Int × Gr)} {L : Int} {mk : List Int} (h : Good n G R M L mk) : Good (n + 1) G R M L mk := by
  have k3 := h.kp.l1
  have k4 := h.kp.dn
  have k7 := h.kp.L1
  have k8 := h.kp.mkl
  exact ⟨⟨h.kp.fg.mono (by omega), h.kp.fr.mono (by omega), h.kp.ms, h.kp.l0, by omega, by omega, h.kp.mM, h.kp.L0, by omega, by omega⟩, h.co, h.mr.more (by omega)⟩
/-- What plays answers and leaves. -/
def APost (n : Nat) (w0 : World) (kr br : Nat) (e : Ending) (w' : World) : Prop := ∃ b s V G R M L vk mk, e = .returned (.bool true) ∧ Run w0 w' kr b br s V G R M L vk mk ∧ Good (n + 1) G R M L mk
theorem PPost.all {n : Nat} {w0 : World} {kr b br : Nat} {G' R' : Gr} {M' : List (Int × Gr)} {L' : Int} {mk' : List Int} {P : Prop} {e : Ending} {w' : World} (h : PPost w0 kr b br G' R' M' L' mk' P e w') (hp : P) (g : Good (n + 1) G' R' M' L' mk') : APost n w0 kr br e w' := by
  obtain ⟨r, s, V, vk, h1, h2, h3⟩ := h
  exact ⟨b, s, V, G', R', M', L', vk, mk', by rw [h1, h2 hp], h3, g⟩
set_option maxHeartbeats 1000000 in
theorem playsAll (n kr b br : Nat) (s : GV) (V : RV) (G R : Gr) (M : List (Int × Gr)) (L : Int) (vk : Value) (mk : List Int) (o : Opr) (w0 w : World) (h : Run w0 w kr b br s V G R M L vk mk) (hG : Good n G R M L mk) (hn : n ≤ 1000) : Calls Try.prog 14 #[ptr kr, opv o.k o.a o.b o.c] w (APost n w0 kr br) := by
  have hd := hG.kp.dn
  have hm := hG.kp.ms
  have fg := hG.kp.fg
  have fr := hG.kp.fr
  by_cases h11 : o.k = 11
  · obtain ⟨k, a, bb, c⟩ := o
    simp only at h11
    subst h11
    have k3 := hG.kp.mkl
    refine (play11 kr b br s V G (backG G (bkM mk a)) R (rbG R M (bkM mk a)) M (rbM M (bkM mk a)) L vk mk a bb c (backE G (bkM mk a)) (rbE M (bkM mk a)) w0 w h (by omega) (fun U s hg => ?_) (fun U V hr => ?_)).mono (fun e w' hp => hp.all (hG.mr.val2 _) (hG.back _))
    · exact back22 b s G _ U hg (by omega) hm (hG.mr.can _)
    · exact rBack46 br V R M L _ U hr hG.kp.mM (fun j hj => by have := (hG.mr.fin j hj).ln; have := (hG.mr.fin j hj).le; omega)
  by_cases h12 : o.k = 12
  · obtain ⟨k, a, bb, c⟩ := o
    simp only at h12
    subst h12
    have g1 := fg.n1
    have g2 := fg.n2
    have hl1 := fg.ln
    have hl2 := fg.le
    have k1 := hG.kp.l0
    have k2 := hG.kp.l1
    obtain ⟨s1, s2, s3⟩ := stay_op fg ⟨1, 0, 0, 0⟩
    have f1 : Fine (4000 + 2 * n + 2) (addN G) := fg.op ⟨1, 0, 0, 0⟩
    obtain ⟨u1, u2, u3⟩ := stay_op f1 ⟨3, 1, 0, 0⟩
    have s1' : (addN G).ms = G.ms := s1
    have s2' : (addN G).lm = G.lm := s2
    have s3' : (addN G).dn.length ≤ G.dn.length + 3100 := s3
    have u1' : (drG (addN G) 1).ms = (addN G).ms := u1
    have u2' : (drG (addN G) 1).lm = (addN G).lm := u2
    refine (play12 kr b br s V G (addN G) (drG (addN G) 1) (mrkG (drG (addN G) 1)) R M L vk (addNv G) (drV (addN G) 1) (.int .i64 (mrkV (drG (addN G) 1))) mk a bb c w0 w h (fun U s hg => ?_) (fun U s hg => ?_) (fun U s hg => ?_) (fun U s hg => ?_)).mono ?_
    · exact copy29 b s G U hg (by omega) hm (by omega) (by omega)
    · exact addNode23 b s G U hg (by omega) hm hl1 (by omega) (by omega)
    · exact dropNode25 b s _ 1 U hg (by omega) (by rw [s1']; exact hm) f1.ln f1.le f1.un
    · exact mark21 b s _ U hg (by rw [u1', s1']; exact hm) (by rw [u2', s2']; exact k1) (by rw [u2', s2']; omega)
    · rintro e w' ⟨b', hp⟩
      exact hp.all trivial hG.more
  exact (plays14 n kr b br s V G R M L vk mk o w0 w h hG.kp hn h11 h12).mono (fun e w' hp => hp.all ⟨hG.co, hG.mr.val⟩ (hG.op hn o))
end Go.Proofs.Ytgfiofogcnnkhaa

/- same: both tell the same net and ids. -/
/- Spoil, of a list with no room beyond its length. -/
namespace Go.Proofs.Ytgfiofogcnnkhaa
open Go.RowKit Go.Sort
open Go

theorem room80 (m : Nat) (w : World) (hm : m ≤ 5000) : Calls Try.prog 80 #[.int .i64 m, .int .i64 m] w fun e w' => e = .returned (.int .i64 m) ∧ w' = w := by
  have h1 : ¬ (m : Int) + 2000 < m := by omega
  go_enter Try.func80, Try.ntmps80
  go_wp2
  go_ret
  refine ⟨?_, rfl⟩
  show Ending.returned (.int .i64 (min (m : Int) ((m : Int) + 2000))) = _
  rw [Int.min_eq_left (by omega)]
set_option maxRecDepth 100000 in
set_option maxHeartbeats 8000000 in
theorem spoil49 (n : Int) (B g m : Nat) (l : List Pt) (w : World) (h : PRow w B g m l) (hm : m ≤ 5000) : Calls Try.prog 49 #[nv n (some ⟨g, 0, none⟩) m m] w fun e w' => e = .returned (.tuple #[]) ∧ Frame w w' (fun i => i = g) := by
  obtain ⟨U, hU⟩ : ∃ U, U = w.alloc (nbx n (some ⟨g, 0, none⟩) m m) := ⟨_, rfl⟩
  have hbU : Below w.heap.size w U := by rw [hU]; go_grown
  have HQ : Hid (U.cell? ⟨w.heap.size, 0, none⟩ = some (.int .i64 n) ∧ U.cell? ⟨w.heap.size, 1, none⟩ = some (.slice (some ⟨g, 0, none⟩) m m)) := ⟨by rw [hU]; go_cell, by rw [hU]; go_cell⟩
  have HP := hide (h.later hbU)
  have HF : Hid (Frame w U (fun i => i = g)) := Frame.of_below hbU _
  have hg : g ≠ w.heap.size := by have := h.lt.2; omega
  have R := room80 m U hm
  have HU := hide hU
  obtain ⟨k, hk⟩ : ∃ k, w.heap.size = k := ⟨_, rfl⟩
  rw [hk] at HQ hg
  have HK := hide hk
  clear h hbU hU hk
  go_enter Try.func49, Try.ntmps49
  go_upto_region 2 with (go_at_call 80; rw [← HU.out]; refine R.mono ?_; rintro e w' ⟨rfl, hw⟩; have hw2 := hw.symm; subst hw2)
  rw [HK.out]
  obtain ⟨q0, q1⟩ := HQ.out
  have e0 : ¬ (m : Int) < m := by omega
  refine wp_loop_rounds 1 ?_
  rw [rounds_succ]
  go_wp2_with fail
  clear q0 q1 R
  go_loopw [3] (fun t3 wr => ∃ i : Nat, i ≤ m ∧ t3 = .int .i64 i ∧ Hid (Frame U wr (fun i => i = g)) ∧ Hid (∃ l2, PRow wr B g m l2)) (fun t3 _ => m - (intOf t3).toNat)
  case atStart => exact ⟨0, by omega, rfl, Frame.of_below (Below.refl _ _) _, ⟨l, HP.out⟩⟩
  case round =>
    obtain ⟨i, hi, rfl, HFr, HPr⟩ := hrel
    obtain ⟨l2, hp⟩ := HPr.out
    have q0 := HFr.out.cell HQ.out.1 (Ne.symm hg)
    have q1 := HFr.out.cell HQ.out.2 (Ne.symm hg)
    by_cases hlt : i < m
    · obtain ⟨c0, c1, f0, f1⟩ := hp.cell hlt
      have HP2 := hide (hp.set i ⟨-9, -9⟩)
      have HF2 : Hid (Frame U ((wr.setCell ⟨g, i * 2, none⟩ (.int .i64 (-9))).setCell ⟨g, i * 2 + 1, none⟩ (.int .i64 (-9))) (fun i => i = g)) := (HFr.out.trans (Frame.set (p := fun i => i = g) _ _ _ rfl)).trans (Frame.set (p := fun i => i = g) _ _ _ rfl)
      have j0 : (0 : Int) ≤ i := by omega
      have j1 : (i : Int) < m := by omega
      clear hp HPr
      go_wp2_with fail
      go_roundw
      case rel => exact ⟨i + 1, by omega, by go_num, HF2.out, ⟨_, HP2.out⟩⟩
      case measure => simp [intOf]; omega
    · have j1 : ¬ (i : Int) < m := by omega
      clear hp
      go_wp2_with fail
      go_end0
      exact ⟨rfl, HF.out.trans HFr.out⟩
end Go.Proofs.Ytgfiofogcnnkhaa

namespace Go.Proofs.Ytgfiofogcnnkhaa
open Go.RowKit Go.Sort
open Go

theorem Core.netN {G R : Gr} (h : Core G R) : ∀ k, netN G k = netN R k
  | 0 => by simp only [Go.Proofs.Ytgfiofogcnnkhaa.netN, h.es]
  | k + 1 => by
    simp only [Go.Proofs.Ytgfiofogcnnkhaa.netN, h.netN k]
    congr 1
    unfold nE
    rw [h.ns, h.es]
theorem Core.netL {G R : Gr} (h : Core G R) : netL G = netL R := by
  unfold Go.Proofs.Ytgfiofogcnnkhaa.netL
  rw [h.netN, h.es]
/-- A list of numbers that one owns, whatever it holds. -/
def Any (w : World) (B : Nat) (v : Value) (n : Nat) : Prop := ∃ xs, w.ownsRow B 3 1 v n xs
theorem Any.later {w w' : World} {B n : Nat} {v : Value} (h : Any w B v n) (hb : Below w.heap.size w w') : Any w' B v n := by
  obtain ⟨xs, o⟩ := h
  exact ⟨xs, (Frame.of_below hb (fun _ => False)).row o (fun _ _ => id)⟩
theorem Any.set {w : World} {B n : Nat} {v : Value} (h : Any w B v n) (g i : Nat) (u : Value) : Any (w.setCell ⟨g, i, none⟩ u) B v n := by
  obtain ⟨xs, o⟩ := h
  obtain ⟨p, c, rfl, _⟩ := row_form o
  by_cases hg : (Value.slice p n c).ownBlock = some g
  · obtain ⟨h0, ⟨k1, _⟩ | ⟨g2, c2, cur2, k1, _⟩⟩ := id o
    · rw [k1] at hg; simp [Value.ownBlock] at hg
    · rw [k1] at hg o ⊢
      simp only [Value.ownBlock, Option.some.injEq] at hg
      subst hg
      exact ⟨_, (World.ownsRow.stored o i u).1⟩
  · exact ⟨xs, row_set o hg u⟩
theorem Any.cell {w : World} {B n c : Nat} {p : Option Addr} (h : Any w B (.slice p n c) n) {j : Nat} (hj : j < n) : ∃ g v, p = some ⟨g, 0, none⟩ ∧ w.cell? ⟨g, j, none⟩ = some v ∧ w.frozen? ⟨g, j, none⟩ = false ∧ B ≤ g := by
  obtain ⟨xs, o⟩ := h
  obtain ⟨g, rfl, _, _⟩ := own_some o (by omega)
  have hx : xs.length = n * 1 := o.1
  exact ⟨g, xs[j]'(by omega), rfl, by rw [World.ownsRow.cellAt o j (by omega)]; exact List.getElem?_eq_getElem (by omega), World.ownsRow.frozenAt o j, (World.ownsRow.lt o g rfl).1⟩
set_option maxRecDepth 100000 in
set_option maxHeartbeats 16000000 in
theorem same15 (N : Int) (kr b br : Nat) (s : GV) (V : RV) (G R : Gr) (M : List (Int × Gr)) (L : Int) (vk : Value) (mk : List Int) (w0 w : World) (h : Run w0 w kr b br s V G R M L vk mk) (hc : Core G R) (hF : Fine N G) : Calls Try.prog 15 #[ptr kr] w fun e w' => e = .returned (.bool true) ∧ Below w.heap.size w w' := by
  have hln := hF.ln
  have hle := hF.le
  have HC : Hid (∀ U, Below w.heap.size w U → U.cell? ⟨kr, 0, none⟩ = some (ptr b) ∧ U.cell? ⟨kr, 1, none⟩ = some (ptr br)) := fun U hU => ⟨later hU h.cells.1, later hU h.cells.2.1⟩
  have CA : Hid (∀ U, Below w.heap.size w U → _) := fun U hU => net19a b s G U (h.later hU).two.ga hln hle hF.un
  have CB : Hid (∀ U, Below w.heap.size w U → Calls Try.prog 47 #[ptr br] U fun e w' => ∃ pe ce pn cn pi ci, e = .returned (.tuple #[nv G.ns.length pe G.es.length ce, .slice pn G.ns.length cn, .slice pi G.es.length ci]) ∧ Has w' pe (netL G) ∧ IHas w' pn G.ns ∧ IHas w' pi (eids G.es) ∧ Below U.heap.size U w') := fun U hU => by
    have := rNet47 br V R M L U (h.later hU).two.ra (by rw [← hc.ns]; exact hln) (by rw [← hc.es]; exact hle) (by rw [← hc.ns]; exact hF.un) (fun e he => by rw [← hc.es] at he; rw [← hc.ns]; exact ⟨(hF.be e he).2.2.1, (hF.be e he).2.2.2⟩)
    refine this.mono ?_
    rintro e w' ⟨pe, ce, pn, cn, pi, ci, h1, h2, h3, h4, h5⟩
    rw [← hc.ns, ← hc.es] at h1
    rw [← hc.netL] at h2
    rw [← hc.ns] at h3
    rw [← hc.es] at h4
    exact ⟨pe, ce, pn, cn, pi, ci, h1, h2, h3, h4, h5⟩
  have hsm : sameB (G.ns.length : Int) G.ns.length (netL G) (netL G) = true := by unfold sameB; simp
  have hnl : (netL G).length = G.es.length := netN_length G _
  have hil : (eids G.es).length = G.es.length := eids_length _
  have CS : Hid (∀ U ge pe ce, Has U (some ⟨ge, 0, none⟩) (netL G) → Has U pe (netL G) → Calls Try.prog 20 #[nv G.ns.length (some ⟨ge, 0, none⟩) G.es.length G.es.length, nv G.ns.length pe G.es.length ce] U fun e w' => e = .returned (.bool true) ∧ Below U.heap.size U w') := fun U ge pe ce h1 h2 => by
    have := same20 G.ns.length G.ns.length (some ⟨ge, 0, none⟩) pe (netL G) (netL G) G.es.length ce U (by omega) h1 h2
    rw [hsm, hnl] at this
    exact this
  have CI : Hid (∀ U p c q d, IHas U p G.ns → IHas U q G.ns → Calls Try.prog 48 #[.slice p G.ns.length c, .slice q G.ns.length d] U fun e w' => e = .returned (.bool true) ∧ Below U.heap.size U w') := fun U p c q d h1 h2 => by
    have := ints30 p q G.ns G.ns c d U (by unfold maxLen; omega) h1 h2
    rw [decide_eq_true rfl] at this
    exact this
  have CJ : Hid (∀ U p c q d, IHas U p (eids G.es) → IHas U q (eids G.es) → Calls Try.prog 48 #[.slice p G.es.length c, .slice q G.es.length d] U fun e w' => e = .returned (.bool true) ∧ Below U.heap.size U w') := fun U p c q d h1 h2 => by
    have := ints30 p q (eids G.es) (eids G.es) c d U (by unfold maxLen; omega) h1 h2
    rw [decide_eq_true rfl, hil] at this
    exact this
  obtain ⟨n1, hn1⟩ : ∃ n, G.ns.length = n := ⟨_, rfl⟩
  obtain ⟨m1, hm1⟩ : ∃ n, G.es.length = n := ⟨_, rfl⟩
  have HN1 := hide hn1
  have HM1 := hide hm1
  rw [hn1] at CA CB CS CI hln
  rw [hm1] at CA CB CS CJ hle
  clear h hc hF hsm hnl hil hn1 hm1
  go_enter Try.func15, Try.ntmps15
  go_wp2
  go_loopw [3] (fun t3 wr => ∃ i : Nat, i ≤ 2 ∧ t3 = .int .i64 i ∧ Hid (Below w.heap.size w wr)) (fun t3 _ => 2 - (intOf t3).toNat)
  case atStart => exact ⟨0, by omega, rfl, Below.refl _ _⟩
  case round =>
    obtain ⟨i, hi, rfl, HB⟩ := hrel
    by_cases hlt : i < 2
    · obtain ⟨q0, q1⟩ := HC.out _ HB.out
      have i1 : (i : Int) < 2 := by omega
      go_upto_region 5 with (go_at_call 19; refine Calls.mono (CA.out _ HB.out) ?_; rintro e w1 ⟨ge, gi, p1, c1, rfl, r1, r2, r3, hb1⟩; have HB1 := hide (below_step HB.out hb1); have HR1 := hide r1; have HR2 := hide r2; have HR3 := hide r3; clear r1 r2 r3 hb1)
      obtain ⟨X1, hX1⟩ : ∃ X, X = w1.alloc (nbx n1 (some ⟨ge, 0, none⟩) m1 m1) := ⟨_, rfl⟩
      have hb1 : Below w1.heap.size w1 X1 := by rw [hX1]; go_grown
      have HK4 : Hid (X1.cell? ⟨w1.heap.size, 0, none⟩ = some (.int .i64 n1) ∧ X1.cell? ⟨w1.heap.size, 1, none⟩ = some (.slice (some ⟨ge, 0, none⟩) m1 m1)) := ⟨by rw [hX1]; go_cell, by rw [hX1]; go_cell⟩
      have HBX := hide (below_step HB1.out hb1)
      have HHX := hide hb1
      rw [← hX1]
      obtain ⟨k4, hk4⟩ : ∃ k, w1.heap.size = k := ⟨_, rfl⟩
      rw [hk4] at HK4 ⊢
      clear hX1 hb1 hk4 q0 q1
      have q1 := (HC.out _ HBX.out).2
      go_upto_region 6 with (go_at_call 47; refine Calls.mono (CB.out _ HBX.out) ?_; rintro e w2 ⟨pe, ce, pn, cn, pi, ci, rfl, r1, r2, r3, hb2⟩; have HB2 := hide hb2; have HS1 := hide r1; have HS2 := hide r2; have HS3 := hide r3; clear r1 r2 r3 hb2)
      obtain ⟨X2, hX2⟩ : ∃ X, X = w2.alloc (nbx n1 pe m1 ce) := ⟨_, rfl⟩
      have hb2 : Below w2.heap.size w2 X2 := by rw [hX2]; go_grown
      have HK7 : Hid (X2.cell? ⟨w2.heap.size, 0, none⟩ = some (.int .i64 n1) ∧ X2.cell? ⟨w2.heap.size, 1, none⟩ = some (.slice pe m1 ce)) := ⟨by rw [hX2]; go_cell, by rw [hX2]; go_cell⟩
      have HX2 := hide (below_step HB2.out hb2)
      have HY2 := hide hb2
      rw [← hX2]
      obtain ⟨k7, hk7⟩ : ∃ k, w2.heap.size = k := ⟨_, rfl⟩
      rw [hk7] at HK7 ⊢
      clear hX2 hb2 hk7 q1
      have HQ : Hid (∀ U, Below X2.heap.size X2 U → (U.cell? ⟨k4, 0, none⟩ = some (.int .i64 n1) ∧ U.cell? ⟨k4, 1, none⟩ = some (.slice (some ⟨ge, 0, none⟩) m1 m1)) ∧ (U.cell? ⟨k7, 0, none⟩ = some (.int .i64 n1) ∧ U.cell? ⟨k7, 1, none⟩ = some (.slice pe m1 ce))) := fun U hU => ⟨⟨later (below_step HX2.out hU) HK4.out.1, later (below_step HX2.out hU) HK4.out.2⟩, later hU HK7.out.1, later hU HK7.out.2⟩
      have HP : Hid (∀ U, Below X2.heap.size X2 U → (PRow U wr.heap.size ge m1 (netL G) ∧ IOwns U wr.heap.size (.slice p1 n1 c1) G.ns ∧ IRow U wr.heap.size gi m1 (eids G.es)) ∧ Has U pe (netL G) ∧ IHas U pn G.ns ∧ IHas U pi (eids G.es)) := fun U hU => by
        have hh := below_step HHX.out (below_step HX2.out hU)
        have hy := below_step HY2.out hU
        exact ⟨⟨HR1.out.later hh, HR2.out.later hh, HR3.out.later hh⟩, HS1.out.later hy, HS2.out.later hy, HS3.out.later hy⟩
      obtain ⟨⟨c0, c1'⟩, d0, d1⟩ := HQ.out _ (Below.refl _ _)
      go_upto_region 8 with (first
        | (go_at_call 20; refine Calls.mono (CS.out _ _ _ _ (HP.out _ (Below.refl _ _)).1.1.has (HP.out _ (Below.refl _ _)).2.1) ?_; rintro e w3 ⟨rfl, hb3⟩; have HB3 := hide hb3; clear hb3)
        | (go_at_call 48; (with_reducible refine Calls.mono (CI.out _ _ _ _ _ (own_ihas (HP.out _ HB3.out).1.2.1) (HP.out _ HB3.out).2.2.1) ?_); rintro e w4 ⟨rfl, hb4⟩; have HB4 := hide (below_step HB3.out hb4); clear hb4)
        | (go_at_call 48; (with_reducible refine Calls.mono (CJ.out _ _ _ _ _ (own_ihas (HP.out _ HB4.out).1.2.2.owns) (HP.out _ HB4.out).2.2.2) ?_); rintro e w5 ⟨rfl, hb5⟩; have HB5 := hide (below_step HB4.out hb5); clear hb5))
      clear c0 c1' d0 d1
      obtain ⟨⟨c0, c1'⟩, _, _⟩ := HQ.out _ HB5.out
      have SP := hide (spoil49 n1 wr.heap.size ge m1 (netL G) w5 (HP.out _ HB5.out).1.1 (by omega))
      have hws : w.heap.size ≤ wr.heap.size := HB.out.size
      go_upto_region 10 with (go_at_call 49; refine Calls.mono SP.out ?_; rintro e w6 ⟨rfl, hf6⟩; have HF6 := hide hf6; clear hf6)
      obtain ⟨⟨hp5, ho5, hi5⟩, _⟩ := HP.out _ HB5.out
      have hge := hp5.lt.1
      have HB6 : Hid (Below w.heap.size w w6) := frame_of HBX.out (below_step HX2.out HB5.out) HF6.out (fun i hi => by omega)
      have HA6 : Hid (Any w6 wr.heap.size (.slice p1 n1 c1) n1) := ⟨_, by
        have o : w5.ownsRow wr.heap.size 3 1 (.slice p1 n1 c1) n1 (icells G.ns) := by
          have := ho5
          unfold IOwns at this
          rw [HN1.out] at this
          exact this
        exact HF6.out.row o (fun i e h2 => by subst h2; exact apart o hp5.2 (by decide) e rfl)⟩
      have HE6 : Hid (Any w6 wr.heap.size (.slice (some ⟨gi, 0, none⟩) m1 m1) m1) := ⟨_, by
        have o : w5.ownsRow wr.heap.size 3 1 (.slice (some ⟨gi, 0, none⟩) m1 m1) m1 (icells (eids G.es)) := by
          have := hi5.owns
          unfold IOwns at this
          rw [hi5.1] at this
          exact this
        exact HF6.out.row o (fun i e h2 => by subst h2; exact apart o hp5.2 (by decide) e rfl)⟩
      clear hp5 ho5 hi5 hge SP HP HQ HF6 c0 c1' HB3 HB4 HB5 HX2 HY2 HHX HBX HK4 HK7 HS1 HS2 HS3 HR1 HR2 HR3 HB1 HB2 CA CB CS CI CJ
      obtain ⟨B, hBB⟩ : ∃ B, wr.heap.size = B := ⟨_, rfl⟩
      rw [hBB] at HA6 HE6 hws
      clear hBB
      go_wp2_with fail
      go_loopw [10] (fun t10 wq => ∃ j : Nat, j ≤ n1 ∧ t10 = .int .i64 j ∧ Hid (Below w.heap.size w wq) ∧ Hid (Any wq B (.slice p1 n1 c1) n1 ∧ Any wq B (.slice (some ⟨gi, 0, none⟩) m1 m1) m1)) (fun t10 _ => n1 - (intOf t10).toNat)
      case atStart => exact ⟨0, by omega, rfl, HB6.out, ⟨HA6.out, HE6.out⟩⟩
      case round =>
        obtain ⟨j, hj, rfl, HBq, HAq⟩ := hrel
        clear HB6 HA6 HE6
        by_cases hjl : j < n1
        · obtain ⟨g1, v1, rfl, a0, a1, a2⟩ := HAq.out.1.cell hjl
          have j1 : (j : Int) < n1 := by omega
          have j0 : (0 : Int) ≤ j := by omega
          have HBz : Hid (Below w.heap.size w (wr.setCell ⟨g1, j, none⟩ (.int .i64 (-1)))) := HBq.out.setCell (p := ⟨g1, j, none⟩) (show w.heap.size ≤ g1 by omega) _
          have HAz := hide (And.intro (HAq.out.1.set g1 j (.int .i64 (-1))) (HAq.out.2.set g1 j (.int .i64 (-1))))
          go_wp2_with fail
          go_roundw
          case rel => exact ⟨j + 1, by omega, by go_num, HBz.out, HAz.out⟩
          case measure => simp [intOf]; omega
        · have j1 : ¬ (j : Int) < n1 := by omega
          go_wp2_with fail
          go_loopw [11] (fun t11 wq => ∃ j : Nat, j ≤ m1 ∧ t11 = .int .i64 j ∧ Hid (Below w.heap.size w wq) ∧ Hid (Any wq B (.slice (some ⟨gi, 0, none⟩) m1 m1) m1)) (fun t11 _ => m1 - (intOf t11).toNat)
          case atStart => exact ⟨0, by omega, rfl, HBq.out, HAq.out.2⟩
          case round =>
            obtain ⟨j2, hj2, rfl, HBr, HAr⟩ := hrel
            clear HBq HAq
            by_cases hjm : j2 < m1
            · obtain ⟨g1, v1, hg1, a0, a1, a2⟩ := HAr.out.cell hjm
              cases hg1
              have k1 : (j2 : Int) < m1 := by omega
              have k0 : (0 : Int) ≤ j2 := by omega
              have HBz : Hid (Below w.heap.size w (wr.setCell ⟨gi, j2, none⟩ (.int .i64 (-1)))) := HBr.out.setCell (p := ⟨gi, j2, none⟩) (show w.heap.size ≤ gi by omega) _
              have HAz := hide (HAr.out.set gi j2 (.int .i64 (-1)))
              go_wp2_with fail
              go_roundw
              case rel => exact ⟨j2 + 1, by omega, by go_num, HBz.out, HAz.out⟩
              case measure => simp [intOf]; omega
            · have k1 : ¬ (j2 : Int) < m1 := by omega
              go_wp2_with fail
              go_roundw
              case rel => exact ⟨i + 1, by omega, by go_num, HBr.out⟩
              case measure => simp [intOf]; omega
    · have i1 : ¬ (i : Int) < 2 := by omega
      go_wp2_with fail
      go_ret
      exact ⟨rfl, HB.out⟩
end Go.Proofs.Ytgfiofogcnnkhaa

/- The document's Of. -/
namespace Go.Proofs.Ytgfiofogcnnkhaa
open Go.RowKit Go.Sort
open Go

/-- A graph of the document's, of one's own, made since w0. -/
structure RMine (w0 w : World) (b : Nat) (V : RV) (G : Gr) (M : List (Int × Gr)) (L : Int) : Prop where
  at_ : RAt w b V G M L
  below : Below w0.heap.size w0 w
  lie : ∀ k, RB b V k → w0.heap.size ≤ k
theorem RMine.turn {w0 w w' : World} {b : Nat} {V V' : RV} {G G' : Gr} {M M' : List (Int × Gr)} {L L' : Int} (h : RMine w0 w b V G M L) (g : RAt w' b V' G' M' L') (r : RFr w w' b V V') : RMine w0 w' b V' G' M' L' := by
  have hs := h.below.size
  exact ⟨g, frame_below h.below r.fr h.lie, fun k hk => (r.lie k hk).elim (h.lie k) (fun h1 => by omega)⟩
theorem RMine.later {w0 w w' : World} {b : Nat} {V : RV} {G : Gr} {M : List (Int × Gr)} {L : Int} (h : RMine w0 w b V G M L) (hb : Below w.heap.size w w') : RMine w0 w' b V G M L := ⟨h.at_.later hb, below_step h.below hb, h.lie⟩
/-- A new one. -/
theorem RMine.new (w : World) : RMine w (w.alloc (.cells #[.slice none 0 0, .slice none 0 0, .int .i64 0, .int .i64 0, .slice none 0 0, .int .i64 0] 58)) w.heap.size ⟨.slice none 0 0, .slice none 0 0, .slice none 0 0, fun _ => False⟩ G0 [] 0 := by
  refine ⟨⟨⟨rfl, Or.inr ⟨_, 1, _, rfl, by omega, heap_alloc_new _ _, by omega, by unfold maxLen; omega, rfl, rfl⟩⟩, World.ownsRow_nil _ _ _ _, World.ownsRow_nil _ _ _ _, [], World.ownsRow_nil _ _ _ _, ⟨rfl, fun j f u h1 _ => by simp at h1⟩, fun _ h => h.elim⟩, by go_grown, ?_⟩
  rintro k (h | h | h | h)
  · omega
  all_goals simp [Value.ownBlock] at h
/-- What Of answers. -/
def ROfPost (G : Gr) (w : World) (e : Ending) (w' : World) : Prop := ∃ br V, e = .returned (.tuple #[ptr br, .int .i64 0]) ∧ RMine w w' br V G [] 0
theorem rOf12no (n : Int) (p : Option Addr) (es : List Pt) (cap : Nat) (w : World) (h : Has w p es) (hb : netB n es = false) : Calls Try.prog 12 #[nv n p es.length cap] w fun e w' => e = .returned (.tuple #[.pointer none, .int .i64 1]) ∧ Below w.heap.size w w' := by
  obtain ⟨W, hW⟩ : ∃ W, W = w.alloc (nbx n p es.length cap) := ⟨_, rfl⟩
  have hbW : Below w.heap.size w W := by rw [hW]; go_grown
  have M := may12 n p es cap W (h.later hbW)
  rw [hb] at M
  have HW := hide hW
  have HBW := hide hbW
  clear h hb hbW hW
  go_enter Try.func12, Try.ntmps12
  go_wp2_with (go_at_call 32; rw [← HW.out]; refine M.mono ?_; rintro e w' ⟨rfl, hb⟩; have HB := hide (below_step HBW.out hb); clear hb)
  go_ret2
  exact ⟨rfl, HB.out⟩
set_option maxRecDepth 100000 in
set_option maxHeartbeats 8000000 in
theorem rOf12 (n : Nat) (p : Option Addr) (es : List Pt) (cap : Nat) (w : World) (h : Has w p es) (hb : netB n es = true) : Calls Try.prog 12 #[nv n p es.length cap] w (ROfPost (ofG n es es.length) w) := by
  obtain ⟨W, hW⟩ : ∃ W, W = w.alloc (nbx n p es.length cap) := ⟨_, rfl⟩
  have hbW : Below w.heap.size w W := by rw [hW]; go_grown
  have M := may12 n p es cap W (h.later hbW)
  rw [hb] at M
  obtain ⟨_, hn, hl, hin⟩ := netB_is hb
  have HW := hide hW
  have HBW := hide hbW
  have HH := hide (h.later hbW)
  have HQ : Hid (W.cell? ⟨w.heap.size, 0, none⟩ = some (.int .i64 n) ∧ W.cell? ⟨w.heap.size, 1, none⟩ = some (.slice p es.length cap)) := ⟨by rw [hW]; go_cell, by rw [hW]; go_cell⟩
  have HIN := hide hin
  clear h hb hbW hW hin
  go_enter Try.func12, Try.ntmps12
  go_upto_region 4 with (go_at_call 32; rw [← HW.out]; refine M.mono ?_; rintro e w1 ⟨rfl, hb⟩; have HB1 := hide hb; clear hb)
  have HG := hide (RMine.new w1)
  obtain ⟨w2, hw2⟩ : ∃ z, z = w1.alloc (.cells #[.slice none 0 0, .slice none 0 0, .int .i64 0, .int .i64 0, .slice none 0 0, .int .i64 0] 58) := ⟨_, rfl⟩
  rw [← hw2]
  rw [← hw2] at HG
  obtain ⟨b, hbb⟩ : ∃ b, w1.heap.size = b := ⟨_, rfl⟩
  obtain ⟨V0, hV0⟩ : ∃ V : RV, V = ⟨.slice none 0 0, .slice none 0 0, .slice none 0 0, fun _ => False⟩ := ⟨_, rfl⟩
  have HG : Hid (RMine w1 w2 b V0 (ofG 0 es 0) [] 0) := by
    have := HG.out
    rw [hbb, ← hV0] at this
    exact this
  rw [hbb]
  clear hw2 hbb hV0 M HW
  go_wp2_with fail
  go_loopw [5] (fun t5 wr => ∃ (k : Nat) (s1 : RV), k ≤ n ∧ t5 = .int .i64 k ∧ Hid (RMine w1 wr b s1 (ofG k es 0) [] 0)) (fun t5 _ => n - (intOf t5).toNat)
  case atStart => exact ⟨0, V0, by omega, rfl, HG.out⟩
  case round =>
    obtain ⟨k, s1, hk, rfl, HM⟩ := hrel
    clear HG
    have q0 := later (below_step HB1.out HM.out.below) HQ.out.1
    by_cases hlt : k < n
    · have e1 : (k : Int) < n := by omega
      have L := hide (rAddNode36 b s1 (ofG k es 0) [] 0 wr HM.out.at_ (by show (ofN k).length ≤ 1024; rw [ofN_length]; omega) (by simp [ofG]; omega) (by simp [ofG]; omega))
      have HE : Hid (addN (ofG k es 0) = ofG (k + 1) es 0) := by
        show _ = _
        unfold addN
        rw [if_neg (by show ¬ 1024 ≤ (ofN k).length; rw [ofN_length]; omega), ofG_node]
      rw [HE.out] at L
      obtain ⟨xv, hxv⟩ : ∃ v, addNv (ofG k es 0) = v := ⟨_, rfl⟩
      rw [hxv] at L
      clear hxv
      go_wp2_with (go_at_call 36; refine L.out.mono ?_; rintro e w3 ⟨rfl, s2, h1, h2⟩; have HM2 := hide (HM.out.turn h1 h2); clear h1 h2)
      go_roundw
      case rel => exact ⟨k + 1, s2, by omega, by go_num, HM2.out⟩
      case measure => simp [intOf]; omega
    · have hke : k = n := by omega
      have e1 : ¬ (k : Int) < n := by omega
      rw [hke] at HM
      clear hke
      go_wp2_with fail
      clear q0
      go_loopw [6] (fun t6 wq => ∃ (j : Nat) (s1 : RV), j ≤ es.length ∧ t6 = .int .i64 j ∧ Hid (RMine w1 wq b s1 (ofG n es j) [] 0)) (fun t6 _ => es.length - (intOf t6).toNat)
      case atStart => exact ⟨0, _, by omega, rfl, HM.out⟩
      case round =>
        obtain ⟨j, s3, hj, rfl, HMq⟩ := hrel
        clear HM
        have q1 := later (below_step HB1.out HMq.out.below) HQ.out.2
        by_cases hjl : j < es.length
        · have e2 : (j : Int) < es.length := by omega
          have e0 : (0 : Int) ≤ j := by omega
          rcases HH.out.later (below_step HB1.out HMq.out.below) with h | ⟨g, off, rfl, hL⟩
          · rw [h] at hjl; simp at hjl
          obtain ⟨c0, c1⟩ := hL j hjl
          clear hL
          obtain ⟨b0, b1, b2, b3⟩ := HIN.out j hjl
          obtain ⟨x, hx⟩ : ∃ x, at' es j = x := ⟨_, rfl⟩
          rw [hx] at c0 c1 b0 b1 b2 b3
          have HX := hide hx
          clear hx
          have L := hide (fun U (hU : Below wr.heap.size wr U) => rAddEdge37 b s3 (ofG n es j) [] 0 (x.x + 1) (x.y + 1) U (HMq.out.at_.later hU) (by show (ofE es j).length ≤ 3072; rw [ofE_length]; omega) (by show (ofN n).length ≤ 1024; rw [ofN_length]; omega) (up_ofN n) (by simp [ofG]; omega) (by simp [ofG]; omega))
          have HE : Hid (addE (ofG n es j) (x.x + 1) (x.y + 1) = ofG n es (j + 1)) := by
            show _ = _
            unfold addE addEe
            rw [if_pos (by rw [if_pos ⟨mem_ofN.2 ⟨by omega, by omega⟩, mem_ofN.2 ⟨by omega, by omega⟩⟩, if_neg (by show ¬ 3072 ≤ (ofE es j).length; rw [ofE_length]; omega)]), ← HX.out]
            exact ofG_edge n es j
          rw [HE.out] at L
          obtain ⟨xv, hxv⟩ : ∃ v, addEv (ofG n es j) (x.x + 1) (x.y + 1) = v := ⟨_, rfl⟩
          rw [hxv] at L
          have i1 : IntKind.i64.wrap (x.x + 1) = x.x + 1 := by rw [IntKind.wrap_i64]; omega
          have i2 : IntKind.i64.wrap (x.y + 1) = x.y + 1 := by rw [IntKind.wrap_i64]; omega
          have HS : Hid (∀ U, Below wr.heap.size wr U → U.cell? ⟨w.heap.size, 1, none⟩ = some (.slice (some ⟨g, off, none⟩) es.length cap) ∧ U.cell? ⟨g, off + j * 2, none⟩ = some (.int .i64 x.x) ∧ U.cell? ⟨g, off + j * 2 + 1, none⟩ = some (.int .i64 x.y)) := fun U hU => ⟨later hU q1, later hU c0, later hU c1⟩
          have HW3 : Hid (∀ U U' V', Below wr.heap.size wr U → RFr U U' b s3 V' → U'.cell? ⟨w.heap.size, 1, none⟩ = some (.slice (some ⟨g, off, none⟩) es.length cap) ∧ U'.cell? ⟨g, off + j * 2, none⟩ = some (.int .i64 x.x) ∧ U'.cell? ⟨g, off + j * 2 + 1, none⟩ = some (.int .i64 x.y)) := fun U U' V' hU hr => by
            obtain ⟨k1, k2, k3⟩ := HS.out U hU
            have hn1 : ¬ RB b s3 w.heap.size := fun hk => by
              have := HMq.out.lie _ hk
              have h9 := block_lt_of_cell (later HB1.out HQ.out.1)
              have h10 : w.heap.size < w1.heap.size := h9
              omega
            have hn2 : ¬ RB b s3 g := fun hk => by
              have := HMq.out.lie _ hk
              rcases HH.out with h | ⟨g2, off2, h11, hL⟩
              · rw [h] at hjl; simp at hjl
              · cases h11
                have h12 := block_lt_of_cell (later HB1.out (hL j hjl).1)
                have h13 : g < w1.heap.size := h12
                omega
            exact ⟨hr.fr.cell k1 hn1, hr.fr.cell k2 hn2, hr.fr.cell k3 hn2⟩
          clear hxv c0 c1
          go_upto_region 11 with fail
          clear q1
          go_region_held3 (fun U => U.cell? ⟨w.heap.size, 1, none⟩ = some (.slice (some ⟨g, off, none⟩) es.length cap) ∧ U.cell? ⟨g, off + j * 2, none⟩ = some (.int .i64 x.x) ∧ U.cell? ⟨g, off + j * 2 + 1, none⟩ = some (.int .i64 x.y)) (first | exact HS.out _ (Below.refl _ _) | exact HS.out _ (below_drew _) | exact HZ3.out) (first | (go_at_call 37; refine Calls.mono (L.out _ (below_drew _)) ?_; rintro e w3 ⟨rfl, s4, h1, h2⟩; have HZ3 := hide (HW3.out _ _ _ (below_drew _) h2); have HM2 := hide ((HMq.out.later (below_drew _)).turn h1 h2); clear h1 h2))
          rename_i hHeld
          clear hHeld
          go_wp2_with fail
          go_roundw
          case rel => exact ⟨j + 1, s4, by omega, by go_num, HM2.out⟩
          case measure => simp [intOf]; omega
        · have hje : j = es.length := by omega
          have e2 : ¬ (j : Int) < es.length := by omega
          rw [hje] at HMq
          clear hje
          go_wp2_with fail
          go_ret2
          have hw := below_step HBW.out HB1.out
          have hs := hw.size
          exact ⟨b, s3, rfl, HMq.out.at_, below_step hw HMq.out.below, fun k hk => by have := HMq.out.lie k hk; omega⟩
end Go.Proofs.Ytgfiofogcnnkhaa

namespace Go.Proofs.Ytgfiofogcnnkhaa
open Go.RowKit Go.Sort
open Go

theorem Run.of {x w4 w5 w6 : World} {b br : Nat} {s : GV} {V : RV} {G R : Gr} {L : Int} (m : Mine x w4 b s G) (r : RMine w4 w5 br V R [] L) (hb : Below w5.heap.size w5 w6) (hd : G.dn = []) : ∃ s' V', Run x (w6.alloc (.cells #[ptr b, ptr br, .slice none 0 0] 40)) w6.heap.size b br s' V' G R [] L (.slice none 0 0) [] := by
  obtain ⟨Z, hZ⟩ : ∃ Z, Z = w6.alloc (.cells #[ptr b, ptr br, .slice none 0 0] 40) := ⟨_, rfl⟩
  have hbZ : Below w6.heap.size w6 Z := by rw [hZ]; go_grown
  have hk : Z.heap[w6.heap.size]? = some (.cells #[ptr b, ptr br, .slice none 0 0] 40 (0, 0)) := by rw [hZ]; exact heap_alloc_new _ _
  rw [← hZ]
  have h56 := below_step hb hbZ
  have hm := m.later (below_step r.below h56)
  have hr := r.later h56
  have z1 := m.below.size
  have z2 := r.below.size
  have z3 := hb.size
  have ok : Z.ownsRow 0 40 3 (.slice (some ⟨w6.heap.size, 0, none⟩) 1 1) 1 [ptr b, ptr br, .slice none 0 0] := ⟨rfl, Or.inr ⟨_, 1, _, rfl, by omega, hk, by omega, by unfold maxLen; omega, rfl, rfl⟩⟩
  refine Run.start hm.at_ hd hr.at_ ok (IOwns.nil _ _) hm.below ?_ m.lie (fun k hk => by have := r.lie k hk; omega) (fun k h1 h2 => by have := m.at_.blt h1; have := r.lie k h2; omega) ?_
  · rintro k (e | e)
    · omega
    · simp [Value.ownBlock] at e
  · rintro k (e | e)
    · exact ⟨fun h1 => by have := m.at_.blt h1; omega, fun h1 => by have := r.at_.blt h1; omega⟩
    · simp [Value.ownBlock] at e
theorem good_start {n : Nat} {es : List Pt} (h : netB n es = true) : Good 0 (ofG n es es.length) (ofG n es es.length) [] 0 [] :=
  ⟨⟨(of_fine h).mono (by omega), (of_fine h).mono (by omega), (show 0 ≤ 64 by decide), (show (0 : Int) ≤ 0 by decide), (show (0 : Int) ≤ ((0 : Nat) : Int) + 1 by decide), (show 0 ≤ 3100 * 0 by decide), by decide, by decide, by decide, by decide⟩, Core.refl _, ⟨rfl, rfl, fun j hj => absurd hj (Nat.not_lt_zero _), fun j hj => absurd hj (Nat.not_lt_zero _), fun j hj => absurd hj (Nat.not_lt_zero _), fun i j _ hj => absurd hj (Nat.not_lt_zero _)⟩⟩
set_option maxRecDepth 100000 in
set_option maxHeartbeats 8000000 in
theorem all_dark (n : Int) (p : Option Addr) (es : List Pt) (cap : Nat) (q : Option Addr) (ops : List Opr) (cq : Nat) (w : World) (h : Has w p es) (hd : lightB n es = false) : Calls Try.prog 3 #[nv n p es.length cap, .slice q ops.length cq] w fun e w' => e = .returned (.bool true) ∧ Below w.heap.size w w' := by
  obtain ⟨W, hW⟩ : ∃ W, W = w.alloc (nbx n p es.length cap) := ⟨_, rfl⟩
  have hbW : Below w.heap.size w W := by rw [hW]; go_grown
  have HQ : Hid (W.cell? ⟨w.heap.size, 0, none⟩ = some (.int .i64 n) ∧ W.cell? ⟨w.heap.size, 1, none⟩ = some (.slice p es.length cap)) := ⟨by rw [hW]; go_cell, by rw [hW]; go_cell⟩
  have HB0 := hide (begun8 W)
  have HBW := hide hbW
  have HH := hide (h.later hbW)
  have HW := hide hW
  have HL : Hid (∀ U, Below W.heap.size W U → Calls Try.prog 9 #[nv n p es.length cap] U fun e w' => e = .returned (.bool false) ∧ Below U.heap.size U w') := fun U hU => by
    have := light9 n p es cap U (HH.out.later hU)
    rw [hd] at this
    exact this
  clear h hbW hW hd
  go_enter Try.func3, Try.ntmps3
  go_wp2_with (first
    | (go_at_call 8; rw [← HW.out]; refine HB0.out.mono ?_; rintro e w1 ⟨rfl, hb⟩; have HB1 := hide hb; clear hb; have q0 := later HB1.out HQ.out.1; have q1 := later HB1.out HQ.out.2)
    | (go_at_call 9; refine Calls.mono (HL.out _ HB1.out) ?_; rintro e w2 ⟨rfl, hb2⟩; have HB2 := hide hb2; clear hb2))
  go_ret
  exact ⟨rfl, below_step (below_step HBW.out HB1.out) HB2.out⟩
set_option maxRecDepth 100000 in
set_option maxHeartbeats 16000000 in
theorem all_no (n : Int) (p : Option Addr) (es : List Pt) (cap : Nat) (q : Option Addr) (ops : List Opr) (cq : Nat) (w : World) (h : Has w p es) (hz : p = none → cap = 0) (hd : lightB n es = true) (hl : es.length ≤ 300) (hb : netB n es = false) : Calls Try.prog 3 #[nv n p es.length cap, .slice q ops.length cq] w fun e w' => e = .returned (.bool true) ∧ Below w.heap.size w w' := by
  obtain ⟨W, hW⟩ : ∃ W, W = w.alloc (nbx n p es.length cap) := ⟨_, rfl⟩
  have hbW : Below w.heap.size w W := by rw [hW]; go_grown
  have HQ : Hid (W.cell? ⟨w.heap.size, 0, none⟩ = some (.int .i64 n) ∧ W.cell? ⟨w.heap.size, 1, none⟩ = some (.slice p es.length cap)) := ⟨by rw [hW]; go_cell, by rw [hW]; go_cell⟩
  have HB0 := hide (begun8 W)
  have HBW := hide hbW
  have HH := hide (h.later hbW)
  have HW := hide hW
  have HL : Hid (∀ U, Below W.heap.size W U → Calls Try.prog 9 #[nv n p es.length cap] U fun e w' => e = .returned (.bool true) ∧ Below U.heap.size U w') := fun U hU => by
    have := light9 n p es cap U (HH.out.later hU)
    rw [hd] at this
    exact this
  have HT : Hid (∀ U, Below W.heap.size W U → _) := fun U hU => twin11 n p es cap U hz (by omega) (HH.out.later hU)
  have HNB := hide hb
  clear h hbW hW hd hz hb
  go_enter Try.func3, Try.ntmps3
  go_upto_region 6 with (first
    | (go_at_call 8; rw [← HW.out]; refine HB0.out.mono ?_; rintro e w1 ⟨rfl, hb⟩; have HB1 := hide hb; clear hb; have q0 := later HB1.out HQ.out.1; have q1 := later HB1.out HQ.out.2)
    | (go_at_call 9; refine Calls.mono (HL.out _ HB1.out) ?_; rintro e w2 ⟨rfl, hb2⟩; have HB2 := hide (below_step HB1.out hb2); clear hb2 q0 q1; have q0 := later HB2.out HQ.out.1; have q1 := later HB2.out HQ.out.2)
    | (go_at_call 10; refine Calls.mono (HT.out _ HB2.out) ?_; rintro e w3 ⟨g, c, rfl, ho, hc, hb3⟩; have HB3 := hide (below_step HB2.out hb3); have HO3 := hide ho; have HC3 := hide hc; clear hb3 ho hc q0 q1))
  obtain ⟨X, hX⟩ : ∃ X, X = w3.alloc (nbx n (some ⟨g, 0, none⟩) es.length c) := ⟨_, rfl⟩
  have hbX : Below w3.heap.size w3 X := by rw [hX]; go_grown
  have HBX := hide (below_step HB3.out hbX)
  have HK : Hid (X.cell? ⟨w3.heap.size, 0, none⟩ = some (.int .i64 n) ∧ X.cell? ⟨w3.heap.size, 1, none⟩ = some (.slice (some ⟨g, 0, none⟩) es.length c)) := ⟨by rw [hX]; go_cell, by rw [hX]; go_cell⟩
  have HOX : Hid (Lies X g 0 (es ++ [mk])) := by
    have h1 := (HO3.out.later hbX)
    rw [show es.length + 1 = (es ++ [mk]).length by simp] at h1
    exact h1.lies
  rw [← hX]
  obtain ⟨k5, hk5⟩ : ∃ k, w3.heap.size = k := ⟨_, rfl⟩
  rw [hk5] at HK ⊢
  clear hX hbX hk5 HB1 HB2 HB3 HO3 HL HT HW HB0
  have HHX : Hid (Has X (some ⟨g, 0, none⟩) es) := Or.inr ⟨g, 0, rfl, lies_left HOX.out⟩
  have HKP : Hid (∀ U, Below X.heap.size X U → Calls Try.prog 13 #[nv n (some ⟨g, 0, none⟩) es.length c, nv n p es.length cap] U fun e w' => e = .returned (.bool true) ∧ Below U.heap.size U w') := fun U hU => kept17 n g c p es cap U (by omega) HC3.out (HOX.out.later hU) (HH.out.later (below_step HBX.out hU))
  have q0 := HK.out.1
  have q1 := HK.out.2
  go_upto_region 8 with (first
    | (go_at_call 11; refine Calls.mono (of11no n (some ⟨g, 0, none⟩) es c X HHX.out HNB.out) ?_; rintro e w4 ⟨rfl, hb4⟩; have HB4 := hide hb4; clear hb4 q0 q1; have q0 := later (below_step HBX.out HB4.out) HQ.out.1; have q1 := later (below_step HBX.out HB4.out) HQ.out.2)
    | (go_at_call 12; refine Calls.mono (rOf12no n p es cap w4 (HH.out.later (below_step HBX.out HB4.out)) HNB.out) ?_; rintro e w5 ⟨rfl, hb5⟩; have HB5 := hide (below_step HB4.out hb5); clear hb5))
  clear q0 q1
  have q0 := later (below_step HBX.out HB5.out) HQ.out.1
  have q1 := later (below_step HBX.out HB5.out) HQ.out.2
  have r0 := later HB5.out HK.out.1
  have r1 := later HB5.out HK.out.2
  go_wp2_with (go_at_call 13; refine Calls.mono (HKP.out _ HB5.out) ?_; rintro e w6 ⟨rfl, hb6⟩; have HB6 := hide (below_step HB5.out hb6); clear hb6)
  go_ret
  exact ⟨rfl, below_step (below_step HBW.out HBX.out) HB6.out⟩
set_option maxRecDepth 100000 in
set_option maxHeartbeats 32000000 in
theorem all_yes (n : Nat) (p : Option Addr) (es : List Pt) (cap : Nat) (q : Option Addr) (ops : List Opr) (cq : Nat) (w : World) (h : Has w p es) (hz : p = none → cap = 0) (hd : lightB n es = true) (hl : es.length ≤ 300) (hb : netB n es = true) (hq : OHas w q ops) (hql : ops.length ≤ maxLen) : Calls Try.prog 3 #[nv n p es.length cap, .slice q ops.length cq] w fun e w' => e = .returned (.bool true) ∧ Below w.heap.size w w' := by
  have HO := hide hq
  have hql2 : (ops.length : Int) ≤ 9223372036854775807 := by unfold maxLen at hql; omega
  clear hq hql
  obtain ⟨W, hW⟩ : ∃ W, W = w.alloc (nbx n p es.length cap) := ⟨_, rfl⟩
  have hbW : Below w.heap.size w W := by rw [hW]; go_grown
  have HQ : Hid (W.cell? ⟨w.heap.size, 0, none⟩ = some (.int .i64 n) ∧ W.cell? ⟨w.heap.size, 1, none⟩ = some (.slice p es.length cap)) := ⟨by rw [hW]; go_cell, by rw [hW]; go_cell⟩
  have HB0 := hide (begun8 W)
  have HBW := hide hbW
  have HH := hide (h.later hbW)
  have HW := hide hW
  have HL : Hid (∀ U, Below W.heap.size W U → Calls Try.prog 9 #[nv n p es.length cap] U fun e w' => e = .returned (.bool true) ∧ Below U.heap.size U w') := fun U hU => by
    have := light9 n p es cap U (HH.out.later hU)
    rw [hd] at this
    exact this
  have HT : Hid (∀ U, Below W.heap.size W U → _) := fun U hU => twin11 n p es cap U hz (by omega) (HH.out.later hU)
  have HNB := hide hb
  clear h hbW hW hd hz hb
  go_enter Try.func3, Try.ntmps3
  go_upto_region 6 with (first
    | (go_at_call 8; rw [← HW.out]; refine HB0.out.mono ?_; rintro e w1 ⟨rfl, hb⟩; have HB1 := hide hb; clear hb; have q0 := later HB1.out HQ.out.1; have q1 := later HB1.out HQ.out.2)
    | (go_at_call 9; refine Calls.mono (HL.out _ HB1.out) ?_; rintro e w2 ⟨rfl, hb2⟩; have HB2 := hide (below_step HB1.out hb2); clear hb2 q0 q1; have q0 := later HB2.out HQ.out.1; have q1 := later HB2.out HQ.out.2)
    | (go_at_call 10; refine Calls.mono (HT.out _ HB2.out) ?_; rintro e w3 ⟨g, c, rfl, ho, hc, hb3⟩; have HB3 := hide (below_step HB2.out hb3); have HO3 := hide ho; have HC3 := hide hc; clear hb3 ho hc q0 q1))
  obtain ⟨X, hX⟩ : ∃ X, X = w3.alloc (nbx n (some ⟨g, 0, none⟩) es.length c) := ⟨_, rfl⟩
  have hbX : Below w3.heap.size w3 X := by rw [hX]; go_grown
  have HBX := hide (below_step HB3.out hbX)
  have HK : Hid (X.cell? ⟨w3.heap.size, 0, none⟩ = some (.int .i64 n) ∧ X.cell? ⟨w3.heap.size, 1, none⟩ = some (.slice (some ⟨g, 0, none⟩) es.length c)) := ⟨by rw [hX]; go_cell, by rw [hX]; go_cell⟩
  have HOX : Hid (Lies X g 0 (es ++ [mk])) := by
    have h1 := (HO3.out.later hbX)
    rw [show es.length + 1 = (es ++ [mk]).length by simp] at h1
    exact h1.lies
  rw [← hX]
  obtain ⟨k5, hk5⟩ : ∃ k, w3.heap.size = k := ⟨_, rfl⟩
  rw [hk5] at HK ⊢
  clear hX hbX hk5 HB1 HB2 HB3 HO3 HL HT HW HB0
  have HHX : Hid (Has X (some ⟨g, 0, none⟩) es) := Or.inr ⟨g, 0, rfl, lies_left HOX.out⟩
  have HKP : Hid (∀ U, Below X.heap.size X U → Calls Try.prog 13 #[nv n (some ⟨g, 0, none⟩) es.length c, nv n p es.length cap] U fun e w' => e = .returned (.bool true) ∧ Below U.heap.size U w') := fun U hU => kept17 n g c p es cap U (by omega) HC3.out (HOX.out.later hU) (HH.out.later (below_step HBX.out hU))
  have q0 := HK.out.1
  have q1 := HK.out.2
  go_upto_region 8 with (first
    | (go_at_call 11; refine Calls.mono (of11 n (some ⟨g, 0, none⟩) es c X HHX.out HNB.out) ?_; rintro e w4 ⟨b, s, rfl, hg4⟩; have HG4 := hide hg4; have HB4 := hide hg4.below; clear hg4 q0 q1; have q0 := later (below_step HBX.out HB4.out) HQ.out.1; have q1 := later (below_step HBX.out HB4.out) HQ.out.2)
    | (go_at_call 12; refine Calls.mono (rOf12 n p es cap w4 (HH.out.later (below_step HBX.out HB4.out)) HNB.out) ?_; rintro e w5 ⟨br, V, rfl, hr5⟩; have HR5 := hide hr5; have HB5 := hide (below_step HB4.out hr5.below); clear hr5))
  clear q0 q1
  have q0 := later (below_step HBX.out HB5.out) HQ.out.1
  have q1 := later (below_step HBX.out HB5.out) HQ.out.2
  have r0 := later HB5.out HK.out.1
  have r1 := later HB5.out HK.out.2
  go_upto_region 12 with (go_at_call 13; refine Calls.mono (HKP.out _ HB5.out) ?_; rintro e w6 ⟨rfl, hb6⟩; have HB6 := hide hb6; clear hb6)
  obtain ⟨s7, V7, hr7⟩ := Run.of HG4.out HR5.out HB6.out rfl
  have HR7 := hide hr7
  have HXX := hide (below_step (below_step HBW.out HBX.out) (Below.refl X.heap.size X))
  have HGD := hide (good_start HNB.out)
  obtain ⟨Z, hZ⟩ : ∃ Z, Z = w6.alloc (.cells #[ptr b, ptr br, .slice none 0 0] 40) := ⟨_, rfl⟩
  rw [← hZ] at HR7
  have HZ := hide hZ
  clear hr7 hZ q0 q1 r0 r1 HB4 HB5 HB6 HG4 HR5 HKP HHX HOX HC3 HK HQ HBX HBW HH HNB
  go_wp2_with fail
  rw [← HZ.out]
  obtain ⟨kr, hkr⟩ : ∃ kr, w6.heap.size = kr := ⟨_, rfl⟩
  rw [hkr] at HR7 ⊢
  clear hkr HZ
  go_loopw [11] (fun t11 wr => ∃ (k b : Nat) (s1 : GV) (V1 : RV) (G R : Gr) (M : List (Int × Gr)) (L : Int) (vk : Value) (mk : List Int), k ≤ 250 ∧ t11 = .int .i64 k ∧ Hid (Run X wr kr b br s1 V1 G R M L vk mk) ∧ Hid (Good k G R M L mk)) (fun t11 _ => 250 - (intOf t11).toNat)
  case atStart => exact ⟨0, b, s7, V7, _, _, [], 0, .slice none 0 0, [], by omega, rfl, HR7.out, HGD.out⟩
  case round =>
    obtain ⟨k, b2, s1, V1, G, R, M, L, vk, mk, hk, rfl, HM, HX⟩ := hrel
    clear HR7 HGD
    by_cases hlt : k < ops.length ∧ k < 250
    · obtain ⟨i1, i2⟩ : (k : Int) < ops.length ∧ (k : Int) < 250 := by omega
      have i0 : (0 : Int) ≤ k := by omega
      rcases HO.out.later (below_step HXX.out HM.out.bel) with h | ⟨g2, off, rfl, hc⟩
      · rw [h] at hlt; simp at hlt
      obtain ⟨c0, c1, c2, c3⟩ := hc k hlt.1
      obtain ⟨o, ho⟩ : ∃ o, oat ops k = o := ⟨_, rfl⟩
      rw [ho] at c0 c1 c2 c3
      clear hc ho hlt
      have PL := hide (playsAll k kr b2 br s1 V1 G R M L vk mk o X wr HM.out HX.out (by omega))
      go_wp2_with (first
        | (go_at_call 14; refine Calls.mono PL.out ?_; rintro e w8 ⟨b8, s8, V8, G8, R8, M8, L8, vk8, mk8, rfl, hr8, hg8⟩; have HM8 := hide hr8; have HG8 := hide hg8; clear hr8 hg8)
        | (go_at_call 15; refine Calls.mono (same15 _ kr b8 br s8 V8 G8 R8 M8 L8 vk8 mk8 X w8 HM8.out HG8.out.co HG8.out.kp.fg) ?_; rintro e w9 ⟨rfl, hb9⟩; have HM9 := hide (HM8.out.later hb9); clear hb9))
      go_roundw
      case rel => exact ⟨k + 1, b8, s8, V8, G8, R8, M8, L8, vk8, mk8, by omega, by go_num, HM9.out, HG8.out⟩
      case measure => simp [intOf]; omega
    · have SM := hide (same15 _ kr b2 br s1 V1 G R M L vk mk X wr HM.out HX.out.co HX.out.kp.fg)
      by_cases hlo : k < ops.length
      · have i1 : (k : Int) < ops.length := by omega
        have i2 : ¬ (k : Int) < 250 := by omega
        clear hlt
        go_wp2_with (go_at_call 15; refine Calls.mono SM.out ?_; rintro e w9 ⟨rfl, hb9⟩; have HB9 := hide (below_step HM.out.bel hb9); clear hb9)
        go_ret
        exact ⟨rfl, below_step HXX.out HB9.out⟩
      · have i1 : ¬ (k : Int) < ops.length := by omega
        clear hlt
        go_wp2_with (go_at_call 15; refine Calls.mono SM.out ?_; rintro e w9 ⟨rfl, hb9⟩; have HB9 := hide (below_step HM.out.bel hb9); clear hb9)
        go_ret
        exact ⟨rfl, below_step HXX.out HB9.out⟩
theorem all_walk (n : Int) (p : Option Addr) (es : List Pt) (cap : Nat) (q : Option Addr) (ops : List Opr) (cq : Nat) (w : World) (h : Has w p es) (hz : p = none → cap = 0) (hq : OHas w q ops) (hql : ops.length ≤ maxLen) : Calls Try.prog 3 #[nv n p es.length cap, .slice q ops.length cq] w fun e w' => e = .returned (.bool true) ∧ Below w.heap.size w w' := by
  cases hd : lightB n es
  · exact all_dark n p es cap q ops cq w h hd
  · have hl : es.length ≤ 300 := by
      unfold lightB at hd
      simp at hd
      omega
    cases hb : netB n es
    · exact all_no n p es cap q ops cq w h hz hd hl hb
    · obtain ⟨h0, _⟩ := netB_is hb
      obtain ⟨N, rfl⟩ : ∃ N : Nat, n = N := ⟨n.toNat, by omega⟩
      exact all_yes N p es cap q ops cq w h hz hd hl hb hq hql
end Go.Proofs.Ytgfiofogcnnkhaa
