/- A call, as what it makes of a graph (pure). -/
import Derived.Test.YtgfiofogcnnkhaaRC
import Derived.Test.YtgfiofogcnnkhaaR6
import Derived.Test.YtgfiofogcnnkhaaHO
namespace Go.Proofs.Ytgfiofogcnnkhaa
open Go.RowKit Go.Sort
open Go

/-- What a call makes of nodes and edges. -/
def opG (o : Opr) (G : Gr) : Gr :=
  if o.k = 1 then addN G else if o.k = 2 then addE G o.a o.b else if o.k = 3 then drG G o.a else if o.k = 4 then dcG G o.a
  else if o.k = 5 then splG G o.a else if o.k = 6 then unG G o.a else if o.k = 7 then mvG G o.a o.b o.c else G
/-- What a call makes of the program's graph. -/
def opA (o : Opr) (G : Gr) : Gr := if o.k = 10 then mrkG G else opG o G
def opM (o : Opr) (R : Gr) (M : List (Int × Gr)) (L : Int) : List (Int × Gr) := if o.k = 10 then rmM R M L else M
def opL (o : Opr) (M : List (Int × Gr)) (L : Int) : Int := if o.k = 10 then rmL M L else L
def opK (o : Opr) (G : Gr) (mk : List Int) : List Int := if o.k = 10 then mk ++ [mrkV G] else mk
theorem Fine.op {N : Int} {G : Gr} (h : Fine N G) (o : Opr) : Fine (N + 2) (opG o G) := by
  unfold opG
  repeat' split
  · exact h.addN.mono (by omega)
  · exact (h.addE _ _).mono (by omega)
  · exact (h.dr _).mono (by omega)
  · exact (h.dc _).mono (by omega)
  · exact h.spl _
  · exact (h.un_ _).mono (by omega)
  · exact (h.mv _ _ _).mono (by omega)
  · exact h.mono (by omega)
theorem Fine.mrk {N : Int} {G : Gr} (h : Fine N G) : Fine N (mrkG G) := by
  unfold mrkG
  split
  · exact h
  · exact ⟨h.un, h.ue, h.ln, h.le, h.bn, h.be, h.n1, h.n2, h.e1, h.e2⟩
theorem Fine.opA {N : Int} {G : Gr} (h : Fine N G) (o : Opr) : Fine (N + 2) (opA o G) := by
  unfold Go.Proofs.Ytgfiofogcnnkhaa.opA
  split
  · exact h.mrk.mono (by omega)
  · exact h.op o
/-- Marks and the last mark's number stay; so many steps come at most. -/
structure Stay (G G' : Gr) : Prop where
  ms : G'.ms = G.ms
  lm : G'.lm = G.lm
  dn : G'.dn.length ≤ G.dn.length + 3100
theorem Stay.refl (G : Gr) : Stay G G := ⟨rfl, rfl, by omega⟩
theorem stay_op {N : Int} {G : Gr} (h : Fine N G) (o : Opr) : Stay G (opG o G) := by
  unfold opG
  repeat' split
  · unfold addN
    split
    · exact Stay.refl G
    · exact ⟨rfl, rfl, by have : G.layN.dn.length ≤ G.dn.length + 1 := rem_dn _ _; omega⟩
  · unfold addE
    split
    · exact ⟨rfl, rfl, by have : (G.layE o.a o.b).dn.length ≤ G.dn.length + 1 := rem_dn _ _; omega⟩
    · exact Stay.refl G
  · unfold drG
    split
    · obtain ⟨_, _, _, h4, h5, h6⟩ := dpE_rest G (plAt G o.a)
      have h7 : (plAt G o.a).length ≤ 3072 := Nat.le_trans (atN_length _ _ _) h.le
      exact ⟨h4, h5, by have : ((dpE G (plAt G o.a)).takeN (pl G.ns o.a)).dn.length ≤ (dpE G (plAt G o.a)).dn.length + 1 := rem_dn _ _; omega⟩
    · exact Stay.refl G
  · unfold dcG
    split
    · exact ⟨rfl, rfl, by have : (G.takeE (pl (eids G.es) o.a)).dn.length ≤ G.dn.length + 1 := rem_dn _ _; omega⟩
    · exact Stay.refl G
  · unfold splG
    split
    · refine ⟨rfl, rfl, ?_⟩
      have h1 : G.layN.dn.length ≤ G.dn.length + 1 := rem_dn _ _
      have h2 : (G.layN.setE (pl (eids G.es) o.a) 1 G.nn).dn.length ≤ G.layN.dn.length + 1 := rem_dn _ _
      have h3 : (splD G o.a).dn.length ≤ (G.layN.setE (pl (eids G.es) o.a) 1 G.nn).dn.length + 1 := rem_dn _ _
      omega
    · exact Stay.refl G
  · unfold unG
    split
    · refine ⟨rfl, rfl, ?_⟩
      have h1 : (G.setE (un0 G o.a) ((eat G.es (un0 G o.a)).side o.a) ((eat G.es (un1 G o.a)).far o.a)).dn.length ≤ G.dn.length + 1 := rem_dn _ _
      have h2 : ((G.setE (un0 G o.a) ((eat G.es (un0 G o.a)).side o.a) ((eat G.es (un1 G o.a)).far o.a)).takeE (un1 G o.a)).dn.length ≤ (G.setE (un0 G o.a) ((eat G.es (un0 G o.a)).side o.a) ((eat G.es (un1 G o.a)).far o.a)).dn.length + 1 := rem_dn _ _
      have h3 : (unD G o.a).dn.length ≤ ((G.setE (un0 G o.a) ((eat G.es (un0 G o.a)).side o.a) ((eat G.es (un1 G o.a)).far o.a)).takeE (un1 G o.a)).dn.length + 1 := rem_dn _ _
      omega
    · exact Stay.refl G
  · unfold mvG
    split
    · exact ⟨rfl, rfl, by have : (G.setE (pl (eids G.es) o.a) o.b.toNat o.c).dn.length ≤ G.dn.length + 1 := rem_dn _ _; omega⟩
    · exact Stay.refl G
  · exact Stay.refl G
theorem Hist.op {N : Int} {A G : Gr} (h : Hist A G) (hf : Fine N G) (hN : N ≤ 800000000) (o : Opr) : Hist A (opG o G) := by
  unfold opG
  repeat' split
  · exact h.addN hf hN
  · exact h.addE hf hN _ _
  · exact h.dr hf hN _
  · exact h.dc hf hN _
  · exact h.spl hf hN _
  · exact h.un hf hN _
  · exact h.mv hf hN _ _ _
  · exact h
theorem Hist.opA {N : Int} {A G : Gr} (h : Hist A G) (hf : Fine N G) (hN : N ≤ 800000000) (o : Opr) : Hist A (opA o G) := by
  unfold Go.Proofs.Ytgfiofogcnnkhaa.opA
  split
  · exact h.mrk
  · exact h.op hf hN o
/-- What a run keeps to behind k calls. -/
structure Keeps (k : Nat) (G R : Gr) (M : List (Int × Gr)) (L : Int) (mk : List Int) : Prop where
  fg : Fine (4000 + 2 * k) G
  fr : Fine (4000 + 2 * k) R
  ms : G.ms.length ≤ 64
  l0 : 0 ≤ G.lm
  l1 : G.lm ≤ k + 1
  dn : G.dn.length ≤ 3100 * k
  mM : M.length ≤ 64
  L0 : 0 ≤ L
  L1 : L ≤ k + 1
  mkl : mk.length ≤ k
theorem Keeps.op {k : Nat} {G R : Gr} {M : List (Int × Gr)} {L : Int} {mk : List Int} (h : Keeps k G R M L mk) (o : Opr) : Keeps (k + 1) (opA o G) (opG o R) (opM o R M L) (opL o M L) (opK o G mk) := by
  have e : (4000 + 2 * (k : Int)) + 2 = 4000 + 2 * ((k + 1 : Nat) : Int) := by omega
  have hfg := h.fg.opA o
  have hfr := h.fr.op o
  rw [e] at hfg hfr
  have h1 := h.ms
  have h2 := h.l0
  have h3 := h.l1
  have h4 := h.dn
  have h5 := h.mM
  have h6 := h.L0
  have h7 := h.L1
  have h8 := h.mkl
  by_cases hk : o.k = 10
  · have eM : opM o R M L = rmM R M L := if_pos hk
    have eL : opL o M L = rmL M L := if_pos hk
    have eK : opK o G mk = mk ++ [mrkV G] := if_pos hk
    have eA : opA o G = mrkG G := if_pos hk
    rw [eM, eL, eK]
    have fA : (opA o G).ms.length ≤ 64 ∧ 0 ≤ (opA o G).lm ∧ (opA o G).lm ≤ ((k + 1 : Nat) : Int) + 1 ∧ (opA o G).dn.length ≤ 3100 * (k + 1) := by
      rw [eA]
      unfold mrkG
      split
      · exact ⟨h1, h2, by omega, by omega⟩
      · refine ⟨?_, ?_, ?_, ?_⟩
        · show (G.ms ++ [(G.lm + 1, G.dn.length)]).length ≤ 64
          rw [List.length_append, List.length_singleton]
          omega
        · show 0 ≤ G.lm + 1
          omega
        · show G.lm + 1 ≤ _
          omega
        · show G.dn.length ≤ _
          omega
    have fM : (rmM R M L).length ≤ 64 := by
      unfold rmM
      split
      · exact h5
      · rw [List.length_append, List.length_singleton]
        omega
    have fL : 0 ≤ rmL M L ∧ rmL M L ≤ ((k + 1 : Nat) : Int) + 1 := by
      unfold rmL
      split <;> omega
    exact ⟨hfg, hfr, fA.1, fA.2.1, fA.2.2.1, fA.2.2.2, fM, fL.1, fL.2, by rw [List.length_append, List.length_singleton]; omega⟩
  · have eM : opM o R M L = M := if_neg hk
    have eL : opL o M L = L := if_neg hk
    have eK : opK o G mk = mk := if_neg hk
    have eA : opA o G = opG o G := if_neg hk
    obtain ⟨s1, s2, s3⟩ := stay_op h.fg o
    rw [eM, eL, eK]
    refine ⟨hfg, hfr, ?_, ?_, ?_, ?_, h5, h6, by omega, by omega⟩
    · rw [eA, s1]; exact h1
    · rw [eA, s2]; exact h2
    · rw [eA, s2]; omega
    · rw [eA]; omega
end Go.Proofs.Ytgfiofogcnnkhaa
