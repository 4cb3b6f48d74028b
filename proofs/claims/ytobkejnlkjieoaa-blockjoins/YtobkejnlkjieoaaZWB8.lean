/- Parts by its tour: the labels are the components', numbered by their least nodes; and any two such labellings are one. -/
import Derived.Test.YtobkejnlkjieoaaZC02
import Derived.Test.YtobkejnlkjieoaaZC08
import Derived.Test.YtobkejnlkjieoaaZC07
/- Depth first: each edge joins a node with one above it in the tree; all that hangs together with the beginning is found. -/
/- Components, as Parts labels them by its tour: the labels spread along edges, and are numbered by their least nodes. -/
namespace Go.Proofs.Ytobkejnlkjieoaa
open Go.RowKit Go.Sort
open Go
variable {es : List Pt} {n : Nat} {st : St}

/-- A tour goes on: what was found stays as it was, and what is found since has a half-edge by which it was. -/
structure Ext (a b : St) : Prop where
  len : a.O.length ≤ b.O.length
  pre : ∀ i, i < a.O.length → iat b.O i = iat a.O i
  old : ∀ v, 0 ≤ iat a.Fa v → iat b.Fa v = iat a.Fa v ∧ iat b.By v = iat a.By v
  new : ∀ i, a.O.length ≤ i → i < b.O.length → 0 ≤ iat b.By (oj b i) ∧ iat a.Fa (oj b i) < 0 ∧ 0 ≤ iat b.Fa (oj b i)
theorem Ext.refl (a : St) : Ext a a := ⟨Nat.le_refl _, fun _ _ => rfl, fun _ _ => ⟨rfl, rfl⟩, fun i h1 h2 => by omega⟩
theorem Ext.trans {a b c : St} (h : Ext a b) (k : Ext b c) : Ext a c where
  len := Nat.le_trans h.len k.len
  pre i hi := (k.pre i (by have := h.len; omega)).trans (h.pre i hi)
  old v hv := by
    obtain ⟨h1, h2⟩ := h.old v hv
    obtain ⟨k1, k2⟩ := k.old v (by rw [h1]; exact hv)
    exact ⟨k1.trans h1, k2.trans h2⟩
  new i h1 h2 := by
    by_cases hb : i < b.O.length
    · obtain ⟨q1, q2, q3⟩ := h.new i h1 hb
      have e : oj c i = oj b i := by show (iat c.O i).toNat = _; rw [k.pre i hb]
      rw [e]
      obtain ⟨k1, k2⟩ := k.old (oj b i) q3
      exact ⟨by rw [k2]; exact q1, q2, by rw [k1]; exact q3⟩
    · obtain ⟨q1, q2, q3⟩ := k.new i (by omega) h2
      refine ⟨q1, ?_, q3⟩
      rcases Int.lt_or_le (iat a.Fa (oj c i)) 0 with h3 | h3
      · exact h3
      · rw [(h.old _ h3).1] at q2; omega
theorem ext_step {u h : Nat} (o : Ok n st) (hm : netB n es = true) (h0 : 0 ≤ iat st.Fa u) (hh : h < 2 * es.length) : Ext st (bStep es u st h) := by
  obtain ⟨t1, t2⟩ := toL_in hm h hh
  unfold bStep
  obtain ⟨x, hx⟩ : ∃ x : Nat, toL es h = x := ⟨(toL es h).toNat, by omega⟩
  rw [hx]
  have hxn : x < n := by omega
  simp only [Int.toNat_natCast]
  split
  · rename_i hn
    refine ⟨by simp, fun i hi => by simp only [iat_app, if_pos hi], fun v hv => ?_, fun i h1 h2 => ?_⟩
    · have : v ≠ x := fun e => by rw [e] at hv; omega
      simp only [iat_put_neW this, and_self]
    · have e : i = st.O.length := by simp at h2; omega
      have e2 : oj ⟨st.O ++ [(x : Int)], st.By.set x h, st.Fa.set x (iat st.Fa u + 1)⟩ i = x := by
        show (iat (st.O ++ [(x : Int)]) i).toNat = x
        rw [iat_app, if_neg (by omega), if_pos e, Int.toNat_natCast]
      rw [e2]
      refine ⟨?_, hn, ?_⟩
      · show 0 ≤ iat (st.By.set x h) x
        rw [iat_putW (by rw [o.lb]; exact hxn)]; omega
      · show 0 ≤ iat (st.Fa.set x _) x
        rw [iat_putW (by rw [o.lf]; exact hxn)]; omega
  · exact Ext.refl _
theorem ext_row {u : Nat} (o : Ok n st) (hm : netB n es = true) (hu : u < n) (h0 : 0 ≤ iat st.Fa u) : ∀ j, j ≤ (outL es (2 * es.length) u).length → Ext st (bRow es u st j)
  | 0, _ => Ext.refl _
  | j + 1, hj => by
    obtain ⟨o1, h1⟩ := o.row hm hu h0 j (by omega)
    obtain ⟨k, hk, hk2, _⟩ := outL_at (es := es) (h := 2 * es.length) (v := u) (j := j) (by omega)
    simp only [bRow]
    rw [hk, Int.toNat_natCast]
    exact (ext_row o hm hu h0 j (by omega)).trans (ext_step o1 hm h1 hk2)
theorem ext_bfs (hm : netB n es = true) : ∀ (k j : Nat) (st : St), Ok n st → Ext st (bfs es k j st)
  | 0, _, _, _ => Ext.refl _
  | k + 1, j, st, o => by
    simp only [bfs]
    split
    · rename_i hj
      obtain ⟨h0, h1⟩ := o.mem j hj
      have hu : (iat st.O j).toNat < n := by omega
      exact (ext_row o hm hu (o.fnd j hj) _ (Nat.le_refl _)).trans (ext_bfs hm k (j + 1) _ (o.row hm hu (o.fnd j hj) _ (Nat.le_refl _)).1)
    · exact Ext.refl _
/-- Counting and labels hang on the first nodes and on how they were found alone. -/
theorem pcnt_pre {a b : St} (h : Ext a b) (o : Ok n a) : ∀ j, j ≤ a.O.length → pcnt b.O b.By j = pcnt a.O a.By j
  | 0, _ => rfl
  | j + 1, hj => by
    simp only [pcnt]
    rw [pcnt_pre h o j (by omega), h.pre j (by omega), (h.old _ (o.fnd j (by omega))).2]
theorem plab_pre {a b : St} (h : Ext a b) (o : Ok n a) : ∀ j, j ≤ a.O.length → plab b.O b.By n j = plab a.O a.By n j
  | 0, _ => rfl
  | j + 1, hj => by
    simp only [plab]
    rw [plab_pre h o j (by omega), pcnt_pre h o (j + 1) hj, h.pre j (by omega)]
theorem plab_len (O By : List Int) (n : Nat) : ∀ j, (plab O By n j).length = n
  | 0 => by simp [plab]
  | j + 1 => by simp only [plab, List.length_set]; exact plab_len O By n j
theorem pcnt_new {a b : St} (h : Ext a b) : ∀ j, a.O.length ≤ j → j ≤ b.O.length → pcnt b.O b.By j = pcnt b.O b.By a.O.length := by
  intro j h1
  induction j with
  | zero => intro _; rw [show a.O.length = 0 by omega]
  | succ j ih =>
    intro h2
    by_cases e : a.O.length = j + 1
    · rw [e]
    · simp only [pcnt]
      have := (h.new j (by omega) (by omega)).1
      rw [if_neg (by show ¬ iat b.By (oj b j) < 0; omega)]
      exact ih (by omega) (by omega)
/-- The labels of a tour that goes on. -/
theorem plab_new {a b : St} (h : Ext a b) (ob : Ok n b) {v : Nat} (hv : v < n) : ∀ j, a.O.length ≤ j → j ≤ b.O.length → ((∃ i, a.O.length ≤ i ∧ i < j ∧ oj b i = v) → iat (plab b.O b.By n j) v = (pcnt b.O b.By a.O.length : Int) - 1) ∧ ((¬ ∃ i, a.O.length ≤ i ∧ i < j ∧ oj b i = v) → iat (plab b.O b.By n j) v = iat (plab b.O b.By n a.O.length) v) := by
  intro j h1
  induction j with
  | zero => intro _; refine ⟨fun ⟨i, _, h3, _⟩ => by omega, fun _ => by rw [show a.O.length = 0 by omega]⟩
  | succ j ih =>
    intro h2
    by_cases e : a.O.length = j + 1
    · rw [e]; exact ⟨fun ⟨i, h3, h4, _⟩ => by omega, fun _ => rfl⟩
    · obtain ⟨i1, i2⟩ := ih (by omega) (by omega)
      have hj1 : a.O.length ≤ j := by omega
      have hc := pcnt_new h (j + 1) (by omega) h2
      simp only [plab]
      rw [hc]
      have hjn : (iat b.O j).toNat < n := by have := ob.mem j (by omega); omega
      by_cases ev : oj b j = v
      · have ev' : (iat b.O j).toNat = v := ev
        rw [ev', iat_putW (by rw [plab_len]; exact hv)]
        exact ⟨fun _ => rfl, fun hno => absurd ⟨j, hj1, Nat.lt_succ_self _, ev⟩ hno⟩
      · rw [iat_put_neW (fun e => ev e.symm)]
        refine ⟨fun ⟨i, h3, h4, h5⟩ => i1 ⟨i, h3, by
          have : i ≠ j := fun e => ev (by rw [← e]; exact h5)
          omega, h5⟩, fun hno => i2 fun ⟨i, h3, h4, h5⟩ => hno ⟨i, h3, Nat.lt_succ_of_lt h4, h5⟩⟩
/-- The label of each node found; none for the others. -/
def labOf (n : Nat) (st : St) : List Int := (List.range n).map fun v => if 0 ≤ iat st.Fa v then iat (plab st.O st.By n st.O.length) v else -1
theorem labOf_len : (labOf n st).length = n := by simp [labOf]
theorem labOf_at {v : Nat} (hv : v < n) : iat (labOf n st) v = if 0 ≤ iat st.Fa v then iat (plab st.O st.By n st.O.length) v else -1 := by
  unfold labOf iat
  rw [List.getD_eq_getElem?_getD, List.getElem?_map, List.getElem?_range hv]
  rfl
theorem Conn.trans {a b c : Nat} (h : Conn es a b) (k : Conn es b c) : Conn es a c := by
  induction k with
  | refl => exact h
  | step _ h1 h2 h3 ih => exact ih.step h1 h2 h3
theorem Conn.symm {a b : Nat} (h : Conn es a b) : Conn es b a := by
  induction h with
  | refl => exact Conn.refl _
  | step _ h1 h2 h3 ih =>
    obtain ⟨t, t1, t2, t3⟩ := twin_isW es _ h1
    exact ((Conn.refl _).step t1 (by rw [t2, h3]) (by rw [t3, h2])).trans ih
/-- A node found is joined with the beginning of its tree. -/
theorem conn_root (t : Tree es n st) : ∀ (k v : Nat), v < n → iat st.Fa v = k → Conn es (root es st v) v
  | 0, v, hv, h => by rw [root_zero h]; exact Conn.refl _
  | k + 1, v, hv, h => by
    obtain ⟨h', q1, q2, q3, q4, q5, q6, q7, q8⟩ := root_par t hv (by omega)
    rw [← q8]
    exact (conn_root t k _ q5 (by omega)).step q1 q4 q3
theorem root_found (t : Tree es n st) : ∀ (k v : Nat), v < n → iat st.Fa v = k → root es st v < n ∧ iat st.Fa (root es st v) = 0
  | 0, v, hv, h => by rw [root_zero h]; exact ⟨hv, h⟩
  | k + 1, v, hv, h => by
    obtain ⟨h', q1, q2, q3, q4, q5, q6, q7, q8⟩ := root_par t hv (by omega)
    rw [← q8]
    exact root_found t k _ q5 (by omega)
end Go.Proofs.Ytobkejnlkjieoaa

namespace Go.Proofs.Ytobkejnlkjieoaa
open Go.RowKit Go.Sort
open Go
variable {es : List Pt} {n : Nat} {st : St}

/-- The one is met on the way up from the other. -/
def Anc (es : List Pt) (st : St) (a b : Nat) : Prop := ∃ k : Nat, (k : Int) ≤ iat st.Fa b ∧ rtN es st k b = a
theorem anc_put {a b v : Nat} {O : List Int} {h f : Int} (t : Tree es n st) (hn : iat st.Fa v < 0) (hb : b < n) (h0 : 0 ≤ iat st.Fa b) (k : Anc es st a b) : Anc es ⟨O, st.By.set v h, st.Fa.set v f⟩ a b := by
  obtain ⟨j, h1, h2⟩ := k
  have hne : b ≠ v := fun e => by rw [e] at h0; omega
  exact ⟨j, by simp only [iat_put_neW hne]; exact h1, by rw [rtN_put t hn j b hb h0 h1]; exact h2⟩
/-- What holds of a dive from s under way. -/
structure Df (es : List Pt) (n s : Nat) (d : Ds) : Prop where
  dk : Dk es n d
  tree : Tree es n d.st
  chain : d.S.Pairwise (fun u x => Anc es d.st x u)
  gone : ∀ u, u < n → ∀ i : Nat, (i : Int) < iat d.G u → 0 ≤ iat d.st.Fa u ∧ ∀ h : Nat, iat (outL es (2 * es.length) u) i = h → 0 ≤ iat d.st.Fa (toL es h).toNat ∧ (Anc es d.st u (toL es h).toNat ∨ Anc es d.st (toL es h).toNat u)
  fin : ∀ u, u < n → 0 ≤ iat d.st.Fa u → u ∉ d.S → iat d.G u = (outL es (2 * es.length) u).length
  zero : ∀ v, v < n → iat d.st.Fa v = 0 → v = s
  first : 0 < d.st.O.length ∧ iat d.st.O 0 = s ∧ iat d.st.Fa s = 0
theorem anc_self {a : Nat} (h : 0 ≤ iat st.Fa a) : Anc es st a a := ⟨0, by omega, rfl⟩
theorem Df.one {s u : Nat} {d : Ds} {r : List Nat} (k : Df es n s d) (hm : netB n es = true) (hS : d.S = u :: r) : Df es n s (dOne es d u r) := by
  obtain ⟨hu, hf⟩ := k.dk.sm u (by rw [hS]; simp)
  obtain ⟨g0, g1⟩ := k.dk.gv u hu
  have D1 := (k.dk.one hm hS).1
  have hch := k.chain
  rw [hS, List.pairwise_cons] at hch
  revert D1
  unfold dOne
  by_cases he : iat d.G u = (outL es (2 * es.length) u).length
  · rw [if_pos he]
    intro D1
    refine ⟨D1, k.tree, hch.2, k.gone, fun v hv h0 hns => ?_, k.zero, k.first⟩
    by_cases e : v = u
    · rw [e]; exact he
    · exact k.fin v hv h0 (by rw [hS]; simp only [List.mem_cons, not_or]; exact ⟨e, hns⟩)
  · rw [if_neg he]
    obtain ⟨h, hh, hh2, hh3⟩ := outL_at (es := es) (h := 2 * es.length) (v := u) (j := (iat d.G u).toNat) (by omega)
    rw [hh, Int.toNat_natCast]
    obtain ⟨t1, t2⟩ := toL_in hm h hh2
    obtain ⟨x, hx⟩ : ∃ x : Nat, toL es h = x := ⟨(toL es h).toNat, by omega⟩
    rw [hx, Int.toNat_natCast]
    have hxn : x < n := by omega
    by_cases hneg : iat d.st.Fa x < 0
    · rw [if_pos hneg]
      intro D1
      have hux : u ≠ x := fun e => by rw [e] at hf; omega
      have T1 : Tree es n ⟨d.st.O ++ [(x : Int)], d.st.By.set x (h : Int), d.st.Fa.set x (iat d.st.Fa u + 1)⟩ := k.tree.put k.dk.ok hxn hneg (Or.inr ⟨h, u, hh2, hu, rfl, hx, hh3, rfl, hf⟩) (by omega)
      have fx : iat (d.st.Fa.set x (iat d.st.Fa u + 1)) x = iat d.st.Fa u + 1 := iat_putW (by rw [k.dk.ok.lf]; exact hxn)
      have px : par es ⟨d.st.O ++ [(x : Int)], d.st.By.set x (h : Int), d.st.Fa.set x (iat d.st.Fa u + 1)⟩ x = u := by
        unfold par
        simp only [iat_putW (show x < d.st.By.length by rw [k.dk.ok.lb]; exact hxn), Int.toNat_natCast, hh3]
      have up : ∀ y, Anc es d.st y u → Anc es ⟨d.st.O ++ [(x : Int)], d.st.By.set x (h : Int), d.st.Fa.set x (iat d.st.Fa u + 1)⟩ y x := by
        intro y hy
        obtain ⟨j, j1, j2⟩ := anc_put (O := d.st.O ++ [(x : Int)]) (h := (h : Int)) (f := iat d.st.Fa u + 1) k.tree hneg hu hf hy
        refine ⟨j + 1, ?_, ?_⟩
        · have j1' : (j : Int) ≤ iat (d.st.Fa.set x (iat d.st.Fa u + 1)) u := j1
          rw [iat_put_neW hux] at j1'
          show ((j + 1 : Nat) : Int) ≤ iat (d.st.Fa.set x (iat d.st.Fa u + 1)) x
          rw [fx]; omega
        · show rtN es _ j (par es _ x) = y
          rw [px]; exact j2
      refine ⟨D1, T1, ?_, ?_, ?_, ?_, ?_⟩
      · show (x :: u :: r).Pairwise _
        rw [List.pairwise_cons, List.pairwise_cons]
        refine ⟨fun y hy => ?_, fun y hy => anc_put k.tree hneg hu hf (hch.1 y hy), ?_⟩
        · rcases List.mem_cons.1 hy with e | e
          · rw [e]; exact up u (anc_self hf)
          · exact up y (hch.1 y e)
        · refine hch.2.imp_of_mem (fun {a b} ha _ hab => ?_)
          obtain ⟨a1, a2⟩ := k.dk.sm a (by rw [hS]; exact List.mem_cons_of_mem _ ha)
          exact anc_put k.tree hneg a1 a2 hab
      · intro v hv i hi
        have hi' : (i : Int) < iat (d.G.set u (iat d.G u + 1)) v := hi
        have old : (i : Int) < iat d.G v → _ := k.gone v hv i
        have keep : ∀ y, 0 ≤ iat d.st.Fa y → 0 ≤ iat (d.st.Fa.set x (iat d.st.Fa u + 1)) y := fun y hy => by
          rw [iat_put_neW (fun e => by rw [e] at hy; omega)]; exact hy
        have carry : (i : Int) < iat d.G v → 0 ≤ iat (d.st.Fa.set x (iat d.st.Fa u + 1)) v ∧ ∀ h' : Nat, iat (outL es (2 * es.length) v) i = h' → 0 ≤ iat (d.st.Fa.set x (iat d.st.Fa u + 1)) (toL es h').toNat ∧ (Anc es ⟨d.st.O ++ [(x : Int)], d.st.By.set x (h : Int), d.st.Fa.set x (iat d.st.Fa u + 1)⟩ v (toL es h').toNat ∨ Anc es ⟨d.st.O ++ [(x : Int)], d.st.By.set x (h : Int), d.st.Fa.set x (iat d.st.Fa u + 1)⟩ (toL es h').toNat v) := by
          intro hlt
          obtain ⟨q1, q2⟩ := old hlt
          refine ⟨keep v q1, fun h' hh' => ?_⟩
          obtain ⟨q3, q4⟩ := q2 h' hh'
          obtain ⟨l1, l2⟩ := k.dk.gv v hv
          obtain ⟨h2, e2, e3, _⟩ := outL_at (es := es) (h := 2 * es.length) (v := v) (j := i) (by omega)
          have e4 : h' < 2 * es.length := by rw [hh'] at e2; omega
          have tn := toL_in hm h' e4
          exact ⟨keep _ q3, q4.imp (fun w => anc_put k.tree hneg (by omega) q3 w) (fun w => anc_put k.tree hneg hv q1 w)⟩
        by_cases e : v = u
        · subst e
          rw [iat_putW (by rw [k.dk.lg]; exact hu)] at hi'
          by_cases hlt : (i : Int) < iat d.G v
          · exact carry hlt
          · refine ⟨keep v hf, fun h' hh' => ?_⟩
            have ei : i = (iat d.G v).toNat := by omega
            rw [ei, hh] at hh'
            have eh : h' = h := by omega
            rw [eh, hx, Int.toNat_natCast]
            exact ⟨by show 0 ≤ iat (d.st.Fa.set x _) x; rw [fx]; omega, Or.inl (up v (anc_self hf))⟩
        · rw [iat_put_neW e] at hi'
          exact carry hi'
      · intro v hv h0 hns
        have hns' : v ∉ x :: u :: r := hns
        simp only [List.mem_cons, not_or] at hns'
        have h0' : 0 ≤ iat (d.st.Fa.set x (iat d.st.Fa u + 1)) v := h0
        rw [iat_put_neW hns'.1] at h0'
        show iat (d.G.set u _) v = _
        rw [iat_put_neW hns'.2.1]
        exact k.fin v hv h0' (by rw [hS]; simp only [List.mem_cons, not_or]; exact ⟨hns'.2.1, hns'.2.2⟩)
      · intro v hv h0
        have h0' : iat (d.st.Fa.set x (iat d.st.Fa u + 1)) v = 0 := h0
        by_cases e : v = x
        · rw [e, fx] at h0'; omega
        · rw [iat_put_neW e] at h0'; exact k.zero v hv h0'
      · obtain ⟨f1, f2, f3⟩ := k.first
        have hsx : s ≠ x := fun e => by rw [e] at f3; omega
        refine ⟨by simp, ?_, ?_⟩
        · show iat (d.st.O ++ [(x : Int)]) 0 = s
          rw [iat_app, if_pos f1]; exact f2
        · show iat (d.st.Fa.set x _) s = 0
          rw [iat_put_neW hsx]; exact f3
    · rw [if_neg hneg]
      intro D1
      have hfx : 0 ≤ iat d.st.Fa x := by omega
      refine ⟨D1, k.tree, by show (u :: r).Pairwise _; rw [← hS]; exact k.chain, ?_, ?_, k.zero, k.first⟩
      · intro v hv i hi
        have hi' : (i : Int) < iat (d.G.set u (iat d.G u + 1)) v := hi
        by_cases e : v = u
        · subst e
          rw [iat_putW (by rw [k.dk.lg]; exact hu)] at hi'
          by_cases hlt : (i : Int) < iat d.G v
          · exact k.gone v hv i hlt
          · refine ⟨hf, fun h' hh' => ?_⟩
            have ei : i = (iat d.G v).toNat := by omega
            rw [ei, hh] at hh'
            have eh : h' = h := by omega
            rw [eh, hx, Int.toNat_natCast]
            refine ⟨hfx, ?_⟩
            by_cases hxS : x ∈ d.S
            · rw [hS, List.mem_cons] at hxS
              rcases hxS with e | e
              · rw [e]; exact Or.inl (anc_self hf)
              · exact Or.inr (hch.1 x e)
            · have hG := k.fin x hxn hfx hxS
              obtain ⟨t, t3, t4, t5⟩ := twin_isW es h hh2
              obtain ⟨q, hq, hqe⟩ := outL_mem (es := es) (h := 2 * es.length) (v := x) (k := t) t3 (by rw [t4, hx])
              obtain ⟨_, w2⟩ := k.gone x hxn q (by rw [hG]; omega)
              have w3 := (w2 t hqe).2
              rw [t5, hh3, Int.toNat_natCast] at w3
              exact w3.symm
        · rw [iat_put_neW e] at hi'
          exact k.gone v hv i hi'
      · intro v hv h0 hns
        have hns' : v ∉ u :: r := hns
        have hvu : v ≠ u := fun e => hns' (by rw [e]; simp)
        show iat (d.G.set u _) v = _
        rw [iat_put_neW hvu]
        exact k.fin v hv h0 (by rw [hS]; exact hns')
theorem Df.all (hm : netB n es = true) {s : Nat} : ∀ (k : Nat) (d : Ds), Df es n s d → dM es n d ≤ k → Df es n s (dfs es k d) ∧ (dfs es k d).S = []
  | 0, d, f, hk => by
    refine ⟨f, ?_⟩
    show d.S = []
    unfold dM at hk
    exact List.eq_nil_of_length_eq_zero (by omega)
  | k + 1, d, f, hk => by
    simp only [dfs]
    cases hS : d.S with
    | nil => exact ⟨f, hS⟩
    | cons u r =>
      have := (f.dk.one hm hS).2
      exact Df.all hm k _ (f.one hm hS) (by omega)
/-- A tour from one node that is shut: what is found is what hangs together with it. -/
structure Reach (es : List Pt) (n s : Nat) (st : St) : Prop where
  ok : Ok n st
  tree : Tree es n st
  shut : ∀ h u x : Nat, h < 2 * es.length → fromL es h = u → toL es h = x → 0 ≤ iat st.Fa u → 0 ≤ iat st.Fa x
  zero : ∀ v, v < n → iat st.Fa v = 0 → v = s
  first : 0 < st.O.length ∧ iat st.O 0 = s ∧ iat st.Fa s = 0
theorem Reach.iff {s : Nat} (r : Reach es n s st) {v : Nat} (hv : v < n) : 0 ≤ iat st.Fa v ↔ Conn es s v := by
  constructor
  · intro h
    obtain ⟨k, hk⟩ : ∃ k : Nat, iat st.Fa v = k := ⟨(iat st.Fa v).toNat, by omega⟩
    have h1 := conn_root r.tree k v hv hk
    obtain ⟨h2, h3⟩ := root_found r.tree k v hv hk
    rw [r.zero _ h2 h3] at h1
    exact h1
  · intro h
    clear hv
    induction h with
    | refl => rw [r.first.2.2]; omega
    | step _ h1 h2 h3 ih => exact r.shut _ _ _ h1 h2 h3 ih
/-- How many are found. -/
def fndN (Fa : List Int) : Nat := Fa.countP fun x => decide (0 ≤ x)
theorem fnd_unl (Fa : List Int) : fndN Fa + unl Fa = Fa.length := by
  unfold fndN unl
  induction Fa with
  | nil => rfl
  | cons x xs ih =>
    rw [List.countP_cons, List.countP_cons, List.length_cons]
    by_cases h : 0 ≤ x
    · have : ¬ x < 0 := by omega
      simp only [h, this, decide_true, decide_false, if_true]
      simp
      omega
    · have : x < 0 := by omega
      simp only [h, this, decide_true, decide_false, if_true]
      simp
      omega
theorem dOne_reach (hm : netB n es = true) {s : Nat} (hs : s < n) : ∃ D : Ds, D.st = (dfs es (dM es n (d0 n s (st0 n))) (d0 n s (st0 n))).st ∧ Df es n s D ∧ D.S = [] := by
  have hF : iat (begin_ (st0 n) s).Fa s = 0 := iat_putW (by rw [(st0_ok n).lf]; exact hs)
  have hneg : iat (st0 n).Fa s < 0 := by show iat (List.replicate n (-1)) s < 0; rw [iat_fill hs]; omega
  have f0 : Df es n s (d0 n s (st0 n)) := by
    refine ⟨d0_ok (st0_ok n) hs hneg, (tree0 es n _ _ (fun v hv => iat_fill hv) (fun v hv => iat_fill hv)).begin_ (st0_ok n) hs hneg, by show [s].Pairwise _; simp, ?_, ?_, ?_, ?_⟩
    · intro u hu i hi
      have : iat (List.replicate n (0 : Int)) u = 0 := iat_fill hu
      have hi' : (i : Int) < iat (List.replicate n (0 : Int)) u := hi
      omega
    · intro u hu h0 hns
      have hne : u ≠ s := fun e => hns (by rw [e]; show s ∈ [s]; simp)
      have h0' : 0 ≤ iat ((List.replicate n (-1 : Int)).set s 0) u := h0
      rw [iat_put_neW hne, iat_fill hu] at h0'
      omega
    · intro v hv h0
      by_cases e : v = s
      · exact e
      · have h0' : iat ((List.replicate n (-1 : Int)).set s 0) v = 0 := h0
        rw [iat_put_neW e, iat_fill hv] at h0'
        omega
    · exact ⟨by simp [d0, begin_], by simp [d0, begin_, st0, iat], hF⟩
  obtain ⟨f, e⟩ := Df.all hm _ _ f0 (Nat.le_refl _)
  exact ⟨_, rfl, f, e⟩
end Go.Proofs.Ytobkejnlkjieoaa

namespace Go.Proofs.Ytobkejnlkjieoaa
open Go.RowKit Go.Sort
open Go
variable {es : List Pt} {n : Nat} {st : St}

/-- Breadth first from a node, into a tour that is shut. -/
theorem Shut.walkR {s : Nat} (c : Shut es n st) (hm : netB n es = true) (hs : s < n) (hn : iat st.Fa s < 0) : Ext (begin_ st s) (bfs es n st.O.length (begin_ st s)) ∧ ∀ v, v < n → 0 ≤ iat (bfs es n st.O.length (begin_ st s)).Fa v → 0 ≤ iat st.Fa v ∨ root es (bfs es n st.O.length (begin_ st s)) v = s := by
  refine ⟨ext_bfs hm n _ _ (c.ok.begin_ hs hn), ?_⟩
  have hF : iat (begin_ st s).Fa s = 0 := iat_putW (by rw [c.ok.lf]; exact hs)
  have r0 : Run es n st s st.O.length st.O.length (begin_ st s) := by
    refine ⟨c.ok.begin_ hs hn, c.tree.begin_ c.ok hs hn, fun i hi hij => by omega, ?_, ?_, ?_, by rw [hF]; omega⟩
    · intro i hi
      refine ⟨by simp [begin_]; omega, ?_⟩
      have : oj (begin_ st s) i = oj st i := oj_app hi
      rw [this]
      exact c.ok.fnd i hi
    · intro v hv h0
      have hne : v ≠ s := fun e => by rw [e] at h0; omega
      refine ⟨?_, root_put c.tree hn hv h0⟩
      show 0 ≤ iat (st.Fa.set s 0) v
      rw [iat_put_neW hne]
      exact h0
    · intro v hv h0
      by_cases e : v = s
      · right
        rw [e]
        exact root_zero hF
      · left
        have h1 : 0 ≤ iat (st.Fa.set s 0) v := h0
        rw [iat_put_neW e] at h1
        exact h1
  obtain ⟨j', r, hj'⟩ := Run.all c hm n st.O.length _ r0 (by omega)
  exact r.new
/-- Breadth first from one node. -/
theorem bOne_reach {s : Nat} (hm : netB n es = true) (hs : s < n) : Reach es n s (bfs es n 0 (begin_ (st0 n) s)) := by
  have hneg : iat (st0 n).Fa s < 0 := by show iat (List.replicate n (-1)) s < 0; rw [iat_fill hs]; omega
  have c := shut0 es n hm
  obtain ⟨c1, c2, c3⟩ := c.walk hm hs hneg
  obtain ⟨x1, x2⟩ := c.walkR hm hs hneg
  have hF : iat (begin_ (st0 n) s).Fa s = 0 := iat_putW (by rw [(st0_ok n).lf]; exact hs)
  have old := x1.old s (by rw [hF]; omega)
  refine ⟨c1.ok, c1.tree, fun h u x h1 h2 h3 h4 => (c1.all h u x h1 h2 h3 h4).1, fun v hv h0 => ?_, ?_, ?_, ?_⟩
  · rcases x2 v hv (by show 0 ≤ iat (bfs es n (st0 n).O.length (begin_ (st0 n) s)).Fa v; rw [show (st0 n).O.length = 0 from rfl, h0]; omega) with h | h
    · have : iat (List.replicate n (-1 : Int)) v = -1 := iat_fill hv
      have h' : 0 ≤ iat (List.replicate n (-1 : Int)) v := h
      omega
    · rw [← h]
      exact (root_zero h0).symm
  · have := x1.len
    have e : (begin_ (st0 n) s).O.length = 1 := by simp [begin_, st0]
    have e2 : (st0 n).O.length = 0 := rfl
    rw [e2] at this
    omega
  · have e : (begin_ (st0 n) s).O.length = 1 := by simp [begin_, st0]
    have := x1.pre 0 (by omega)
    rw [show (st0 n).O.length = 0 from rfl] at this
    rw [this]
    simp [begin_, st0, iat]
  · have := old.1
    rw [show (st0 n).O.length = 0 from rfl] at this
    rw [this, hF]
theorem plab_begin {s : Nat} (hs : s < n) (o : Ok n st) (hn : iat st.Fa s < 0) : pcnt (begin_ st s).O (begin_ st s).By (st.O.length + 1) = pcnt st.O st.By st.O.length + 1 ∧ plab (begin_ st s).O (begin_ st s).By n (st.O.length + 1) = (plab st.O st.By n st.O.length).set s (pcnt st.O st.By st.O.length : Int) := by
  have e0 : iat (begin_ st s).O st.O.length = s := by show iat (st.O ++ [(s : Int)]) st.O.length = s; rw [iat_app, if_neg (by omega), if_pos rfl]
  have pre : ∀ i, i < st.O.length → iat (begin_ st s).O i = iat st.O i := fun i hi => by show iat (st.O ++ [(s : Int)]) i = _; rw [iat_app, if_pos hi]
  have byo : ∀ v, 0 ≤ iat st.Fa v → iat (begin_ st s).By v = iat st.By v := fun v hv => by show iat (st.By.set s (-1)) v = _; rw [iat_put_neW (fun e => by rw [e] at hv; omega)]
  have c0 : ∀ j, j ≤ st.O.length → pcnt (begin_ st s).O (begin_ st s).By j = pcnt st.O st.By j := by
    intro j
    induction j with
    | zero => intro _; rfl
    | succ j ih =>
      intro hj
      simp only [pcnt]
      rw [ih (by omega), pre j (by omega), byo _ (o.fnd j (by omega))]
  have l0 : ∀ j, j ≤ st.O.length → plab (begin_ st s).O (begin_ st s).By n j = plab st.O st.By n j := by
    intro j
    induction j with
    | zero => intro _; rfl
    | succ j ih =>
      intro hj
      simp only [plab]
      rw [ih (by omega), pre j (by omega), c0 (j + 1) hj]
  have c1 : pcnt (begin_ st s).O (begin_ st s).By (st.O.length + 1) = pcnt st.O st.By st.O.length + 1 := by
    simp only [pcnt]
    rw [e0, Int.toNat_natCast, show iat (begin_ st s).By s = -1 from iat_putW (by rw [o.lb]; exact hs), if_pos (by omega), c0 _ (Nat.le_refl _)]
  refine ⟨c1, ?_⟩
  simp only [plab]
  rw [c1, e0, Int.toNat_natCast, l0 _ (Nat.le_refl _)]
  congr 1
  omega
/-- The labels of Parts' tour behind s nodes. -/
theorem every_lab (hm : netB n es = true) : ∀ s, s ≤ n → (∃ r, Lab es n (pcnt (everyN es n s).O (everyN es n s).By (everyN es n s).O.length) s (labOf n (everyN es n s)) r NoDue) ∧ ∀ v, v < n → 0 ≤ iat (everyN es n s).Fa v → 0 ≤ iat (labOf n (everyN es n s)) v
  | 0, _ => ⟨⟨fun _ => 0, by
    have e : labOf n (everyN es n 0) = List.replicate n (-1) := by
      apply List.ext_getElem
      · simp [labOf_len]
      · intro i h1 h2
        have hi : i < n := by simpa [labOf_len] using h1
        have := labOf_at (n := n) (st := everyN es n 0) hi
        rw [if_neg (by show ¬ 0 ≤ iat (List.replicate n (-1)) i; rw [iat_fill hi]; omega)] at this
        unfold iat at this
        rw [List.getD_eq_getElem?_getD, List.getElem?_eq_getElem h1] at this
        simpa using this
    rw [e]
    exact lab_start n (fun t ht => (fromL_in hm t ht).2)⟩, fun v hv h0 => by
    have h0' : 0 ≤ iat (List.replicate n (-1 : Int)) v := h0
    rw [iat_fill hv] at h0'
    omega⟩
  | s + 1, hs => by
    obtain ⟨⟨r, L⟩, LV⟩ := every_lab hm s (by omega)
    obtain ⟨c, hall⟩ := everyN_shut (es := es) hm s (by omega)
    simp only [everyN]
    split
    · rename_i hneg
      obtain ⟨st, hst⟩ : ∃ st, everyN es n s = st := ⟨_, rfl⟩
      rw [hst] at L LV c hall hneg ⊢
      obtain ⟨c1, c2, c3⟩ := c.walk hm (by omega) hneg
      obtain ⟨x1, x2⟩ := c.walkR hm (by omega) hneg
      obtain ⟨T, hT⟩ : ∃ T, bfs es n st.O.length (begin_ st s) = T := ⟨_, rfl⟩
      rw [hT] at c1 c2 c3 x1 x2 ⊢
      have hsn : s < n := by omega
      have lenb : (begin_ st s).O.length = st.O.length + 1 := by simp [begin_]
      have ob := c.ok.begin_ hsn hneg
      obtain ⟨p1, p2⟩ := plab_begin hsn c.ok hneg
      have cT : pcnt T.O T.By T.O.length = pcnt st.O st.By st.O.length + 1 := by
        rw [pcnt_new x1 T.O.length x1.len (Nat.le_refl _), pcnt_pre x1 ob _ (Nat.le_refl _), lenb, p1]
      have pT := pcnt_pre x1 ob _ (Nat.le_refl _)
      rw [lenb, p1] at pT
      have lT : plab T.O T.By n (begin_ st s).O.length = (plab st.O st.By n st.O.length).set s (pcnt st.O st.By st.O.length : Int) := by
        rw [plab_pre x1 ob _ (Nat.le_refl _), lenb, p2]
      -- the labels
      have old : ∀ v, v < n → 0 ≤ iat st.Fa v → iat (labOf n T) v = iat (labOf n st) v := by
        intro v hv h0
        have hne : v ≠ s := fun e => by rw [e] at h0; omega
        have hb : 0 ≤ iat (begin_ st s).Fa v := by show 0 ≤ iat (st.Fa.set s 0) v; rw [iat_put_neW hne]; exact h0
        rw [labOf_at hv, labOf_at hv, if_pos (by rw [(x1.old v hb).1]; exact hb), if_pos h0]
        have hno : ¬ ∃ i, (begin_ st s).O.length ≤ i ∧ i < T.O.length ∧ oj T i = v := fun ⟨i, h1, h2, h3⟩ => by
          have := (x1.new i h1 h2).2.1
          rw [h3] at this
          omega
        rw [(plab_new x1 c1.ok hv T.O.length x1.len (Nat.le_refl _)).2 hno, lT, iat_put_neW hne]
      have new : ∀ v, v < n → ¬ 0 ≤ iat st.Fa v → 0 ≤ iat T.Fa v → iat (labOf n T) v = (pcnt st.O st.By st.O.length : Int) := by
        intro v hv h0 h1
        rw [labOf_at hv, if_pos h1]
        by_cases e : v = s
        · subst e
          have hno : ¬ ∃ i, (begin_ st v).O.length ≤ i ∧ i < T.O.length ∧ oj T i = v := fun ⟨i, h1, h2, h3⟩ => by
            have := (x1.new i h1 h2).2.1
            rw [h3] at this
            have e : iat (begin_ st v).Fa v = 0 := iat_putW (by rw [c.ok.lf]; exact hv)
            omega
          rw [(plab_new x1 c1.ok hv T.O.length x1.len (Nat.le_refl _)).2 hno, lT, iat_putW (by rw [plab_len]; exact hv)]
        · obtain ⟨q, hq, hqe⟩ := c1.tree.surj v hv h1
          have hqv : oj T q = v := by show (iat T.O q).toNat = v; rw [hqe, Int.toNat_natCast]
          have hge : (begin_ st s).O.length ≤ q := by
            rcases Nat.lt_or_ge q (begin_ st s).O.length with hlt | hge
            · exfalso
              have := ob.fnd q hlt
              rw [← x1.pre q hlt, hqe, Int.toNat_natCast] at this
              have this' : 0 ≤ iat (st.Fa.set s 0) v := this
              rw [iat_put_neW e] at this'
              exact h0 this'
            · exact hge
          rw [(plab_new x1 c1.ok hv T.O.length x1.len (Nat.le_refl _)).1 ⟨q, hge, hq, hqv⟩, lenb, pT]
          omega
      have unf : ∀ v, v < n → ¬ 0 ≤ iat T.Fa v → iat (labOf n T) v = -1 := fun v hv h => by rw [labOf_at hv, if_neg h]
      have fnd : ∀ v, v < n → 0 ≤ iat T.Fa v → 0 ≤ iat (labOf n T) v := fun v hv h => by
        by_cases h0 : 0 ≤ iat st.Fa v
        · rw [old v hv h0]; exact LV v hv h0
        · rw [new v hv h0 h]; omega
      have ofl : ∀ v, v < n → 0 ≤ iat (labOf n T) v → 0 ≤ iat T.Fa v := fun v hv h => by
        by_cases h0 : 0 ≤ iat T.Fa v
        · exact h0
        · rw [unf v hv h0] at h; omega
      have oldL : ∀ v, v < n → 0 ≤ iat st.Fa v → 0 ≤ iat (labOf n st) v ∧ iat (labOf n st) v < pcnt st.O st.By st.O.length := fun v hv h0 => by
        have := LV v hv h0
        rcases L.val v hv with h | h
        · omega
        · exact h
      have stT : ∀ v, v < n → 0 ≤ iat st.Fa v → 0 ≤ iat T.Fa v := c3
      refine ⟨⟨upd r (pcnt st.O st.By st.O.length) s, ?_⟩, fnd⟩
      rw [cT]
      refine ⟨labOf_len, ?_, ?_, ?_, ?_, ?_, ?_, ?_⟩
      · intro v hv
        by_cases h0 : 0 ≤ iat st.Fa v
        · right
          have := oldL v hv h0
          rw [old v hv h0]
          omega
        · by_cases h1 : 0 ≤ iat T.Fa v
          · right; rw [new v hv h0 h1]; omega
          · left; exact unf v hv h1
      · intro h u x hh hu hx hC
        left
        have un : u < n := by have := fromL_in hm h hh; omega
        have xn : x < n := by have := toL_in hm h hh; omega
        have uT := ofl u un hC
        have xT := (c1.all h u x hh hu hx uT).1
        by_cases hu0 : 0 ≤ iat st.Fa u
        · have hx0 := (c.all h u x hh hu hx hu0).1
          rw [old u un hu0, old x xn hx0]
          rcases L.cl h u x hh hu hx (LV u un hu0) with e | e
          · exact e
          · exact e.2.elim
        · have hx0 : ¬ 0 ≤ iat st.Fa x := fun hx0 => hu0 (by
            obtain ⟨t, t1, t2, t3⟩ := twin_isW es h hh
            exact (c.all t x u t1 (by rw [t2, hx]) (by rw [t3, hu]) hx0).1)
          rw [new u un hu0 uT, new x xn hx0 xT]
      · intro v j hv hj
        have vT := ofl v hv (by omega)
        by_cases h0 : 0 ≤ iat st.Fa v
        · rw [old v hv h0] at hj
          have := oldL v hv h0
          rw [upd_other _ _ (by omega)]
          exact L.con v j hv hj
        · rw [new v hv h0 vT] at hj
          have ej : j = pcnt st.O st.By st.O.length := by omega
          rw [ej, upd_same]
          obtain ⟨k, hk⟩ : ∃ k : Nat, iat T.Fa v = k := ⟨(iat T.Fa v).toNat, by omega⟩
          have h1 := conn_root c1.tree k v hv hk
          rw [(x2 v hv vT).resolve_left h0] at h1
          refine ⟨h1, ?_⟩
          rcases Nat.lt_or_ge v s with hlt | hge
          · exact absurd (hall v hlt) h0
          · exact hge
      · intro j hj
        by_cases e : j = pcnt st.O st.By st.O.length
        · rw [e, upd_same]
          exact ⟨hsn, new s hsn (by omega) c2⟩
        · rw [upd_other _ _ e]
          obtain ⟨r1, r2⟩ := L.root j (by omega)
          have hf : 0 ≤ iat st.Fa (r j) := by
            by_cases h0 : 0 ≤ iat st.Fa (r j)
            · exact h0
            · rw [labOf_at r1, if_neg h0] at r2; omega
          exact ⟨r1, by rw [old _ r1 hf]; exact r2⟩
      · intro v hv hvn
        by_cases e : v = s
        · rw [e]; exact fnd s hsn c2
        · exact fnd v hvn (c3 v hvn (hall v (by omega)))
      · intro j hj
        by_cases e : j = pcnt st.O st.By st.O.length
        · rw [e, upd_same]; omega
        · rw [upd_other _ _ e]; have := L.rlt j (by omega); omega
      · intro i j hij hj
        by_cases e : j = pcnt st.O st.By st.O.length
        · rw [e, upd_same, upd_other _ _ (by omega)]; exact L.rlt i (by omega)
        · rw [upd_other _ _ e, upd_other _ _ (by omega)]; exact L.inc i j hij (by omega)
    · rename_i hneg
      exact ⟨⟨r, L.over (LV s (by omega) (by omega))⟩, LV⟩
/-- Parts' labels are the components'. -/
theorem parts_lab (hm : netB n es = true) : ∃ r, Lab es n (pcnt (everyN es n n).O (everyN es n n).By (everyN es n n).O.length) n (plab (everyN es n n).O (everyN es n n).By n (everyN es n n).O.length) r NoDue := by
  obtain ⟨⟨r, L⟩, _⟩ := every_lab (es := es) hm n (Nat.le_refl _)
  have ha := (everyN_shut (es := es) hm n (Nat.le_refl _)).2
  have e : labOf n (everyN es n n) = plab (everyN es n n).O (everyN es n n).By n (everyN es n n).O.length := by
    apply List.ext_getElem
    · simp [labOf_len, plab_len]
    · intro i h1 h2
      have hi : i < n := by simpa [labOf_len] using h1
      have := labOf_at (n := n) (st := everyN es n n) hi
      rw [if_pos (ha i hi)] at this
      unfold iat at this
      rw [List.getD_eq_getElem?_getD, List.getElem?_eq_getElem h1, List.getD_eq_getElem?_getD, List.getElem?_eq_getElem h2] at this
      simpa using this
  rw [e] at L
  exact ⟨r, L⟩
/-- Two nodes have one label just if they hang together. -/
theorem Lab.conn {k : Nat} {C : List Int} {r : Nat → Nat} (L : Lab es n k n C r NoDue) (hm : netB n es = true) {u v : Nat} (hu : u < n) (hv : v < n) : iat C u = iat C v ↔ Conn es u v := by
  constructor
  · intro h
    have h0 := L.done u hu hu
    obtain ⟨j, hj⟩ : ∃ j : Nat, iat C u = j := ⟨(iat C u).toNat, by omega⟩
    exact (L.con u j hu hj).1.symm.trans (L.con v j hv (by rw [← h]; exact hj)).1
  · intro h
    clear hv
    induction h with
    | refl => rfl
    | step _ h1 h2 h3 ih =>
      rename_i b c h _
      have bn : b < n := by have := fromL_in hm h h1; omega
      rcases L.cl h b c h1 h2 h3 (L.done b bn bn) with e | e
      · rw [ih, e]
      · exact e.2.elim
/-- Labels that go by the components, numbered by their least nodes, are one. -/
theorem Lab.uniq {k k' : Nat} {C C' : List Int} {r r' : Nat → Nat} (hm : netB n es = true) (L : Lab es n k n C r NoDue) (L' : Lab es n k' n C' r' NoDue) : k = k' ∧ C = C' := by
  have key : ∀ j, (j < k → j < k' ∧ r j = r' j) ∧ (j < k' → j < k ∧ r j = r' j) := by
    intro j
    induction j using Nat.strongRecOn with
    | ind j ih =>
      -- the least node of a component that is beyond the first j of the one numbering is so of the other
      have half : ∀ {k k' : Nat} {C C' : List Int} {r r' : Nat → Nat}, Lab es n k n C r NoDue → Lab es n k' n C' r' NoDue → (∀ i, i < j → (i < k → i < k' ∧ r i = r' i) ∧ (i < k' → i < k ∧ r i = r' i)) → j < k → j < k' ∧ r' j ≤ r j := by
        intro k k' C C' r r' L L' ih hj
        obtain ⟨r1, r2⟩ := L.root j hj
        have h0 := L'.done (r j) r1 r1
        have hv := L'.val (r j) r1
        obtain ⟨q, hq⟩ : ∃ q : Nat, iat C' (r j) = q := ⟨(iat C' (r j)).toNat, by omega⟩
        have hqk : q < k' := by omega
        have hqj : j ≤ q := by
          rcases Nat.lt_or_ge q j with hlt | hge
          · exfalso
            obtain ⟨a1, a2⟩ := (ih q hlt).2 hqk
            obtain ⟨b1, b2⟩ := L.root q a1
            obtain ⟨b1', b2'⟩ := L'.root q hqk
            have c1 := (L'.conn hm r1 b1').1 (by rw [hq, b2'])
            have c2 := (L.conn hm r1 b1').2 c1
            rw [← a2, b2, r2] at c2
            omega
          · exact hge
        have hle := (L'.con (r j) q r1 hq).2
        refine ⟨by omega, ?_⟩
        by_cases e : j = q
        · rw [e] at hle ⊢; exact hle
        · have := L'.inc j q (by omega) hqk
          omega
      refine ⟨fun hj => ?_, fun hj => ?_⟩
      · obtain ⟨h1, h2⟩ := half L L' ih hj
        obtain ⟨_, h3⟩ := half L' L (fun i hi => ⟨fun a => ⟨((ih i hi).2 a).1, ((ih i hi).2 a).2.symm⟩, fun a => ⟨((ih i hi).1 a).1, ((ih i hi).1 a).2.symm⟩⟩) h1
        exact ⟨h1, by omega⟩
      · obtain ⟨h1, h2⟩ := half L' L (fun i hi => ⟨fun a => ⟨((ih i hi).2 a).1, ((ih i hi).2 a).2.symm⟩, fun a => ⟨((ih i hi).1 a).1, ((ih i hi).1 a).2.symm⟩⟩) hj
        obtain ⟨_, h3⟩ := half L L' ih h1
        exact ⟨h1, by omega⟩
  have hk : k = k' := by
    rcases Nat.lt_trichotomy k k' with h | h | h
    · have := ((key k).2 h).1; omega
    · exact h
    · have := ((key k').1 h).1; omega
  refine ⟨hk, ?_⟩
  have hc : ∀ v, v < n → iat C v = iat C' v := by
    intro v hv
    have h0 := L.done v hv hv
    have hvl := L.val v hv
    obtain ⟨j, hj⟩ : ∃ j : Nat, iat C v = j := ⟨(iat C v).toNat, by omega⟩
    have hjk : j < k := by omega
    obtain ⟨r1, r2⟩ := L.root j hjk
    obtain ⟨a1, a2⟩ := (key j).1 hjk
    obtain ⟨_, b2⟩ := L'.root j a1
    have c1 := (L.conn hm r1 hv).1 (by rw [r2, hj])
    have c2 := (L'.conn hm r1 hv).2 c1
    rw [a2, b2] at c2
    rw [hj, c2]
  apply List.ext_getElem
  · rw [L.len, L'.len]
  · intro i h1 h2
    have hi : i < n := by rw [← L.len]; exact h1
    have := hc i hi
    unfold iat at this
    rw [List.getD_eq_getElem?_getD, List.getElem?_eq_getElem h1, List.getD_eq_getElem?_getD, List.getElem?_eq_getElem h2] at this
    simpa using this
end Go.Proofs.Ytobkejnlkjieoaa
