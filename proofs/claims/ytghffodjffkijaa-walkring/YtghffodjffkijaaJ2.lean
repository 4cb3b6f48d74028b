/- WalkJoins: what it calls, and where it passes by. -/
import Derived.Test.YtghffodjffkijaaE11
import Derived.Test.YtghffodjffkijaaE12
import Derived.Test.YtghffodjffkijaaT4
import Derived.Lib.QuietBelow
import Derived.BigQuiet
import Derived.Deep.QuietTactic
import Derived.Deep.RegionHeld3
/- An edge more leaves as many components, or makes one of two; how many nodes the components have. -/
namespace Go.Proofs.Ytghffodjffkijaa
open Go.RowKit Go.Sort
open Go
variable {es : List Pt} {n : Nat} {st : St}

theorem at_app_left {a b : List Pt} {i : Nat} (h : i < a.length) : at' (a ++ b) i = at' a i := by
  unfold at'
  rw [List.getD_eq_getElem?_getD, List.getD_eq_getElem?_getD, List.getElem?_append_left h]
theorem at_app_last {a : List Pt} {p : Pt} : at' (a ++ [p]) a.length = p := by
  unfold at'
  rw [List.getD_eq_getElem?_getD, List.getElem?_append_right (Nat.le_refl _)]
  simp
theorem from_more {p : Pt} {h : Nat} (hh : h < 2 * es.length) : fromL (es ++ [p]) h = fromL es h ∧ toL (es ++ [p]) h = toL es h := by
  unfold fromL toL
  rw [at_app_left (by omega)]
  exact ⟨rfl, rfl⟩
theorem from_new (es : List Pt) (u v : Int) : fromL (es ++ [⟨u, v⟩]) (2 * es.length) = u ∧ toL (es ++ [⟨u, v⟩]) (2 * es.length) = v ∧ fromL (es ++ [⟨u, v⟩]) (2 * es.length + 1) = v ∧ toL (es ++ [⟨u, v⟩]) (2 * es.length + 1) = u := by
  unfold fromL toL
  rw [show 2 * es.length / 2 = es.length by omega, show (2 * es.length + 1) / 2 = es.length by omega, at_app_last]
  rw [if_pos (by omega), if_pos (by omega), if_neg (by omega), if_neg (by omega)]
  exact ⟨rfl, rfl, rfl, rfl⟩
theorem Conn.more {p : Pt} {a b : Nat} (h : Conn es a b) : Conn (es ++ [p]) a b := by
  induction h with
  | refl => exact Conn.refl _
  | step _ h1 h2 h3 ih =>
    rename_i b c h _
    obtain ⟨e1, e2⟩ := from_more (p := p) h1
    exact ih.step (h := h) (by simp; omega) (by rw [e1]; exact h2) (by rw [e2]; exact h3)
/-- Half-edges of a net with one edge more. -/
theorem half_more {u v h : Nat} (hh : h < 2 * (es ++ [(⟨u, v⟩ : Pt)]).length) {a b : Nat} (ha : fromL (es ++ [⟨u, v⟩]) h = a) (hb : toL (es ++ [⟨u, v⟩]) h = b) : (h < 2 * es.length ∧ fromL es h = a ∧ toL es h = b) ∨ (a = u ∧ b = v) ∨ (a = v ∧ b = u) := by
  by_cases hl : h < 2 * es.length
  · obtain ⟨e1, e2⟩ := from_more (p := ⟨u, v⟩) hl
    exact Or.inl ⟨hl, by rw [← e1]; exact ha, by rw [← e2]; exact hb⟩
  · obtain ⟨n1, n2, n3, n4⟩ := from_new es u v
    have hcase : h = 2 * es.length ∨ h = 2 * es.length + 1 := by simp at hh; omega
    rcases hcase with e | e
    · rw [e] at ha hb
      rw [n1] at ha
      rw [n2] at hb
      exact Or.inr (Or.inl ⟨by omega, by omega⟩)
    · rw [e] at ha hb
      rw [n3] at ha
      rw [n4] at hb
      exact Or.inr (Or.inr ⟨by omega, by omega⟩)
/-- An edge within a component. -/
theorem Lab.within {k u v : Nat} {C : List Int} {r : Nat → Nat} (L : Lab es n k n C r NoDue) (h : iat C u = iat C v) : Lab (es ++ [⟨u, v⟩]) n k n C r NoDue :=
  { L with
    cl := fun h' a b hh ha hb hC => by
      rcases half_more hh ha hb with ⟨h1, h2, h3⟩ | ⟨h1, h2⟩ | ⟨h1, h2⟩
      · rcases L.cl h' a b h1 h2 h3 hC with e | e
        · exact Or.inl e
        · exact e.2.elim
      · left; rw [h1, h2]; exact h.symm
      · left; rw [h1, h2]; exact h
    con := fun w j hw hj => ⟨(L.con w j hw hj).1.more, (L.con w j hw hj).2⟩ }
def mrg (lo hi : Nat) (j : Int) : Int := if j = hi then lo else if j > hi then j - 1 else j
/-- An edge between two components. -/
theorem Lab.between {k u v : Nat} {C : List Int} {r : Nat → Nat} (hm : netB n es = true) (L : Lab es n k n C r NoDue) (hu : u < n) (hv : v < n) {lo hi : Nat} (hlh : lo < hi) (hhk : hi < k) (hc : (iat C u = lo ∧ iat C v = hi) ∨ (iat C u = hi ∧ iat C v = lo)) :
    Lab (es ++ [⟨u, v⟩]) n (k - 1) n (C.map (mrg lo hi)) (fun j => if j < hi then r j else r (j + 1)) NoDue := by
  have at_ : ∀ w, w < n → iat (C.map (mrg lo hi)) w = mrg lo hi (iat C w) := fun w hw => by
    unfold iat
    rw [List.getD_eq_getElem?_getD, List.getElem?_map, List.getD_eq_getElem?_getD, List.getElem?_eq_getElem (by rw [L.len]; exact hw)]
    rfl
  have vl : ∀ w, w < n → 0 ≤ iat C w ∧ iat C w < k := fun w hw => by have := L.done w hw hw; have := L.val w hw; omega
  have cross : Conn (es ++ [⟨u, v⟩]) u v := by
    obtain ⟨n1, n2, _, _⟩ := from_new es u v
    exact (Conn.refl u).step (h := 2 * es.length) (by simp) n1 n2
  have join : Conn (es ++ [⟨u, v⟩]) (r lo) (r hi) := by
    rcases hc with ⟨h1, h2⟩ | ⟨h1, h2⟩
    · exact ((L.con u lo hu h1).1.more.trans cross).trans (L.con v hi hv h2).1.more.symm
    · exact ((L.con v lo hv h2).1.more.trans cross.symm).trans (L.con u hi hu h1).1.more.symm
  refine ⟨by rw [List.length_map]; exact L.len, ?_, ?_, ?_, ?_, ?_, ?_, ?_⟩
  · intro w hw
    right
    rw [at_ w hw]
    have := vl w hw
    unfold mrg
    split
    · omega
    · split <;> omega
  · intro h' a b hh ha hb hC
    left
    rcases half_more hh ha hb with ⟨h1, h2, h3⟩ | ⟨h1, h2⟩ | ⟨h1, h2⟩
    · have an : a < n := by have := fromL_in hm h' h1; omega
      have bn : b < n := by have := toL_in hm h' h1; omega
      rw [at_ a an, at_ b bn]
      rcases L.cl h' a b h1 h2 h3 (vl a an).1 with e | e
      · rw [e]
      · exact e.2.elim
    · rw [h1, h2, at_ u hu, at_ v hv]
      unfold mrg
      rcases hc with ⟨c1, c2⟩ | ⟨c1, c2⟩
      · rw [c1, c2, if_pos rfl, if_neg (by omega), if_neg (by omega)]
      · rw [c1, c2, if_pos rfl, if_neg (by omega), if_neg (by omega)]
    · rw [h1, h2, at_ u hu, at_ v hv]
      unfold mrg
      rcases hc with ⟨c1, c2⟩ | ⟨c1, c2⟩
      · rw [c1, c2, if_pos rfl, if_neg (by omega), if_neg (by omega)]
      · rw [c1, c2, if_pos rfl, if_neg (by omega), if_neg (by omega)]
  · intro w j hw hj
    rw [at_ w hw] at hj
    have hv2 := vl w hw
    obtain ⟨q, hq⟩ : ∃ q : Nat, iat C w = q := ⟨(iat C w).toNat, by omega⟩
    obtain ⟨c1, c2⟩ := L.con w q hw hq
    rw [hq] at hj
    unfold mrg at hj
    by_cases e1 : (q : Int) = hi
    · rw [if_pos e1] at hj
      have ej : j = lo := by omega
      have eq : q = hi := by omega
      subst ej
      subst eq
      simp only [if_pos hlh]
      have := L.inc j q hlh hhk
      exact ⟨join.trans c1.more, by omega⟩
    · rw [if_neg e1] at hj
      by_cases e2 : (q : Int) > hi
      · rw [if_pos e2] at hj
        simp only [if_neg (show ¬ j < hi by omega), show j + 1 = q by omega]
        exact ⟨c1.more, c2⟩
      · rw [if_neg e2] at hj
        have ej : j = q := by omega
        subst ej
        simp only [if_pos (show j < hi by omega)]
        exact ⟨c1.more, c2⟩
  · intro j hj
    by_cases e : j < hi
    · simp only [if_pos e]
      obtain ⟨r1, r2⟩ := L.root j (by omega)
      refine ⟨r1, ?_⟩
      rw [at_ _ r1, r2]
      unfold mrg
      rw [if_neg (by omega), if_neg (by omega)]
    · simp only [if_neg e]
      obtain ⟨r1, r2⟩ := L.root (j + 1) (by omega)
      refine ⟨r1, ?_⟩
      rw [at_ _ r1, r2]
      unfold mrg
      rw [if_neg (by omega), if_pos (by omega)]
      omega
  · intro w hw hwn
    rw [at_ w hwn]
    have := vl w hwn
    unfold mrg
    split
    · omega
    · split <;> omega
  · intro j hj
    by_cases e : j < hi
    · simp only [if_pos e]; exact L.rlt j (by omega)
    · simp only [if_neg e]; exact L.rlt (j + 1) (by omega)
  · intro i j hij hj
    by_cases e : j < hi
    · simp only [if_pos e, if_pos (show i < hi by omega)]; exact L.inc i j hij (by omega)
    · by_cases e2 : i < hi
      · simp only [if_neg e, if_pos e2]; exact L.inc i (j + 1) (by omega) (by omega)
      · simp only [if_neg e, if_neg e2]; exact L.inc (i + 1) (j + 1) (by omega) (by omega)
/-- What an edge more does to the number of components. -/
theorem joins {k k' u v : Nat} {C C' : List Int} {r r' : Nat → Nat} (hm : netB n es = true) (hm' : netB n (es ++ [⟨u, v⟩]) = true) (L : Lab es n k n C r NoDue) (L' : Lab (es ++ [⟨u, v⟩]) n k' n C' r' NoDue) (hu : u < n) (hv : v < n) : (iat C u = iat C v → k' = k) ∧ (iat C u ≠ iat C v → (k' : Int) = k - 1) := by
  refine ⟨fun h => (Lab.uniq hm' L' (L.within h)).1, fun h => ?_⟩
  have vl : ∀ w, w < n → 0 ≤ iat C w ∧ iat C w < k := fun w hw => by have := L.done w hw hw; have := L.val w hw; omega
  have a := vl u hu
  have b := vl v hv
  obtain ⟨x, hx⟩ : ∃ x : Nat, iat C u = x := ⟨(iat C u).toNat, by omega⟩
  obtain ⟨y, hy⟩ : ∃ y : Nat, iat C v = y := ⟨(iat C v).toNat, by omega⟩
  rcases Nat.lt_trichotomy x y with hlt | heq | hgt
  · have := (Lab.uniq hm' L' (Lab.between hm L hu hv hlt (by omega) (Or.inl ⟨hx, hy⟩))).1
    omega
  · exact absurd (by rw [hx, hy, heq]) h
  · have := (Lab.uniq hm' L' (Lab.between hm L hu hv hgt (by omega) (Or.inr ⟨hx, hy⟩))).1
    omega
/-- Counting. -/
theorem countP_step (f : Nat → Nat) (s : Nat) : ∀ l : List Nat, l.countP (fun v => decide (f v < s + 1)) = l.countP (fun v => decide (f v < s)) + l.countP (fun v => decide (f v = s))
  | [] => rfl
  | x :: l => by
    have ih := countP_step f s l
    simp only [List.countP_cons]
    rw [ih]
    rcases Nat.lt_trichotomy (f x) s with h | h | h
    · have h1 : f x < s + 1 := by omega
      have h2 : ¬ f x = s := by omega
      simp only [h, h1, h2, decide_true, decide_false]
      simp
      omega
    · have h1 : f x < s + 1 := by omega
      have h2 : ¬ f x < s := by omega
      simp only [h, decide_true]
      simp
      omega
    · have h1 : ¬ f x < s + 1 := by omega
      have h2 : ¬ f x < s := by omega
      have h3 : ¬ f x = s := by omega
      simp only [h1, h2, h3, decide_false]
      simp
theorem countP_zero {f : Nat → Nat} {l : List Nat} : l.countP (fun v => decide (f v < 0)) = 0 := by
  rw [List.countP_eq_zero]; intro x _; simp
theorem countP_all {p : Nat → Bool} {l : List Nat} (h : ∀ x, x ∈ l → p x = true) : l.countP p = l.length := List.countP_eq_length.2 h
theorem countP_one (j : Nat) : ∀ k, j < k → (List.range k).countP (fun x => decide (x = j)) = 1
  | 0, h => by omega
  | k + 1, h => by
    rw [List.range_succ, List.countP_append]
    by_cases e : j = k
    · subst e
      have : (List.range j).countP (fun x => decide (x = j)) = 0 := by
        rw [List.countP_eq_zero]; intro x hx; have := List.mem_range.1 hx; simp; omega
      rw [this]
      simp
    · rw [countP_one j k (by omega)]
      have : ¬ k = j := fun h => e h.symm
      simp [this]
/-- How many hang together with a node. -/
def szC (C : List Int) (n s : Nat) : Nat := (List.range n).countP (fun v => decide (iat C v = iat C s))
/-- How many nodes lie in components that began below s; how many such components there are. -/
def belowN (C : List Int) (r : Nat → Nat) (n s : Nat) : Nat := (List.range n).countP (fun v => decide (r (iat C v).toNat < s))
def begunN (r : Nat → Nat) (k s : Nat) : Nat := (List.range k).countP (fun j => decide (r j < s))
section
variable {k : Nat} {C : List Int} {r : Nat → Nat}
theorem lab_nat (L : Lab es n k n C r NoDue) {v : Nat} (hv : v < n) : ∃ j : Nat, iat C v = j ∧ j < k ∧ r j ≤ v ∧ r j < n ∧ iat C (r j) = j := by
  have h0 := L.done v hv hv
  have hv2 := L.val v hv
  obtain ⟨j, hj⟩ : ∃ j : Nat, iat C v = j := ⟨(iat C v).toNat, by omega⟩
  have hjk : j < k := by omega
  exact ⟨j, hj, hjk, (L.con v j hv hj).2, (L.root j hjk).1, (L.root j hjk).2⟩
theorem first_iff (L : Lab es n k n C r NoDue) {s : Nat} (hs : s < n) : (∀ w, w < s → iat C w ≠ iat C s) ↔ r (iat C s).toNat = s := by
  obtain ⟨j, h1, h2, h3, h4, h5⟩ := lab_nat L hs
  rw [h1, Int.toNat_natCast]
  constructor
  · intro h
    rcases Nat.lt_or_ge (r j) s with hlt | hge
    · exact absurd h5 (h (r j) hlt)
    · omega
  · intro h w hw e
    have := (L.con w j (by omega) e).2
    omega
theorem count_first (L : Lab es n k n C r NoDue) {s : Nat} (hs : s < n) (hf : ∀ w, w < s → iat C w ≠ iat C s) : belowN C r n (s + 1) = belowN C r n s + szC C n s ∧ begunN r k (s + 1) = begunN r k s + 1 := by
  have hr := (first_iff L hs).1 hf
  obtain ⟨j, h1, h2, h3, h4, h5⟩ := lab_nat L hs
  rw [h1, Int.toNat_natCast] at hr
  constructor
  · unfold belowN szC
    rw [countP_step (fun v => r (iat C v).toNat) s]
    congr 1
    refine List.countP_congr (fun v hv => ?_)
    have hvn := List.mem_range.1 hv
    obtain ⟨q, g1, g2, g3, g4, g5⟩ := lab_nat L hvn
    simp only [decide_eq_true_eq]
    rw [g1, h1, Int.toNat_natCast]
    constructor
    · intro e; rw [e, h1] at g5; exact g5.symm
    · intro e; have : q = j := by omega
      rw [this]; exact hr
  · unfold begunN
    rw [countP_step r s]
    congr 1
    rw [← countP_one j k h2]
    refine List.countP_congr (fun x hx => ?_)
    have hxk := List.mem_range.1 hx
    simp only [decide_eq_true_eq]
    constructor
    · intro e
      have := (L.root x hxk).2
      rw [e, h1] at this
      omega
    · intro e; rw [e]; exact hr
theorem count_not (L : Lab es n k n C r NoDue) {s : Nat} (hs : s < n) (hf : ¬ ∀ w, w < s → iat C w ≠ iat C s) : belowN C r n (s + 1) = belowN C r n s ∧ begunN r k (s + 1) = begunN r k s := by
  have hr : ¬ r (iat C s).toNat = s := fun h => hf ((first_iff L hs).2 h)
  obtain ⟨j, h1, h2, h3, h4, h5⟩ := lab_nat L hs
  rw [h1, Int.toNat_natCast] at hr
  constructor
  · unfold belowN
    rw [countP_step (fun v => r (iat C v).toNat) s]
    have : (List.range n).countP (fun v => decide (r (iat C v).toNat = s)) = 0 := by
      rw [List.countP_eq_zero]
      intro v hv
      obtain ⟨q, g1, g2, g3, g4, g5⟩ := lab_nat L (List.mem_range.1 hv)
      simp only [decide_eq_true_eq]
      rw [g1, Int.toNat_natCast]
      intro e
      rw [e, h1] at g5
      exact hr (by rw [show j = q by omega]; exact e)
    rw [this, Nat.add_zero]
  · unfold begunN
    rw [countP_step r s]
    have : (List.range k).countP (fun x => decide (r x = s)) = 0 := by
      rw [List.countP_eq_zero]
      intro x hx
      simp only [decide_eq_true_eq]
      intro e
      have := (L.root x (List.mem_range.1 hx)).2
      rw [e, h1] at this
      exact hr (by rw [show j = x by omega]; exact e)
    rw [this, Nat.add_zero]
theorem count_end (L : Lab es n k n C r NoDue) : belowN C r n n = n ∧ begunN r k n = k := by
  constructor
  · unfold belowN
    rw [countP_all]
    · simp
    · intro v hv
      obtain ⟨q, g1, g2, g3, g4, g5⟩ := lab_nat L (List.mem_range.1 hv)
      rw [g1, Int.toNat_natCast]
      simp only [decide_eq_true_eq]
      exact g4
  · unfold begunN
    rw [countP_all]
    · simp
    · intro x hx
      simp only [decide_eq_true_eq]
      exact (L.root x (List.mem_range.1 hx)).1
theorem count_begin : belowN C r n 0 = 0 ∧ begunN r k 0 = 0 := ⟨countP_zero (f := fun v => r (iat C v).toNat), countP_zero⟩
end
/-- So many are found as are told in the order. -/
theorem ext_cnt {u h : Nat} (o : Ok n st) (hm : netB n es = true) (h0 : 0 ≤ iat st.Fa u) (hh : h < 2 * es.length) (e : st.O.length + unl st.Fa = n) : (bStep es u st h).O.length + unl (bStep es u st h).Fa = n := by
  obtain ⟨t1, t2⟩ := toL_in hm h hh
  unfold bStep
  obtain ⟨x, hx⟩ : ∃ x : Nat, toL es h = x := ⟨(toL es h).toNat, by omega⟩
  rw [hx]
  simp only [Int.toNat_natCast]
  split
  · rename_i hn
    have := unl_set st.Fa x (iat st.Fa u + 1) (by rw [o.lf]; omega) (by omega) (by omega)
    simp only [List.length_append, List.length_cons, List.length_nil]
    omega
  · exact e
theorem row_cnt {u : Nat} (o : Ok n st) (hm : netB n es = true) (hu : u < n) (h0 : 0 ≤ iat st.Fa u) (e : st.O.length + unl st.Fa = n) : ∀ j, j ≤ (outL es (2 * es.length) u).length → (bRow es u st j).O.length + unl (bRow es u st j).Fa = n
  | 0, _ => e
  | j + 1, hj => by
    obtain ⟨o1, h1⟩ := o.row hm hu h0 j (by omega)
    obtain ⟨k, hk, hk2, _⟩ := outL_at (es := es) (h := 2 * es.length) (v := u) (j := j) (by omega)
    simp only [bRow]
    rw [hk, Int.toNat_natCast]
    exact ext_cnt o1 hm h1 hk2 (row_cnt o hm hu h0 e j (by omega))
theorem bfs_cnt (hm : netB n es = true) : ∀ (k j : Nat) (st : St), Ok n st → st.O.length + unl st.Fa = n → (bfs es k j st).O.length + unl (bfs es k j st).Fa = n
  | 0, _, _, _, e => e
  | k + 1, j, st, o, e => by
    simp only [bfs]
    split
    · rename_i hj
      obtain ⟨h0, h1⟩ := o.mem j hj
      have hu : (iat st.O j).toNat < n := by omega
      exact bfs_cnt hm k (j + 1) _ (o.row hm hu (o.fnd j hj) _ (Nat.le_refl _)).1 (row_cnt o hm hu (o.fnd j hj) e _ (Nat.le_refl _))
    · exact e
theorem dfs_cnt (hm : netB n es = true) : ∀ (k : Nat) (d : Ds), Dk es n d → d.st.O.length + unl d.st.Fa = n → (dfs es k d).st.O.length + unl (dfs es k d).st.Fa = n
  | 0, _, _, e => e
  | k + 1, d, dk, e => by
    simp only [dfs]
    cases hS : d.S with
    | nil => exact e
    | cons u r =>
      refine dfs_cnt hm k _ (dk.one hm hS).1 ?_
      obtain ⟨hu, hf⟩ := dk.sm u (by rw [hS]; simp)
      obtain ⟨g0, g1⟩ := dk.gv u hu
      unfold dOne
      by_cases he : iat d.G u = (outL es (2 * es.length) u).length
      · rw [if_pos he]; exact e
      · rw [if_neg he]
        obtain ⟨h, hh, hh2, hh3⟩ := outL_at (es := es) (h := 2 * es.length) (v := u) (j := (iat d.G u).toNat) (by omega)
        rw [hh, Int.toNat_natCast]
        have := ext_cnt dk.ok hm hf hh2 e
        unfold bStep at this
        obtain ⟨t1, t2⟩ := toL_in hm h hh2
        obtain ⟨x, hx⟩ : ∃ x : Nat, toL es h = x := ⟨(toL es h).toNat, by omega⟩
        rw [hx] at this ⊢
        simp only [Int.toNat_natCast] at this ⊢
        by_cases hneg : iat d.st.Fa x < 0
        · rw [if_pos hneg] at this ⊢; exact this
        · rw [if_neg hneg] at this ⊢; exact this
theorem begin_cnt {s : Nat} (hs : s < n) : (begin_ (st0 n) s).O.length + unl (begin_ (st0 n) s).Fa = n := by
  have h0 : unl (List.replicate n (-1 : Int)) = n := by unfold unl; simp [List.countP_replicate]
  have := unl_set (List.replicate n (-1 : Int)) s 0 (by simp; exact hs) (by rw [iat_fill hs]; omega) (by omega)
  show ([] ++ [(s : Int)] : List Int).length + unl ((List.replicate n (-1 : Int)).set s 0) = n
  simp only [List.nil_append, List.length_cons, List.length_nil]
  omega
/-- The order is as long as the component is great. -/
theorem reach_size {s k : Nat} {C : List Int} {r : Nat → Nat} (R : Reach es n s st) (hm : netB n es = true) (L : Lab es n k n C r NoDue) (hs : s < n) (e : st.O.length + unl st.Fa = n) : st.O.length = szC C n s := by
  have h1 := fnd_unl st.Fa
  rw [R.ok.lf] at h1
  have h2 : fndN st.Fa = (List.range n).countP (fun v => decide (0 ≤ iat st.Fa v)) := by
    unfold fndN
    have : st.Fa = (List.range n).map (fun v => iat st.Fa v) := by
      apply List.ext_getElem
      · simp [R.ok.lf]
      · intro i a1 a2
        simp only [List.getElem_map, List.getElem_range]
        unfold iat
        rw [List.getD_eq_getElem?_getD, List.getElem?_eq_getElem a1]
        rfl
    conv => lhs; rw [this]
    rw [List.countP_map]
    rfl
  have h3 : (List.range n).countP (fun v => decide (0 ≤ iat st.Fa v)) = szC C n s := by
    unfold szC
    refine List.countP_congr (fun v hv => ?_)
    have hvn := List.mem_range.1 hv
    simp only [decide_eq_true_eq]
    rw [R.iff hvn]
    exact ⟨fun h => ((L.conn hm hs hvn).2 h).symm, fun h => (L.conn hm hs hvn).1 h.symm⟩
  omega
theorem sizes {s k : Nat} {C : List Int} {r : Nat → Nat} (hm : netB n es = true) (L : Lab es n k n C r NoDue) (hs : s < n) : (bOne es n s).O.length = szC C n s ∧ (dOneSt es n s).O.length = szC C n s := by
  have hneg : iat (st0 n).Fa s < 0 := by show iat (List.replicate n (-1)) s < 0; rw [iat_fill hs]; omega
  refine ⟨reach_size (bOne_reach hm hs) hm L hs (bfs_cnt hm n 0 _ ((st0_ok n).begin_ hs hneg) (begin_cnt hs)), reach_size (dOneSt_reach hm hs).1 hm L hs (dfs_cnt hm _ _ (d0_ok (st0_ok n) hs hneg) (begin_cnt hs))⟩
end Go.Proofs.Ytghffodjffkijaa

namespace Go.Proofs.Ytghffodjffkijaa
open Go.RowKit Go.Sort
open Go

set_option maxHeartbeats 1000000 in
theorem light10 (n : Int) (p : Option Addr) (es : List Pt) (cap : Nat) (w : World) (h : Has w p es) : Calls Try.prog 10 #[nv n p es.length cap] w fun e w' => e = .returned (.bool (lightB n es)) ∧ Below w.heap.size w w' := by
  obtain ⟨W, hW, hb, a0⟩ := one_net w n p es.length cap
  have M := hide (may12 n p es cap W (h.later hb))
  have HB := hide hb
  obtain ⟨q0, q1, _, _⟩ := a0
  clear h hb
  by_cases hl : es.length ≤ 300
  · have hl' : (es.length : Int) ≤ 300 := by omega
    by_cases hn : n ≤ 300
    · go_enter Try.func10, Try.ntmps10
      go_wp2_with fail
      go_ret
      exact ⟨retB (by simp [lightB, hl, hn]), by go_grown⟩
    · have hn' : 300 < n := by omega
      go_enter Try.func10, Try.ntmps10
      go_wp2_with fail
      rw [← hW]
      clear hW
      refine M.out.mono ?_
      rintro e w1 ⟨rfl, hb1⟩
      have HB1 := hide (below_step HB.out hb1)
      clear hb1 q0 q1
      go_wp2
      go_ret
      exact ⟨retB (by simp [lightB, hl]; omega), HB1.out⟩
  · have hl' : 300 < (es.length : Int) := by omega
    go_enter Try.func10, Try.ntmps10
    go_wp2_with fail
    go_ret
    exact ⟨retB (by simp [lightB, hl]), by go_grown⟩
set_option maxRecDepth 100000 in
set_option maxHeartbeats 4000000 in
theorem copy33 (n : Int) (p : Option Addr) (es : List Pt) (cp : Nat) (w : World) (hnil : p = none → cp = 0) (hl : es.length ≤ 90000) (h : Has w p es) : Calls Try.prog 33 #[nv n p es.length cp] w fun e w' => ∃ q c, e = .returned (nv n q es.length c) ∧ Owns w' w.heap.size (.slice q es.length c) es ∧ Below w.heap.size w w' := by
  obtain ⟨W, hW, hb, a0, b0⟩ := two_nets w n p es.length cp
  have HB := hide hb
  have HA := hide a0
  have HN := hide b0
  have hws : w.heap.size + 1 < W.heap.size := block_lt_of_cell b0.1
  obtain ⟨v1, D1, e1, o1, gr1⟩ := append_prs (w := W.drew) (base := W.heap.size) (v := .slice none 0 0) (l := []) (Owns.nil _ _) p cp es hnil ((h.later hb).later (below_drew _)) (by simp) (by simp; omega)
  have hb1 : Below W.heap.size W D1 := below_grown (w := W.drew) (below_drew _) (Owns.nil W.drew W.heap.size) (Nat.le_refl _) (by simp) gr1
  rw [List.nil_append] at o1
  obtain ⟨q, c, rfl, _, _, _, _⟩ := o1.form
  have HO1 := hide o1
  have HB1 := hide (below_step hb hb1)
  have HN1 := hide (b0.later hb1)
  have HA1 := hide (a0.later hb1)
  clear hb h o1 gr1 hb1
  obtain ⟨q0, q1, _, _⟩ := a0
  obtain ⟨r0, r1, r2, r3⟩ := HN1.out
  clear b0
  go_enter Try.func33, Try.ntmps33
  go_wp2_with fail
  rw [← hW]
  clear hW
  go_region_held3 (fun W => W.cell? ⟨w.heap.size, 0, none⟩ = some (.int .i64 n) ∧ W.cell? ⟨w.heap.size, 1, none⟩ = some (.slice p es.length cp))
    (first | exact ⟨HA.out.1, HA.out.2.1⟩ | exact ⟨HA1.out.1, HA1.out.2.1⟩ | exact ⟨other2 HA1.out.1 (by simp), other2 HA1.out.2.1 (by simp)⟩)
    (first | (refine step_run_append (by rfl) (.const (.slice none 0 0)) (.tmp 6) 22 (by rfl) 22 (by rfl) (.slice none 0 0) (.slice p es.length cp) (.slice q es.length c) D1 (by rfl) (by rfl) ?_ ?_; with_reducible exact e1))
  rename_i hHeld
  clear hHeld
  obtain ⟨V, hV⟩ : ∃ V, V = (D1.setCell ⟨w.heap.size + 1, 0, none⟩ (.int .i64 n)).setCell ⟨w.heap.size + 1, 1, none⟩ (.slice q es.length c) := ⟨_, rfl⟩
  have kV : NOwn V (w.heap.size + 1) n q es.length c := by rw [hV]; exact HN1.out.set _ _ _ _
  have bV : Below w.heap.size w V := by rw [hV]; exact (HB1.out.setCell (by simp) _).setCell (by simp) _
  have oV : Owns V w.heap.size (.slice q es.length c) es := by rw [hV]; exact (owns_other (owns_other HO1.out hws _) hws _).base HB.out.size
  rw [← hV]
  go_wp2_with fail
  exact bodyPost_ret (ret_net1 Try.results33 rfl kV) rfl ⟨q, c, rfl, oV, bV⟩
/-- One edge behind the others, in a list of the call's own. -/
theorem app1 {w : World} {B : Nat} {v : Value} {l : List Pt} (o : Owns w B v l) (x y : Int) (hB : B ≤ w.heap.size) (hl : l.length ≤ 90000) : ∃ v' w', (Builtin.append_ #[22, 22] 22 #[v, .slice (some ⟨w.heap.size, 0, none⟩) 1 1]).run Try.prog (w.alloc (.cells #[.int .i64 x, .int .i64 y] 49)) = .ok v' w' ∧ Owns w' B v' (l ++ [⟨x, y⟩]) ∧ (w.alloc (.cells #[.int .i64 x, .int .i64 y] 49)).grownBy w' v.ownBlock ∧ Below B w w' := by
  have o' : Owns (w.alloc (.cells #[.int .i64 x, .int .i64 y] 49)) B v l := o.later (by go_grown)
  have hL : Lies (w.alloc (.cells #[.int .i64 x, .int .i64 y] 49)) w.heap.size 0 [⟨x, y⟩] := by
    intro j hj
    simp at hj
    subst hj
    exact ⟨by simp only [at', List.getD_cons_zero]; go_cell, by simp only [at', List.getD_cons_zero]; go_cell⟩
  obtain ⟨v', w', e1, o1, gr⟩ := append_prs o' (some ⟨w.heap.size, 0, none⟩) 1 [⟨x, y⟩] (fun h => by cases h) (Or.inr ⟨_, _, rfl, hL⟩) (by simp; omega) (by simp; omega)
  exact ⟨v', w', e1, o1, gr, below_grown (w := w.alloc (.cells #[.int .i64 x, .int .i64 y] 49)) ((Below.refl _ _).alloc hB _) o' (Nat.le_refl _) (by simp; omega) gr⟩
theorem grown_cell {w w' : World} {r : Option Nat} (h : w.grownBy w' r) {a : Addr} {v : Value} (hc : w.cell? a = some v) (hr : r ≠ some a.block) : w'.cell? a = some v ∧ w'.frozen? a = w.frozen? a := by
  have hb : a.block < w.heap.size := block_lt_of_cell hc
  have := h.block a.block hb (fun e => hr e.symm)
  unfold World.cell? World.frozen? at *
  rw [this]
  exact ⟨hc, rfl⟩
theorem cnt_le {p : Nat → Bool} {n : Nat} : (List.range n).countP p ≤ n := by
  have := List.countP_le_length (p := p) (l := List.range n)
  simpa using this
/-- Is no label below like that of s, among the first ones? -/
def fsB (C : List Int) (s : Nat) : Nat → Bool
  | 0 => true
  | q + 1 => fsB C s q && decide (iat C q ≠ iat C s)
theorem fsB_iff (C : List Int) (s : Nat) : ∀ q, fsB C s q = true ↔ ∀ w, w < q → iat C w ≠ iat C s
  | 0 => ⟨fun _ w hw => by omega, fun _ => rfl⟩
  | q + 1 => by
    have ih := fsB_iff C s q
    simp only [fsB, Bool.and_eq_true, decide_eq_true_eq, ih]
    refine ⟨fun h w hw => ?_, fun h => ⟨fun w hw => h w (by omega), h q (by omega)⟩⟩
    by_cases e : w = q
    · rw [e]; exact h.2
    · exact h.1 w (by omega)
theorem netB_more {m u v : Nat} {es : List Pt} (hm : netB m es = true) (hl : es.length ≤ 300) (hu : u < m) (hv : v < m) : netB m (es ++ [(⟨u, v⟩ : Pt)]) = true := by
  obtain ⟨n0, n1, hes, hE⟩ := netB_is hm
  refine net_yes n0 (by simp [fitsB]; omega) (fun j hj => ?_)
  simp only [edB, belowB, Bool.and_eq_true, decide_eq_true_eq]
  by_cases e : j < es.length
  · rw [at_app_left e]; have := hE j e; omega
  · have : j = es.length := by simp at hj; omega
    rw [this, at_app_last]
    simp only
    omega
set_option maxRecDepth 100000 in
set_option maxHeartbeats 8000000 in
theorem joins_no (n : Int) (p : Option Addr) (es : List Pt) (cp : Nat) (u v : Int) (w : World) (h : Has w p es) (hno : lightB n es = false ∨ netB n es = false ∨ u < 0 ∨ v < 0 ∨ n ≤ u ∨ n ≤ v) : Calls Try.prog 8 #[nv n p es.length cp, .int .i64 u, .int .i64 v] w fun e w' => e = .returned (.bool true) ∧ Below w.heap.size w w' := by
  obtain ⟨W, hW, hb, a0⟩ := one_net w n p es.length cp
  have LI : Hid (∀ V, Has V p es → Calls Try.prog 10 #[nv n p es.length cp] V fun e w' => e = .returned (.bool (lightB n es)) ∧ Below V.heap.size V w') := fun V hV => light10 n p es cp V hV
  have MY : Hid (∀ V, Has V p es → Calls Try.prog 12 #[nv n p es.length cp] V fun e w' => e = .returned (.bool (netB n es)) ∧ Below V.heap.size V w') := fun V hV => may12 n p es cp V hV
  have BG := hide (begun9 W)
  have HH := hide (h.later hb)
  have HB := hide hb
  have HA := hide a0
  clear h hb a0
  generalize lightB n es = bl at *
  generalize netB n es = bm at *
  go_enter Try.func8, Try.ntmps8
  go_wp2_with fail
  rw [← hW]
  clear hW
  refine BG.out.mono ?_
  rintro e w1 ⟨rfl, hb1⟩
  have C1 := hide (LI.out w1 (HH.out.later hb1))
  have HH1 := hide (HH.out.later hb1)
  have HB1 := hide (below_step HB.out hb1)
  have HA1 := hide (HA.out.later hb1)
  obtain ⟨q0, q1, _, _⟩ := HA1.out
  clear hb1 BG
  go_wp2_with fail
  refine C1.out.mono ?_
  rintro e w2 ⟨rfl, hb2⟩
  have C2 := hide (MY.out w2 (HH1.out.later hb2))
  have HB2 := hide (below_step HB1.out hb2)
  have HA2 := hide (HA1.out.later hb2)
  clear q0 q1 C1 hb2
  obtain ⟨q0, q1, _, _⟩ := HA2.out
  cases bl
  · go_wp2
    go_ret
    exact ⟨rfl, HB2.out⟩
  · go_wp2_with fail
    refine C2.out.mono ?_
    rintro e w3 ⟨rfl, hb3⟩
    have HB3 := hide (below_step HB2.out hb3)
    have HA3 := hide (HA2.out.later hb3)
    clear q0 q1 C2 hb3
    obtain ⟨q0, q1, _, _⟩ := HA3.out
    cases bm
    · go_wp2
      go_ret
      exact ⟨rfl, HB3.out⟩
    · have hcase : u < 0 ∨ (¬ u < 0 ∧ v < 0) ∨ (¬ u < 0 ∧ ¬ v < 0 ∧ n ≤ u) ∨ (¬ u < 0 ∧ ¬ v < 0 ∧ ¬ n ≤ u ∧ n ≤ v) := by
        rcases hno with h | h | h | h | h | h
        · simp at h
        · simp at h
        · omega
        · omega
        · omega
        · omega
      clear hno
      rcases hcase with h1 | ⟨h1, h2⟩ | ⟨h1, h2, h3⟩ | ⟨h1, h2, h3, h4⟩
      all_goals
        go_wp2
        go_ret
        exact ⟨rfl, HB3.out⟩
end Go.Proofs.Ytghffodjffkijaa
