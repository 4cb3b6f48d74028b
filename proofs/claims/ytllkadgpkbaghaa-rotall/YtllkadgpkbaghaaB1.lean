/- Breadth first, as a function: what is found, by which half-edge, how far. -/
import Derived.Test.YtllkadgpkbaghaaX4
namespace Go.Proofs.Ytllkadgpkbaghaa
open Go.RowKit Go.Sort
open Go


structure St where
  O : List Int
  By : List Int
  Fa : List Int
/-- One half-edge gone out by. -/
def bStep (es : List Pt) (u : Nat) (st : St) (h : Nat) : St :=
  if iat st.Fa (toL es h).toNat < 0 then ⟨st.O ++ [toL es h], st.By.set (toL es h).toNat h, st.Fa.set (toL es h).toNat (iat st.Fa u + 1)⟩ else st
/-- The first j half-edges of a node. -/
def bRow (es : List Pt) (u : Nat) (st : St) : Nat → St
  | 0 => st
  | j + 1 => bStep es u (bRow es u st j) (iat (outL es (2 * es.length) u) j).toNat
def bfs (es : List Pt) : Nat → Nat → St → St
  | 0, _, st => st
  | k + 1, j, st => if j < st.O.length then bfs es k (j + 1) (bRow es (iat st.O j).toNat st (outL es (2 * es.length) (iat st.O j).toNat).length) else st
def begin_ (st : St) (s : Nat) : St := ⟨st.O ++ [(s : Int)], st.By.set s (-1), st.Fa.set s 0⟩
/-- What holds of a tour that is under way. -/
structure Ok (n : Nat) (st : St) : Prop where
  lb : st.By.length = n
  lf : st.Fa.length = n
  mem : ∀ j, j < st.O.length → 0 ≤ iat st.O j ∧ iat st.O j < n
  cnt : st.O.length + unl st.Fa ≤ n
  val : ∀ v, v < n → -1 ≤ iat st.Fa v ∧ iat st.Fa v < st.O.length
  fnd : ∀ j, j < st.O.length → 0 ≤ iat st.Fa (iat st.O j).toNat
theorem iat_app {l : List Int} {x : Int} {j : Nat} : iat (l ++ [x]) j = if j < l.length then iat l j else if j = l.length then x else 0 := by
  unfold iat
  rw [List.getD_eq_getElem?_getD, List.getElem?_append]
  split
  · rw [List.getD_eq_getElem?_getD]
  · split
    · rename_i h1 h2; subst h2; simp
    · rename_i h1 h2
      have : j - l.length = (j - l.length - 1) + 1 := by omega
      rw [this]
      rfl
theorem Ok.find {n : Nat} {st : St} {v : Nat} {h f : Int} (o : Ok n st) (hv : v < n) (hn : iat st.Fa v < 0) (hf : 0 ≤ f) (hf2 : f ≤ st.O.length) : Ok n ⟨st.O ++ [(v : Int)], st.By.set v h, st.Fa.set v f⟩ where
  lb := by rw [List.length_set]; exact o.lb
  lf := by rw [List.length_set]; exact o.lf
  mem j hj := by
    simp only [List.length_append, List.length_cons, List.length_nil] at hj
    rw [iat_app]
    split
    · exact o.mem j (by omega)
    · rw [if_pos (by omega)]; omega
  cnt := by
    have := unl_set st.Fa v f (by rw [o.lf]; exact hv) (by omega) hf
    have := o.cnt
    simp only [List.length_append, List.length_cons, List.length_nil]
    omega
  val u hu := by
    simp only [List.length_append, List.length_cons, List.length_nil]
    by_cases e : u = v
    · rw [e, iat_put (by rw [o.lf]; exact hv)]; omega
    · rw [iat_put_ne e]; have := o.val u hu; omega
  fnd j hj := by
    simp only [List.length_append, List.length_cons, List.length_nil] at hj
    show 0 ≤ iat (st.Fa.set v f) (iat (st.O ++ [(v : Int)]) j).toNat
    rw [iat_app]
    split
    · rename_i hj2
      have := o.fnd j hj2
      rw [iat_put_ne (fun e => by rw [e] at this; omega)]
      exact this
    · rw [if_pos (by omega), Int.toNat_natCast, iat_put (by rw [o.lf]; exact hv)]
      exact hf
theorem Ok.begin_ {n : Nat} {st : St} {s : Nat} (o : Ok n st) (hs : s < n) (hn : iat st.Fa s < 0) : Ok n (begin_ st s) := o.find hs hn (by omega) (by omega)
theorem Ok.step {n : Nat} {es : List Pt} {st : St} {u h : Nat} (o : Ok n st) (hm : netB n es = true) (hu : u < n) (h0 : 0 ≤ iat st.Fa u) (hh : h < 2 * es.length) : Ok n (bStep es u st h) ∧ 0 ≤ iat (bStep es u st h).Fa u := by
  unfold bStep
  obtain ⟨t1, t2⟩ := toL_in hm h hh
  obtain ⟨x, hx⟩ : ∃ x : Nat, toL es h = x := ⟨(toL es h).toNat, by omega⟩
  rw [hx]
  rw [hx] at t2
  simp only [Int.toNat_natCast]
  split
  · rename_i hn
    have hv := o.val u hu
    refine ⟨o.find (by omega) hn (by omega) (by omega), ?_⟩
    have : u ≠ x := fun e => by rw [e] at h0; omega
    show 0 ≤ iat (st.Fa.set x _) u
    rw [iat_put_ne this]
    exact h0
  · exact ⟨o, h0⟩
theorem Ok.row {n : Nat} {es : List Pt} {st : St} {u : Nat} (o : Ok n st) (hm : netB n es = true) (hu : u < n) (h0 : 0 ≤ iat st.Fa u) : ∀ j, j ≤ (outL es (2 * es.length) u).length → Ok n (bRow es u st j) ∧ 0 ≤ iat (bRow es u st j).Fa u
  | 0, _ => ⟨o, h0⟩
  | j + 1, hj => by
    obtain ⟨o1, h1⟩ := Ok.row o hm hu h0 j (by omega)
    obtain ⟨k, hk, hk2, _⟩ := outL_at (es := es) (h := 2 * es.length) (v := u) (j := j) (by omega)
    simp only [bRow]
    rw [hk, Int.toNat_natCast]
    exact o1.step hm hu h1 hk2
theorem bStep_len (es : List Pt) (u : Nat) (st : St) (h : Nat) : st.O.length ≤ (bStep es u st h).O.length := by
  unfold bStep; split <;> simp
theorem bRow_len (es : List Pt) (u : Nat) (st : St) : ∀ j, st.O.length ≤ (bRow es u st j).O.length
  | 0 => Nat.le_refl _
  | j + 1 => Nat.le_trans (bRow_len es u st j) (bStep_len es u _ _)
theorem bfs_stop {es : List Pt} {st : St} {j : Nat} (h : ¬ j < st.O.length) : ∀ k, bfs es k j st = st
  | 0 => rfl
  | k + 1 => by simp only [bfs]; rw [if_neg h]
end Go.Proofs.Ytllkadgpkbaghaa
