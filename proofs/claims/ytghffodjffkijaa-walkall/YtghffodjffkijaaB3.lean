/- Depth first, as a function: what is found, how many half-edges each node has gone out by, and the nodes from where the walk is up to its beginning. -/
import Derived.Test.YtghffodjffkijaaB1
namespace Go.Proofs.Ytghffodjffkijaa
open Go.RowKit Go.Sort
open Go

structure Ds where
  st : St
  G : List Int
  S : List Nat
def dOne (es : List Pt) (d : Ds) (u : Nat) (r : List Nat) : Ds :=
  if iat d.G u = (outL es (2 * es.length) u).length then ⟨d.st, d.G, r⟩
  else if iat d.st.Fa (toL es (iat (outL es (2 * es.length) u) (iat d.G u).toNat).toNat).toNat < 0 then
    ⟨⟨d.st.O ++ [toL es (iat (outL es (2 * es.length) u) (iat d.G u).toNat).toNat], d.st.By.set (toL es (iat (outL es (2 * es.length) u) (iat d.G u).toNat).toNat).toNat (iat (outL es (2 * es.length) u) (iat d.G u).toNat), d.st.Fa.set (toL es (iat (outL es (2 * es.length) u) (iat d.G u).toNat).toNat).toNat (iat d.st.Fa u + 1)⟩, d.G.set u (iat d.G u + 1), (toL es (iat (outL es (2 * es.length) u) (iat d.G u).toNat).toNat).toNat :: u :: r⟩
  else ⟨d.st, d.G.set u (iat d.G u + 1), u :: r⟩
def dfs (es : List Pt) : Nat → Ds → Ds
  | 0, d => d
  | k + 1, d => match d.S with
    | [] => d
    | u :: r => dfs es k (dOne es d u r)
/-- How many half-edges have not been gone out by. -/
def remN (es : List Pt) (G : List Int) : Nat → Nat
  | 0 => 0
  | u + 1 => remN es G u + ((outL es (2 * es.length) u).length - (iat G u).toNat)
theorem rem_same (es : List Pt) (G : List Int) (u : Nat) (x : Int) : ∀ n, n ≤ u → remN es (G.set u x) n = remN es G n
  | 0, _ => rfl
  | n + 1, h => by
    simp only [remN]
    rw [rem_same es G u x n (by omega), iat_put_ne (by omega)]
theorem rem_set (es : List Pt) (G : List Int) (u : Nat) (hu : u < G.length) (h0 : 0 ≤ iat G u) (hl : iat G u < (outL es (2 * es.length) u).length) : ∀ n, u < n → remN es (G.set u (iat G u + 1)) n + 1 = remN es G n
  | 0, h => by omega
  | n + 1, h => by
    simp only [remN]
    by_cases e : u = n
    · subst e
      rw [rem_same es G u _ u (Nat.le_refl _), iat_put hu]
      omega
    · have := rem_set es G u hu h0 hl n (by omega)
      rw [iat_put_ne (by omega)]
      omega
def dM (es : List Pt) (n : Nat) (d : Ds) : Nat := d.S.length + 2 * unl d.st.Fa + remN es d.G n
/-- What holds of it under way. -/
structure Dk (es : List Pt) (n : Nat) (d : Ds) : Prop where
  ok : Ok n d.st
  lg : d.G.length = n
  gv : ∀ u, u < n → 0 ≤ iat d.G u ∧ iat d.G u ≤ (outL es (2 * es.length) u).length
  sm : ∀ u, u ∈ d.S → u < n ∧ 0 ≤ iat d.st.Fa u
  sl : d.S.length ≤ d.st.O.length
theorem Dk.one {es : List Pt} {n : Nat} {d : Ds} {u : Nat} {r : List Nat} (k : Dk es n d) (hm : netB n es = true) (hS : d.S = u :: r) : Dk es n (dOne es d u r) ∧ dM es n (dOne es d u r) + 1 ≤ dM es n d := by
  obtain ⟨hu, hf⟩ := k.sm u (by rw [hS]; simp)
  obtain ⟨g0, g1⟩ := k.gv u hu
  have hSl : d.S.length = r.length + 1 := by rw [hS]; rfl
  unfold dOne
  by_cases he : iat d.G u = (outL es (2 * es.length) u).length
  · rw [if_pos he]
    refine ⟨⟨k.ok, k.lg, k.gv, fun v hv => k.sm v (by rw [hS]; simp [hv]), by have := k.sl; simp only; omega⟩, ?_⟩
    unfold dM
    simp only
    omega
  · rw [if_neg he]
    obtain ⟨h, hh, hh2, hh3⟩ := outL_at (es := es) (h := 2 * es.length) (v := u) (j := (iat d.G u).toNat) (by omega)
    rw [hh, Int.toNat_natCast]
    obtain ⟨t1, t2⟩ := toL_in hm h hh2
    obtain ⟨x, hx⟩ : ∃ x : Nat, toL es h = x := ⟨(toL es h).toNat, by omega⟩
    rw [hx, Int.toNat_natCast]
    have hrem := rem_set es d.G u (by rw [k.lg]; exact hu) g0 (by omega) n hu
    have gv' : ∀ v, v < n → 0 ≤ iat (d.G.set u (iat d.G u + 1)) v ∧ iat (d.G.set u (iat d.G u + 1)) v ≤ (outL es (2 * es.length) v).length := by
      intro v hv
      by_cases e : v = u
      · rw [e, iat_put (by rw [k.lg]; exact hu)]; omega
      · rw [iat_put_ne e]; exact k.gv v hv
    have hxn : x < n := by omega
    by_cases hneg : iat d.st.Fa x < 0
    · rw [if_pos hneg]
      have hval := k.ok.val u hu
      have hun := unl_set d.st.Fa x (iat d.st.Fa u + 1) (by rw [k.ok.lf]; exact hxn) (by omega) (by omega)
      refine ⟨⟨k.ok.find hxn hneg (by omega) (by omega), by rw [List.length_set]; exact k.lg, gv', ?_, by have := k.sl; simp only [List.length_cons, List.length_append, List.length_nil]; omega⟩, ?_⟩
      · intro v hv
        simp only [List.mem_cons] at hv
        by_cases e : v = x
        · rw [e]; exact ⟨hxn, by simp only [iat_put (show x < d.st.Fa.length by rw [k.ok.lf]; exact hxn)]; omega⟩
        · simp only [iat_put_ne e]
          exact k.sm v (by rw [hS]; simp only [List.mem_cons]; rcases hv with h | h | h; exact absurd h e; exact Or.inl h; exact Or.inr h)
      · unfold dM
        simp only [List.length_cons]
        omega
    · rw [if_neg hneg]
      refine ⟨⟨k.ok, by rw [List.length_set]; exact k.lg, gv', fun v hv => k.sm v (by rw [hS]; exact hv), by have := k.sl; simp only [List.length_cons]; omega⟩, ?_⟩
      unfold dM
      simp only [List.length_cons]
      omega
end Go.Proofs.Ytghffodjffkijaa
