/- Up a tree: beginnings, and the way round that a half-edge closes. -/
import Derived.Test.YtghffodjffkijaaB2
namespace Go.Proofs.Ytghffodjffkijaa
open Go.RowKit Go.Sort
open Go

/-- The node by which one was found. -/
def par (es : List Pt) (st : St) (v : Nat) : Nat := (fromL es (iat st.By v).toNat).toNat
def rtN (es : List Pt) (st : St) : Nat → Nat → Nat
  | 0, v => v
  | k + 1, v => rtN es st k (par es st v)
/-- The node with which a tree begins. -/
def root (es : List Pt) (st : St) (v : Nat) : Nat := rtN es st (iat st.Fa v).toNat v
variable {es : List Pt} {n : Nat} {st : St}
theorem root_par (t : Tree es n st) {v : Nat} (hv : v < n) (h : 0 < iat st.Fa v) : ∃ k : Nat, k < 2 * es.length ∧ iat st.By v = k ∧ toL es k = v ∧ fromL es k = par es st v ∧ par es st v < n ∧ iat st.Fa (par es st v) + 1 = iat st.Fa v ∧ 0 ≤ iat st.Fa (par es st v) ∧ root es st (par es st v) = root es st v := by
  rcases t.back v hv (by omega) with ⟨h0, _⟩ | ⟨k, u, h1, h2, h3, h4, h5, h6, h7⟩
  · omega
  · have hp : par es st v = u := by unfold par; rw [h3, Int.toNat_natCast, h5, Int.toNat_natCast]
    refine ⟨k, h1, h3, h4, by rw [hp]; exact h5, by rw [hp]; exact h2, by rw [hp]; exact h6, by rw [hp]; exact h7, ?_⟩
    unfold root
    rw [show (iat st.Fa v).toNat = (iat st.Fa (par es st v)).toNat + 1 by rw [hp]; omega]
    rfl
theorem root_zero {v : Nat} (h : iat st.Fa v = 0) : root es st v = v := by
  unfold root
  rw [h]
  rfl
/-- The half-edge the other way. -/
def twn (h : Int) : Int := if h % 2 = 0 then h + 1 else h - 1
/-- The way up from two nodes to where they meet: the half-edges up from the one, and those down to the other, last first. -/
def clo (es : List Pt) (st : St) : Nat → Nat → Nat → List Int → List Int → List Int × List Int
  | 0, _, _, cy, dn => (cy, dn)
  | k + 1, en, sa, cy, dn => if en = sa then (cy, dn) else if iat st.Fa sa ≤ iat st.Fa en then clo es st k (par es st en) sa (cy ++ [twn (iat st.By en)]) dn else clo es st k en (par es st sa) cy (dn ++ [iat st.By sa])
theorem clo_stop {en : Nat} {cy dn : List Int} : ∀ k, clo es st k en en cy dn = (cy, dn)
  | 0 => rfl
  | k + 1 => by simp [clo]
theorem clo_up {k en sa : Nat} {cy dn : List Int} (hne : en ≠ sa) (h : iat st.Fa sa ≤ iat st.Fa en) : clo es st (k + 1) en sa cy dn = clo es st k (par es st en) sa (cy ++ [twn (iat st.By en)]) dn := by
  simp [clo, hne, h]
theorem clo_down {k en sa : Nat} {cy dn : List Int} (hne : en ≠ sa) (h : ¬ iat st.Fa sa ≤ iat st.Fa en) : clo es st (k + 1) en sa cy dn = clo es st k en (par es st sa) cy (dn ++ [iat st.By sa]) := by
  simp [clo, hne, h]
/-- Of two that lie under one beginning, and are not one, the farther one has a way up. -/
theorem has_up {a b : Nat} (fa : 0 ≤ iat st.Fa a) (fb : 0 ≤ iat st.Fa b) (hr : root es st a = root es st b) (hne : a ≠ b) (h : iat st.Fa b ≤ iat st.Fa a) : 0 < iat st.Fa a := by
  by_cases h0 : iat st.Fa a = 0
  · exfalso
    apply hne
    have hb0 : iat st.Fa b = 0 := by omega
    rw [root_zero h0, root_zero hb0] at hr
    exact hr
  · omega
theorem twn_in {k m : Nat} (h : k < 2 * m) : ∃ j : Nat, twn (k : Int) = j ∧ j < 2 * m := by
  unfold twn
  by_cases h2 : (k : Int) % 2 = 0
  · rw [if_pos h2]; exact ⟨k + 1, by omega, by omega⟩
  · rw [if_neg h2]; exact ⟨k - 1, by omega, by omega⟩
theorem twn_to (es : List Pt) (k : Nat) : toL es (twn (k : Int)).toNat = fromL es k := by
  unfold twn
  by_cases h2 : (k : Int) % 2 = 0
  · rw [if_pos h2, show ((k : Int) + 1).toNat = k + 1 by omega]
    unfold toL fromL
    rw [if_neg (by omega), if_pos (by omega), show (k + 1) / 2 = k / 2 by omega]
  · rw [if_neg h2, show ((k : Int) - 1).toNat = k - 1 by omega]
    unfold toL fromL
    rw [if_pos (by omega), if_neg (by omega), show (k - 1) / 2 = k / 2 by omega]
end Go.Proofs.Ytghffodjffkijaa
