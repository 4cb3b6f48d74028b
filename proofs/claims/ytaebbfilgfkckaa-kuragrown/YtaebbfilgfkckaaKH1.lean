/- Boxed nets, stored into; what KuraGrown begins with. -/
import Derived.Test.YtaebbfilgfkckaaMK
import Derived.Test.YtaebbfilgfkckaaSW
import Derived.Test.YtaebbfilgfkckaaEP
namespace Go.Proofs.Ytaebbfilgfkckaa
open Go.RowKit Go.Sort
open Go
theorem SBox.put {w : World} {k : Nat} {n : Int} {v : Value} (h : SBox w k n v) (n' : Int) (v' : Value) : SBox ((w.setCell ⟨k, 0, none⟩ (.int .i64 n')).setCell ⟨k, 1, none⟩ v') k n' v' := by
  have h1 := (World.ownsRow.stored h 0 (.int .i64 n')).1
  exact (World.ownsRow.stored h1 1 v').1
theorem SBox.other {w : World} {k j i : Nat} {n : Int} {v : Value} (h : SBox w k n v) (hne : j ≠ k) (u : Value) : SBox (w.setCell ⟨j, i, none⟩ u) k n v :=
  ownsRow_setCell_other (a := ⟨j, i, none⟩) h (fun e => by
    have : k = j := by simpa [Value.ownBlock] using e
    exact hne this.symm) u
theorem GB.put {w : World} {k B : Nat} {n n' : Int} {es es' : List Pt} {p : Option Addr} {c : Nat} (h : GB w k B n es) (o : Owns w B (.slice p es'.length c) es') : GB ((w.setCell ⟨k, 0, none⟩ (.int .i64 n')).setCell ⟨k, 1, none⟩ (.slice p es'.length c)) k B n' es' := by
  obtain ⟨hB, p0, c0, hs, _⟩ := h
  have hne := hs.apart o
  exact ⟨hB, p, c, hs.put n' _, ownsRow_setCell_other (a := ⟨k, 1, none⟩) (ownsRow_setCell_other (a := ⟨k, 0, none⟩) o hne _) hne _⟩
theorem GB.other {w : World} {k j B i : Nat} {n n2 : Int} {es : List Pt} {v u : Value} (h : GB w k B n es) (hj : SBox w j n2 v) (hne : j ≠ k) : GB (w.setCell ⟨j, i, none⟩ u) k B n es := by
  obtain ⟨hB, p0, c0, hs, ho⟩ := h
  exact ⟨hB, p0, c0, hs.other hne _, ownsRow_setCell_other (a := ⟨j, i, none⟩) ho (hj.apart ho) _⟩
theorem GB.cell {w : World} {k B : Nat} {n : Int} {es : List Pt} (h : GB w k B n es) : ∃ p c, w.cell? ⟨k, 0, none⟩ = some (.int .i64 n) ∧ w.cell? ⟨k, 1, none⟩ = some (.slice p es.length c) ∧ w.frozen? ⟨k, 0, none⟩ = false ∧ w.frozen? ⟨k, 1, none⟩ = false ∧ Has w p es ∧ (p = none → c = 0) ∧ Owns w B (.slice p es.length c) es := by
  obtain ⟨_, p, c, hs, ho⟩ := h
  obtain ⟨c1, c2, c3, c4⟩ := hs.cell
  obtain ⟨q, c', e, hh, _, hn, _⟩ := ho.form
  injection e with e1 _ e3
  subst e1 e3
  exact ⟨p, c, c1, c2, c3, c4, hh, hn, ho⟩
/-- A boxed net is stored into while another one stands. -/
theorem GB.over {w : World} {k j B : Nat} {n n2 n' : Int} {es es2 : List Pt} {u : Value} (h : GB w k B n es) (hj : GB w j B n2 es2) (hne : j ≠ k) : GB ((w.setCell ⟨j, 0, none⟩ (.int .i64 n')).setCell ⟨j, 1, none⟩ u) k B n es := by
  obtain ⟨_, p, c, hs, _⟩ := hj
  exact (h.other hs hne).other (World.ownsRow.stored hs 0 (.int .i64 n')).1 hne
/-- What the law's two kinds are. -/
def KdIs (kd : Int) (b dg : Nat) (bes : List Pt) : Prop := (kd = 5 ∧ b = 5 ∧ dg = 4 ∧ bes = fullL 5 5) ∨ (kd = 33 ∧ b = 6 ∧ dg = 3 ∧ bes = twoL 3 3 3)
theorem kd_js {kd : Int} {b dg : Nat} {bes : List Pt} (h : KdIs kd b dg bes) : jsK kd = bes ∧ b ≤ 6 ∧ bes.length ≤ 10 ∧ 0 < bes.length ∧ ∃ Ps, SubI b bes b dg (jsK kd) Ps := by
  rcases h with ⟨rfl, rfl, rfl, rfl⟩ | ⟨rfl, rfl, rfl, rfl⟩
  · exact ⟨by decide, by omega, by decide, by decide, _, k5_sub0⟩
  · exact ⟨by decide, by omega, by decide, by decide, _, k33_sub0⟩
theorem kd_done {kd : Int} {b dg n : Nat} {bes pk : List Pt} {Ps : List (List Nat)} (h : KdIs kd b dg bes) (hS : SubI n pk b dg (jsK kd) Ps) : okS n pk ∧ kdS n pk = kd ∧ (bsS n pk).length = b := by
  rcases h with ⟨rfl, rfl, rfl, rfl⟩ | ⟨rfl, rfl, rfl, rfl⟩
  · obtain ⟨h1, h2⟩ := sub_five hS
    have := bs_len h1.1
    rw [h2] at this
    exact ⟨h1, h2, by omega⟩
  · obtain ⟨h1, h2⟩ := sub_threes hS
    have := bs_len h1.1
    rw [h2] at this
    exact ⟨h1, h2, by omega⟩
theorem two25 (w : World) : Calls Try.prog 25 #[.int .i64 3, .int .i64 3] w fun e w' => ∃ p c, e = .returned (.tuple #[nv 6 p 9 c, .int .i64 0]) ∧ Owns w' w.heap.size (.slice p 9 c) (twoL 3 3 3) ∧ Below w.heap.size w w' := by
  refine (two16ok 3 3 9 w (by omega) (by omega) (by omega) (by omega) (by omega) (by omega)).mono ?_
  rintro e w' ⟨hb, p, c, rfl, ho⟩
  rw [show (twoL 3 3 3).length = 9 from k33_len] at ho ⊢
  exact ⟨p, c, rfl, ho, hb⟩
theorem five26 (w : World) : Calls Try.prog 26 #[.int .i64 5] w fun e w' => ∃ p c, e = .returned (.tuple #[nv 5 p 10 c, .int .i64 0]) ∧ Owns w' w.heap.size (.slice p 10 c) (fullL 5 5) ∧ Below w.heap.size w w' := by
  refine (full15ok 5 10 w (by omega) (by omega) (by omega) (by omega)).mono ?_
  rintro e w' ⟨hb, p, c, rfl, ho⟩
  rw [show (fullL 5 5).length = 10 from k5_len] at ho ⊢
  exact ⟨p, c, rfl, ho, hb⟩
end Go.Proofs.Ytaebbfilgfkckaa
