/- Faces as they are traced: a list of lists that grows, in memory; the tracing as a function. -/
import Derived.Test.YtllkadgpkbaghaaY9
import Derived.Test.YtllkadgpkbaghaaX3
/- Lists of lists that grow. -/
namespace Go.Proofs.Ytllkadgpkbaghaa
open Go.RowKit Go.Sort
open Go

variable {w w' : World} {B k n sz : Nat} {lv : Value} {rv : Nat → Value} {L : Nat → List Int}
theorem lst_kind {B n : Nat} {lv : Value} {xs : List Value} (h : w.ownsRow B 27 1 lv n xs) {g : Nat} (hg : lv.ownBlock = some g) : ∃ cur, w.heap[g]? = some (.cells cur 27 (0, 0)) := by
  obtain ⟨_, ⟨h1, _⟩ | ⟨g1, c1, cur1, h1, h2, h3, _⟩⟩ := h
  · rw [h1] at hg; simp [Value.ownBlock] at hg
  · rw [h1] at hg
    simp only [Value.ownBlock, Option.some.injEq] at hg
    rw [← hg]
    exact ⟨_, h3⟩
theorem lst_apart {B B' n : Nat} {lv v : Value} {xs : List Value} {l : List Int} (h : w.ownsRow B 27 1 lv n xs) (o : IOwns w B' v l) {g : Nat} (hg : lv.ownBlock = some g) : v.ownBlock ≠ some g := by
  obtain ⟨cur, hk⟩ := lst_kind h hg
  exact row_apart hk o (by decide)
theorem append_lst {base g n : Nat} {v x : Value} {xs : List Value} (o : w.ownsRow base 27 1 v n xs) (hk : w.cell? ⟨g, 0, none⟩ = some x) (hx : x.oneCell' = true) (hb : base ≤ w.heap.size) (hl : n ≤ 2000000) :
    ∃ v' w', (Builtin.append_ #[25, 25] 25 #[v, .slice (some ⟨g, 0, none⟩) 1 1]).run Try.prog w = .ok v' w' ∧ w'.ownsRow base 27 1 v' (n + 1) (xs ++ [x]) ∧ w.grownBy w' v.ownBlock ∧ (v'.ownBlock = v.ownBlock ∨ v'.ownBlock = some w.heap.size) := by
  obtain ⟨i0, hi0, hz0, hz1, hz2⟩ := info_parts info41
  have hnews : ∀ j u, [x][j]? = some u → w.cell? ((⟨g, 0, none⟩ : Addr).add j) = some u := by
    intro j u hj
    cases j with
    | zero => simp at hj; subst hj; exact hk
    | succ k => simp at hj
  obtain ⟨v', w', h1, h2, h3, _, h5⟩ := run_append_own_at (P := Try.prog) w base 25 25 27 i0 (.slice none 0 0) 1 24 Try.underlying25 hi0 hz0 hz1 hz2 rfl (by decide) v n xs o ⟨g, 0, none⟩ 1 1 [x] rfl hnews (by simp [hx]) (by unfold maxLen; omega) (by omega) hb
  exact ⟨v', w', h1, h2, h3, h5⟩
end Go.Proofs.Ytllkadgpkbaghaa

namespace Go.Proofs.Ytllkadgpkbaghaa
open Go.RowKit Go.Sort
open Go

/-- Faces in memory, each a row of its own. -/
structure FB (w : World) (B : Nat) (fv : Value) (F : List (List Int)) (rv : Nat → Value) : Prop where
  lst : w.ownsRow B 27 1 fv F.length ((List.range F.length).map rv)
  uniq : ∀ u v j, u < F.length → v < F.length → (rv u).ownBlock = some j → (rv v).ownBlock = some j → u = v
  own : ∀ v, v < F.length → IOwns w B (rv v) (lat F v)
theorem FB.later {w w' : World} {B : Nat} {fv : Value} {F : List (List Int)} {rv : Nat → Value} (h : FB w B fv F rv) (hb : Below w.heap.size w w') : FB w' B fv F rv :=
  ⟨World.ownsRow.kept h.lst (grown_below hb) (by cases fv.ownBlock <;> simp), h.uniq, fun v hv => (h.own v hv).later hb⟩
theorem FB.nil (w : World) (B : Nat) : FB w B (.slice none 0 0) [] (fun _ => .slice none 0 0) := ⟨World.ownsRow_nil _ _ _ _, fun u v j hu => by simp at hu, fun v hv => by simp at hv⟩
theorem lat_snoc {F : List (List Int)} {L : List Int} {v : Nat} : lat (F ++ [L]) v = if v < F.length then lat F v else if v = F.length then L else [] := by
  unfold lat
  rw [List.getD_eq_getElem?_getD, List.getElem?_append]
  split
  · rw [List.getD_eq_getElem?_getD]
  · rename_i h
    by_cases e : v = F.length
    · subst e; simp
    · rw [if_neg e, List.getElem?_eq_none (by simp; omega)]
      rfl
set_option maxRecDepth 100000 in
/-- One face more. -/
theorem FB.push {w : World} {B : Nat} {fv : Value} {F : List (List Int)} {rv : Nat → Value} {L : List Int} {a : Option Addr} {b c : Nat} (h : FB w B fv F rv) (hB : B ≤ w.heap.size) (hx : IOwns w B (.slice a b c) L) (hn : ∀ u j, u < F.length → (Value.slice a b c).ownBlock = some j → (rv u).ownBlock ≠ some j) (hl : F.length ≤ 1000000) :
    ∃ p1 l1 c1 D, (Builtin.append_ #[25, 25] 25 #[fv, .slice (some ⟨w.heap.size, 0, none⟩) 1 1]).run Try.prog (w.alloc (.cells #[.slice a b c] 27)) = .ok (.slice p1 l1 c1) D ∧ l1 = F.length + 1 ∧ FB D B (.slice p1 l1 c1) (F ++ [L]) (upd rv F.length (.slice a b c)) ∧ Below B w D ∧ (∀ v l, IOwns w B v l → IOwns D B v l) := by
  have hb1 : Below w.heap.size w (w.alloc (.cells #[.slice a b c] 27)) := by go_grown
  have h1 := h.later hb1
  have hB1 : B ≤ (w.alloc (.cells #[.slice a b c] 27)).heap.size := Nat.le_trans hB hb1.size
  obtain ⟨v1, D, e1, o1, gr, at1⟩ := append_lst (g := w.heap.size) (x := .slice a b c) h1.lst (by go_cell) rfl hB1 (by omega)
  obtain ⟨p1, c1, hv1, _, _⟩ := World.ownsRow.form o1 (by omega)
  subst hv1
  have down : ∀ v l, IOwns (w.alloc (.cells #[.slice a b c] 27)) B v l → IOwns D B v l := fun v l o => by
    refine World.ownsRow.kept o gr ?_
    cases hb : v.ownBlock with
    | none => exact Or.inl rfl
    | some j => exact Or.inr (fun e => lst_apart h1.lst o e.symm hb)
  have hlen : (F ++ [L]).length = F.length + 1 := by simp
  refine ⟨some ⟨p1, 0, none⟩, F.length + 1, c1, D, e1, rfl, ⟨?_, ?_, ?_⟩, below_grown (hb1.mono hB) h1.lst (Nat.le_refl _) hB1 gr, fun v l o => down v l (o.later hb1)⟩
  · rw [hlen, show ((List.range (F.length + 1)).map (upd rv F.length (.slice a b c))) = (List.range F.length).map rv ++ [.slice a b c] from ?_]
    · exact o1
    rw [List.range_succ, List.map_append, List.map_cons, List.map_nil, upd_same]
    congr 1
    apply List.map_congr_left
    intro i hi
    have := List.mem_range.1 hi
    exact upd_other _ _ (by omega)
  · rw [hlen]
    intro u v j hu hv e2 e3
    by_cases hu' : u = F.length <;> by_cases hv' : v = F.length
    · omega
    · rw [hu', upd_same] at e2
      rw [upd_other _ _ hv'] at e3
      exact absurd e3 (hn v j (by omega) e2)
    · rw [hv', upd_same] at e3
      rw [upd_other _ _ hu'] at e2
      exact absurd e2 (hn u j (by omega) e3)
    · rw [upd_other _ _ hu'] at e2
      rw [upd_other _ _ hv'] at e3
      exact h.uniq u v j (by omega) (by omega) e2 e3
  · rw [hlen]
    intro v hv
    rw [lat_snoc]
    by_cases hv' : v = F.length
    · rw [hv', upd_same, if_neg (by omega), if_pos rfl]
      exact down _ _ (hx.later hb1)
    · rw [upd_other _ _ hv', if_pos (by omega)]
      exact down _ _ (h1.own v (by omega))
/-- Along one face: who is marked, and the face so far. -/
def trIn (N : List Int) (id : Int) : Nat → Int → List Int → List Int → List Int × List Int
  | 0, _, C, f => (C, f)
  | k + 1, h, C, f => if iat C h.toNat < 0 then trIn N id k (iat N h.toNat) (C.set h.toNat id) (f ++ [h]) else (C, f)
/-- The faces, when the half-edges below v are over. -/
def trN (N : List Int) (m : Nat) : Nat → List Int × List (List Int)
  | 0 => (List.replicate m (-1), [])
  | v + 1 => if iat (trN N m v).1 v < 0 then ((trIn N (trN N m v).2.length (m + 1) v (trN N m v).1 []).1, (trN N m v).2 ++ [(trIn N (trN N m v).2.length (m + 1) v (trN N m v).1 []).2]) else trN N m v
theorem trIn_len (N : List Int) (id : Int) : ∀ k h C f, (trIn N id k h C f).1.length = C.length
  | 0, _, _, _ => rfl
  | k + 1, h, C, f => by
    unfold trIn
    split
    · rw [trIn_len N id k]; simp
    · rfl
theorem trN_len (N : List Int) (m : Nat) : ∀ v, (trN N m v).1.length = m
  | 0 => by simp [trN]
  | v + 1 => by
    unfold trN
    split
    · rw [trIn_len]; exact trN_len N m v
    · exact trN_len N m v
theorem trN_faces (N : List Int) (m : Nat) : ∀ v, (trN N m v).2.length ≤ v
  | 0 => by simp [trN]
  | v + 1 => by
    have := trN_faces N m v
    unfold trN
    split
    · simp; exact this
    · omega
end Go.Proofs.Ytllkadgpkbaghaa
