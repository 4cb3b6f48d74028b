/- Pure: paths between branch nodes. -/
import Derived.Test.YtaebbfilgfkckaaKD4
namespace Go.Proofs.Ytaebbfilgfkckaa
open Go.RowKit Go.Sort
open Go
/-- Half-edges, one behind the other, from u to v, over nodes from b on. -/
def Pth (pk : List Pt) (b : Int) : Int → Int → List Nat → Prop
  | _, _, [] => False
  | u, v, [h] => fromL pk h = u ∧ toL pk h = v
  | u, v, h :: h' :: t => fromL pk h = u ∧ b ≤ toL pk h ∧ Pth pk b (toL pk h) v (h' :: t)
theorem Pth.snoc {pk : List Pt} {b : Int} : ∀ {Q : List Nat} {u c v : Int} {h : Nat}, Pth pk b u c Q → b ≤ c → fromL pk h = c → toL pk h = v → Pth pk b u v (Q ++ [h])
  | [], _, _, _, _, hp, _, _, _ => hp.elim
  | [a], u, c, v, h, hp, hb, h1, h2 => by
    obtain ⟨e1, e2⟩ := hp
    exact ⟨e1, by rw [e2]; exact hb, by rw [e2]; exact h1, h2⟩
  | a :: a' :: t, u, c, v, h, hp, hb, h1, h2 => ⟨hp.1, hp.2.1, Pth.snoc hp.2.2 hb h1 h2⟩
theorem to_tw (pk : List Pt) (h : Nat) : toL pk (tw h) = fromL pk h := by
  have := from_tw (es := pk) (tw h)
  rw [tw_tw] at this
  exact this.symm
theorem Pth.rev {pk : List Pt} {b : Int} : ∀ {Q : List Nat} {u v : Int}, Pth pk b u v Q → Pth pk b v u (Q.reverse.map tw)
  | [], _, _, hp => hp.elim
  | [a], u, v, hp => by
    obtain ⟨e1, e2⟩ := hp
    exact ⟨by rw [from_tw]; exact e2, by rw [to_tw]; exact e1⟩
  | a :: a' :: t, u, v, hp => by
    obtain ⟨e1, e2, e3⟩ := hp
    have := Pth.rev e3
    rw [List.reverse_cons, List.map_append]
    exact this.snoc e2 (from_tw a) (by rw [to_tw]; exact e1)
theorem Pth.head {pk : List Pt} {b : Int} {u v : Int} {h : Nat} {t : List Nat} (hp : Pth pk b u v (h :: t)) : fromL pk h = u := by
  cases t with
  | nil => exact hp.1
  | cons a t => exact hp.1
/-- A path is followed to its end. -/
theorem pth_fol {n : Nat} {pk : List Pt} {b : Int} (hm : netB n pk = true) (hd : ∀ w : Nat, b ≤ w → w < n → (ow pk w).length = 0 ∨ (ow pk w).length = 2) {v : Int} (hv : (ow pk v.toNat).length ≠ 2) : ∀ {t : List Nat} {u : Int} {h : Nat}, Pth pk b u v (h :: t) → (∀ x ∈ h :: t, x < 2 * pk.length) → ((h :: t).map (· / 2)).Nodup → ∀ k, t.length ≤ k → fin pk k h = t.length ∧ pthN pk h t.length = h :: t ∧ toL pk (itN pk h t.length) = v
  | [], u, h, hp, hl, hn, k, hk => by
    have hng : ¬ Goes pk h := by
      unfold Goes tN
      rw [hp.2]; exact hv
    refine ⟨?_, rfl, hp.2⟩
    cases k with
    | zero => rfl
    | succ k => unfold fin; rw [if_neg hng]; rfl
  | h' :: t, u, h, hp, hl, hn, k, hk => by
    obtain ⟨_, e2, e3⟩ := hp
    have hh := hl h (List.mem_cons_self)
    have hh' := hl h' (List.mem_cons_of_mem _ List.mem_cons_self)
    have hto := toL_in hm h hh
    have hfr : fromL pk h' = tN pk h := by rw [e3.head]; unfold tN; omega
    obtain ⟨j, hj, _⟩ := outL_mem (es := pk) (h := 2 * pk.length) hh' hfr
    have hg : Goes pk h := by
      unfold Goes
      have := hd (tN pk h) (by unfold tN; omega) (by unfold tN; omega)
      rcases this with e | e
      · have hj' : j < (ow pk (tN pk h)).length := hj
        omega
      · exact e
    obtain ⟨_, _, _, _, hall⟩ := nx_is hm hh hg
    have hnx : nx pk h = h' := by
      rcases hall h' hh' hfr with e | e
      · exfalso
        rw [List.map_cons, List.map_cons, List.nodup_cons] at hn
        have : h / 2 = h' / 2 := by rw [e]; unfold tw; split <;> omega
        exact hn.1 (by rw [this]; exact List.mem_cons_self)
      · exact e.symm
    have hn' : ((h' :: t).map (· / 2)).Nodup := (List.nodup_cons.1 hn).2
    cases k with
    | zero => simp at hk
    | succ k =>
      obtain ⟨f1, f2, f3⟩ := pth_fol hm hd hv e3 (fun x hx => hl x (List.mem_cons_of_mem _ hx)) hn' k (by simp at hk; omega)
      refine ⟨?_, ?_, ?_⟩
      · unfold fin
        rw [if_pos hg, hnx, f1]; rfl
      · show (List.range (t.length + 1 + 1)).map (itN pk h) = _
        rw [List.range_succ_eq_map, List.map_cons, List.map_map]
        show h :: _ = h :: h' :: t
        congr 1
        rw [← f2]
        refine List.map_congr_left fun i _ => ?_
        show itN pk h (i + 1) = itN pk h' i
        rw [← it_next, hnx]
      · show toL pk (itN pk h (t.length + 1)) = v
        rw [← it_next, hnx]
        exact f3
theorem pth_end {n : Nat} {pk : List Pt} {b : Int} (hm : netB n pk = true) (hd : ∀ w : Nat, b ≤ w → w < n → (ow pk w).length = 0 ∨ (ow pk w).length = 2) {u v : Int} (hv : (ow pk v.toNat).length ≠ 2) {h : Nat} {t : List Nat} (hp : Pth pk b u v (h :: t)) (hl : ∀ x ∈ h :: t, x < 2 * pk.length) (hn : ((h :: t).map (· / 2)).Nodup) : folL pk h = (h :: t).map (fun (x : Nat) => (x : Int)) ∧ endI pk h = v := by
  have hlen : t.length ≤ 2 * pk.length := by
    have := nodup_nat (2 * pk.length) (h :: t) (by
      rw [List.nodup_iff_pairwise_ne] at hn ⊢
      rw [List.pairwise_map] at hn
      exact hn.imp fun hab e => hab (by rw [e])) hl
    simp at this
    omega
  obtain ⟨f1, f2, f3⟩ := pth_fol hm hd hv hp hl hn (2 * pk.length) hlen
  unfold folL endI
  rw [f1, f2]
  exact ⟨rfl, f3⟩
end Go.Proofs.Ytaebbfilgfkckaa
