/- Pure: a net's graph; an edge of it split, and unsplit. -/
import Derived.Test.YtgfiofogcnnkhaaHA
namespace Go.Proofs.Ytgfiofogcnnkhaa
open Go.RowKit Go.Sort
open Go

theorem mem_ofN {n : Nat} {x : Int} : x ∈ ofN n ↔ 1 ≤ x ∧ x ≤ n := by
  unfold ofN
  rw [List.mem_map]
  constructor
  · rintro ⟨i, hi, rfl⟩
    rw [List.mem_range] at hi
    omega
  · rintro ⟨h1, h2⟩
    exact ⟨(x - 1).toNat, List.mem_range.2 (by omega), by omega⟩
theorem ofN_succ (n : Nat) : ofN (n + 1) = ofN n ++ [(n : Int) + 1] := by simp [ofN, List.range_succ]
theorem up_ofN : ∀ n, Up (ofN n)
  | 0 => by unfold Up ofN; simp
  | n + 1 => by
    rw [ofN_succ]
    exact up_more (up_ofN n) (fun y hy => by have := mem_ofN.1 hy; omega)
theorem eids_ofE (es : List Pt) (k : Nat) : eids (ofE es k) = ofN k := by
  unfold eids ofE ofN
  rw [List.map_map]
  rfl
theorem pl_ofN {n i : Nat} (h : i < n) : pl (ofN n) ((i : Int) + 1) = i := by
  have := pl_of (up_ofN n) (k := i) (by rw [ofN_length]; exact h)
  rw [ofN_at h] at this
  exact this
theorem of_fine {n : Nat} {es : List Pt} (h : netB n es = true) : Fine 4000 (ofG n es es.length) := by
  obtain ⟨_, hn, hl, hin⟩ := netB_is h
  refine ⟨up_ofN n, by show Up (eids (ofE es es.length)); rw [eids_ofE]; exact up_ofN _, by show (ofN n).length ≤ 1024; rw [ofN_length]; omega, by show (ofE es es.length).length ≤ 3072; rw [ofE_length]; exact hl, fun x hx => ?_, fun e he => ?_, by show (1 : Int) ≤ n + 1; omega, by show (n : Int) + 1 ≤ 4000; omega, by show (1 : Int) ≤ es.length + 1; omega, by show (es.length : Int) + 1 ≤ 4000; omega⟩
  · have := mem_ofN.1 hx
    show 1 ≤ x ∧ x < (n : Int) + 1
    omega
  · obtain ⟨j, hj, rfl⟩ := mem_eat he
    have hj2 : j < es.length := by rw [show (ofG n es es.length).es = ofE es es.length from rfl, ofE_length] at hj; exact hj
    obtain ⟨b0, b1, b2, b3⟩ := hin j hj2
    show 1 ≤ (eat (ofE es es.length) j).id ∧ (eat (ofE es es.length) j).id < (es.length : Int) + 1 ∧ (eat (ofE es es.length) j).a ∈ ofN n ∧ (eat (ofE es es.length) j).b ∈ ofN n
    rw [ofE_at hj2]
    refine ⟨by show 1 ≤ (j : Int) + 1; omega, by show (j : Int) + 1 < es.length + 1; omega, mem_ofN.2 ?_, mem_ofN.2 ?_⟩
    · show 1 ≤ (at' es j).x + 1 ∧ (at' es j).x + 1 ≤ n; omega
    · show 1 ≤ (at' es j).y + 1 ∧ (at' es j).y + 1 ≤ n; omega
theorem netL_of {G : Gr} {n : Nat} {es : List Pt} (hn : G.ns = ofN n) (he : G.es = ofE es es.length) (hin : ∀ j, j < es.length → 0 ≤ (at' es j).x ∧ (at' es j).x < n ∧ 0 ≤ (at' es j).y ∧ (at' es j).y < n) : netL G = es := by
  have hlen : G.es.length = es.length := by rw [he, ofE_length]
  apply List.ext_getElem?
  intro j
  by_cases hj : j < es.length
  · have h1 := netN_at G G.es.length (Nat.le_refl _) j (by omega)
    have hl : (netL G).length = es.length := by unfold netL; rw [netN_length, hlen]
    obtain ⟨b0, b1, b2, b3⟩ := hin j hj
    have h2 : nE G j = at' es j := by
      unfold nE
      rw [hn, he, ofE_at hj]
      obtain ⟨x, hx⟩ : ∃ x : Nat, (at' es j).x = x := ⟨(at' es j).x.toNat, by omega⟩
      obtain ⟨y, hy⟩ : ∃ y : Nat, (at' es j).y = y := ⟨(at' es j).y.toNat, by omega⟩
      have e1 : pl (ofN n) ((at' es j).x + 1) = x := by rw [hx]; exact pl_ofN (by omega)
      have e2 : pl (ofN n) ((at' es j).y + 1) = y := by rw [hy]; exact pl_ofN (by omega)
      show (⟨(pl (ofN n) ((at' es j).x + 1) : Nat), (pl (ofN n) ((at' es j).y + 1) : Nat)⟩ : Pt) = _
      rw [e1, e2, ← hx, ← hy]
    rw [h2] at h1
    have h3 : at' (netL G) j = at' es j := h1
    unfold at' at h3
    rw [List.getD_eq_getElem?_getD, List.getD_eq_getElem?_getD, List.getElem?_eq_getElem (by omega), List.getElem?_eq_getElem hj] at h3
    rw [List.getElem?_eq_getElem (by omega), List.getElem?_eq_getElem hj]
    simpa using h3
  · have hl : (netL G).length = es.length := by unfold netL; rw [netN_length, hlen]
    rw [List.getElem?_eq_none (by omega), List.getElem?_eq_none (by omega)]
def spE (n : Nat) (es : List Pt) (i : Nat) : List Ed := (ofE es es.length).set i ((eat (ofE es es.length) i).put 1 ((n : Int) + 1)) ++ [⟨(es.length : Int) + 1, (n : Int) + 1, (at' es i).y + 1⟩]
def spG (n : Nat) (es : List Pt) (i : Nat) : Gr := ⟨ofN (n + 1), spE n es i, (n : Int) + 1 + 1, (es.length : Int) + 1 + 1, [], 0, []⟩
theorem spl_of {n : Nat} {es : List Pt} {i : Nat} (hi : i < es.length) (hn : n < 1024) (hm : es.length < 3072) : splG (ofG n es es.length) ((i : Int) + 1) = spG n es i ∧ splV (ofG n es es.length) ((i : Int) + 1) = .tuple #[.int .i64 ((n : Int) + 1), .int .i64 ((es.length : Int) + 1), .int .i64 0] := by
  have hmem : ((i : Int) + 1) ∈ eids (ofG n es es.length).es := by
    show _ ∈ eids (ofE es es.length)
    rw [eids_ofE]
    exact mem_ofN.2 (by omega)
  have hp : pl (eids (ofG n es es.length).es) ((i : Int) + 1) = i := by
    show pl (eids (ofE es es.length)) _ = i
    rw [eids_ofE]
    exact pl_ofN hi
  have h0 : splE (ofG n es es.length) ((i : Int) + 1) = 0 := by
    unfold splE
    rw [if_pos hmem, if_neg]
    show ¬ (1024 ≤ (ofN n).length ∨ 3072 ≤ (ofE es es.length).length)
    rw [ofN_length, ofE_length]
    omega
  constructor
  · unfold splG
    rw [if_pos h0]
    unfold splD
    rw [hp]
    have hb : (eat (ofG n es es.length).es i).b = (at' es i).y + 1 := by
      show (eat (ofE es es.length) i).b = _
      rw [ofE_at hi]
    rw [hb]
    unfold spG
    rw [ofN_succ]
    rfl
  · unfold splV
    rw [if_pos h0]
    rfl
theorem spE_len (n : Nat) (es : List Pt) (i : Nat) : (spE n es i).length = es.length + 1 := by
  unfold spE
  rw [List.length_append, List.length_set, ofE_length]
  rfl
theorem spE_ids (n : Nat) (es : List Pt) (i : Nat) : eids (spE n es i) = ofN (es.length + 1) := by
  unfold spE
  rw [ofN_succ]
  unfold eids
  rw [List.map_append]
  have := eids_put (ofE es es.length) i 1 ((n : Int) + 1)
  rw [eids_ofE] at this
  unfold eids at this
  rw [this]
  rfl
theorem eat_app {l r : List Ed} {j : Nat} (h : j < l.length) : eat (l ++ r) j = eat l j := by
  unfold eat
  rw [List.getD_eq_getElem?_getD, List.getD_eq_getElem?_getD, List.getElem?_append_left h]
theorem eat_set {l : List Ed} {i j : Nat} {x : Ed} (h : j < l.length) : eat (l.set i x) j = if i = j then x else eat l j := by
  unfold eat
  rw [List.getD_eq_getElem?_getD, List.getD_eq_getElem?_getD, List.getElem?_set]
  by_cases hij : i = j
  · subst hij; simp [h]
  · simp [hij]
theorem spE_i {n : Nat} {es : List Pt} {i : Nat} (hi : i < es.length) : eat (spE n es i) i = ⟨(i : Int) + 1, (at' es i).x + 1, (n : Int) + 1⟩ := by
  unfold spE
  rw [eat_app (by rw [List.length_set, ofE_length]; exact hi), eat_set (by rw [ofE_length]; exact hi), if_pos rfl, ofE_at hi]
  rfl
theorem spE_o {n : Nat} {es : List Pt} {i j : Nat} (hj : j < es.length) (hij : i ≠ j) : eat (spE n es i) j = ⟨(j : Int) + 1, (at' es j).x + 1, (at' es j).y + 1⟩ := by
  unfold spE
  rw [eat_app (by rw [List.length_set, ofE_length]; exact hj), eat_set (by rw [ofE_length]; exact hj), if_neg hij, ofE_at hj]
theorem spE_m {n : Nat} {es : List Pt} {i : Nat} : eat (spE n es i) es.length = ⟨(es.length : Int) + 1, (n : Int) + 1, (at' es i).y + 1⟩ := by
  unfold spE eat
  rw [List.getD_eq_getElem?_getD, List.getElem?_append_right (by rw [List.length_set, ofE_length]; exact Nat.le_refl _), List.length_set, ofE_length, Nat.sub_self]
  rfl
theorem ends_of {n : Nat} {es : List Pt} {i : Nat} (hi : i < es.length) : endsV (ofG n es es.length) ((i : Int) + 1) = .tuple #[.int .i64 ((at' es i).x + 1), .int .i64 ((at' es i).y + 1), .int .i64 0] := by
  unfold endsV
  show (if _ ∈ eids (ofE es es.length) then Value.tuple #[.int .i64 (eat (ofE es es.length) (pl (eids (ofE es es.length)) _)).a, .int .i64 (eat (ofE es es.length) (pl (eids (ofE es es.length)) _)).b, _] else _) = _
  rw [eids_ofE, if_pos (mem_ofN.2 (by omega)), pl_ofN hi, ofE_at hi]
theorem ends_sp {n : Nat} {es : List Pt} {i : Nat} (hi : i < es.length) : endsV (spG n es i) ((i : Int) + 1) = .tuple #[.int .i64 ((at' es i).x + 1), .int .i64 ((n : Int) + 1), .int .i64 0] ∧ endsV (spG n es i) ((es.length : Int) + 1) = .tuple #[.int .i64 ((n : Int) + 1), .int .i64 ((at' es i).y + 1), .int .i64 0] := by
  unfold endsV
  constructor
  · show (if _ ∈ eids (spE n es i) then Value.tuple #[.int .i64 (eat (spE n es i) (pl (eids (spE n es i)) _)).a, .int .i64 (eat (spE n es i) (pl (eids (spE n es i)) _)).b, _] else _) = _
    rw [spE_ids, if_pos (mem_ofN.2 (by omega)), pl_ofN (by omega), spE_i hi]
  · show (if _ ∈ eids (spE n es i) then Value.tuple #[.int .i64 (eat (spE n es i) (pl (eids (spE n es i)) _)).a, .int .i64 (eat (spE n es i) (pl (eids (spE n es i)) _)).b, _] else _) = _
    rw [spE_ids, if_pos (mem_ofN.2 (by omega)), pl_ofN (by omega), spE_m]
theorem sp_at {n : Nat} {es : List Pt} {i : Nat} (hi : i < es.length) (hin : ∀ j, j < es.length → 0 ≤ (at' es j).x ∧ (at' es j).x < n ∧ 0 ≤ (at' es j).y ∧ (at' es j).y < n) : ∀ k, k ≤ es.length → atN (spE n es i) ((n : Int) + 1) k = if i < k then [(i : Int)] else []
  | 0, _ => by rw [if_neg (by omega)]; rfl
  | k + 1, hk => by
    have ih := sp_at hi hin k (by omega)
    simp only [atN]
    rw [ih]
    by_cases hik : i = k
    · subst hik
      rw [spE_i hi, if_neg (by omega), if_pos (Or.inr rfl), if_pos (by omega)]
      rfl
    · obtain ⟨b0, b1, b2, b3⟩ := hin k (by omega)
      rw [spE_o (by omega) hik, if_neg (c := (at' es k).x + 1 = (n : Int) + 1 ∨ (at' es k).y + 1 = (n : Int) + 1) (by omega), List.append_nil]
      by_cases h : i < k
      · rw [if_pos h, if_pos (by omega)]
      · rw [if_neg h, if_neg (by omega)]
theorem sp_places {n : Nat} {es : List Pt} {i : Nat} (hi : i < es.length) (hin : ∀ j, j < es.length → 0 ≤ (at' es j).x ∧ (at' es j).x < n ∧ 0 ≤ (at' es j).y ∧ (at' es j).y < n) : plAt (spG n es i) ((n : Int) + 1) = [(i : Int), (es.length : Int)] := by
  show atN (spE n es i) _ (spE n es i).length = _
  rw [spE_len]
  simp only [atN]
  rw [sp_at hi hin es.length (Nat.le_refl _), if_pos hi, spE_m, if_pos (Or.inl rfl)]
  rfl
theorem set_eat (l : List Ed) (i : Nat) : l.set i (eat l i) = l := by
  by_cases h : i < l.length
  · apply List.ext_getElem?
    intro j
    rw [List.getElem?_set]
    by_cases hij : i = j
    · subst hij
      unfold eat
      rw [if_pos rfl, if_pos h, List.getD_eq_getElem?_getD, List.getElem?_eq_getElem h]
      rfl
    · rw [if_neg hij]
  · rw [List.set_eq_of_length_le (by omega)]
theorem un_sp {n : Nat} {es : List Pt} {i : Nat} (hi : i < es.length) (hin : ∀ j, j < es.length → 0 ≤ (at' es j).x ∧ (at' es j).x < n ∧ 0 ≤ (at' es j).y ∧ (at' es j).y < n) : unV (spG n es i) ((n : Int) + 1) = .tuple #[.int .i64 ((i : Int) + 1), .int .i64 0] ∧ (unG (spG n es i) ((n : Int) + 1)).ns = ofN n ∧ (unG (spG n es i) ((n : Int) + 1)).es = ofE es es.length := by
  have hpl := sp_places hi hin
  obtain ⟨b0, b1, b2, b3⟩ := hin i hi
  have i0 : (iat (plAt (spG n es i) ((n : Int) + 1)) 0).toNat = i := by rw [hpl]; exact Int.toNat_natCast i
  have i1 : (iat (plAt (spG n es i) ((n : Int) + 1)) 1).toNat = es.length := by rw [hpl]; exact Int.toNat_natCast es.length
  have h0 : unE (spG n es i) ((n : Int) + 1) = 0 := by
    unfold unE
    have hmem : ((n : Int) + 1) ∈ (spG n es i).ns := mem_ofN.2 (by omega)
    have hb : btwB (spG n es i) ((n : Int) + 1) = true := by
      unfold btwB
      rw [i0, i1]
      have e0 : eat (spG n es i).es i = _ := spE_i (n := n) hi
      have e1 : eat (spG n es i).es es.length = _ := spE_m (n := n) (es := es) (i := i)
      rw [e0, e1, hpl]
      simp
      omega
    rw [if_pos hmem, if_pos hb]
  have e0 : eat (spG n es i).es i = _ := spE_i (n := n) hi
  have e1 : eat (spG n es i).es es.length = _ := spE_m (n := n) (es := es) (i := i)
  have hq : pl (spG n es i).ns ((n : Int) + 1) = n := pl_ofN (n := n + 1) (by omega)
  refine ⟨?_, ?_, ?_⟩
  · unfold unV un0
    rw [if_pos h0, i0, e0]
  · unfold unG
    rw [if_pos h0]
    unfold unD
    rw [hq]
    show (ofN (n + 1)).eraseIdx n = ofN n
    rw [ofN_succ, List.eraseIdx_append_of_length_le (by rw [ofN_length]; exact Nat.le_refl _), ofN_length, Nat.sub_self]
    simp
  · unfold unG
    rw [if_pos h0]
    unfold unD un0 un1
    rw [i0, i1, e0, e1]
    have es1 : (⟨(i : Int) + 1, (at' es i).x + 1, (n : Int) + 1⟩ : Ed).side ((n : Int) + 1) = 1 := by
      unfold Ed.side
      exact if_neg (by show ¬ (at' es i).x + 1 = (n : Int) + 1; omega)
    have es2 : (⟨(es.length : Int) + 1, (n : Int) + 1, (at' es i).y + 1⟩ : Ed).far ((n : Int) + 1) = (at' es i).y + 1 := by
      unfold Ed.far
      exact if_pos rfl
    rw [es1, es2]
    show ((spE n es i).set i ((eat (spE n es i) i).put 1 ((at' es i).y + 1))).eraseIdx es.length = _
    rw [spE_i hi]
    unfold spE
    rw [List.set_append_left _ _ (by rw [List.length_set, ofE_length]; exact hi), List.set_set, List.eraseIdx_append_of_length_le (by rw [List.length_set, ofE_length]; exact Nat.le_refl _), List.length_set, ofE_length, Nat.sub_self]
    have e3 : (⟨(i : Int) + 1, (at' es i).x + 1, (n : Int) + 1⟩ : Ed).put 1 ((at' es i).y + 1) = eat (ofE es es.length) i := by
      rw [ofE_at hi]
      rfl
    rw [e3, set_eat]
    simp
end Go.Proofs.Ytgfiofogcnnkhaa
