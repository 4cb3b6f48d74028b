/- What the document's Lay makes is what the program makes. -/
import Derived.Test.YtcgdmonejogbaaaG2
import Derived.Test.YtcgdmonejogbaaaF7
import Derived.Test.YtcgdmonejogbaaaF4
import Derived.Test.YtcgdmonejogbaaaR2
namespace Go.Proofs.Ytcgdmonejogbaaa
open Go.RowKit Go.Sort
open Go
def cpL (rs : List (List Int)) (v : Nat) : Nat → List Int := fun x => if x < v then lat rs x else []
theorem cpL_step (rs : List (List Int)) (v : Nat) : upd (cpL rs v) v (lat rs v) = cpL rs (v + 1) := by
  funext x
  unfold upd cpL
  by_cases h : x = v
  · subst h; rw [if_pos rfl, if_pos (by omega)]
  · rw [if_neg h]
    by_cases h2 : x < v
    · rw [if_pos h2, if_pos (by omega)]
    · rw [if_neg h2, if_neg (by omega)]
theorem corner_in {rs : List (List Int)} {v : Nat} {a : Int} (h : corB rs v a = true) : a ∈ lat rs v ∨ (lat rs v = [] ∧ a = -1) := by
  unfold corB at h
  rw [Int.toNat_natCast] at h
  simp only [Bool.and_eq_true, Bool.or_eq_true, decide_eq_true_eq] at h
  rcases h.2 with h | ⟨h1, h2⟩
  · exact Or.inl h
  · exact Or.inr ⟨List.length_eq_zero_iff.1 h1, h2⟩
theorem lit1 (w : World) (x : Int) : IHas (w.alloc (.cells #[.int .i64 x] 3)) (some ⟨w.heap.size, 0, none⟩) [x] := Or.inr ⟨w.heap.size, 0, rfl, fun j hj => by
  have : j = 0 := by simp at hj; omega
  subst this
  exact one_int w x⟩
theorem lit2 (w : World) (x y : Int) : IHas (w.alloc (.cells #[.int .i64 x, .int .i64 y] 3)) (some ⟨w.heap.size, 0, none⟩) [x, y] := Or.inr ⟨w.heap.size, 0, rfl, fun j hj => by
  have : j = 0 ∨ j = 1 := by simp at hj; omega
  rcases this with rfl | rfl
  · show World.cell? _ ⟨_, 0 + 0, none⟩ = some (.int .i64 x)
    go_cell
  · show World.cell? _ ⟨_, 0 + 1, none⟩ = some (.int .i64 y)
    go_cell⟩
theorem ptR_le (l : List Int) (a : Int) (hs : List Int) (hl : l.length ≤ 20000) (hh : hs.length ≤ 2) : (ptR l a hs).length ≤ 60002 := by
  unfold ptR
  split
  · omega
  · have := ptN_len l a hs hh l.length
    omega
theorem row_facts {n : Nat} {es : List Pt} {rs : List (List Int)} (h : rotI n es rs = 0) {v : Nat} (hv : v < rs.length) : (lat rs v).Nodup ∧ ((2 * es.length : Nat) : Int) ∉ lat rs v := by
  obtain ⟨h1, h2, _⟩ := holds_iff.1 (rot_is h).2.2
  refine ⟨lat_nodup h2 hv, fun hm => ?_⟩
  have := (h1 v hv _ hm).2.1
  omega
theorem bet_same {n : Nat} {es : List Pt} {rs : List (List Int)} {va : Nat} {aa : Int} (h : rotI n es rs = 0) (hv : va < rs.length) (hc : corB rs va aa = true) (v : Nat) : upd (fun x => lat rs x) va (ptR (lat rs va) aa [2 * (es.length : Int), 2 * (es.length : Int) + 1]) v = betL rs va aa va aa (2 * es.length : Nat) v := by
  obtain ⟨h1, h2⟩ := row_facts h hv
  have e : (2 * (es.length : Int)) = ((2 * es.length : Nat) : Int) := by omega
  rw [e, ptR_two h1 ((corner_in hc).imp id And.left) h2]
  unfold betL betA
  rw [if_pos ⟨rfl, rfl⟩, upd_same]
  unfold upd
  by_cases hx : v = va
  · rw [if_pos hx, if_pos hx]
  · rw [if_neg hx, if_neg hx, if_neg hx]
theorem bet_two {n : Nat} {es : List Pt} {rs : List (List Int)} {va vb : Nat} {aa ab : Int} (h : rotI n es rs = 0) (hva : va < rs.length) (hvb : vb < rs.length) (hca : corB rs va aa = true) (hcb : corB rs vb ab = true) (hne : ¬ (va = vb ∧ aa = ab)) : ∀ v, upd (upd (fun x => lat rs x) va (ptR (lat rs va) aa [2 * (es.length : Int)])) vb (ptR (upd (fun x => lat rs x) va (ptR (lat rs va) aa [2 * (es.length : Int)]) vb) ab [2 * (es.length : Int) + 1]) v = betL rs va aa vb ab (2 * es.length : Nat) v := by
  obtain ⟨h1, h2⟩ := row_facts h hva
  obtain ⟨h3, h4⟩ := row_facts h hvb
  have e : (2 * (es.length : Int)) = ((2 * es.length : Nat) : Int) := by omega
  rw [e, ptR_one h1 ((corner_in hca).imp id And.left)]
  have key : ptR (upd (fun x => lat rs x) va (putL (lat rs va) aa (2 * es.length : Nat)) vb) ab [((2 * es.length : Nat) : Int) + 1] = putL (upd (fun x => lat rs x) va (putL (lat rs va) aa (2 * es.length : Nat)) vb) ab (((2 * es.length : Nat) : Int) + 1) := by
    by_cases hv : vb = va
    · subst hv
      rw [upd_same]
      refine ptR_one (put_nodup h1 h2) (Or.inl (put_mem ?_))
      rcases corner_in hcb with hb | ⟨hb, hb2⟩
      · exact hb
      · rcases corner_in hca with ha | ⟨ha, ha2⟩
        · rw [hb] at ha; simp at ha
        · exact absurd ⟨rfl, by rw [ha2, hb2]⟩ hne
    · rw [upd_other _ _ hv]
      exact ptR_one h3 ((corner_in hcb).imp id And.left)
  intro v
  rw [key]
  unfold betL betA
  rw [if_neg hne]
theorem bet_row {rs : List (List Int)} {va vb : Nat} {aa x : Int} (hz : ∀ v, v < rs.length → (lat rs v).length ≤ 6144) (hva : va < rs.length) (hvb : vb < rs.length) : (upd (fun y => lat rs y) va (ptR (lat rs va) aa [x]) vb).length ≤ 20000 := by
  unfold upd
  split
  · have h1 := hz va hva
    unfold ptR
    split
    · simp
    · have := ptN_len (lat rs va) aa [x] (by simp) (lat rs va).length
      omega
  · have := hz vb hvb
    show (lat rs vb).length ≤ _
    omega
theorem bet_le {rs : List (List Int)} {va vb : Nat} {aa ab f : Int} (hz : ∀ v, v < rs.length → (lat rs v).length ≤ 6144) (hva : va < rs.length) (hvb : vb < rs.length) {v : Nat} (hv : v < rs.length) : (lat (betR rs va aa vb ab f) v).length ≤ 6146 := by
  have ha : ∀ x, x < rs.length → (betA rs va aa f x).length ≤ 6145 := fun x hx => by
    unfold betA upd
    split
    · rw [putL_length]; have := hz va hva; omega
    · have := hz x hx; show (lat rs x).length ≤ _; omega
  rw [betR_at hv]
  unfold betL upd
  split
  · rw [putL_length]; have := ha vb hvb; omega
  · have := ha v hv; omega
end Go.Proofs.Ytcgdmonejogbaaa
