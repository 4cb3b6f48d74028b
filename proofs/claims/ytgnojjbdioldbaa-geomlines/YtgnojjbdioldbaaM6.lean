/- How turns and meetings change when points change places, are moved, or turned by a quarter. -/
import Derived.Test.YtgnojjbdioldbaaM3
namespace Go.Proofs.Ytgnojjbdioldbaa
open Go.RowKit Go.Sort
open Go

theorem sgn_neg (n : Int) : sgn (-n) = - sgn n := by unfold sgn; repeat' split <;> omega
theorem turn_swap (a b c : Pt) : turnI b a c = - turnI a b c := by
  unfold turnI
  rw [show crossI b a c = - crossI a b c by unfold crossI; grind, sgn_neg]
theorem turn_cycle (a b c : Pt) : turnI b c a = turnI a b c := by
  unfold turnI
  rw [show crossI b c a = crossI a b c by unfold crossI; grind]
def mv (t p : Pt) : Pt := ⟨p.x + t.x, p.y + t.y⟩
def rot (p : Pt) : Pt := ⟨-p.y, p.x⟩
theorem mv_inj (t p q : Pt) (h : mv t p = mv t q) : p = q := by
  obtain ⟨px, py⟩ := p
  obtain ⟨qx, qy⟩ := q
  unfold mv at h
  injection h with h1 h2
  simp only at h1 h2
  have e1 : px = qx := by omega
  have e2 : py = qy := by omega
  rw [e1, e2]
theorem rot_inj (p q : Pt) (h : rot p = rot q) : p = q := by
  obtain ⟨px, py⟩ := p
  obtain ⟨qx, qy⟩ := q
  unfold rot at h
  injection h with h1 h2
  simp only at h1 h2
  have e1 : px = qx := by omega
  have e2 : py = qy := by omega
  rw [e1, e2]
theorem turn_mv (t a b c : Pt) : turnI (mv t a) (mv t b) (mv t c) = turnI a b c := by
  unfold turnI
  rw [show crossI (mv t a) (mv t b) (mv t c) = crossI a b c by unfold crossI mv; grind]
theorem turn_rot (a b c : Pt) : turnI (rot a) (rot b) (rot c) = turnI a b c := by
  unfold turnI
  rw [show crossI (rot a) (rot b) (rot c) = crossI a b c by unfold crossI rot; grind]
theorem between_mv (t a b x : Int) : betweenB (a + t) (b + t) (x + t) = betweenB a b x := by
  unfold betweenB
  rw [Bool.eq_iff_iff]
  simp only [Bool.and_eq_true, decide_eq_true_eq]
  omega
theorem between_neg (a b x : Int) : betweenB (-a) (-b) (-x) = betweenB a b x := by
  unfold betweenB
  rw [Bool.eq_iff_iff]
  simp only [Bool.and_eq_true, decide_eq_true_eq]
  omega
theorem between_swap (a b x : Int) : betweenB b a x = betweenB a b x := by
  unfold betweenB
  rw [Bool.eq_iff_iff]
  simp only [Bool.and_eq_true, decide_eq_true_eq]
  omega
theorem has_mv (t a b p : Pt) : hasB (mv t a) (mv t b) (mv t p) = hasB a b p := by
  unfold hasB
  rw [turn_mv]
  unfold mv
  simp only [between_mv]
theorem has_rot (a b p : Pt) : hasB (rot a) (rot b) (rot p) = hasB a b p := by
  unfold hasB
  rw [turn_rot]
  unfold rot
  simp only [between_neg]
  rw [Bool.and_comm (betweenB a.y b.y p.y)]
theorem has_swap (a b p : Pt) : hasB b a p = hasB a b p := by
  unfold hasB
  rw [turn_swap a b p, between_swap a.x b.x, between_swap a.y b.y]
  congr 1
  rcases turn_cases a b p with h | h | h <;> rw [h] <;> rfl
theorem meet_map (f : Pt → Pt) (hf : ∀ p q, f p = f q → p = q) (ht : ∀ a b c, turnI (f a) (f b) (f c) = turnI a b c) (hh : ∀ a b p, hasB (f a) (f b) (f p) = hasB a b p) (a b c d : Pt) : meetI (f a) (f b) (f c) (f d) = meetI a b c d := by
  rw [meetI_is, meetI_is]
  unfold partsB
  simp only [ht]
  have e : [f a, f b, f c, f d].filter (bothB (f a) (f b) (f c) (f d)) = ([a, b, c, d].filter (bothB a b c d)).map f := by
    have : [f a, f b, f c, f d] = [a, b, c, d].map f := rfl
    rw [this, List.filter_map]
    congr 1
    apply List.filter_congr
    intro p _
    simp only [Function.comp, bothB, hh]
  rw [e, cnt_map hf]
theorem meet_mv (t a b c d : Pt) : meetI (mv t a) (mv t b) (mv t c) (mv t d) = meetI a b c d := meet_map (mv t) (mv_inj t) (turn_mv t) (has_mv t) a b c d
theorem meet_rot (a b c d : Pt) : meetI (rot a) (rot b) (rot c) (rot d) = meetI a b c d := meet_map rot rot_inj turn_rot has_rot a b c d
theorem parts_swap (a b c d : Pt) : partsB b a d c = partsB a b c d := by
  unfold partsB
  rw [turn_swap a b c, turn_swap a b d]
  rcases turn_cases a b c with h | h | h <;> rcases turn_cases a b d with k | k | k <;> rw [h, k] <;> rfl
theorem meet_back (a b c d : Pt) : meetI d c b a = meetI a b c d := by
  rw [meetI_is, meetI_is]
  rw [parts_swap c d a b, parts_swap a b c d, Bool.and_comm (partsB c d a b)]
  have e : cnt ([d, c, b, a].filter (bothB d c b a)) = cnt ([a, b, c, d].filter (bothB a b c d)) := by
    apply cnt_congr
    intro p
    simp only [List.mem_filter, List.mem_cons, List.not_mem_nil, or_false]
    have hb : bothB d c b a p = bothB a b c d p := by
      unfold bothB
      rw [has_swap c d p, has_swap a b p, Bool.and_comm]
    rw [hb]
    constructor
    · rintro ⟨h, k⟩
      exact ⟨by rcases h with h | h | h | h <;> simp [h], k⟩
    · rintro ⟨h, k⟩
      exact ⟨by rcases h with h | h | h | h <;> simp [h], k⟩
  rw [e]
end Go.Proofs.Ytgnojjbdioldbaa
