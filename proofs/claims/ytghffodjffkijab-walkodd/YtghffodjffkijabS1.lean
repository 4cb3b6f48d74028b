/- The way round that a half-edge beside a tree closes with it: it goes round, each edge once; how long it is. -/
import Derived.Test.YtghffodjffkijabE11
namespace Go.Proofs.Ytghffodjffkijab
open Go.RowKit Go.Sort
open Go
variable {es : List Pt} {n : Nat} {st : St}

/-- Half-edges, one behind the other, from a node to a node. -/
def Way (es : List Pt) : List Int → Nat → Nat → Prop
  | [], a, b => a = b
  | h :: l, a, b => ∃ (k c : Nat), h = k ∧ k < 2 * es.length ∧ fromL es k = a ∧ toL es k = c ∧ Way es l c b
theorem Way.app {l : List Int} : ∀ {r : List Int} {a b c : Nat}, Way es l a b → Way es r b c → Way es (l ++ r) a c := by
  induction l with
  | nil => intro r a b c h k; cases h; exact k
  | cons h l ih =>
    intro r a b c hw k
    obtain ⟨q, d, e1, e2, e3, e4, e5⟩ := hw
    exact ⟨q, d, e1, e2, e3, e4, ih e5 k⟩
theorem Way.one {k a b : Nat} (h1 : k < 2 * es.length) (h2 : fromL es k = a) (h3 : toL es k = b) : Way es [(k : Int)] a b := ⟨k, b, rfl, h1, h2, h3, rfl⟩
theorem Way.at_ {l : List Int} : ∀ {a b : Nat}, Way es l a b → ∀ i, i < l.length → ∃ k : Nat, iat l i = k ∧ k < 2 * es.length := by
  induction l with
  | nil => intro a b _ i hi; simp at hi
  | cons h l ih =>
    intro a b hw i hi
    obtain ⟨q, d, e1, e2, _, _, e5⟩ := hw
    cases i with
    | zero => exact ⟨q, by simp [iat, e1], e2⟩
    | succ i => exact ih e5 i (by simpa using hi)
theorem Way.next {l : List Int} : ∀ {a b : Nat}, Way es l a b → ∀ i, i + 1 < l.length → toL es (iat l i).toNat = fromL es (iat l (i + 1)).toNat := by
  induction l with
  | nil => intro a b _ i hi; simp at hi
  | cons h l ih =>
    intro a b hw i hi
    obtain ⟨q, d, e1, e2, e3, e4, e5⟩ := hw
    cases i with
    | zero =>
      cases l with
      | nil => simp at hi
      | cons h2 l2 =>
        obtain ⟨q2, d2, f1, f2, f3, f4, f5⟩ := e5
        simp only [iat, List.getD_cons_zero, List.getD_cons_succ, Nat.zero_add]
        rw [e1, f1, Int.toNat_natCast, Int.toNat_natCast, e4, f3]
    | succ i => exact ih e5 i (by simpa using hi)
theorem Way.first {l : List Int} {a b : Nat} (h : Way es l a b) (hl : 0 < l.length) : fromL es (iat l 0).toNat = a := by
  cases l with
  | nil => simp at hl
  | cons h2 l2 =>
    obtain ⟨q, d, e1, e2, e3, e4, e5⟩ := h
    simp only [iat, List.getD_cons_zero]
    rw [e1, Int.toNat_natCast, e3]
theorem Way.last {l : List Int} : ∀ {a b : Nat}, Way es l a b → 0 < l.length → toL es (iat l (l.length - 1)).toNat = b := by
  induction l with
  | nil => intro a b _ hl; simp at hl
  | cons h l ih =>
    intro a b hw _
    obtain ⟨q, d, e1, e2, e3, e4, e5⟩ := hw
    cases l with
    | nil => cases e5; simp only [iat, List.length_cons, List.length_nil, Nat.zero_add, Nat.sub_self, List.getD_cons_zero]; rw [e1, Int.toNat_natCast, e4]
    | cons h2 l2 => exact ih e5 (by simp)
/-- What clo makes: the nodes gone up from on either side, and where they meet. -/
theorem clo_spec (t : Tree es n st) : ∀ (k en sa : Nat) (cy dn : List Int), en < n → sa < n → 0 ≤ iat st.Fa en → 0 ≤ iat st.Fa sa → root es st en = root es st sa → iat st.Fa en + iat st.Fa sa ≤ k →
    ∃ (U D : List Nat) (z : Nat), clo es st k en sa cy dn = (cy ++ U.map (fun x => twn (iat st.By x)), dn ++ D.map (fun x => iat st.By x)) ∧ (U ++ D).Nodup ∧ (∀ x, x ∈ U → x < n ∧ 0 < iat st.Fa x ∧ iat st.Fa x ≤ iat st.Fa en) ∧ (∀ y, y ∈ D → y < n ∧ 0 < iat st.Fa y ∧ (y = sa ∨ iat st.Fa y < iat st.Fa sa)) ∧
      Way es (U.map (fun x => twn (iat st.By x))) en z ∧ Way es (D.map (fun x => iat st.By x)).reverse z sa ∧ (U.length : Int) + iat st.Fa z = iat st.Fa en ∧ (D.length : Int) + iat st.Fa z = iat st.Fa sa
  | 0, en, sa, cy, dn, h1, h2, h3, h4, h5, h6 => by
    have he : en = sa := by
      have r1 := root_zero (es := es) (st := st) (v := en) (by omega)
      have r2 := root_zero (es := es) (st := st) (v := sa) (by omega)
      rw [r1, r2] at h5
      exact h5
    subst he
    exact ⟨[], [], en, by simp [clo], by simp, fun x hx => by simp at hx, fun x hx => by simp at hx, rfl, rfl, by simp, by simp⟩
  | k + 1, en, sa, cy, dn, h1, h2, h3, h4, h5, h6 => by
    by_cases he : en = sa
    · subst he
      exact ⟨[], [], en, by simp [clo], by simp, fun x hx => by simp at hx, fun x hx => by simp at hx, rfl, rfl, by simp, by simp⟩
    · by_cases hf : iat st.Fa sa ≤ iat st.Fa en
      · have hup := has_up h3 h4 h5 he hf
        obtain ⟨q, q1, q2, q3, q4, q5, q6, q7, q8⟩ := root_par t h1 hup
        obtain ⟨U, D, z, e1, e2, e3, e4, e5, e6, e7, e8⟩ := clo_spec t k (par es st en) sa (cy ++ [twn (iat st.By en)]) dn q5 h2 q7 h4 (by rw [q8]; exact h5) (by omega)
        obtain ⟨j, hj, hj2⟩ := twn_in q1
        have f1 := twn_from es q
        have f2 := twn_to es q
        rw [hj, Int.toNat_natCast] at f1 f2
        refine ⟨en :: U, D, z, ?_, ?_, ?_, e4, ?_, e6, ?_, e8⟩
        · rw [clo_up he hf, e1]; simp
        · rw [List.cons_append, List.nodup_cons]
          refine ⟨fun hm => ?_, e2⟩
          rcases List.mem_append.1 hm with hm | hm
          · have := (e3 en hm).2.2; omega
          · rcases (e4 en hm).2.2 with hh | hh
            · exact he hh
            · omega
        · intro x hx
          rcases List.mem_cons.1 hx with hx | hx
          · rw [hx]; exact ⟨h1, hup, Int.le_refl _⟩
          · have := e3 x hx; exact ⟨this.1, this.2.1, by omega⟩
        · refine ⟨j, par es st en, by show twn (iat st.By en) = j; rw [q2]; exact hj, hj2, by rw [f1, q3], by rw [f2, q4], e5⟩
        · rw [List.length_cons]; omega
      · have hup : 0 < iat st.Fa sa := by omega
        obtain ⟨q, q1, q2, q3, q4, q5, q6, q7, q8⟩ := root_par t h2 hup
        obtain ⟨U, D, z, e1, e2, e3, e4, e5, e6, e7, e8⟩ := clo_spec t k en (par es st sa) cy (dn ++ [iat st.By sa]) h1 q5 h3 q7 (by rw [q8]; exact h5) (by omega)
        have e4' : ∀ y, y ∈ D → iat st.Fa y < iat st.Fa sa := fun y hy => by
          rcases (e4 y hy).2.2 with hh | hh
          · rw [hh]; omega
          · omega
        refine ⟨U, sa :: D, z, ?_, ?_, e3, ?_, e5, ?_, e7, ?_⟩
        · rw [clo_down he hf, e1]; simp
        · rw [List.nodup_append] at e2 ⊢
          refine ⟨e2.1, ?_, ?_⟩
          · rw [List.nodup_cons]; exact ⟨fun hm => by have := e4' sa hm; omega, e2.2.1⟩
          · intro a ha b hb
            rcases List.mem_cons.1 hb with hb | hb
            · rw [hb]; intro e; rw [e] at ha; have := (e3 sa ha).2.2; omega
            · exact e2.2.2 a ha b hb
        · intro y hy
          rcases List.mem_cons.1 hy with hy | hy
          · rw [hy]; exact ⟨h2, hup, Or.inl rfl⟩
          · exact ⟨(e4 y hy).1, (e4 y hy).2.1, Or.inr (e4' y hy)⟩
        · rw [List.map_cons, List.reverse_cons]
          refine Way.app e6 ?_
          rw [q2]
          exact Way.one q1 q4 q3
        · rw [List.length_cons]; omega
/-- A way round: closed, each edge once. -/
structure Loop (es : List Pt) (l : List Int) : Prop where
  pos : 0 < l.length
  way : ∃ a, Way es l a a
  once : ∀ i j, i < j → j < l.length → (iat l i).toNat / 2 ≠ (iat l j).toNat / 2
/-- The edges by which unlike nodes were found are unlike. -/
theorem by_unlike (t : Tree es n st) {x y : Nat} (hx : x < n) (hy : y < n) (fx : 0 < iat st.Fa x) (fy : 0 < iat st.Fa y) (hne : x ≠ y) : (iat st.By x).toNat / 2 ≠ (iat st.By y).toNat / 2 := by
  obtain ⟨q, q1, q2, q3, q4, q5, q6, _⟩ := root_par t hx fx
  obtain ⟨r, r1, r2, r3, r4, r5, r6, _⟩ := root_par t hy fy
  rw [q2, r2, Int.toNat_natCast, Int.toNat_natCast]
  intro e
  by_cases eq : q = r
  · rw [eq] at q3
    rw [q3] at r3
    exact hne (by omega)
  · -- one is the other's twin: each is the other's parent
    have htw : (q % 2 = 0 ∧ r % 2 = 1) ∨ (q % 2 = 1 ∧ r % 2 = 0) := by omega
    have f1 : fromL es q = toL es r := by
      unfold fromL toL
      rw [e]
      rcases htw with ⟨a, b⟩ | ⟨a, b⟩
      · rw [if_pos a, if_neg (by omega)]
      · rw [if_neg (by omega), if_pos b]
    have f2 : fromL es r = toL es q := by
      unfold fromL toL
      rw [e]
      rcases htw with ⟨a, b⟩ | ⟨a, b⟩
      · rw [if_neg (by omega), if_pos a]
      · rw [if_pos b, if_neg (by omega)]
    rw [q4, r3] at f1
    rw [r4, q3] at f2
    have e1 : par es st x = y := by omega
    have e2 : par es st y = x := by omega
    rw [e1] at q6
    rw [e2] at r6
    omega
theorem twn_half (k : Nat) : (twn (k : Int)).toNat / 2 = k / 2 := by
  unfold twn
  split <;> omega
theorem pairwise_at {l : List Int} {R : Int → Int → Prop} (h : l.Pairwise R) : ∀ i j, i < j → j < l.length → R (iat l i) (iat l j) := by
  intro i j hij hj
  rw [List.pairwise_iff_getElem] at h
  have := h i j (by omega) hj hij
  unfold iat
  rw [List.getD_eq_getElem?_getD, List.getElem?_eq_getElem (by omega), List.getD_eq_getElem?_getD, List.getElem?_eq_getElem hj]
  exact this
/-- What closes with the tree: a way round, so long. -/
theorem cloL_loop (t : Tree es n st) {h a b : Nat} (hh : h < 2 * es.length) (hto : toL es h = a) (hfr : fromL es h = b) (ha : a < n) (hb : b < n) (fa : 0 ≤ iat st.Fa a) (fb : 0 ≤ iat st.Fa b) (hr : root es st a = root es st b) (hn : ∀ x, x < n → 0 < iat st.Fa x → (iat st.By x).toNat / 2 ≠ h / 2) :
    Loop es (cloL es st h) ∧ ∃ z : Int, 0 ≤ z ∧ ((cloL es st h).length : Int) = 1 + iat st.Fa a + iat st.Fa b - 2 * z := by
  obtain ⟨U, D, z, e1, e2, e3, e4, e5, e6, e7, e8⟩ := clo_spec t ((iat st.Fa a).toNat + (iat st.Fa b).toNat) a b [(h : Int)] [] ha hb fa fb hr (by omega)
  have ec : cloL es st h = ([(h : Int)] ++ U.map (fun x => twn (iat st.By x))) ++ (D.map (fun x => iat st.By x)).reverse := by
    unfold cloL
    rw [hto, hfr, Int.toNat_natCast, Int.toNat_natCast, e1]
    simp
  have len : ((cloL es st h).length : Int) = 1 + U.length + D.length := by rw [ec]; simp; omega
  have fz : 0 ≤ iat st.Fa z := by
    cases D with
    | nil => have : (0 : Int) + iat st.Fa z = iat st.Fa b := by simpa using e8
             omega
    | cons d D' =>
      -- z is found: it lies above b
      rcases Int.lt_or_le (iat st.Fa z) 0 with hz | hz
      · exfalso
        have hlast := e4
        have hw := e6
        rw [List.map_cons, List.reverse_cons] at hw
        have : ∀ (l : List Nat) (c : Nat), (∀ y, y ∈ l → y < n ∧ 0 < iat st.Fa y) → Way es (l.map (fun x => iat st.By x)).reverse z c → l ≠ [] → 0 ≤ iat st.Fa z := by
          intro l
          induction l with
          | nil => intro c _ _ hne; exact absurd rfl hne
          | cons y l ih =>
            intro c hy hw _
            rw [List.map_cons, List.reverse_cons] at hw
            cases l with
            | nil =>
              obtain ⟨q, c', g1, g2, g3, g4, g5⟩ := hw
              obtain ⟨y1, y2⟩ := hy y (by simp)
              obtain ⟨q', q1, q2, q3, q4, q5, q6, q7, _⟩ := root_par t y1 y2
              have g1' : iat st.By y = q := g1
              rw [q2] at g1'
              have eq : q' = q := by omega
              rw [← eq, q4] at g3
              have : par es st y = z := by omega
              rw [← this]; exact q7
            | cons y2 l2 =>
              have : ∃ c2, Way es ((y2 :: l2).map (fun x => iat st.By x)).reverse z c2 := by
                have split : ∀ (p r : List Int) (a c : Nat), Way es (p ++ r) a c → ∃ b, Way es p a b := by
                  intro p
                  induction p with
                  | nil => intro r a c _; exact ⟨a, rfl⟩
                  | cons h p ih2 =>
                    intro r a c hw2
                    obtain ⟨q, d, g1, g2, g3, g4, g5⟩ := hw2
                    obtain ⟨b, hb2⟩ := ih2 r d c g5
                    exact ⟨b, q, d, g1, g2, g3, g4, hb2⟩
                exact split _ _ _ _ hw
              obtain ⟨c2, hc2⟩ := this
              exact ih c2 (fun y' hy' => hy y' (List.mem_cons_of_mem _ hy')) hc2 (by simp)
        have := this (d :: D') b (fun y hy => ⟨(e4 y hy).1, (e4 y hy).2.1⟩) e6 (by simp)
        omega
      · exact hz
  refine ⟨⟨by omega, ⟨b, ?_⟩, ?_⟩, iat st.Fa z, fz, by omega⟩
  · rw [ec]
    exact ((Way.one hh hfr hto).app e5).app e6
  · -- each edge once
    have key : ((cloL es st h).map (fun x => x.toNat / 2)).Nodup := by
      rw [ec]
      have m1 : ([(h : Int)] ++ U.map (fun x => twn (iat st.By x)) ++ (D.map (fun x => iat st.By x)).reverse).map (fun x => x.toNat / 2) = (h / 2) :: ((U.map (fun x => (iat st.By x).toNat / 2)) ++ (D.map (fun x => (iat st.By x).toNat / 2)).reverse) := by
        simp only [List.map_append, List.map_cons, List.map_reverse, List.map_map, List.cons_append, List.nil_append, Int.toNat_natCast]
        congr 2
        apply List.map_congr_left
        intro x hx
        obtain ⟨x1, x2, _⟩ := e3 x hx
        obtain ⟨q, _, q2, _⟩ := root_par t x1 x2
        show (twn (iat st.By x)).toNat / 2 = _
        rw [q2, twn_half, Int.toNat_natCast]
      rw [m1, List.nodup_cons]
      refine ⟨fun hm => ?_, ?_⟩
      · rcases List.mem_append.1 hm with hm | hm
        · obtain ⟨x, hx, hxe⟩ := List.mem_map.1 hm
          exact hn x (e3 x hx).1 (e3 x hx).2.1 hxe
        · obtain ⟨x, hx, hxe⟩ := List.mem_map.1 (List.mem_reverse.1 hm)
          exact hn x (e4 x hx).1 (e4 x hx).2.1 hxe
      · have inj : ((U ++ D).map (fun x => (iat st.By x).toNat / 2)).Nodup := by
          rw [List.nodup_iff_pairwise_ne, List.pairwise_map]
          refine List.Pairwise.imp_of_mem ?_ e2
          intro x y hx hy hxy
          have ok : ∀ v, v ∈ U ++ D → v < n ∧ 0 < iat st.Fa v := fun v hv => by
            rcases List.mem_append.1 hv with hv | hv
            · exact ⟨(e3 v hv).1, (e3 v hv).2.1⟩
            · exact ⟨(e4 v hv).1, (e4 v hv).2.1⟩
          exact by_unlike t (ok x hx).1 (ok y hy).1 (ok x hx).2 (ok y hy).2 hxy
        rw [List.map_append, List.nodup_append] at inj
        rw [List.nodup_append]
        exact ⟨inj.1, by rw [List.nodup_iff_pairwise_ne, List.pairwise_reverse]; exact (List.nodup_iff_pairwise_ne.1 inj.2.1).imp (fun h => h.symm), fun a ha b hb => inj.2.2 a ha b (List.mem_reverse.1 hb)⟩
    rw [List.nodup_iff_pairwise_ne, List.pairwise_map] at key
    exact pairwise_at key
end Go.Proofs.Ytghffodjffkijab
