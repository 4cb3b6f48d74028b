/- The document's own answer: whether a net may be; whether two lists are the same. -/
import Derived.Test.YtobkejnlkjieoaaN5
import Derived.Laws.IdiomCopy
namespace Go.Proofs.Ytobkejnlkjieoaa
open Go.RowKit Go.Sort
open Go


set_option maxRecDepth 100000 in
set_option maxHeartbeats 4000000 in
theorem may12 (n : Int) (p : Option Addr) (es : List Pt) (cap : Nat) (w : World) (h : Has w p es) : Calls Try.prog 16 #[nv n p es.length cap] w fun e w' => e = .returned (.bool (netB n es)) ∧ Below w.heap.size w w' := by
  have H := hide h
  clear h
  by_cases h0 : 0 ≤ n
  · by_cases hn : n ≤ 1024
    · by_cases hl : es.length ≤ 3072
      · have hf : fitsB n es.length = true := by simp [fitsB, hn]; omega
        go_enter Try.func16, Try.ntmps16
        go_wp2_with fail
        go_loopw [3] (fun t wr => ∃ i : Nat, i ≤ es.length ∧ t = .int .i64 i ∧ Hid (∀ j, j < i → edB n (at' es j) = true) ∧ Hid (Below w.heap.size w wr) ∧ Hid (NOwn wr w.heap.size n p es.length cap)) (fun t _ => es.length - (intOf t).toNat)
        case atStart => exact ⟨0, by omega, rfl, fun j hj => by omega, by show Below _ _ _; go_grown, ⟨by go_cell, by go_cell, by simp [go_sem], by simp [go_sem]⟩⟩
        case round =>
          obtain ⟨i, hi, rfl, HP, HB, HN⟩ := hrel
          obtain ⟨q0, q1, _, _⟩ := HN.out
          by_cases hlt : i < es.length
          · go_wp2_with fail
            clear q0 q1
            go_loopw [4] (fun t wr => ∃ k : Nat, k ≤ 2 ∧ t = .int .i64 k ∧ Hid ((1 ≤ k → belowB (at' es i).x n = true) ∧ (2 ≤ k → belowB (at' es i).y n = true)) ∧ Hid (Below w.heap.size w wr) ∧ Hid (NOwn wr w.heap.size n p es.length cap)) (fun t _ => 2 - (intOf t).toNat)
            case atStart => exact ⟨0, by omega, rfl, ⟨fun h => by omega, fun h => by omega⟩, HB.out, HN.out⟩
            case round =>
              obtain ⟨k, hk, rfl, HS, HBk, HNk⟩ := hrel
              obtain ⟨q0, q1, _, _⟩ := HNk.out
              rcases H.out.later HBk.out with h | ⟨b, off, rfl, hL⟩
              · subst h; simp at hlt
              obtain ⟨c0, c1⟩ := hL i hlt
              have i1 : (i : Int) < es.length := by omega
              have i2 : (0 : Int) ≤ i := by omega
              have hbx : Hid (belowB (at' es i).x n = (decide (0 ≤ (at' es i).x) && decide ((at' es i).x < n))) := rfl
              have hby : Hid (belowB (at' es i).y n = (decide (0 ≤ (at' es i).y) && decide ((at' es i).y < n))) := rfl
              have hed : Hid (edB n (at' es i) = (belowB (at' es i).x n && belowB (at' es i).y n)) := rfl
              obtain ⟨r, hr⟩ : ∃ r, at' es i = r := ⟨_, rfl⟩
              rw [hr] at c0 c1 hbx hby HS
              have hed' : Hid (edB n (at' es i) = (belowB r.x n && belowB r.y n)) := by show _ = _; rw [hed.out, hr]
              have HRR := hide hr
              clear hL hr hed
              rcases (by omega : k = 0 ∨ k = 1 ∨ k = 2) with rfl | rfl | rfl
              · by_cases hx0 : r.x < 0
                · have g1 : decide (r.x < 0) = true := decide_eq_true hx0
                  go_wp2_with fail
                  go_quiet (fail)
                  go_wp2
                  go_ret
                  exact ⟨retB (by rw [net_no hlt (by rw [hed'.out, hbx.out]; simp; omega)]), below_drewN HBk.out⟩
                · have g1 : decide (r.x < 0) = false := decide_eq_false hx0
                  by_cases hxn : n ≤ r.x
                  · have g2 : decide (n ≤ r.x) = true := decide_eq_true hxn
                    go_wp2_with fail
                    go_quiet (fail)
                    go_wp2
                    go_ret
                    exact ⟨retB (by rw [net_no hlt (by rw [hed'.out, hbx.out]; simp; omega)]), below_drewN HBk.out⟩
                  · have g2 : decide (n ≤ r.x) = false := decide_eq_false hxn
                    go_wp2_with fail
                    go_quiet (fail)
                    go_wp2
                    go_roundw
                    case rel => exact ⟨1, by omega, by go_num, ⟨fun _ => by rw [HRR.out, hbx.out]; simp; omega, fun h => by omega⟩, below_drewN HBk.out, HNk.out.later (below_drewN (Below.refl _ _))⟩
                    case measure => simp [intOf]
              · by_cases hx0 : r.y < 0
                · have g1 : decide (r.y < 0) = true := decide_eq_true hx0
                  go_wp2_with fail
                  go_quiet (fail)
                  go_wp2
                  go_ret
                  exact ⟨retB (by rw [net_no hlt (by rw [hed'.out, hby.out]; simp; omega)]), below_drewN HBk.out⟩
                · have g1 : decide (r.y < 0) = false := decide_eq_false hx0
                  by_cases hxn : n ≤ r.y
                  · have g2 : decide (n ≤ r.y) = true := decide_eq_true hxn
                    go_wp2_with fail
                    go_quiet (fail)
                    go_wp2
                    go_ret
                    exact ⟨retB (by rw [net_no hlt (by rw [hed'.out, hby.out]; simp; omega)]), below_drewN HBk.out⟩
                  · have g2 : decide (n ≤ r.y) = false := decide_eq_false hxn
                    go_wp2_with fail
                    go_quiet (fail)
                    go_wp2
                    go_roundw
                    case rel => exact ⟨2, by omega, by go_num, ⟨fun h => by rw [HRR.out]; exact HS.out.1 (by omega), fun _ => by rw [HRR.out, hby.out]; simp; omega⟩, below_drewN HBk.out, HNk.out.later (below_drewN (Below.refl _ _))⟩
                    case measure => simp [intOf]
              · clear q0 q1 c0 c1
                go_wp2
                go_roundw
                case rel => exact ⟨i + 1, by omega, by go_num, more HP.out (by rw [hed'.out, HS.out.1 (by omega), HS.out.2 (by omega)]; rfl), HBk.out, HNk.out⟩
                case measure => simp [intOf]; omega
          · go_wp2
            go_ret
            have : i = es.length := by omega
            subst this
            exact ⟨retB (by rw [net_yes h0 hf HP.out]), HB.out⟩
      · have hl' : (3072 : Int) < es.length := by omega
        go_enter Try.func16, Try.ntmps16
        go_wp2
        go_ret
        exact ⟨retB (by simp [netB, fitsB]; omega), by go_grown⟩
    · have hn' : 1024 < n := by omega
      go_enter Try.func16, Try.ntmps16
      go_wp2
      go_ret
      exact ⟨retB (by simp [netB, fitsB]; omega), by go_grown⟩
  · have h0' : n < 0 := by omega
    go_enter Try.func16, Try.ntmps16
    go_wp2
    go_ret
    exact ⟨retB (by simp [netB]; omega), by go_grown⟩
end Go.Proofs.Ytobkejnlkjieoaa

/- Degrees, in every world. -/
namespace Go.Proofs.Ytobkejnlkjieoaa
open Go.RowKit Go.Sort
open Go


def bump (l : List Int) (j : Nat) : List Int := l.set j (iat l j + 1)
theorem bump_length (l : List Int) (j : Nat) : (bump l j).length = l.length := List.length_set ..
theorem bump_at (l : List Int) (j k : Nat) (hk : k < l.length) : iat (bump l j) k = iat l k + if j = k then 1 else 0 := by
  unfold bump
  rw [iat_set _ _ _ _ hk]
  by_cases h : j = k
  · subst h; rw [if_pos rfl, if_pos rfl]
  · rw [if_neg h, if_neg h]; omega
def degN (es : List Pt) (m : Nat) : Nat → List Int
  | 0 => List.replicate m 0
  | i + 1 => bump (bump (degN es m i) (at' es i).x.toNat) (at' es i).y.toNat
theorem degN_length (es : List Pt) (m : Nat) : ∀ i, (degN es m i).length = m
  | 0 => by simp [degN]
  | i + 1 => by simp [degN, bump_length, degN_length es m i]
theorem degN_in (es : List Pt) (m : Nat) : ∀ i j, j < m → 0 ≤ iat (degN es m i) j ∧ iat (degN es m i) j ≤ 2 * i
  | 0, j, hj => by simp only [degN]; rw [iat_replicate _ _ _ hj]; omega
  | i + 1, j, hj => by
    have ih := degN_in es m i j hj
    have hl := degN_length es m i
    simp only [degN]
    rw [bump_at _ _ _ (by rw [bump_length]; omega), bump_at _ _ _ (by omega)]
    split <;> split <;> omega
def DegPost (n : Int) (es : List Pt) (w : World) (e : Ending) (w' : World) : Prop :=
  (netB n es = true ∧ ∃ g, e = .returned (.tuple #[.slice (some ⟨g, 0, none⟩) n.toNat n.toNat, .int .i64 0]) ∧ IRow w' w.heap.size g n.toNat (degN es n.toNat es.length)) ∨ (netB n es = false ∧ e = .returned (.tuple #[.slice none 0 0, .int .i64 1]))
theorem one_net (w : World) (n : Int) (p : Option Addr) (l c : Nat) : ∃ W, W = w.alloc (nbx n p l c) ∧ Below w.heap.size w W ∧ NOwn W w.heap.size n p l c :=
  ⟨_, rfl, by go_grown, by go_cell, by go_cell, by simp [go_sem], by simp [go_sem]⟩

end Go.Proofs.Ytobkejnlkjieoaa

/- The statements' own small functions; the document's Same and Chosen, in every world. -/
namespace Go.Proofs.Ytobkejnlkjieoaa
open Go.RowKit Go.Sort
open Go


def lightB (n : Int) (es : List Pt) : Bool := decide (es.length ≤ 300) && (decide (n ≤ 300) || !netB n es)
theorem two_args (w : World) (n m : Int) (p q : Option Addr) (k l cp cq : Nat) : ∃ W, W = (w.alloc (nbx n p k cp)).alloc (nbx m q l cq) ∧ Below w.heap.size w W ∧ NOwn W w.heap.size n p k cp ∧ NOwn W (w.heap.size + 1) m q l cq :=
  ⟨_, rfl, by go_grown, ⟨by go_cell, by go_cell, by simp [go_sem], by simp [go_sem]⟩, by go_cell, by go_cell, by simp [go_sem], by simp [go_sem]⟩
set_option maxRecDepth 100000 in
set_option maxHeartbeats 4000000 in
theorem same22 (n m : Int) (p q : Option Addr) (a b : List Pt) (cp cq : Nat) (w : World) (hla : a.length ≤ 1000000000) (hp : Has w p a) (hq : Has w q b) : Calls Try.prog 21 #[nv n p a.length cp, nv m q b.length cq] w fun e w' => e = .returned (.bool (sameB n m a b)) ∧ Below w.heap.size w w' := by
  obtain ⟨W, hW, hb, a0, b0⟩ := two_args w n m p q a.length b.length cp cq
  have H := hide (hp.later hb)
  have K := hide (hq.later hb)
  have HB := hide hb
  have HA := hide a0
  have HN := hide b0
  clear hp hq hb a0 b0
  by_cases hnm : n = m
  · subst hnm
    by_cases hl : a.length = b.length
    · have hli : ((a.length : Int) == b.length) = true := by simp [hl]
      have HLE := hide hl
      clear hl
      obtain ⟨q0, q1, _, _⟩ := HA.out
      obtain ⟨r0, r1, _, _⟩ := HN.out
      go_enter Try.func21, Try.ntmps21
      go_wp2_with fail
      rw [← hW]
      clear hW q0 q1 r0 r1
      go_loopw [5] (fun t wr => ∃ i : Nat, i ≤ a.length ∧ t = .int .i64 i ∧ Hid (∀ j, j < i → at' a j = at' b j) ∧ Hid (Below W.heap.size W wr)) (fun t _ => a.length - (intOf t).toNat)
      case atStart => exact ⟨0, by omega, rfl, fun j hj => by omega, Below.refl _ _⟩
      case round =>
        obtain ⟨i, hi, rfl, HP, HBr⟩ := hrel
        obtain ⟨q0, q1, _, _⟩ := HA.out.later HBr.out
        obtain ⟨r0, r1, _, _⟩ := HN.out.later HBr.out
        by_cases hlt : i < a.length
        · rcases H.out.later HBr.out with h | ⟨b1, o1, rfl, l1⟩
          · subst h; simp at hlt
          rcases K.out.later HBr.out with h | ⟨b2, o2, rfl, l2⟩
          · have hl := HLE.out; rw [h] at hl; simp at hl; rw [hl] at hlt; simp at hlt
          obtain ⟨c0, c1⟩ := l1 i hlt
          obtain ⟨d0, d1⟩ := l2 i (by have := HLE.out; omega)
          clear l1 l2
          obtain ⟨x, hx⟩ : ∃ x, at' a i = x := ⟨_, rfl⟩
          obtain ⟨y, hy⟩ : ∃ y, at' b i = y := ⟨_, rfl⟩
          rw [hx] at c0 c1
          rw [hy] at d0 d1
          have heq := eq60 x y
          have e1 : (i : Int) < a.length := by omega
          have e2 : (i : Int) < b.length := by have := HLE.out; omega
          have e3 : (0 : Int) ≤ i := by omega
          cases hxy : decide (x = y)
          · rw [hxy] at heq
            go_wp2_with fail
            go_quiet (fail)
            go_wp2
            go_ret
            refine ⟨retB ?_, below_step HB.out (below_drewN HBr.out)⟩
            have hne : a ≠ b := by
              intro e
              subst e
              rw [hx] at hy
              exact absurd hy (of_decide_eq_false hxy)
            simp [sameB, hne]
          · rw [hxy] at heq
            go_wp2_with fail
            go_quiet (fail)
            go_wp2
            go_roundw
            case rel => exact ⟨i + 1, by omega, by go_num, more HP.out (by rw [hx, hy]; exact of_decide_eq_true hxy), below_drewN HBr.out⟩
            case measure => simp [intOf]; omega
        · go_wp2
          go_ret
          have : i = a.length := by omega
          subst this
          exact ⟨retB (by simp [sameB, at_ext HLE.out HP.out]), below_step HB.out HBr.out⟩
    · have hli : ((a.length : Int) == b.length) = false := by simp; omega
      go_enter Try.func21, Try.ntmps21
      go_wp2
      go_ret
      refine ⟨retB ?_, by go_grown⟩
      have hne : a ≠ b := fun e => hl (by rw [e])
      simp [sameB, hne]
  · have hne : (n == m) = false := by simpa using hnm
    go_enter Try.func21, Try.ntmps21
    go_wp2
    go_ret
    exact ⟨retB (by simp [sameB, hnm]), by go_grown⟩

end Go.Proofs.Ytobkejnlkjieoaa

/- Part, in every world. -/
namespace Go.Proofs.Ytobkejnlkjieoaa
open Go.RowKit Go.Sort
open Go


def insB (pl : List Int) (p : Pt) : Bool := decide (iat pl p.x.toNat ≠ -1) && decide (iat pl p.y.toNat ≠ -1)
/-- The numbers below i that f takes. -/
def takeN (f : Nat → Bool) : Nat → List Int
  | 0 => []
  | i + 1 => if f i then takeN f i ++ [(i : Int)] else takeN f i
theorem takeN_length (f : Nat → Bool) : ∀ i, (takeN f i).length ≤ i
  | 0 => by simp [takeN]
  | i + 1 => by
    have := takeN_length f i
    simp only [takeN]
    split
    · rw [List.length_append]; simp; omega
    · omega
theorem takeN_mem (f : Nat → Bool) : ∀ i (x : Int), x ∈ takeN f i ↔ ∃ j : Nat, j < i ∧ f j = true ∧ x = j
  | 0, x => by simp [takeN]
  | i + 1, x => by
    have ih := takeN_mem f i x
    simp only [takeN]
    by_cases h : f i = true
    · rw [if_pos h, List.mem_append, ih, List.mem_singleton]
      constructor
      · rintro (⟨j, hj, h1, h2⟩ | rfl)
        · exact ⟨j, by omega, h1, h2⟩
        · exact ⟨i, by omega, h, rfl⟩
      · rintro ⟨j, hj, h1, h2⟩
        rcases Nat.lt_succ_iff_lt_or_eq.1 hj with k | k
        · exact Or.inl ⟨j, k, h1, h2⟩
        · subst k; exact Or.inr h2
    · rw [if_neg h, ih]
      constructor
      · rintro ⟨j, hj, h1, h2⟩; exact ⟨j, by omega, h1, h2⟩
      · rintro ⟨j, hj, h1, h2⟩
        rcases Nat.lt_succ_iff_lt_or_eq.1 hj with k | k
        · exact ⟨j, k, h1, h2⟩
        · subst k; exact absurd h1 h
theorem takeN_in (f : Nat → Bool) (i : Nat) : ∀ j, j < (takeN f i).length → 0 ≤ iat (takeN f i) j ∧ iat (takeN f i) j < i := by
  intro j hj
  obtain ⟨k, hk, _, e⟩ := (takeN_mem f i _).1 (iat_mem hj)
  omega
def which (es : List Pt) (pl : List Int) : List Int := takeN (fun j => insB pl (at' es j)) es.length
def partE (n : Int) (es : List Pt) (l : List Int) : Int := if netB n es then errL l n else 1
def placesOf (n : Int) (l : List Int) : List Int := plN l n.toNat l.length
def partN (n : Int) (es : List Pt) (l : List Int) : List Pt := rename (pick es (which es (placesOf n l))) (placesOf n l)
theorem partN_length (n : Int) (es : List Pt) (l : List Int) : (partN n es l).length = (which es (placesOf n l)).length := by rw [partN, rename_length, pick_length]
def PartPost (n : Int) (es : List Pt) (l : List Int) (w : World) (e : Ending) (w' : World) : Prop :=
  (partE n es l = 0 ∧ ∃ g v, e = .returned (.tuple #[nv l.length (some ⟨g, 0, none⟩) (partN n es l).length (partN n es l).length, v, .int .i64 0]) ∧ PRow w' w.heap.size g (partN n es l).length (partN n es l) ∧ IOwns w' w.heap.size v (which es (placesOf n l))) ∨ (partE n es l ≠ 0 ∧ e = .returned (.tuple #[nv 0 none 0 0, .slice none 0 0, .int .i64 (partE n es l)]))
theorem iowns_other {w : World} {b : Nat} {v : Value} {l : List Int} (h : IOwns w b v l) {k i : Nat} (hk : k < b) (u : Value) : IOwns (w.setCell ⟨k, i, none⟩ u) b v l := ownsRow_setCell_below h (by exact hk) u
theorem below_grown {B : Nat} {a w w' : World} {v : Value} {base n : Nat} {xs : List Value} {e : TypeId} {size : Nat} (h : Below B a w) (ho : w.ownsRow base e size v n xs) (hB : B ≤ base) (hw : B ≤ w.heap.size) (hg : w.grownBy w' v.ownBlock) : Below B a w' :=
  h.grown hg hw fun k hk => Nat.le_trans hB (World.ownsRow.lt ho k hk).1

end Go.Proofs.Ytobkejnlkjieoaa

/- Lists of pairs that are appended to, as one step; Copy and Twin, in every world. -/
/- Split, in every world. -/
namespace Go.Proofs.Ytobkejnlkjieoaa
open Go.RowKit Go.Sort
open Go


theorem owns_setCells {base g cap n : Nat} {e : TypeId} {size : Nat} : ∀ (vs : List Value) (o : Nat) (w : World) (xs : List Value), w.ownsRow base e size (.slice (some ⟨g, 0, none⟩) n cap) n xs → o + vs.length ≤ xs.length → (w.setCells g o vs).ownsRow base e size (.slice (some ⟨g, 0, none⟩) n cap) n (xs.take o ++ vs ++ xs.drop (o + vs.length))
  | [], o, w, xs, h, _ => by
    simp only [World.setCells, List.append_nil, List.length_nil, Nat.add_zero, List.take_append_drop]
    exact h
  | v :: r, o, w, xs, h, hl => by
    have hl' : o + (r.length + 1) ≤ xs.length := by simpa using hl
    have ih := owns_setCells (base := base) (g := g) (cap := cap) (n := n) (e := e) (size := size) r (o + 1) (w.setCell ⟨g, o, none⟩ v) (xs.set o v) (World.ownsRow.stored h o v).1 (by rw [List.length_set]; omega)
    simp only [World.setCells]
    rw [list_seg_step xs o v r hl'] at ih
    exact ih
theorem grown_setCells {g : Nat} : ∀ (vs : List Value) (o : Nat) (w w0 : World) (B : Nat), Below B w0 w → B ≤ g → Below B w0 (w.setCells g o vs)
  | [], _, _, _, _, h, _ => h
  | v :: r, o, w, w0, B, h, hB => grown_setCells r (o + 1) _ w0 B (h.setCell (by exact hB) v) hB
theorem cells_one : ∀ (ps : List Pt), ∀ v ∈ cells ps, v.oneCell' = true
  | [], v, h => by simp [cells] at h
  | p :: r, v, h => by
    simp only [cells, List.mem_cons] at h
    rcases h with rfl | rfl | h
    · rfl
    · rfl
    · exact cells_one r v h
theorem run_copy22 (w : World) (ty : TypeId) (base g b off cp : Nat) (es : List Pt) (hsrc : Lies w b off es) (hR : PRow w base g (es.length + 1) (List.replicate (es.length + 1) ⟨0, 0⟩)) :
    (Builtin.copy_ #[22, 22] ty #[.slice (some ⟨g, 0, none⟩) (es.length + 1) (es.length + 1), .slice (some ⟨b, off, none⟩) es.length cp]).run Try.prog w = .ok (goInt es.length) (w.setCells g 0 (cells es)) ∧ PRow (w.setCells g 0 (cells es)) base g (es.length + 1) (es ++ [⟨0, 0⟩]) := by
  have hcl := cells_length es
  have hlist : ∀ j v, (cells es)[j]? = some v → w.cell? ((⟨b, off, none⟩ : Addr).add j) = some v := by
    intro j v hj
    have hjl : j < es.length * 2 := by
      have := (List.getElem?_eq_some_iff.1 hj).1
      omega
    rw [Go.WideShapes.add_plain]
    rcases Nat.mod_two_eq_zero_or_one j with h | h
    · obtain ⟨i, rfl⟩ : ∃ i, j = i * 2 := ⟨j / 2, by omega⟩
      have k := (cells_at es i (by omega)).1
      rw [k] at hj
      cases hj
      exact (hsrc i (by omega)).1
    · obtain ⟨i, rfl⟩ : ∃ i, j = i * 2 + 1 := ⟨j / 2, by omega⟩
      have k := (cells_at es i (by omega)).2
      rw [k] at hj
      cases hj
      rw [show off + (i * 2 + 1) = off + i * 2 + 1 by omega]
      exact (hsrc i (by omega)).2
  have hl := run_loadCells_list (P := Try.prog) w ⟨b, off, none⟩ (cells es) hlist
  have hrow : w.ownsRow base 56 2 (.slice (some ⟨g, 0, none⟩) (es.length + 1) (es.length + 1)) (es.length + 1) (cells (List.replicate (es.length + 1) ⟨0, 0⟩)) := by
    have := hR.2
    unfold Owns at this
    rw [hR.1] at this
    exact this
  have hrl : (cells (List.replicate (es.length + 1) (⟨0, 0⟩ : Pt))).length = (es.length + 1) * 2 := by rw [cells_length, List.length_replicate]
  have hst := run_storeCells_cells (P := Try.prog) g 0 (cells es) 0 w (fun j hj => by
    rw [Nat.zero_add, World.ownsRow.cellAt hrow j (by omega), List.getElem?_eq_getElem (by omega)]
    rfl) (fun j _ => by rw [Nat.zero_add]; exact World.ownsRow.frozenAt hrow j) (cells_one es)
  obtain ⟨i0, hi0, hz0, hz1, hz2⟩ := info_parts info60
  refine ⟨?_, ?_⟩
  · have hmin : Nat.min es.length (es.length + 1) = es.length := by show min _ _ = _; omega
    rw [hcl] at hl
    simp [Builtin.copy_, run_underlying Try.underlying22, Builtin.lenOf, Builtin.firstCells, sizeOf, typeInfo, hi0, hz1, hmin, hl, hst]
  · refine ⟨by simp, ?_⟩
    have k := owns_setCells (cells es) 0 w _ hrow (by omega)
    rw [Nat.zero_add, List.take_zero, List.nil_append, cells_zero, hcl, List.drop_replicate, show (es.length + 1) * 2 - es.length * 2 = 2 by omega] at k
    unfold Owns
    rw [cells_append, List.length_append]
    exact k
def splitE (n : Int) (es : List Pt) (e : Int) : Int := if netB n es then (if belowB e es.length then (if fitsB (n + 1) ((es.length : Int) + 1) then 0 else 3) else 2) else 1
def splitL (n : Int) (es : List Pt) (e : Nat) : List Pt := ((es ++ [(⟨0, 0⟩ : Pt)]).set e ⟨(at' es e).x, n⟩).set es.length ⟨n, (at' es e).y⟩
theorem splitL_length (n : Int) (es : List Pt) (e : Nat) : (splitL n es e).length = es.length + 1 := by simp [splitL]
def SplitPost (n : Int) (es : List Pt) (e0 : Int) (w : World) (e : Ending) (w' : World) : Prop :=
  (splitE n es e0 = 0 ∧ ∃ g, e = .returned (.tuple #[nv (n + 1) (some ⟨g, 0, none⟩) (es.length + 1) (es.length + 1), .int .i64 0]) ∧ PRow w' w.heap.size g (es.length + 1) (splitL n es e0.toNat)) ∨ (splitE n es e0 ≠ 0 ∧ e = .returned (.tuple #[nv 0 none 0 0, .int .i64 (splitE n es e0)]))
theorem splitE_is {n : Int} {es : List Pt} {e : Int} (h : splitE n es e = 0) : netB n es = true ∧ (0 ≤ e ∧ e < es.length) ∧ n + 1 ≤ 1024 ∧ (es.length : Int) + 1 ≤ 3072 := by
  unfold splitE at h
  by_cases k : netB n es = true
  · rw [if_pos k] at h
    by_cases k2 : belowB e es.length = true
    · rw [if_pos k2] at h
      by_cases k3 : fitsB (n + 1) ((es.length : Int) + 1) = true
      · simp [fitsB] at k3
        exact ⟨k, belowB_is k2, k3.1, by omega⟩
      · rw [if_neg k3] at h; omega
    · rw [if_neg k2] at h; omega
  · rw [if_neg k] at h; omega

end Go.Proofs.Ytobkejnlkjieoaa

namespace Go.Proofs.Ytobkejnlkjieoaa
open Go.RowKit Go.Sort
open Go


theorem cells_lie {w : World} {b off : Nat} {es : List Pt} (hsrc : Lies w b off es) : ∀ j v, (cells es)[j]? = some v → w.cell? ((⟨b, off, none⟩ : Addr).add j) = some v := by
  intro j v hj
  have hjl : j < es.length * 2 := by
    have := (List.getElem?_eq_some_iff.1 hj).1
    rw [cells_length] at this
    exact this
  rw [Go.WideShapes.add_plain]
  rcases Nat.mod_two_eq_zero_or_one j with h | h
  · obtain ⟨i, rfl⟩ : ∃ i, j = i * 2 := ⟨j / 2, by omega⟩
    have k := (cells_at es i (by omega)).1
    rw [k] at hj
    cases hj
    exact (hsrc i (by omega)).1
  · obtain ⟨i, rfl⟩ : ∃ i, j = i * 2 + 1 := ⟨j / 2, by omega⟩
    have k := (cells_at es i (by omega)).2
    rw [k] at hj
    cases hj
    rw [show off + (i * 2 + 1) = off + i * 2 + 1 by omega]
    exact (hsrc i (by omega)).2
theorem grownBy_refl (w : World) (r : Option Nat) : w.grownBy w r := ⟨rfl, rfl, rfl, Nat.le_refl _, fun _ _ _ => rfl⟩
theorem append_prs {w : World} {base : Nat} {v : Value} {l : List Pt} (ho : Owns w base v l) (p : Option Addr) (cap : Nat) (qs : List Pt) (hnil : p = none → cap = 0) (hq : Has w p qs) (hb : base ≤ w.heap.size) (hl : l.length + qs.length ≤ 100000) :
    ∃ v' w', (Builtin.append_ #[22, 22] 22 #[v, .slice p qs.length cap]).run Try.prog w = .ok v' w' ∧ Owns w' base v' (l ++ qs) ∧ w.grownBy w' v.ownBlock := by
  obtain ⟨i0, hi0, hz0, hz1, hz2⟩ := info_parts info60
  cases p with
  | none =>
    have hqs : qs = [] := by
      rcases hq with h | ⟨b, off, h, _⟩
      · exact h
      · cases h
    subst hqs
    rw [hnil rfl]
    exact ⟨v, w, run_append_owned_none (P := Try.prog) (w := w) base 22 22 56 i0 2 Try.underlying22 hi0 v l.length (cells l) ho, by rw [List.append_nil]; exact ho, grownBy_refl _ _⟩
  | some a =>
    have hnews : ∀ j u, (cells qs)[j]? = some u → w.cell? (a.add j) = some u := by
      rcases hq with h | ⟨b, off, h, hL⟩
      · subst h; intro j u hj; simp [cells] at hj
      · cases h; exact cells_lie hL
    obtain ⟨v', w', h1, h2, h3, _⟩ := run_append_own (P := Try.prog) w base 22 22 56 i0 (.agg #[.int .i64 0, .int .i64 0]) 2 16 Try.underlying22 hi0 hz0 hz1 hz2 rfl (by decide) v l.length (cells l) ho a qs.length cap (cells qs) (cells_length qs) hnews (cells_one qs) (by unfold maxLen; omega) (by omega) hb
    refine ⟨v', w', h1, ?_, h3⟩
    unfold Owns
    rw [List.length_append, cells_append]
    exact h2
theorem step_run_append {P : Program} {w : World} {ops : Array Oper} {o : Oper} {a : Act} {K : Act → World → Prop} {Q : Exit → Act → World → Prop} {E : Prop} (hgd : o.guard = none) (s x : Operand) (t : TypeId)
    (ho : o.op = .call { callee := .builtin .append, args := #[s, x], argTypes := #[t, t] }) (ty : TypeId) (hty : o.type = ty) (vs vx v' : Value) (w' : World) (hs : a.eval s = vs) (hx : a.eval x = vx)
    (hr : (Builtin.append_ #[t, t] ty #[vs, vx]).run P w = .ok v' w') (h : K (a.put o.dst v') w') :
    if Region.wanted o (yielded ops a.tmps) = true then Oper.wp P o a w K Q else E := by
  subst hty
  have hw : Region.wanted o (yielded ops a.tmps) = true := by simp [Region.wanted, hgd]
  rw [if_pos hw]
  unfold Oper.wp execOp
  simp only [ho, resolve, invoke, builtin, Sem.run_bind, Sem.run_pure, Result.andThen_ok, List.map_toArray, List.map_cons, List.map_nil, hs, hx, hr]
  exact h
theorem results_c {fn : Func} {p : Tmp} {ty : TypeId} (h : fn.results = #[.cell p ty]) (tmps : Array Value) (P : Program) (w : World) :
    (results fn tmps).run P w = ((asAddr (tmps.getD p undef)).run P w).andThen fun a w₁ => (loadVar ty a).run P w₁ := by
  simp only [results, h]
  simp [Sem.run_bind, Result.andThen]
theorem ret_net1 {fn : Func} {c : Tmp} (hr : fn.results = #[.cell c 24]) {tmps : Array Value} {V : World} {g : Nat} {n : Int} {p : Option Addr} {l k : Nat} (h2 : tmps.getD c undef = .pointer (some ⟨g, 0, none⟩)) (h : NOwn V g n p l k) :
    (results fn tmps).run Try.prog V = .ok (nv n p l k) V := by
  rw [results_c hr, h2, asA, Result.andThen_ok, load24 h]
theorem owns_other {w : World} {b : Nat} {v : Value} {l : List Pt} (h : Owns w b v l) {k i : Nat} (hk : k < b) (u : Value) : Owns (w.setCell ⟨k, i, none⟩ u) b v l := ownsRow_setCell_below h (by exact hk) u
theorem Owns.base {w : World} {b b' : Nat} {v : Value} {l : List Pt} (h : Owns w b v l) (hb : b' ≤ b) : Owns w b' v l := owns_base h hb
def mk : Pt := ⟨-7, 7⟩
theorem mk_lies (W : World) (n : Nat) (hn : n = W.heap.size) : Lies (W.alloc (.cells #[.int .i64 (-7), .int .i64 7] 56)) n 0 [mk] := by
  subst hn
  intro j hj
  simp at hj
  subst hj
  exact ⟨by simp only [at', mk, List.getD_cons_zero]; go_cell, by simp only [at', mk, List.getD_cons_zero]; go_cell⟩
theorem owns_block {w : World} {base : Nat} {v : Value} {l : List Pt} (h : Owns w base v l) (h0 : 0 < l.length) : ∃ g c, v = .slice (some ⟨g, 0, none⟩) l.length c ∧ l.length ≤ c ∧ base ≤ g ∧ g < w.heap.size := by
  obtain ⟨g, c, rfl, h1, h2⟩ := World.ownsRow.form h h0
  obtain ⟨p, c', hv, _, h3, _, _⟩ := Owns.form h
  simp at hv
  exact ⟨g, c, rfl, by rw [hv.2]; exact h3, h1, h2⟩
end Go.Proofs.Ytobkejnlkjieoaa

/- Join, in every world. -/
namespace Go.Proofs.Ytobkejnlkjieoaa
open Go.RowKit Go.Sort
open Go


theorem three_nets (w : World) (n m : Int) (p q : Option Addr) (l k c d : Nat) : ∃ W, W = ((w.alloc (nbx n p l c)).alloc (nbx m q k d)).alloc (nbx 0 none 0 0) ∧ Below w.heap.size w W ∧ NOwn W w.heap.size n p l c ∧ NOwn W (w.heap.size + 1) m q k d ∧ NOwn W (w.heap.size + 1 + 1) 0 none 0 0 := by
  refine ⟨_, rfl, by go_grown, ?_, ?_, ?_⟩
  · exact ⟨by unfold nbx; go_cell, by unfold nbx; go_cell, by unfold nbx; go_cell, by unfold nbx; go_cell⟩
  · exact ⟨by unfold nbx; go_cell, by unfold nbx; go_cell, by unfold nbx; go_cell, by unfold nbx; go_cell⟩
  · exact ⟨by unfold nbx; go_cell, by unfold nbx; go_cell, by unfold nbx; go_cell, by unfold nbx; go_cell⟩
def joinL (n : Int) (a b : List Pt) : List Pt := a ++ b.map fun e => ⟨n + e.x, n + e.y⟩
theorem joinL_length (n : Int) (a b : List Pt) : (joinL n a b).length = a.length + b.length := by simp [joinL]
theorem joinL_more (n : Int) (a b : List Pt) {i : Nat} (hi : i < b.length) : joinL n a (b.take (i + 1)) = joinL n a (b.take i) ++ [⟨n + (at' b i).x, n + (at' b i).y⟩] := by
  unfold joinL
  have e : at' b i = b[i] := by unfold at'; rw [List.getD_eq_getElem?_getD, List.getElem?_eq_getElem hi]; rfl
  rw [List.take_add_one, List.getElem?_eq_getElem hi, e, List.map_append, ← List.append_assoc]
  rfl
theorem wpList_run_append {P : Program} {w : World} {ops : Array Oper} {rest : List Oper} {o : Oper} {a : Act} {Q : Exit → Act → World → Prop} (hgd : o.guard = none) (s x : Operand) (t : TypeId)
    (ho : o.op = .call { callee := .builtin .append, args := #[s, x], argTypes := #[t, t] }) (ty : TypeId) (hty : o.type = ty) (vs vx v' : Value) (w' : World) (hs : a.eval s = vs) (hx : a.eval x = vx)
    (hr : (Builtin.append_ #[t, t] ty #[vs, vx]).run P w = .ok v' w') (h : wpList P ops Q rest (a.put o.dst v') w') : wpList P ops Q (o :: rest) a w := by
  subst hty
  refine wpList_plain hgd fun K hK => ?_
  unfold Oper.wp execOp
  simp only [ho, resolve, invoke, builtin, Sem.run_bind, Sem.run_pure, Result.andThen_ok, List.map_toArray, List.map_cons, List.map_nil, hs, hx, hr]
  exact hK _ _ h
def joinE (n m : Int) (a b : List Pt) : Int := if netB n a && netB m b then (if fitsB (n + m) (a.length + b.length) then 0 else 3) else 1
def JoinPost (n m : Int) (a b : List Pt) (w : World) (e : Ending) (w' : World) : Prop :=
  (joinE n m a b = 0 ∧ ∃ q c, e = .returned (.tuple #[nv (n + m) q (joinL n a b).length c, .int .i64 0]) ∧ Owns w' w.heap.size (.slice q (joinL n a b).length c) (joinL n a b)) ∨ (joinE n m a b ≠ 0 ∧ e = .returned (.tuple #[nv 0 none 0 0, .int .i64 (joinE n m a b)]))
end Go.Proofs.Ytobkejnlkjieoaa

/- The document's Degrees, in every world. -/
/- The document's small functions of a net: From, pair, in every world. -/
namespace Go.Proofs.Ytobkejnlkjieoaa
open Go.RowKit Go.Sort
open Go


/-- The end of an edge that a half-edge leaves. -/
def fromL (es : List Pt) (h : Nat) : Int := if h % 2 = 0 then (at' es (h / 2)).x else (at' es (h / 2)).y
set_option maxHeartbeats 1000000 in
theorem from50 (n : Int) (p : Option Addr) (es : List Pt) (cap h : Nat) (w : World) (hh : Has w p es) (hl : h < 2 * es.length) (hb : es.length ≤ 100000) : Calls Try.prog 34 #[nv n p es.length cap, .int .i64 h] w fun e w' => e = .returned (.int .i64 (fromL es h)) ∧ Below w.heap.size w w' := by
  have hk : h / 2 < es.length := by omega
  rcases hh with h0 | ⟨b, off, rfl, hL⟩
  · subst h0; simp at hk
  obtain ⟨c0, c1⟩ := hL (h / 2) hk
  have zb : b < w.heap.size := block_lt_of_cell c0
  have hd : Int.tdiv (h : Int) 2 = ((h / 2 : Nat) : Int) := by rw [Int.tdiv_eq_ediv_of_nonneg (by omega)]; exact (Int.natCast_ediv h 2).symm
  have hr : Int.tmod (h : Int) 2 = ((h % 2 : Nat) : Int) := by rw [Int.tmod_eq_emod_of_nonneg (by omega)]; exact (Int.natCast_emod h 2).symm
  have HF : Hid (fromL es h = if h % 2 = 0 then (at' es (h / 2)).x else (at' es (h / 2)).y) := rfl
  obtain ⟨x, hx⟩ : ∃ x, at' es (h / 2) = x := ⟨_, rfl⟩
  rw [hx] at c0 c1 HF
  have hr2 : h % 2 < 2 := by omega
  have hkl : h / 2 ≤ 100000 := by omega
  obtain ⟨q, hq⟩ : ∃ q, h / 2 = q := ⟨_, rfl⟩
  obtain ⟨r, hre⟩ : ∃ r, h % 2 = r := ⟨_, rfl⟩
  rw [hq] at c0 c1 hd hk hkl
  rw [hre] at hr HF hr2
  have i1 : (q : Int) < es.length := by omega
  have i2 : (0 : Int) ≤ q := by omega
  clear hx hL hq hre
  have h01 : r = 0 ∨ r = 1 := by omega
  rcases h01 with rfl | rfl
  · go_enter Try.func34, Try.ntmps34
    go_wp2
    go_ret
    exact ⟨retI (by rw [HF.out]; simp), by go_grown⟩
  · go_enter Try.func34, Try.ntmps34
    go_wp2
    go_ret
    exact ⟨retI (by rw [HF.out]; simp), by go_grown⟩
theorem load48 {V : World} {g : Nat} {x y : Int} (q0 : V.cell? ⟨g, 0, none⟩ = some (.int .i64 x)) (q1 : V.cell? ⟨g, 1, none⟩ = some (.int .i64 y)) : (loadVar 56 ⟨g, 0, none⟩).run Try.prog V = .ok (pv x y) V := by
  have l0 : (load ⟨g, 0, none⟩).run Try.prog V = .ok (.int .i64 x) V := by simp [go_sem, q0]
  have l1 : (load ⟨g, 1, none⟩).run Try.prog V = .ok (.int .i64 y) V := by simp [go_sem, q1]
  simp only [loadVar, Sem.run_bind, Try.isAgg56, Result.andThen_ok, if_true, Try.sizeOf56]
  simp only [loadCells, go_sem]
  simp only [Sem.run_bind, Nat.zero_add, l0, l1, Result.andThen_ok, Sem.run_pure]
  rfl
theorem ret_pair {fn : Func} {c : Tmp} (hr : fn.results = #[.cell c 56]) {tmps : Array Value} {V : World} {g : Nat} {x y : Int} (h2 : tmps.getD c undef = .pointer (some ⟨g, 0, none⟩)) (q0 : V.cell? ⟨g, 0, none⟩ = some (.int .i64 x)) (q1 : V.cell? ⟨g, 1, none⟩ = some (.int .i64 y)) :
    (results fn tmps).run Try.prog V = .ok (pv x y) V := by
  rw [results_c hr, h2, asA, Result.andThen_ok, load48 q0 q1]
def prP (p : Pt) : Pt := if p.y < p.x then ⟨p.y, p.x⟩ else p
def parB (es : List Pt) (e : Nat) : Bool := (List.range e).any fun i => decide (prP (at' es i) = prP (at' es e))
theorem parB_no {es : List Pt} {e : Nat} (h : ∀ i, i < e → prP (at' es i) ≠ prP (at' es e)) : parB es e = false := by
  simp only [parB, List.any_eq_false, List.mem_range, decide_eq_true_eq]
  exact h
theorem parB_yes {es : List Pt} {e i : Nat} (hi : i < e) (h : prP (at' es i) = prP (at' es e)) : parB es e = true := by
  simp only [parB, List.any_eq_true, List.mem_range, decide_eq_true_eq]
  exact ⟨i, hi, h⟩
end Go.Proofs.Ytobkejnlkjieoaa

namespace Go.Proofs.Ytobkejnlkjieoaa
open Go.RowKit Go.Sort
open Go


/-- Degrees, half-edge by half-edge. -/
def dgH (es : List Pt) (m : Nat) : Nat → List Int
  | 0 => List.replicate m 0
  | h + 1 => bump (dgH es m h) (fromL es h).toNat
theorem dgH_even (es : List Pt) (m : Nat) : ∀ i, dgH es m (2 * i) = degN es m i
  | 0 => rfl
  | i + 1 => by
    have ih := dgH_even es m i
    rw [show 2 * (i + 1) = 2 * i + 1 + 1 by omega]
    simp only [dgH, degN]
    rw [ih]
    have e1 : fromL es (2 * i) = (at' es i).x := by unfold fromL; rw [if_pos (by omega), show 2 * i / 2 = i by omega]
    have e2 : fromL es (2 * i + 1) = (at' es i).y := by unfold fromL; rw [if_neg (by omega), show (2 * i + 1) / 2 = i by omega]
    rw [e1, e2]
theorem dgH_length (es : List Pt) (m : Nat) : ∀ h, (dgH es m h).length = m
  | 0 => by simp [dgH]
  | h + 1 => by simp [dgH, bump_length, dgH_length es m h]
theorem dgH_in (es : List Pt) (m : Nat) : ∀ h j, j < m → 0 ≤ iat (dgH es m h) j ∧ iat (dgH es m h) j ≤ h
  | 0, j, hj => by simp only [dgH]; rw [iat_replicate _ _ _ hj]; omega
  | h + 1, j, hj => by
    have ih := dgH_in es m h j hj
    have hl := dgH_length es m h
    simp only [dgH]
    rw [bump_at _ _ _ (by omega)]
    split <;> omega
theorem fromL_in {m : Int} {es : List Pt} (hm : netB m es = true) (h : Nat) (hl : h < 2 * es.length) : 0 ≤ fromL es h ∧ fromL es h < m := by
  obtain ⟨_, _, _, hE⟩ := netB_is hm
  have := hE (h / 2) (by omega)
  unfold fromL
  split <;> omega
end Go.Proofs.Ytobkejnlkjieoaa
