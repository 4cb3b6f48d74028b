/- Components: labels that spread along edges, as the document's Parts lays them. -/
import Derived.Test.YtobkejnlkjieoaaZC02
import Derived.Deep.LoopGhost
import Derived.WalkSmall
namespace Go.Proofs.Ytobkejnlkjieoaa
open Go.RowKit Go.Sort
open Go

inductive Conn (es : List Pt) : Nat → Nat → Prop
  | refl (a : Nat) : Conn es a a
  | step {a b c h : Nat} : Conn es a b → h < 2 * es.length → fromL es h = b → toL es h = c → Conn es a c
theorem twin_isW (es : List Pt) (h : Nat) (hl : h < 2 * es.length) : ∃ t, t < 2 * es.length ∧ fromL es t = toL es h ∧ toL es t = fromL es h := by
  by_cases h2 : h % 2 = 0
  · refine ⟨h + 1, by omega, ?_, ?_⟩
    · unfold fromL toL; rw [if_neg (by omega), if_pos h2, show (h + 1) / 2 = h / 2 by omega]
    · unfold fromL toL; rw [if_neg (by omega), if_pos h2, show (h + 1) / 2 = h / 2 by omega]
  · refine ⟨h - 1, by omega, ?_, ?_⟩
    · unfold fromL toL; rw [if_pos (by omega), if_neg h2, show (h - 1) / 2 = h / 2 by omega]
    · unfold fromL toL; rw [if_pos (by omega), if_neg h2, show (h - 1) / 2 = h / 2 by omega]
structure Lab (es : List Pt) (n k s : Nat) (C : List Int) (r : Nat → Nat) (due : Nat → Nat → Prop) : Prop where
  len : C.length = n
  val : ∀ v, v < n → iat C v = -1 ∨ (0 ≤ iat C v ∧ iat C v < k)
  cl : ∀ h u x : Nat, h < 2 * es.length → fromL es h = u → toL es h = x → 0 ≤ iat C u → iat C x = iat C u ∨ (iat C u + 1 = k ∧ due h u)
  con : ∀ v j : Nat, v < n → iat C v = j → Conn es (r j) v ∧ r j ≤ v
  root : ∀ j, j < k → r j < n ∧ iat C (r j) = j
  done : ∀ v, v < s → v < n → 0 ≤ iat C v
  rlt : ∀ j, j < k → r j < s
  inc : ∀ i j, i < j → j < k → r i < r j
theorem iat_putW {l : List Int} {j : Nat} {x : Int} (h : j < l.length) : iat (l.set j x) j = x := by
  unfold iat; rw [List.getD_eq_getElem?_getD, List.getElem?_set_self h]; rfl
theorem iat_put_neW {l : List Int} {j k : Nat} {x : Int} (h : k ≠ j) : iat (l.set j x) k = iat l k := by
  unfold iat; rw [List.getD_eq_getElem?_getD, List.getElem?_set_ne (fun e => h e.symm), List.getD_eq_getElem?_getD]
def NoDue (_ _ : Nat) : Prop := False
def Due (T : List Nat) (_ u : Nat) : Prop := u ∈ T
def DueI (T : List Nat) (v : Nat) (L : List Int) (j h u : Nat) : Prop := u ∈ T ∨ (u = v ∧ ∃ i, j ≤ i ∧ i < L.length ∧ iat L i = h)
variable {es : List Pt} {n k s : Nat} {C : List Int} {r : Nat → Nat}
theorem iat_fill {n v : Nat} {x : Int} (h : v < n) : iat (List.replicate n x) v = x := by unfold iat; simp [List.getD_eq_getElem?_getD, h]
theorem lab_start (n : Nat) (hin : ∀ t, t < 2 * es.length → fromL es t < n) : Lab es n 0 0 (List.replicate n (-1)) r NoDue where
  len := by simp
  val v hv := Or.inl (iat_fill hv)
  cl h u x h1 h2 _ hc := by
    exfalso
    have := hin h h1
    rw [iat_fill (by omega)] at hc
    omega
  con v j hv hj := by
    exfalso
    rw [iat_fill hv] at hj
    omega
  root j hj := by omega
  done v hv := by omega
  rlt j hj := by omega
  inc i j _ hj := by omega
theorem Lab.mono {due due' : Nat → Nat → Prop} (h : Lab es n k s C r due) (hd : ∀ t u : Nat, t < 2 * es.length → fromL es t = u → due t u → due' t u) : Lab es n k s C r due' :=
  { h with cl := fun t u x h1 h2 h3 h4 => (h.cl t u x h1 h2 h3 h4).imp id fun ⟨a, b⟩ => ⟨a, hd t u h1 h2 b⟩ }
theorem Lab.over (h : Lab es n k s C r NoDue) (hs : 0 ≤ iat C s) : Lab es n k (s + 1) C r NoDue :=
  { h with
    done := fun v hv hn => by
      by_cases e : v = s
      · rw [e]; exact hs
      · exact h.done v (by omega) hn
    rlt := fun j hj => Nat.lt_succ_of_lt (h.rlt j hj) }
theorem Lab.begin (h : Lab es n k s C r NoDue) (hsn : s < n) (hs : ¬ 0 ≤ iat C s) : Lab es n (k + 1) (s + 1) (C.set s k) (upd r k s) (Due [s]) := by
  have hl := h.len
  have hneg : iat C s = -1 := by rcases h.val s hsn with h | h; exact h; omega
  have e1 : iat (C.set s k) s = k := iat_putW (by omega)
  have e2 : ∀ v, v ≠ s → iat (C.set s k) v = iat C v := fun v hv => iat_put_neW hv
  refine ⟨by simp [hl], ?_, ?_, ?_, ?_, ?_, ?_, ?_⟩
  · intro v hv
    by_cases hvs : v = s
    · rw [hvs, e1]; right; omega
    · rw [e2 v hvs]; have := h.val v hv; omega
  · intro t u x h1 h2 h3 h4
    by_cases hus : u = s
    · rw [hus, e1]; right; exact ⟨by omega, by simp [Due]⟩
    · rw [e2 u hus] at h4 ⊢
      rcases h.cl t u x h1 h2 h3 h4 with h5 | ⟨_, h5⟩
      · have hxs : x ≠ s := fun e => by rw [e, hneg] at h5; omega
        rw [e2 x hxs]; exact Or.inl h5
      · exact absurd h5 (by simp [NoDue])
  · intro v j hv hj
    by_cases hvs : v = s
    · rw [hvs, e1] at hj
      have : j = k := by omega
      rw [this, upd_same, hvs]
      exact ⟨.refl s, Nat.le_refl s⟩
    · rw [e2 v hvs] at hj
      have hk := h.val v hv
      rw [upd_other _ _ (by omega)]
      exact h.con v j hv hj
  · intro j hj
    by_cases hjk : j = k
    · rw [hjk, upd_same, e1]; exact ⟨hsn, rfl⟩
    · rw [upd_other _ _ hjk]
      have := h.root j (by omega)
      have h2 := h.rlt j (by omega)
      rw [e2 _ (by omega)]
      exact this
  · intro v hv hn
    by_cases hvs : v = s
    · rw [hvs, e1]; omega
    · rw [e2 v hvs]; exact h.done v (by omega) hn
  · intro j hj
    by_cases hjk : j = k
    · rw [hjk, upd_same]; omega
    · rw [upd_other _ _ hjk]; have := h.rlt j (by omega); omega
  · intro i j hij hj
    rw [upd_other _ _ (by omega)]
    by_cases hjk : j = k
    · rw [hjk, upd_same]; exact h.rlt i (by omega)
    · rw [upd_other _ _ hjk]; exact h.inc i j hij (by omega)
theorem Lab.stop {T : List Nat} (h : Lab es n k s C r (Due T)) (hT : T = []) : Lab es n k s C r NoDue := h.mono fun t u _ _ d => by simp [Due, hT] at d
theorem Lab.pop {T : List Nat} {v : Nat} (h : Lab es n k s C r (Due (T ++ [v]))) : Lab es n k s C r (DueI T v (outL es (2 * es.length) v) 0) := h.mono fun t u h1 h2 d => by
  unfold Due at d
  rcases List.mem_append.1 d with d | d
  · exact Or.inl d
  · have : u = v := by simpa using d
    subst this
    obtain ⟨j, hj, e⟩ := outL_mem h1 h2
    exact Or.inr ⟨rfl, j, by omega, hj, e⟩
theorem Lab.shut {T : List Nat} {v : Nat} {L : List Int} {j : Nat} (h : Lab es n k s C r (DueI T v L j)) (hj : L.length ≤ j) : Lab es n k s C r (Due T) := h.mono fun t u _ _ d => by
  rcases d with d | ⟨_, i, h1, h2, _⟩
  · exact d
  · omega
theorem Lab.alike {T : List Nat} {v x j t : Nat} {L : List Int} (h : Lab es n k s C r (DueI T v L j)) (ht : t < 2 * es.length) (hf : fromL es t = v) (hto : toL es t = x) (hv : iat C v + 1 = k) (hx : 0 ≤ iat C x) : iat C x = iat C v := by
  obtain ⟨t', h1, h2, h3⟩ := twin_isW es t ht
  rw [hto] at h2
  rw [hf] at h3
  rcases h.cl t' x v h1 h2 h3 hx with h4 | ⟨h4, _⟩ <;> omega
theorem Lab.skip {T : List Nat} {v x j t : Nat} {L : List Int} (h : Lab es n k s C r (DueI T v L j)) (hL : iat L j = t) (ht : t < 2 * es.length) (hf : fromL es t = v) (hto : toL es t = x) (hv : iat C v + 1 = k) (hx : 0 ≤ iat C x) : Lab es n k s C r (DueI T v L (j + 1)) :=
  { h with
    cl := fun t' u y h1 h2 h3 h4 => by
      rcases h.cl t' u y h1 h2 h3 h4 with h5 | ⟨h5, h6⟩
      · exact Or.inl h5
      · rcases h6 with h6 | ⟨h6, i, h7, h8, h9⟩
        · exact Or.inr ⟨h5, Or.inl h6⟩
        · by_cases hij : i = j
          · left
            rw [hij, hL] at h9
            have : t = t' := by omega
            subst this
            rw [hto] at h3
            have : x = y := by omega
            subst this
            rw [h6]
            exact h.alike ht hf hto hv hx
          · exact Or.inr ⟨h5, Or.inr ⟨h6, i, by omega, h8, h9⟩⟩ }
theorem Lab.label {T : List Nat} {v x j t : Nat} {L : List Int} (h : Lab es n (k + 1) s C r (DueI T v L j)) (hL : iat L j = t) (ht : t < 2 * es.length) (hf : fromL es t = v) (hto : toL es t = x) (hvn : v < n) (hxn : x < n) (hv : iat C v = k) (hx : ¬ 0 ≤ iat C x) : Lab es n (k + 1) s (C.set x k) r (DueI (T ++ [x]) v L (j + 1)) := by
  have hl := h.len
  have hneg : iat C x = -1 := by rcases h.val x hxn with h | h; exact h; omega
  have e1 : iat (C.set x k) x = k := iat_putW (by omega)
  have e2 : ∀ v, v ≠ x → iat (C.set x k) v = iat C v := fun v hv => iat_put_neW hv
  refine ⟨by simp [hl], ?_, ?_, ?_, ?_, ?_, h.rlt, h.inc⟩
  · intro u hu
    by_cases hux : u = x
    · rw [hux, e1]; right; omega
    · rw [e2 u hux]; exact h.val u hu
  · intro t' u y h1 h2 h3 h4
    by_cases hux : u = x
    · rw [hux, e1]; right; exact ⟨by omega, Or.inl (by simp)⟩
    · rw [e2 u hux] at h4 ⊢
      rcases h.cl t' u y h1 h2 h3 h4 with h5 | ⟨h5, h6⟩
      · have hyx : y ≠ x := fun e => by rw [e, hneg] at h5; omega
        rw [e2 y hyx]; exact Or.inl h5
      · rcases h6 with h6 | ⟨h6, i, h7, h8, h9⟩
        · exact Or.inr ⟨h5, Or.inl (by simp [h6])⟩
        · by_cases hij : i = j
          · left
            rw [hij, hL] at h9
            have : t = t' := by omega
            subst this
            rw [hto] at h3
            have : x = y := by omega
            subst this
            rw [e1, h6, hv]
          · exact Or.inr ⟨h5, Or.inr ⟨h6, i, by omega, h8, h9⟩⟩
  · intro u q hu hq
    by_cases hux : u = x
    · rw [hux, e1] at hq
      have : q = k := by omega
      subst this
      rw [hux]
      refine ⟨.step (h.con v _ hvn hv).1 ht hf hto, ?_⟩
      have h5 := h.rlt q (by omega)
      by_cases hxs : x < s
      · exact absurd (h.done x hxs hxn) hx
      · omega
    · rw [e2 u hux] at hq
      exact h.con u q hu hq
  · intro q hq
    have h5 := h.root q hq
    have : r q ≠ x := fun e => by rw [e, hneg] at h5; omega
    rw [e2 _ this]
    exact h5
  · intro u hu hn
    by_cases hux : u = x
    · rw [hux, e1]; omega
    · rw [e2 u hux]; exact h.done u hu hn
/-- How many have no label. -/
def unl (C : List Int) : Nat := C.countP fun x => decide (x < 0)
theorem unl_set : ∀ (C : List Int) (j : Nat) (x : Int), j < C.length → ¬ 0 ≤ iat C j → 0 ≤ x → unl (C.set j x) + 1 = unl C
  | [], j, x, h, _, _ => by simp at h
  | c :: C, 0, x, _, h, hx => by
    have hc : c < 0 := by simpa [iat] using h
    have hx' : ¬ x < 0 := by omega
    simp [unl, hc, hx']
  | c :: C, j + 1, x, hj, h, hx => by
    have ih := unl_set C j x (by simpa using hj) (by simpa [iat] using h) hx
    unfold unl at ih ⊢
    rw [List.set_cons_succ, List.countP_cons, List.countP_cons]
    omega
/-- A net in which what goes along edges goes everywhere has one component. -/
theorem Lab.one (h : Lab es n k n C r NoDue) (hn : 0 < n) (hin : ∀ t, t < 2 * es.length → 0 ≤ fromL es t ∧ fromL es t < n ∧ 0 ≤ toL es t) (hc : ∀ f : Nat → Int, (∀ t u x : Nat, t < 2 * es.length → fromL es t = u → toL es t = x → f x = f u) → ∀ v, v < n → f v = f 0) : k = 1 := by
  have h1 := hc (fun v => iat C v) (fun t u x h1 h2 h3 => by
    have h4 := hin t h1
    rcases h.cl t u x h1 h2 h3 (h.done u (by omega) (by omega)) with h5 | ⟨_, h5⟩
    · exact h5
    · exact absurd h5 (by simp [NoDue]))
  have h0 := h.done 0 hn hn
  have hv := h.val 0 hn
  by_cases hk : k = 1
  · exact hk
  · obtain ⟨a1, a2⟩ := h.root 0 (by omega)
    obtain ⟨b1, b2⟩ := h.root 1 (by omega)
    have c1 := h1 _ a1
    have c2 := h1 _ b1
    omega
end Go.Proofs.Ytobkejnlkjieoaa

/- The document's Parts, with nothing left out, in every world. -/
namespace Go.Proofs.Ytobkejnlkjieoaa
open Go.RowKit Go.Sort
open Go

theorem row_under {w w' : World} {Bt base e size n : Nat} {v : Value} {xs : List Value} (hb : Below Bt w w') (h : w.ownsRow base e size v n xs) (hlt : ∀ k, v.ownBlock = some k → k < Bt) : w'.ownsRow base e size v n xs := by
  obtain ⟨h0, ⟨h1, h2⟩ | ⟨g, cap, cur, h1, h2, h3, h4⟩⟩ := h
  · exact ⟨h0, Or.inl ⟨h1, h2⟩⟩
  · refine ⟨h0, Or.inr ⟨g, cap, cur, h1, h2, ?_, h4⟩⟩
    rw [hb.block g (hlt g (by rw [h1]; rfl))]
    exact h3
theorem Rows.below_set {w : World} {B g n c j : Nat} {rv : Nat → Value} {L : Nat → List Int} {u : Value} (h : Rows w B g n rv L) (hc : c < B) : Rows (w.setCell ⟨c, j, none⟩ u) B g n rv L :=
  ⟨ownsRow_setCell_below h.1 hc _, h.2.1, fun v hv => ownsRow_setCell_below (h.2.2 v hv) hc _⟩
theorem Rows.under {w w' : World} {B Bt g n : Nat} {rv : Nat → Value} {L : Nat → List Int} (h : Rows w B g n rv L) (hb : Below Bt w w') (hg : g < Bt) (hr : ∀ v k, v < n → (rv v).ownBlock = some k → k < Bt) : Rows w' B g n rv L :=
  ⟨row_under hb h.1 (fun k hk => by simp [Value.ownBlock] at hk; omega), h.2.1, fun v hv => row_under hb (h.2.2 v hv) (fun k hk => hr v k hv hk)⟩
theorem Rows.all_lt {w : World} {B g n : Nat} {rv : Nat → Value} {L : Nat → List Int} (h : Rows w B g n rv L) : ∀ v k, v < n → (rv v).ownBlock = some k → k < w.heap.size := fun v k hv hk => (World.ownsRow.lt (h.2.2 v hv) k hk).2
/-- What lies still while the labels spread: the net's box aside. -/
structure PMW (W wr : World) (gc g n Bo Bt : Nat) (rv : Nat → Value) (L : Nat → List Int) (C : List Int) : Prop where
  below : Below W.heap.size W wr
  lab : IRow wr W.heap.size gc n C
  rows : Rows wr Bo g n rv L
  size : Bt ≤ wr.heap.size
structure PF (W : World) (gc g n Bo Bt : Nat) (rv : Nat → Value) : Prop where
  lo : gc < Bo
  bo : Bo ≤ Bt
  hi : g < Bt
  all : ∀ v k, v < n → (rv v).ownBlock = some k → k < Bt
  own : W.heap.size ≤ gc
variable {W wr wr' : World} {gc g n Bo Bt : Nat} {rv : Nat → Value} {L : Nat → List Int} {C : List Int}
theorem PMW.later (h : PMW W wr gc g n Bo Bt rv L C) (hb : Below wr.heap.size wr wr') : PMW W wr' gc g n Bo Bt rv L C :=
  ⟨below_step h.below hb, h.lab.later hb, h.rows.later hb, Nat.le_trans h.size hb.size⟩
theorem PMW.set (h : PMW W wr gc g n Bo Bt rv L C) (f : PF W gc g n Bo Bt rv) (j : Nat) (x : Int) : PMW W (wr.setCell ⟨gc, j, none⟩ (.int .i64 x)) gc g n Bo Bt rv L (C.set j x) :=
  ⟨h.below.setCell f.own _, h.lab.set j x, h.rows.below_set f.lo, by simpa using h.size⟩
theorem PMW.under (h : PMW W wr gc g n Bo Bt rv L C) (f : PF W gc g n Bo Bt rv) (hb : Below Bt wr wr') : PMW W wr' gc g n Bo Bt rv L C :=
  ⟨Below.trans h.below (hb.mono (by have := f.own; have := f.lo; have := f.bo; omega)), ⟨h.lab.1, row_under hb h.lab.2 (fun k hk => by have := f.lo; have := f.bo; simp [Value.ownBlock] at hk; omega)⟩, h.rows.under hb f.hi f.all, Nat.le_trans h.size hb.size⟩
def nums (T : List Nat) : List Int := T.map fun (t : Nat) => (t : Int)
theorem nums_length (T : List Nat) : (nums T).length = T.length := by simp [nums]
theorem nums_more (T : List Nat) (x : Nat) : nums (T ++ [x]) = nums T ++ [(x : Int)] := by simp [nums]
/-- A number behind numbers that are owned: what comes of an append, and that nothing below changes. -/
theorem push_intW {w : World} {B : Nat} {v : Value} {l : List Int} (o : IOwns w B v l) (x : Int) (hB : B ≤ w.heap.size) (hl : l.length ≤ 90000) : ∃ v' w', (Builtin.append_ #[32, 32] 32 #[v, .slice (some ⟨w.heap.size, 0, none⟩) 1 1]).run Try.prog (w.alloc (.cells #[.int .i64 x] 3)) = .ok v' w' ∧ IOwns w' B v' (l ++ [x]) ∧ Below B w w' := by
  have o' : IOwns (w.alloc (.cells #[.int .i64 x] 3)) B v l := o.later (by go_grown)
  obtain ⟨v', w', e1, o1, gr, _⟩ := append_int o' (one_int w x) (by simp; omega) hl
  exact ⟨v', w', e1, o1, below_grown (w := w.alloc (.cells #[.int .i64 x] 3)) (by go_grown) o' (Nat.le_refl _) (by simp; omega) gr⟩
theorem pop_int {w : World} {B b c : Nat} {T : List Nat} {v : Nat} (h : IOwns w B (.slice (some ⟨b, 0, none⟩) (T ++ [v]).length c) (nums (T ++ [v]))) : IOwns w B (.slice (some ⟨b, 0, none⟩) T.length c) (nums T) := by
  unfold IOwns at h ⊢
  rw [nums_length] at h ⊢
  rw [nums_more] at h
  simp only [List.length_append, List.length_cons, List.length_nil, Nat.zero_add] at h
  rw [show icells (nums T ++ [(v : Int)]) = icells (nums T) ++ [.int .i64 v] by simp [icells]] at h
  exact ownsRow_pop (by simp [icells, nums]) h
theorem iowns_blockW {w : World} {base : Nat} {v : Value} {l : List Int} (h : IOwns w base v l) (h0 : 0 < l.length) : ∃ g c, v = .slice (some ⟨g, 0, none⟩) l.length c ∧ l.length ≤ c ∧ base ≤ g ∧ g < w.heap.size := by
  obtain ⟨g, c, rfl, h1, h2⟩ := World.ownsRow.form h h0
  obtain ⟨p, c', hv, _, h3, _, _⟩ := IOwns.form h
  simp at hv
  exact ⟨g, c, rfl, by rw [hv.2]; exact h3, h1, h2⟩
theorem unl_le (C : List Int) : unl C ≤ C.length := List.countP_le_length
def PartsPost (es : List Pt) (n : Nat) (w : World) (e : Ending) (w' : World) : Prop := ∃ (gc k : Nat) (C : List Int) (r : Nat → Nat), e = .returned (.tuple #[.slice (some ⟨gc, 0, none⟩) n n, .int .i64 (k : Int)]) ∧ IRow w' w.heap.size gc n C ∧ Lab es n k n C r NoDue ∧ Below w.heap.size w w'
end Go.Proofs.Ytobkejnlkjieoaa

/- The small functions of package walk: comesTo, refusal; what find does to a tour. -/
namespace Go.Proofs.Ytobkejnlkjieoaa
open Go.RowKit Go.Sort
open Go

set_option maxHeartbeats 1000000 in
theorem comes54W (n : Int) (p : Option Addr) (es : List Pt) (cap h : Nat) (w : World) (hh : Has w p es) (hl : h < 2 * es.length) (hb : es.length ≤ 100000) : Calls Try.prog 73 #[nv n p es.length cap, .int .i64 h] w fun e w' => e = .returned (.int .i64 (toL es h)) ∧ Below w.heap.size w w' := by
  have hk : h / 2 < es.length := by omega
  rcases hh with h0 | ⟨b, off, rfl, hL⟩
  · subst h0; simp at hk
  obtain ⟨c0, c1⟩ := hL (h / 2) hk
  have zb : b < w.heap.size := block_lt_of_cell c0
  have hd : Int.tdiv (h : Int) 2 = ((h / 2 : Nat) : Int) := by rw [Int.tdiv_eq_ediv_of_nonneg (by omega)]; exact (Int.natCast_ediv h 2).symm
  have hr : Int.tmod (h : Int) 2 = ((h % 2 : Nat) : Int) := by rw [Int.tmod_eq_emod_of_nonneg (by omega)]; exact (Int.natCast_emod h 2).symm
  have HF : Hid (toL es h = if h % 2 = 0 then (at' es (h / 2)).y else (at' es (h / 2)).x) := rfl
  obtain ⟨x, hx⟩ : ∃ x, at' es (h / 2) = x := ⟨_, rfl⟩
  rw [hx] at c0 c1 HF
  have hr2 : h % 2 < 2 := by omega
  have hkl : h / 2 ≤ 100000 := by omega
  obtain ⟨q, hq⟩ : ∃ q, h / 2 = q := ⟨_, rfl⟩
  obtain ⟨r, hre⟩ : ∃ r, h % 2 = r := ⟨_, rfl⟩
  rw [hq] at c0 c1 hd hk hkl
  rw [hre] at hr HF hr2
  have i1 : (q : Int) < es.length := by omega
  have i2 : (0 : Int) ≤ q := by omega
  clear hx hL hq hre
  have h01 : r = 0 ∨ r = 1 := by omega
  rcases h01 with rfl | rfl
  · go_enter Try.func73, Try.ntmps73
    go_wp2
    go_ret
    exact ⟨retI (by rw [HF.out]; simp), by go_grown⟩
  · go_enter Try.func73, Try.ntmps73
    go_wp2
    go_ret
    exact ⟨retI (by rw [HF.out]; simp), by go_grown⟩

/-- Why no walk begins at a node. -/
def refI (n : Int) (es : List Pt) (s : Int) : Int := if netB n es then (if s < 0 ∨ n ≤ s then 2 else 0) else 1
set_option maxRecDepth 100000 in
set_option maxHeartbeats 4000000 in
theorem refusal36 (n : Int) (p : Option Addr) (es : List Pt) (cap : Nat) (s : Int) (w : World) (h : Has w p es) : Calls Try.prog 51 #[nv n p es.length cap, .int .i64 s] w fun e w' => e = .returned (.int .i64 (refI n es s)) ∧ Below w.heap.size w w' := by
  obtain ⟨W, hW, hb, a0⟩ := one_net w n p es.length cap
  have M := hide (may13 n p es cap W (h.later hb))
  have HB := hide hb
  have HA := hide a0
  have HR : Hid (refI n es s = if netB n es then (if s < 0 ∨ n ≤ s then 2 else 0) else 1) := rfl
  obtain ⟨q0, q1, _, _⟩ := a0
  clear h hb
  cases hm : netB n es
  · rw [hm] at M HR
    go_enter Try.func51, Try.ntmps51
    go_wp2_with fail
    rw [← hW]
    refine M.out.mono ?_
    rintro e w1 ⟨rfl, hb1⟩
    have HB1 := hide (below_step HB.out hb1)
    clear hb1 hW q0 q1
    go_wp2
    go_ret
    exact ⟨retI (by rw [HR.out]; rfl), HB1.out⟩
  · rw [hm] at M HR
    have hc : (s < 0 ∧ Hid (refI n es s = 2)) ∨ (¬ s < 0 ∧ n ≤ s ∧ Hid (refI n es s = 2)) ∨ (¬ s < 0 ∧ ¬ n ≤ s ∧ Hid (refI n es s = 0)) := by
      by_cases h1 : s < 0
      · exact Or.inl ⟨h1, by show _ = _; rw [HR.out, if_pos rfl, if_pos (Or.inl h1)]⟩
      · by_cases h2 : n ≤ s
        · exact Or.inr (Or.inl ⟨h1, h2, by show _ = _; rw [HR.out, if_pos rfl, if_pos (Or.inr h2)]⟩)
        · exact Or.inr (Or.inr ⟨h1, h2, by show _ = _; rw [HR.out, if_pos rfl, if_neg (by omega)]⟩)
    clear HR
    rcases hc with ⟨h1, HR⟩ | ⟨h1, h2, HR⟩ | ⟨h1, h2, HR⟩
    all_goals
      go_enter Try.func51, Try.ntmps51
      go_wp2_with fail
      rw [← hW]
      refine M.out.mono ?_
      rintro e w1 ⟨rfl, hb1⟩
      have HB1 := hide (below_step HB.out hb1)
      have HA1 := hide (HA.out.later hb1)
      clear hb1 hW q0 q1
      obtain ⟨q0, q1, _, _⟩ := HA1.out
      go_wp2
      go_ret
      exact ⟨retI (by rw [HR.out]), HB1.out⟩
/-- A tour in its box: the nodes found, by which half-edge, how far, and the place where Low goes; the three lists are the call's own, each in a block of its own. -/
structure TB (w : World) (B k n : Nat) (vo : Value) (gb gf : Nat) (vl : Value) (O : List Int) (By Fa : List Int) : Prop where
  box : w.ownsRow 0 60 4 (.slice (some ⟨k, 0, none⟩) 1 1) 1 [vo, .slice (some ⟨gb, 0, none⟩) n n, .slice (some ⟨gf, 0, none⟩) n n, vl]
  ord : IOwns w B vo O
  by_ : IRow w B gb n By
  far : IRow w B gf n Fa
  ne1 : gb ≠ gf
  ne2 : vo.ownBlock ≠ some gb
  ne3 : vo.ownBlock ≠ some gf
end Go.Proofs.Ytobkejnlkjieoaa

/- Of each node the half-edges that leave it: package walk's own. -/
namespace Go.Proofs.Ytobkejnlkjieoaa
open Go.RowKit Go.Sort
open Go

set_option maxRecDepth 100000 in
set_option maxHeartbeats 8000000 in
theorem outs39W (m : Nat) (p : Option Addr) (es : List Pt) (cp : Nat) (w : World) (h : Has w p es) (hm : netB m es = true) : Calls Try.prog 54 #[nv m p es.length cp] w fun e w' => ∃ g rv, e = .returned (.slice (some ⟨g, 0, none⟩) m m) ∧ Rows w' w.heap.size g m rv (outL es (2 * es.length)) ∧ Below w.heap.size w w' := by
  obtain ⟨W, hW, hb, a0⟩ := one_net w m p es.length cp
  obtain ⟨n0, n1, hes, hE⟩ := netB_is hm
  have HEE := hide hE
  have HH := hide (h.later hb)
  have HB := hide hb
  have HA := hide a0
  have hws : w.heap.size < W.heap.size := block_lt_of_cell a0.1
  have hWs : W.heap.size = w.heap.size + 1 := by rw [hW]; simp
  obtain ⟨q0, q1, _, _⟩ := a0
  clear h hb hE
  obtain ⟨i0, hi0, hz0, hz1, hz2⟩ := info_parts info41
  go_enter Try.func54, Try.ntmps54
  go_wp2_with (refine wpList_make_full _ rfl (.tmp 9) (.tmp 9) 29 rfl (w.alloc (nbx m p es.length cp)).heap.size 32 i0 (.slice none 0 0) 1 Try.underlying29 hi0 hz0 hz1 .i64 .i64 _ _ m rfl rfl rfl rfl ?c1 ?c2 ?c3 ?_)
  case c1 => rw [hz2]; omega
  case c2 => unfold maxLen; omega
  case c3 => exact Nat.le_refl _
  intro w2 hown hgrow
  have hgrow' : W.grownBy w2 none := by rw [hW]; exact hgrow
  have HR2 := hide (rows_made es hown)
  have hb2 := below_made hgrow'
  have HB2 := hide hb2
  have HSZ := hide hWs
  clear hown hgrow hgrow' hW hWs q0 q1
  obtain ⟨q0, q1, _, _⟩ := HA.out.later hb2
  clear hb2
  go_wp2_with fail
  obtain ⟨g, hg⟩ : ∃ g, w.heap.size + 1 = g := ⟨_, rfl⟩
  obtain ⟨kb, hkb⟩ : ∃ kb, w.heap.size = kb := ⟨_, rfl⟩
  rw [hg] at HR2 HSZ ⊢
  rw [hkb] at HA hws q0 q1 ⊢
  have HK := hide (And.intro hg hkb)
  clear hg hkb q0 q1
  go_loopw [14] (fun t wr => ∃ i : Nat, i ≤ es.length ∧ t = .int .i64 i ∧ Hid (Below W.heap.size W wr) ∧ Hid (∃ rv, Rows wr g g m rv (outL es (2 * i)))) (fun t _ => es.length - (intOf t).toNat)
  case atStart => exact ⟨0, by omega, rfl, HB2.out, _, HR2.out⟩
  case round =>
    obtain ⟨i, hi, rfl, HBr, HR⟩ := hrel
    by_cases hlt : i < es.length
    · obtain ⟨rv, hrv⟩ := HR.out
      obtain ⟨f0, f1, f2, f3⟩ := HEE.out i hlt
      have hq : ∃ b off, p = some ⟨b, off, none⟩ ∧ Lies W b off es := by
        rcases HH.out with h0 | h0
        · subst h0; simp at hlt
        · exact h0
      obtain ⟨b, off, rfl, hLW⟩ := hq
      obtain ⟨c0, c1⟩ := hLW.later HBr.out i hlt
      have i1 : (i : Int) < es.length := by omega
      have i2 : (0 : Int) ≤ i := by omega
      have nb : b < wr.heap.size := block_lt_of_cell c0
      go_wp2_with fail
      obtain ⟨V, hV⟩ : ∃ V, V = wr.alloc (.cells #[.int .i64 (at' es i).x, .int .i64 (at' es i).y] 56) := ⟨_, rfl⟩
      have hbV : Below wr.heap.size wr V := by rw [hV]; go_grown
      have HBV := hide (below_step HBr.out hbV)
      have HRV := hide (hrv.later hbV)
      rw [← hV]
      clear hV hbV c0 c1 hrv HR HBr
      obtain ⟨kv, hkv⟩ : ∃ kv, wr.heap.size = kv := ⟨_, rfl⟩
      rw [hkv]
      clear hkv nb
      go_loopw [20] (fun t wr => ∃ s : Nat, s ≤ 2 ∧ t = .int .i64 s ∧ Hid (Below W.heap.size W wr) ∧ Hid (∃ rv, Rows wr g g m rv (outL es (2 * i + s)))) (fun t _ => 2 - (intOf t).toNat)
      case atStart => exact ⟨0, by omega, rfl, HBV.out, rv, HRV.out⟩
      case round =>
        clear HBV HRV
        obtain ⟨s, hs, rfl, HBi, HRi⟩ := hrel
        obtain ⟨rv, hRv⟩ := HRi.out
        rcases (by omega : s = 0 ∨ s = 1 ∨ s = 2) with rfl | rfl | rfl
        · rw [Nat.add_zero] at hRv
          have hfx : fromL es (2 * i) = (at' es i).x := by unfold fromL; rw [if_pos (by omega), show 2 * i / 2 = i by omega]
          obtain ⟨x, hx⟩ : ∃ x : Nat, (at' es i).x = x := ⟨(at' es i).x.toNat, by omega⟩
          have hxm : x < m := by omega
          rw [hx] at hfx
          have hD := hide (outL_more es (2 * i) hfx)
          have hL := outL_length es (2 * i) x
          obtain ⟨U, hU⟩ : ∃ U, U = wr.alloc (.cells #[.int .i64 (2 * (i : Int))] 3) := ⟨_, rfl⟩
          have hbU : Below wr.heap.size wr U := by rw [hU]; go_grown
          have hlit : U.cell? ⟨wr.heap.size, 0, none⟩ = some (.int .i64 (2 * (i : Int))) := by rw [hU]; exact one_int _ _
          have hRU := hRv.later hbU
          have hrx := hRU.2.2 x hxm
          obtain ⟨v1, D, e1, o1, gr, at1⟩ := append_int hrx hlit (by have := HBi.out.size; have := hbU.size; have := HSZ.out; omega) (by omega)
          obtain ⟨p1, l1, c1, rfl⟩ : ∃ p1 l1 c1, v1 = .slice p1 l1 c1 := by obtain ⟨p1, c1, h1, _⟩ := o1.form; exact ⟨_, _, _, h1⟩
          have HRD := hide (hRU.put hxm o1 gr at1)
          obtain ⟨hgl, z0, zf⟩ := Rows.slot hRU hxm gr
          have HBD : Hid (Below W.heap.size W (D.setCell ⟨g, x, none⟩ (.slice p1 l1 c1))) := (below_grown (below_step HBi.out hbU) hrx (by have := HSZ.out; omega) (by have := HBi.out.size; have := hbU.size; omega) gr).setCell (by have := HSZ.out; simp; omega) _
          obtain ⟨y0, yf⟩ := hRv.cell hxm
          have IX : ∀ V, (Instr.index 56 (pv (at' es i).x (at' es i).y) (.int .i64 0)).run Try.prog V = .ok (.int .i64 (at' es i).x) V := fun V => by kernel_rfl
          rw [hU] at e1
          have k1 : (x : Int) < m := by omega
          have k2 : (0 : Int) ≤ x := by omega
          have k3 : g ≠ wr.heap.size := by have := hRv.size; omega
          have k4 : g < wr.heap.size := hRv.size.2
          rw [hx] at IX ⊢
          obtain ⟨ay, hay⟩ : ∃ ay, (at' es i).y = ay := ⟨_, rfl⟩
          rw [hay] at IX ⊢
          clear hx hfx hL hU hbU hlit hRU hrx o1 gr at1 hRv HRi hay
          go_wp2_with (at_builtin; refine wpList_run_append rfl (.tmp 29) (.tmp 34) 32 rfl 32 rfl _ _ _ D rfl rfl e1 ?_)
          clear e1 y0 yf IX
          go_wp2
          go_roundw
          case rel => exact ⟨1, by omega, by go_num, HBD.out, _, by rw [show 2 * i + 1 = 2 * i + 1 by omega, hD.out]; exact HRD.out⟩
          case measure => simp [intOf]
        · have hfx : fromL es (2 * i + 1) = (at' es i).y := by unfold fromL; rw [if_neg (by omega), show (2 * i + 1) / 2 = i by omega]
          obtain ⟨x, hx⟩ : ∃ x : Nat, (at' es i).y = x := ⟨(at' es i).y.toNat, by omega⟩
          have hxm : x < m := by omega
          rw [hx] at hfx
          have hD := hide (outL_more es (2 * i + 1) hfx)
          have hL := outL_length es (2 * i + 1) x
          obtain ⟨U, hU⟩ : ∃ U, U = wr.alloc (.cells #[.int .i64 (2 * (i : Int) + 1)] 3) := ⟨_, rfl⟩
          have hbU : Below wr.heap.size wr U := by rw [hU]; go_grown
          have hlit : U.cell? ⟨wr.heap.size, 0, none⟩ = some (.int .i64 (2 * (i : Int) + 1)) := by rw [hU]; exact one_int _ _
          have hRU := hRv.later hbU
          have hrx := hRU.2.2 x hxm
          obtain ⟨v1, D, e1, o1, gr, at1⟩ := append_int hrx hlit (by have := HBi.out.size; have := hbU.size; have := HSZ.out; omega) (by omega)
          obtain ⟨p1, l1, c1, rfl⟩ : ∃ p1 l1 c1, v1 = .slice p1 l1 c1 := by obtain ⟨p1, c1, h1, _⟩ := o1.form; exact ⟨_, _, _, h1⟩
          have HRD := hide (hRU.put hxm o1 gr at1)
          obtain ⟨hgl, z0, zf⟩ := Rows.slot hRU hxm gr
          have HBD : Hid (Below W.heap.size W (D.setCell ⟨g, x, none⟩ (.slice p1 l1 c1))) := (below_grown (below_step HBi.out hbU) hrx (by have := HSZ.out; omega) (by have := HBi.out.size; have := hbU.size; omega) gr).setCell (by have := HSZ.out; simp; omega) _
          obtain ⟨y0, yf⟩ := hRv.cell hxm
          have IX : ∀ V, (Instr.index 56 (pv (at' es i).x (at' es i).y) (.int .i64 1)).run Try.prog V = .ok (.int .i64 (at' es i).y) V := fun V => by kernel_rfl
          rw [hU] at e1
          have k1 : (x : Int) < m := by omega
          have k2 : (0 : Int) ≤ x := by omega
          have k3 : g ≠ wr.heap.size := by have := hRv.size; omega
          have k4 : g < wr.heap.size := hRv.size.2
          rw [hx] at IX ⊢
          obtain ⟨ay, hay⟩ : ∃ ay, (at' es i).x = ay := ⟨_, rfl⟩
          rw [hay] at IX ⊢
          clear hx hfx hL hU hbU hlit hRU hrx o1 gr at1 hRv HRi hay
          go_wp2_with (at_builtin; refine wpList_run_append rfl (.tmp 29) (.tmp 34) 32 rfl 32 rfl _ _ _ D rfl rfl e1 ?_)
          clear e1 y0 yf IX
          go_wp2
          go_roundw
          case rel => exact ⟨2, by omega, by go_num, HBD.out, _, by rw [show 2 * i + 2 = 2 * i + 1 + 1 by omega, hD.out]; exact HRD.out⟩
          case measure => simp [intOf]
        · have HRn := hide hRv
          clear hRv HRi
          go_wp2
          go_roundw
          case rel => exact ⟨i + 1, by omega, by go_num, HBi.out, rv, by rw [show 2 * (i + 1) = 2 * i + 2 by omega]; exact HRn.out⟩
          case measure => simp [intOf]; omega
    · have hin : i = es.length := by omega
      have hlt' : ¬ (i : Int) < es.length := by omega
      rw [hin] at HR
      clear hin
      obtain ⟨rv, hrv⟩ := HR.out
      go_wp2
      go_ret
      refine ⟨g, rfl, ⟨rv, hrv.base ?_⟩, below_step HB.out HBr.out⟩
      have := HK.out
      omega
end Go.Proofs.Ytobkejnlkjieoaa
