/- Pure: Euler's count of a rotation, edges taken one by one: it is even, not negative, and rises with the edges. -/
import Derived.Test.YtllkadgpkbaghaaE1
namespace Go.Proofs.Ytllkadgpkbaghaa

/-- The twin of a half-edge. -/
def tw (h : Nat) : Nat := if h % 2 = 0 then h + 1 else h - 1
theorem tw_tw (h : Nat) : tw (tw h) = h := by
  unfold tw
  split <;> split <;> omega
theorem tw_div (h : Nat) : tw h / 2 = h / 2 := by
  unfold tw
  split <;> omega
theorem tw_lt {h m : Nat} (hh : h < 2 * m) : tw h < 2 * m := by
  unfold tw
  split <;> omega
theorem tw_even (e : Nat) : tw (2 * e) = 2 * e + 1 := by
  unfold tw
  rw [if_pos (by omega)]
theorem tw_odd (e : Nat) : tw (2 * e + 1) = 2 * e := by
  unfold tw
  rw [if_neg (by omega)]
  omega
theorem tw_inj {a b : Nat} (h : tw a = tw b) : a = b := by rw [← tw_tw a, h, tw_tw]
/-- Twins of the edges that are kept change places. -/
def al (m : Nat) (K : Nat → Bool) (h : Nat) : Nat := if h < 2 * m ∧ K (h / 2) = true then tw h else h
def ph (s : Nat → Nat) (m : Nat) (K : Nat → Bool) (h : Nat) : Nat := s (al m K h)
/-- Joined by kept edges. -/
inductive CK (m : Nat) (nd : Nat → Nat) (K : Nat → Bool) : Nat → Nat → Prop
  | refl (a : Nat) : CK m nd K a a
  | step {a b c h : Nat} : CK m nd K a b → h < 2 * m → K (h / 2) = true → nd h = b → nd (tw h) = c → CK m nd K a c
/-- How many edges are kept. -/
def cn (K : Nat → Bool) : Nat → Nat
  | 0 => 0
  | j + 1 => cn K j + (if K j = true then 1 else 0)
/-- A rotation: of N items, among them the half-edges below 2 m, the next one round the node; each node has an item of its own. -/
structure Rt (m n N : Nat) (s nd st : Nat → Nat) : Prop where
  prm : Prm N s
  half : 2 * m ≤ N
  ndl : ∀ x, x < N → nd x < n
  nds : ∀ x, x < N → nd (s x) = nd x
  one : ∀ x y, x < N → y < N → nd x = nd y → Orb s x y
  stl : ∀ v, v < n → st v < N
  stn : ∀ v, v < n → nd (st v) = v
variable {m n N : Nat} {s nd st : Nat → Nat} {K K' : Nat → Bool} {r r' r1 r2 r3 r4 : Nat → Nat} {c c' F F' : Nat}
theorem al_al (m : Nat) (K : Nat → Bool) (h : Nat) : al m K (al m K h) = h := by
  unfold al
  by_cases h1 : h < 2 * m ∧ K (h / 2) = true
  · rw [if_pos h1, if_pos ⟨tw_lt h1.1, by rw [tw_div]; exact h1.2⟩, tw_tw]
  · rw [if_neg h1, if_neg h1]
theorem al_lt (hN : 2 * m ≤ N) {x : Nat} (hx : x < N) : al m K x < N := by
  unfold al
  split
  · rename_i h
    have := tw_lt h.1
    omega
  · exact hx
theorem ph_prm (H : Rt m n N s nd st) (K : Nat → Bool) : Prm N (ph s m K) :=
  ⟨fun _ hx => H.prm.lt _ (al_lt H.half hx), fun a b ha hb e => by
    have := H.prm.inj _ _ (al_lt H.half ha) (al_lt H.half hb) e
    rw [← al_al m K a, this, al_al]⟩
theorem CK.trans {a b c : Nat} (h : CK m nd K a b) (k : CK m nd K b c) : CK m nd K a c := by
  induction k with
  | refl => exact h
  | step _ h1 h2 h3 h4 ih => exact .step ih h1 h2 h3 h4
theorem CK.one {h : Nat} (h1 : h < 2 * m) (h2 : K (h / 2) = true) : CK m nd K (nd h) (nd (tw h)) := .step (.refl _) h1 h2 rfl rfl
theorem CK.symm {a b : Nat} (h : CK m nd K a b) : CK m nd K b a := by
  induction h with
  | refl => exact .refl _
  | step _ h1 h2 h3 h4 ih =>
    rename_i x y h _
    subst h3 h4
    have := CK.one (nd := nd) (K := K) (h := tw h) (tw_lt h1) (by rw [tw_div]; exact h2)
    rw [tw_tw] at this
    exact this.trans ih
theorem ck_eqv (n m : Nat) (nd : Nat → Nat) (K : Nat → Bool) : Eqv n (CK m nd K) := ⟨fun a _ => .refl a, fun _ _ _ _ h => h.symm, fun _ _ _ _ _ _ h k => h.trans k⟩
theorem al_congr (h : ∀ x, x < m → K x = K' x) : al m K = al m K' := by
  funext x
  unfold al
  by_cases hx : x < 2 * m
  · rw [h (x / 2) (by omega)]
  · rw [if_neg (fun h => hx h.1), if_neg (fun h => hx h.1)]
theorem ph_congr (h : ∀ x, x < m → K x = K' x) : ph s m K = ph s m K' := by
  funext x
  unfold ph
  rw [al_congr h]
theorem ck_mono (h : ∀ x, x < m → K x = true → K' x = true) {a b : Nat} (k : CK m nd K a b) : CK m nd K' a b := by
  induction k with
  | refl => exact .refl _
  | step _ h1 h2 h3 h4 ih => exact .step ih h1 (h _ (by omega) h2) h3 h4
theorem ck_congr (h : ∀ x, x < m → K x = K' x) {a b : Nat} : CK m nd K a b ↔ CK m nd K' a b :=
  ⟨ck_mono fun x hx e => by rw [← h x hx]; exact e, ck_mono fun x hx e => by rw [h x hx]; exact e⟩
theorem cn_congr : ∀ m, (∀ x, x < m → K x = K' x) → cn K m = cn K' m
  | 0, _ => rfl
  | m + 1, h => by
    unfold cn
    rw [cn_congr m (fun x hx => h x (by omega)), h m (by omega)]
/-- One edge more. -/
def mor (K : Nat → Bool) (e : Nat) (x : Nat) : Bool := K x || x == e
theorem mor_e (K : Nat → Bool) (e : Nat) : mor K e e = true := by simp [mor]
theorem mor_o {e x : Nat} (h : x ≠ e) : mor K e x = K x := by simp [mor, h]
theorem cn_mor {e : Nat} (hK : K e = false) : ∀ m, cn (mor K e) m = cn K m + (if e < m then 1 else 0)
  | 0 => by simp [cn]
  | m + 1 => by
    unfold cn
    rw [cn_mor hK m]
    by_cases h : m = e
    · subst h
      rw [mor_e, hK]
      simp
    · rw [mor_o h]
      by_cases h1 : e < m
      · rw [if_pos h1, if_pos (show e < m + 1 by omega)]; omega
      · rw [if_neg h1, if_neg (show ¬ e < m + 1 by omega)]; omega
theorem al_mor {e : Nat} (he : e < m) (hK : K e = false) (x : Nat) : al m K x = al m (mor K e) (sw (2 * e) (2 * e + 1) x) := by
  by_cases h1 : x = 2 * e
  · subst h1
    rw [sw_a]
    unfold al
    rw [if_neg (fun h => by rw [show 2 * e / 2 = e by omega, hK] at h; simp at h), if_pos ⟨by omega, by rw [show (2 * e + 1) / 2 = e by omega, mor_e]⟩, tw_odd]
  · by_cases h2 : x = 2 * e + 1
    · subst h2
      rw [sw_b]
      unfold al
      rw [if_neg (fun h => by rw [show (2 * e + 1) / 2 = e by omega, hK] at h; simp at h), if_pos ⟨by omega, by rw [show 2 * e / 2 = e by omega, mor_e]⟩, tw_even]
    · rw [sw_o h1 h2]
      unfold al
      rw [mor_o (show x / 2 ≠ e by omega)]
theorem ph_mor {e : Nat} (he : e < m) (hK : K e = false) : ph s m K = swp (ph s m (mor K e)) (2 * e) (2 * e + 1) := by
  funext x
  unfold ph swp
  rw [al_mor he hK]
theorem ck_mor {e : Nat} (he : e < m) {a b : Nat} : Join (CK m nd K) (nd (2 * e)) (nd (2 * e + 1)) a b ↔ CK m nd (mor K e) a b := by
  have up : ∀ x y, CK m nd K x y → CK m nd (mor K e) x y := fun x y h => ck_mono (fun z _ hz => by simp [mor, hz]) h
  have pq : CK m nd (mor K e) (nd (2 * e)) (nd (2 * e + 1)) := by
    have := CK.one (nd := nd) (K := mor K e) (h := 2 * e) (m := m) (by omega) (by rw [show 2 * e / 2 = e by omega, mor_e])
    rw [tw_even] at this
    exact this
  constructor
  · rintro (h | ⟨h1, h2⟩)
    · exact up _ _ h
    · have k1 : CK m nd (mor K e) (nd (2 * e)) a := h1.elim (fun h => up _ _ h) (fun h => pq.trans (up _ _ h))
      have k2 : CK m nd (mor K e) (nd (2 * e)) b := h2.elim (fun h => up _ _ h) (fun h => pq.trans (up _ _ h))
      exact k1.symm.trans k2
  · intro h
    induction h with
    | refl => exact Or.inl (.refl _)
    | step _ h1 h2 h3 h4 ih =>
      rename_i b c h _
      by_cases hh : h / 2 = e
      · have hc : CK m nd K (nd (2 * e)) c ∨ CK m nd K (nd (2 * e + 1)) c := by
          rcases (show h = 2 * e ∨ h = 2 * e + 1 by omega) with hx | hx
          · right; rw [← h4, hx, tw_even]; exact .refl _
          · left; rw [← h4, hx, tw_odd]; exact .refl _
        have hb : CK m nd K (nd (2 * e)) b ∨ CK m nd K (nd (2 * e + 1)) b := by
          rcases (show h = 2 * e ∨ h = 2 * e + 1 by omega) with hx | hx
          · left; rw [← h3, hx]; exact .refl _
          · right; rw [← h3, hx]; exact .refl _
        rcases ih with i | ⟨i, _⟩
        · exact Or.inr ⟨hb.imp (fun k => k.trans i.symm) (fun k => k.trans i.symm), hc⟩
        · exact Or.inr ⟨i, hc⟩
      · rw [mor_o hh] at h2
        rcases ih with i | ⟨i, j⟩
        · exact Or.inl (.step i h1 h2 h3 h4)
        · exact Or.inr ⟨i, j.imp (fun k => .step k h1 h2 h3 h4) (fun k => .step k h1 h2 h3 h4)⟩
/-- An edge with two faces is no bridge. -/
theorem two_sides (H : Rt m n N s nd st) {e : Nat} (he : e < m) (hn : ¬ Orb (ph s m (mor K e)) (2 * e) (2 * e + 1)) : CK m nd K (nd (2 * e)) (nd (2 * e + 1)) := by
  have hN := H.half
  have P := ph_prm H (mor K e)
  obtain ⟨p, ⟨hp, ep⟩, hmin⟩ := least (P.back (a := 2 * e) (by omega))
  have key : ∀ k, k < p → CK m nd K (nd (2 * e + 1)) (nd (it (ph s m (mor K e)) (k + 1) (2 * e))) := by
    intro k
    induction k with
    | zero =>
      intro _
      have : it (ph s m (mor K e)) (0 + 1) (2 * e) = s (2 * e + 1) := by
        show s (al m (mor K e) (2 * e)) = _
        unfold al
        rw [if_pos ⟨by omega, by rw [show 2 * e / 2 = e by omega, mor_e]⟩, tw_even]
      rw [this, H.nds _ (by omega)]
      exact .refl _
    | succ k ih =>
      intro hk
      have i := ih (by omega)
      have hlt := P.it_lt (a := 2 * e) (by omega) (k + 1)
      have hx1 : it (ph s m (mor K e)) (k + 1) (2 * e) ≠ 2 * e := fun e => hmin (k + 1) hk ⟨by omega, e⟩
      have hx2 : it (ph s m (mor K e)) (k + 1) (2 * e) ≠ 2 * e + 1 := fun e => hn ⟨_, e⟩
      obtain ⟨x, hx⟩ : ∃ x, it (ph s m (mor K e)) (k + 1) (2 * e) = x := ⟨_, rfl⟩
      have e2 : it (ph s m (mor K e)) (k + 1 + 1) (2 * e) = s (al m (mor K e) x) := by rw [← hx]; rfl
      rw [hx] at i hlt hx1 hx2
      rw [e2, H.nds _ (al_lt hN hlt)]
      unfold al
      by_cases hd : x < 2 * m ∧ mor K e (x / 2) = true
      · rw [if_pos hd]
        have h2 := hd.2
        rw [mor_o (show x / 2 ≠ e by omega)] at h2
        exact .step i hd.1 h2 rfl rfl
      · rw [if_neg hd]
        exact i
  have := key (p - 1) (by omega)
  rw [show p - 1 + 1 = p by omega, ep] at this
  exact this.symm
/-- What an edge more does to faces and components. -/
theorem edge_more (H : Rt m n N s nd st) {e : Nat} (he : e < m) (hK : K e = false) (o : Reps N (Orb (ph s m K)) r1 F) (o' : Reps N (Orb (ph s m (mor K e))) r2 F') (k : Reps n (CK m nd K) r3 c) (k' : Reps n (CK m nd (mor K e)) r4 c') :
    (¬ Orb (ph s m (mor K e)) (2 * e) (2 * e + 1) → F' = F + 1 ∧ c' = c ∧ CK m nd K (nd (2 * e)) (nd (2 * e + 1))) ∧ (Orb (ph s m (mor K e)) (2 * e) (2 * e + 1) → F = F' + 1) ∧ (CK m nd K (nd (2 * e)) (nd (2 * e + 1)) → c' = c) ∧ (¬ CK m nd K (nd (2 * e)) (nd (2 * e + 1)) → c = c' + 1) := by
  have hN := H.half
  have P := ph_prm H (mor K e)
  have hl := H.ndl (2 * e) (by omega)
  have hl2 := H.ndl (2 * e + 1) (by omega)
  have same : CK m nd K (nd (2 * e)) (nd (2 * e + 1)) → c' = c := fun h => by
    refine k'.uniq (ck_eqv n m nd _) (r' := r3) (k.congr fun a b _ _ => ?_)
    rw [← ck_mor he]
    constructor
    · exact fun h => Or.inl h
    · rintro (x | ⟨x, y⟩)
      · exact x
      · have x' : CK m nd K (nd (2 * e)) a := x.elim id fun z => h.trans z
        have y' : CK m nd K (nd (2 * e)) b := y.elim id fun z => h.trans z
        exact x'.symm.trans y'
  rw [ph_mor he hK] at o
  refine ⟨fun h => ?_, fun h => ?_, same, fun h => ?_⟩
  · have h1 := two_sides H he h
    exact ⟨orb_less P (by omega) (by omega) h o' o, same h1, h1⟩
  · exact orb_more P (by omega) (by omega) (by omega) h o' o
  · obtain ⟨r5, c5, k5, e5⟩ := k.join (ck_eqv n m nd K) hl hl2 h
    have := (k5.congr fun a b _ _ => ck_mor he).uniq (ck_eqv n m nd _) k'
    omega
/-- The genus of what is kept. -/
def Gen (m n N : Nat) (s nd : Nat → Nat) (K : Nat → Bool) (g : Nat) : Prop := ∃ r F r' c, Reps N (Orb (ph s m K)) r F ∧ Reps n (CK m nd K) r' c ∧ 2 * c + cn K m = n + F + 2 * g
theorem Gen.at_ (H : Rt m n N s nd st) {g : Nat} (h : Gen m n N s nd K g) (o : Reps N (Orb (ph s m K)) r F) (k : Reps n (CK m nd K) r' c) : 2 * c + cn K m = n + F + 2 * g := by
  obtain ⟨r1, F1, r2, c1, h1, h2, h3⟩ := h
  have e1 := h1.uniq (ph_prm H K).eqv o
  have e2 := h2.uniq (ck_eqv n m nd K) k
  omega
theorem Gen.congr {g : Nat} (h : Gen m n N s nd K g) (hK : ∀ x, x < m → K x = K' x) : Gen m n N s nd K' g := by
  obtain ⟨r1, F1, r2, c1, h1, h2, h3⟩ := h
  rw [ph_congr hK] at h1
  rw [cn_congr m hK] at h3
  exact ⟨r1, F1, r2, c1, h1, h2.congr fun a b _ _ => ck_congr hK, h3⟩
theorem Gen.none (H : Rt m n N s nd st) (hK : ∀ x, x < m → K x = false) : Gen m n N s nd K 0 := by
  have ha : ∀ x, al m K x = x := fun x => by
    unfold al
    rw [if_neg]
    intro h
    rw [hK _ (by omega)] at h
    simp at h
  have hp : ph s m K = s := by
    funext x
    unfold ph
    rw [ha]
  have hnd : ∀ x y, x < N → Orb s x y → nd y = nd x := fun x y hx e => by
    obtain ⟨k, rfl⟩ := e
    induction k with
    | zero => rfl
    | succ k ih => exact (H.nds _ (H.prm.it_lt hx k)).trans ih
  have hc : ∀ a b, CK m nd K a b → a = b := fun a b h => by
    cases h with
    | refl => rfl
    | step _ h1 h2 _ _ => rw [hK _ (by omega)] at h2; simp at h2
  have hz : ∀ j, j ≤ m → cn K j = 0 := by
    intro j
    induction j with
    | zero => intro _; rfl
    | succ j ih =>
      intro hj
      unfold cn
      rw [ih (by omega), hK j (by omega)]
      rfl
  refine ⟨st, n, id, n, ?_, ?_, by rw [hz m (Nat.le_refl _)]; omega⟩
  · rw [hp]
    refine ⟨H.stl, fun i j hi hj e => ?_, fun x hx => ⟨nd x, H.ndl x hx, H.one _ _ hx (H.stl _ (H.ndl x hx)) (H.stn _ (H.ndl x hx)).symm⟩⟩
    have := hnd _ _ (H.stl i hi) e
    rw [H.stn i hi, H.stn j hj] at this
    exact this.symm
  · exact ⟨fun i hi => hi, fun i j _ _ e => hc _ _ e, fun x hx => ⟨x, hx, .refl _⟩⟩
/-- The genus stays, or rises by one, with an edge more; it rises just if the edge is on one face alone, and its ends were joined. -/
theorem Gen.more (H : Rt m n N s nd st) {e g : Nat} (he : e < m) (hK : K e = false) (h : Gen m n N s nd K g) : ∃ g', Gen m n N s nd (mor K e) g' ∧ ((Orb (ph s m (mor K e)) (2 * e) (2 * e + 1) ∧ CK m nd K (nd (2 * e)) (nd (2 * e + 1))) → g' = g + 1) ∧ (¬ (Orb (ph s m (mor K e)) (2 * e) (2 * e + 1) ∧ CK m nd K (nd (2 * e)) (nd (2 * e + 1))) → g' = g) := by
  obtain ⟨r1, F, r3, c, h1, h2, h3⟩ := h
  obtain ⟨r2, F', o'⟩ := Reps.exist (ph_prm H (mor K e)).eqv
  obtain ⟨r4, c', k'⟩ := Reps.exist (ck_eqv n m nd (mor K e))
  obtain ⟨q1, q2, q3, q4⟩ := edge_more H he hK h1 o' h2 k'
  have hcn := cn_mor hK m
  rw [if_pos he] at hcn
  by_cases hO : Orb (ph s m (mor K e)) (2 * e) (2 * e + 1)
  · have a1 := q2 hO
    by_cases hC : CK m nd K (nd (2 * e)) (nd (2 * e + 1))
    · have a2 := q3 hC
      exact ⟨g + 1, ⟨r2, F', r4, c', o', k', by omega⟩, fun _ => rfl, fun h => absurd ⟨hO, hC⟩ h⟩
    · have a2 := q4 hC
      exact ⟨g, ⟨r2, F', r4, c', o', k', by omega⟩, fun h => absurd h.2 hC, fun _ => rfl⟩
  · obtain ⟨a1, a2, _⟩ := q1 hO
    exact ⟨g, ⟨r2, F', r4, c', o', k', by omega⟩, fun h => absurd h.1 hO, fun _ => rfl⟩
theorem Gen.exist (H : Rt m n N s nd st) (K : Nat → Bool) : ∃ g, Gen m n N s nd K g := by
  suffices A : ∀ j, j ≤ m → ∃ g, Gen m n N s nd (fun x => K x && decide (x < j)) g by
    obtain ⟨g, h⟩ := A m (Nat.le_refl _)
    exact ⟨g, h.congr fun x hx => by simp [hx]⟩
  intro j
  induction j with
  | zero => exact fun _ => ⟨0, Gen.none H fun x _ => by simp⟩
  | succ j ih =>
    intro hj
    obtain ⟨g, h⟩ := ih (by omega)
    by_cases hK : K j = true
    · obtain ⟨g', h', _⟩ := h.more H (e := j) (by omega) (by simp)
      refine ⟨g', h'.congr fun x _ => ?_⟩
      by_cases hx : x = j
      · subst hx; rw [mor_e]; simp [hK]
      · rw [mor_o hx]
        show (K x && decide (x < j)) = (K x && decide (x < j + 1))
        rw [show decide (x < j + 1) = decide (x < j) from decide_eq_decide.2 (by omega)]
    · refine ⟨g, h.congr fun x _ => ?_⟩
      by_cases hx : x = j
      · subst hx; simp [hK]
      · show (K x && decide (x < j)) = (K x && decide (x < j + 1))
        rw [show decide (x < j + 1) = decide (x < j) from decide_eq_decide.2 (by omega)]
theorem Gen.uniq (H : Rt m n N s nd st) {g g' : Nat} (h : Gen m n N s nd K g) (h' : Gen m n N s nd K g') : g = g' := by
  obtain ⟨r1, F, r3, c, h1, h2, h3⟩ := h'
  have := h.at_ H h1 h2
  omega
/-- Fewer edges, no greater genus. -/
theorem Gen.mono (H : Rt m n N s nd st) {g g' : Nat} (hle : ∀ x, x < m → K x = true → K' x = true) (h : Gen m n N s nd K g) (h' : Gen m n N s nd K' g') : g ≤ g' := by
  suffices A : ∀ j, j ≤ m → ∃ g2, g ≤ g2 ∧ Gen m n N s nd (fun x => K x || (K' x && decide (x < j))) g2 by
    obtain ⟨g2, h2, h3⟩ := A m (Nat.le_refl _)
    have := (h3.congr (K' := K') fun x hx => by
      have := hle x hx
      cases h : K x
      · simp [hx]
      · simp [this h]).uniq H h'
    omega
  intro j
  induction j with
  | zero => exact fun _ => ⟨g, Nat.le_refl _, h.congr fun x _ => by simp⟩
  | succ j ih =>
    intro hj
    obtain ⟨g2, h2, h3⟩ := ih (by omega)
    have other : ∀ x, x ≠ j → (K x || (K' x && decide (x < j))) = (K x || (K' x && decide (x < j + 1))) := fun x hx => by
      rw [show decide (x < j + 1) = decide (x < j) from decide_eq_decide.2 (by omega)]
    by_cases hK : K j = false ∧ K' j = true
    · obtain ⟨g3, h4, h5, h6⟩ := h3.more H (e := j) (by omega) (by simp [hK.1])
      refine ⟨g3, ?_, h4.congr fun x _ => ?_⟩
      · by_cases hx : (Orb (ph s m (mor (fun x => K x || (K' x && decide (x < j))) j)) (2 * j) (2 * j + 1) ∧ CK m nd (fun x => K x || (K' x && decide (x < j))) (nd (2 * j)) (nd (2 * j + 1)))
        · have := h5 hx; omega
        · have := h6 hx; omega
      · by_cases hx : x = j
        · subst hx; rw [mor_e]; simp [hK.2]
        · rw [mor_o hx]; exact other x hx
    · refine ⟨g2, h2, h3.congr fun x _ => ?_⟩
      by_cases hx : x = j
      · subst hx
        cases h1 : K x
        · cases h2 : K' x
          · simp
          · exact absurd ⟨h1, h2⟩ hK
        · simp
      · exact other x hx
end Go.Proofs.Ytllkadgpkbaghaa
