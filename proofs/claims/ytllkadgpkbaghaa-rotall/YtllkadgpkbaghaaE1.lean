/- Pure: classes counted by their representatives; orbits of a permutation; what a transposition does to their number. -/
import Derived.ProofKit
namespace Go.Proofs.Ytllkadgpkbaghaa

theorem pig : ∀ (c : Nat) (f : Nat → Nat) (k : Nat), (∀ i, i < k → f i < c) → (∀ i j, i < k → j < k → f i = f j → i = j) → k ≤ c
  | 0, f, k, h, _ => by
    cases k with
    | zero => omega
    | succ k => exact absurd (h 0 (by omega)) (by omega)
  | c + 1, f, k, h, hi => by
    by_cases hx : ∃ i, i < k ∧ f i = c
    · obtain ⟨i0, h0, e0⟩ := hx
      have := pig c (fun j => if j < i0 then f j else f (j + 1)) (k - 1) (fun j hj => by
        show (if j < i0 then f j else f (j + 1)) < c
        split
        · have h1 := h j (by omega)
          have h2 : f j ≠ c := fun e => by have := hi j i0 (by omega) h0 (by omega); omega
          omega
        · have h1 := h (j + 1) (by omega)
          have h2 : f (j + 1) ≠ c := fun e => by have := hi (j + 1) i0 (by omega) h0 (by omega); omega
          omega) (fun i j hi' hj e => by
        have e : (if i < i0 then f i else f (i + 1)) = (if j < i0 then f j else f (j + 1)) := e
        split at e <;> split at e
        · exact hi i j (by omega) (by omega) e
        · have := hi i (j + 1) (by omega) (by omega) e; omega
        · have := hi (i + 1) j (by omega) (by omega) e; omega
        · have := hi (i + 1) (j + 1) (by omega) (by omega) e; omega)
      omega
    · have := pig c f k (fun i hik => by
        have h1 := h i hik
        have h2 : f i ≠ c := fun e => hx ⟨i, hik, e⟩
        omega) hi
      omega

/-- An equivalence on the numbers below N. -/
structure Eqv (N : Nat) (R : Nat → Nat → Prop) : Prop where
  refl : ∀ a, a < N → R a a
  symm : ∀ a b, a < N → b < N → R a b → R b a
  trans : ∀ a b c, a < N → b < N → c < N → R a b → R b c → R a c
/-- One of each class, c in all. -/
structure Reps (N : Nat) (R : Nat → Nat → Prop) (r : Nat → Nat) (c : Nat) : Prop where
  lt : ∀ i, i < c → r i < N
  sep : ∀ i j, i < c → j < c → R (r i) (r j) → i = j
  all : ∀ x, x < N → ∃ i, i < c ∧ R x (r i)
variable {N : Nat} {R R' : Nat → Nat → Prop} {r r' : Nat → Nat} {c c' : Nat}
theorem Reps.le (e : Eqv N R) (h : Reps N R r c) (h' : Reps N R r' c') : c ≤ c' := by
  have hc : ∀ i, ∃ j, i < c → (j < c' ∧ R (r i) (r' j)) := fun i => by
    by_cases hi : i < c
    · obtain ⟨j, hj, e⟩ := h'.all _ (h.lt i hi)
      exact ⟨j, fun _ => ⟨hj, e⟩⟩
    · exact ⟨0, fun h => absurd h hi⟩
  obtain ⟨g, hg⟩ := Classical.axiomOfChoice hc
  refine pig c' g c (fun i hi => (hg i hi).1) fun i j hi hj he => ?_
  obtain ⟨a1, a2⟩ := hg i hi
  obtain ⟨b1, b2⟩ := hg j hj
  have b3 := e.symm _ _ (h.lt j hj) (h'.lt _ b1) b2
  rw [← he] at b3
  exact h.sep i j hi hj (e.trans _ _ _ (h.lt i hi) (h'.lt _ a1) (h.lt j hj) a2 b3)
theorem Reps.uniq (e : Eqv N R) (h : Reps N R r c) (h' : Reps N R r' c') : c = c' := Nat.le_antisymm (h.le e h') (h'.le e h)
theorem Reps.congr (h : Reps N R r c) (hR : ∀ a b, a < N → b < N → (R a b ↔ R' a b)) : Reps N R' r c :=
  ⟨h.lt, fun i j hi hj e => h.sep i j hi hj ((hR _ _ (h.lt i hi) (h.lt j hj)).2 e), fun x hx => by obtain ⟨i, hi, e⟩ := h.all x hx; exact ⟨i, hi, (hR _ _ hx (h.lt i hi)).1 e⟩⟩
theorem Eqv.congr (h : Eqv N R) (hR : ∀ a b, a < N → b < N → (R a b ↔ R' a b)) : Eqv N R' :=
  ⟨fun a ha => (hR a a ha ha).1 (h.refl a ha), fun a b ha hb e => (hR b a hb ha).1 (h.symm a b ha hb ((hR a b ha hb).2 e)), fun a b c ha hb hc e f => (hR a c ha hc).1 (h.trans a b c ha hb hc ((hR a b ha hb).2 e) ((hR b c hb hc).2 f))⟩
/-- An equivalence has representatives. -/
theorem Reps.exist (e : Eqv N R) : ∃ r c, Reps N R r c := by
  suffices H : ∀ k, k ≤ N → ∃ (r : Nat → Nat) (c : Nat), (∀ i, i < c → r i < k) ∧ (∀ i j, i < c → j < c → R (r i) (r j) → i = j) ∧ ∀ x, x < k → ∃ i, i < c ∧ R x (r i) by
    obtain ⟨r, c, h1, h2, h3⟩ := H N (Nat.le_refl _)
    exact ⟨r, c, h1, h2, h3⟩
  intro k
  induction k with
  | zero => exact fun _ => ⟨fun _ => 0, 0, fun i hi => by omega, fun i j hi => by omega, fun x hx => by omega⟩
  | succ k ih =>
    intro hk
    obtain ⟨r, c, h1, h2, h3⟩ := ih (by omega)
    by_cases hx : ∃ i, i < c ∧ R k (r i)
    · refine ⟨r, c, fun i hi => by have := h1 i hi; omega, h2, fun x hxk => ?_⟩
      by_cases hxe : x = k
      · rw [hxe]; exact hx
      · exact h3 x (by omega)
    · refine ⟨fun i => if i < c then r i else k, c + 1, fun i hi => ?_, fun i j hi hj he => ?_, fun x hxk => ?_⟩
      · show (if i < c then r i else k) < k + 1
        split
        · have := h1 i (by omega); omega
        · omega
      · have he : R (if i < c then r i else k) (if j < c then r j else k) := he
        split at he <;> split at he
        · exact h2 i j (by omega) (by omega) he
        · exfalso
          have hb := h1 i (by omega)
          exact hx ⟨i, by omega, e.symm _ _ (by omega) (by omega) he⟩
        · exact absurd ⟨j, by omega, he⟩ hx
        · omega
      · by_cases hxe : x = k
        · refine ⟨c, by omega, ?_⟩
          show R x (if c < c then r c else k)
          rw [if_neg (by omega), hxe]
          exact e.refl k (by omega)
        · obtain ⟨i, hi, hr⟩ := h3 x (by omega)
          refine ⟨i, by omega, ?_⟩
          show R x (if i < c then r i else k)
          rw [if_pos hi]; exact hr
/-- Two classes made one. -/
def Join (R : Nat → Nat → Prop) (p q : Nat) (a b : Nat) : Prop := R a b ∨ ((R p a ∨ R q a) ∧ (R p b ∨ R q b))
theorem Reps.join {p q : Nat} (e : Eqv N R) (h : Reps N R r c) (hp : p < N) (hq : q < N) (hn : ¬ R p q) : ∃ r' c', Reps N (Join R p q) r' c' ∧ c = c' + 1 := by
  obtain ⟨ip, hip, ep⟩ := h.all p hp
  obtain ⟨iq, hiq, eq⟩ := h.all q hq
  have hne : ip ≠ iq := fun e1 => by
    subst e1
    exact hn (e.trans _ _ _ hp (h.lt _ hip) hq ep (e.symm _ _ hq (h.lt _ hip) eq))
  refine ⟨fun i => if i < iq then r i else r (i + 1), c - 1, ⟨fun i hi => ?_, fun i j hi hj he => ?_, fun x hx => ?_⟩, by omega⟩
  · show (if i < iq then r i else r (i + 1)) < N
    split
    · exact h.lt _ (by omega)
    · exact h.lt _ (by omega)
  · obtain ⟨i', hi', hii, hi3⟩ : ∃ i', i' < c ∧ i' ≠ iq ∧ (if i < iq then r i else r (i + 1)) = r i' ∧ i' = (if i < iq then i else i + 1) := by
      split
      · exact ⟨i, by omega, by omega, rfl, rfl⟩
      · exact ⟨i + 1, by omega, by omega, rfl, rfl⟩
    obtain ⟨j', hj', hjj, hj3⟩ : ∃ i', i' < c ∧ i' ≠ iq ∧ (if j < iq then r j else r (j + 1)) = r i' ∧ i' = (if j < iq then j else j + 1) := by
      split
      · exact ⟨j, by omega, by omega, rfl, rfl⟩
      · exact ⟨j + 1, by omega, by omega, rfl, rfl⟩
    have he : Join R p q (if i < iq then r i else r (i + 1)) (if j < iq then r j else r (j + 1)) := he
    rw [hi3.1, hj3.1] at he
    have only : ∀ k, k < c → k ≠ iq → (R p (r k) ∨ R q (r k)) → k = ip := fun k hk hkq hd => by
      rcases hd with hd | hd
      · exact (h.sep ip k hip hk (e.trans _ _ _ (h.lt _ hip) hp (h.lt _ hk) (e.symm _ _ hp (h.lt _ hip) ep) hd)).symm
      · exact absurd (h.sep iq k hiq hk (e.trans _ _ _ (h.lt _ hiq) hq (h.lt _ hk) (e.symm _ _ hq (h.lt _ hiq) eq) hd)).symm hkq
    have hij : i' = j' := by
      rcases he with he | ⟨h1, h2⟩
      · exact h.sep i' j' hi' hj' he
      · rw [only i' hi' hii h1, only j' hj' hjj h2]
    have h5 := hi3.2
    have h6 := hj3.2
    by_cases hi1 : i < iq <;> by_cases hj1 : j < iq <;> simp only [hi1, hj1, if_true, if_false] at h5 h6 <;> omega
  · have pos : ∀ k, k < c → k ≠ iq → ∃ i, i < c - 1 ∧ (if i < iq then r i else r (i + 1)) = r k := fun k hk hkq => by
      by_cases hlt : k < iq
      · exact ⟨k, by omega, by rw [if_pos hlt]⟩
      · exact ⟨k - 1, by omega, by rw [if_neg (by omega), show k - 1 + 1 = k by omega]⟩
    obtain ⟨k, hk, ek⟩ := h.all x hx
    by_cases hkq : k = iq
    · obtain ⟨i, hi, ei⟩ := pos ip hip hne
      refine ⟨i, hi, ?_⟩
      show Join R p q x (if i < iq then r i else r (i + 1))
      rw [ei]
      subst hkq
      exact Or.inr ⟨Or.inr (e.trans _ _ _ hq (h.lt _ hiq) hx eq (e.symm _ _ hx (h.lt _ hiq) ek)), Or.inl ep⟩
    · obtain ⟨i, hi, ei⟩ := pos k hk hkq
      refine ⟨i, hi, ?_⟩
      show Join R p q x (if i < iq then r i else r (i + 1))
      rw [ei]
      exact Or.inl ek

/-- f, k times. -/
def it (f : Nat → Nat) : Nat → Nat → Nat
  | 0, a => a
  | k + 1, a => f (it f k a)
theorem it_add (f : Nat → Nat) (a : Nat) : ∀ j k, it f (j + k) a = it f j (it f k a)
  | 0, k => by rw [Nat.zero_add]; rfl
  | j + 1, k => by rw [show j + 1 + k = (j + k) + 1 by omega]; show f _ = f _; rw [it_add f a j k]
theorem it_one (f : Nat → Nat) (a k : Nat) : it f k (f a) = it f (k + 1) a := by rw [it_add f a k 1]; rfl
def Orb (f : Nat → Nat) (a b : Nat) : Prop := ∃ k, it f k a = b
structure Prm (N : Nat) (f : Nat → Nat) : Prop where
  lt : ∀ a, a < N → f a < N
  inj : ∀ a b, a < N → b < N → f a = f b → a = b
variable {f : Nat → Nat}
theorem Prm.it_lt (h : Prm N f) {a : Nat} (ha : a < N) : ∀ k, it f k a < N
  | 0 => ha
  | k + 1 => h.lt _ (h.it_lt ha k)
theorem Prm.it_inj (h : Prm N f) {a b : Nat} (ha : a < N) (hb : b < N) : ∀ k, it f k a = it f k b → a = b
  | 0, e => e
  | k + 1, e => h.it_inj ha hb k (h.inj _ _ (h.it_lt ha k) (h.it_lt hb k) e)
/-- Each one comes back to itself. -/
theorem Prm.back (h : Prm N f) {a : Nat} (ha : a < N) : ∃ p, 0 < p ∧ it f p a = a := by
  apply Classical.byContradiction
  intro hno
  have := pig N (fun k => it f k a) (N + 1) (fun k _ => h.it_lt ha k) (fun i j _ _ e => by
    have e : it f i a = it f j a := e
    rcases Nat.lt_trichotomy i j with hij | hij | hij
    · exfalso
      rw [show j = i + (j - i) by omega, it_add] at e
      exact hno ⟨j - i, by omega, (h.it_inj ha (h.it_lt ha _) i e).symm⟩
    · exact hij
    · exfalso
      rw [show i = j + (i - j) by omega, it_add] at e
      exact hno ⟨i - j, by omega, h.it_inj (h.it_lt ha _) ha j e⟩)
  omega
theorem it_mul {f : Nat → Nat} {a p : Nat} (e : it f p a = a) : ∀ k, it f (p * k) a = a
  | 0 => rfl
  | k + 1 => by rw [Nat.mul_succ, it_add, e, it_mul e k]
theorem Orb.refl (f : Nat → Nat) (a : Nat) : Orb f a a := ⟨0, rfl⟩
theorem Orb.step (f : Nat → Nat) (a : Nat) : Orb f a (f a) := ⟨1, rfl⟩
theorem Orb.trans {a b c : Nat} (h : Orb f a b) (k : Orb f b c) : Orb f a c := by
  obtain ⟨i, hi⟩ := h
  obtain ⟨j, hj⟩ := k
  exact ⟨j + i, by rw [it_add, hi, hj]⟩
theorem Prm.symm (h : Prm N f) {a b : Nat} (ha : a < N) (k : Orb f a b) : Orb f b a := by
  obtain ⟨i, hi⟩ := k
  obtain ⟨p, hp, e⟩ := h.back ha
  refine ⟨p * i - i, ?_⟩
  have hle : i ≤ p * i := Nat.le_mul_of_pos_left i hp
  rw [← hi, ← it_add, show p * i - i + i = p * i by omega]
  exact it_mul e i
theorem Prm.eqv (h : Prm N f) : Eqv N (Orb f) := ⟨fun a _ => Orb.refl f a, fun _ _ ha _ k => h.symm ha k, fun _ _ _ _ _ _ h k => h.trans k⟩
/-- The least number at which a property of numbers holds. -/
theorem least {P : Nat → Prop} (h : ∃ k, P k) : ∃ k, P k ∧ ∀ j, j < k → ¬ P j := by
  obtain ⟨k, hk⟩ := h
  induction k using Nat.strongRecOn with
  | ind k ih =>
    by_cases hx : ∃ j, j < k ∧ P j
    · obtain ⟨j, hj, pj⟩ := hx
      exact ih j hj pj
    · exact ⟨k, hk, fun j hj pj => hx ⟨j, hj, pj⟩⟩

/-- a and b change places. -/
def sw (a b x : Nat) : Nat := if x = a then b else if x = b then a else x
theorem sw_a (a b : Nat) : sw a b a = b := by simp [sw]
theorem sw_b (a b : Nat) : sw a b b = a := by
  unfold sw
  split <;> simp_all
theorem sw_o {a b x : Nat} (h1 : x ≠ a) (h2 : x ≠ b) : sw a b x = x := by simp [sw, h1, h2]
theorem sw_sw (a b x : Nat) : sw a b (sw a b x) = x := by
  unfold sw
  split
  · split
    · omega
    · simp_all
  · split
    · simp_all
    · simp_all
theorem sw_lt {a b x : Nat} (ha : a < N) (hb : b < N) (hx : x < N) : sw a b x < N := by
  unfold sw
  split
  · exact hb
  · split
    · exact ha
    · exact hx
def swp (f : Nat → Nat) (a b : Nat) (x : Nat) : Nat := f (sw a b x)
theorem swp_swp (f : Nat → Nat) (a b : Nat) : swp (swp f a b) a b = f := by
  funext x
  show f (sw a b (sw a b x)) = f x
  rw [sw_sw]
theorem Prm.swp (h : Prm N f) {a b : Nat} (ha : a < N) (hb : b < N) : Prm N (swp f a b) :=
  ⟨fun x hx => h.lt _ (sw_lt ha hb hx), fun x y hx hy e => by
    have := h.inj _ _ (sw_lt ha hb hx) (sw_lt ha hb hy) e
    rw [← sw_sw a b x, this, sw_sw]⟩
theorem swp_comm (f : Nat → Nat) (a b : Nat) : Go.Proofs.Ytllkadgpkbaghaa.swp f a b = Go.Proofs.Ytllkadgpkbaghaa.swp f b a := by
  funext x
  show f _ = f _
  congr 1
  unfold sw
  split <;> split <;> omega
/-- From a, with a and b's next ones changed, one comes to b, if they are not of one orbit. -/
theorem swp_to (h : Prm N f) {a b : Nat} (hb : b < N) (hn : ¬ Orb f b a) : Orb (swp f a b) a b := by
  obtain ⟨p, ⟨hp, ep⟩, hmin⟩ := least (h.back hb)
  have key : ∀ k, k < p → it (swp f a b) (k + 1) a = it f (k + 1) b := by
    intro k
    induction k with
    | zero => intro _; show f (sw a b a) = f b; rw [sw_a]
    | succ k ih =>
      intro hk
      show f (sw a b (it (swp f a b) (k + 1) a)) = f (it f (k + 1) b)
      rw [ih (by omega), sw_o (fun e => hn ⟨_, e⟩) (fun e => hmin (k + 1) hk ⟨by omega, e⟩)]
  refine ⟨p, ?_⟩
  have := key (p - 1) (by omega)
  rw [show p - 1 + 1 = p by omega] at this
  rw [this, ep]
theorem orb_join (h : Prm N f) {a b : Nat} (ha : a < N) (hb : b < N) (hn : ¬ Orb f a b) {x y : Nat} (hx : x < N) (hy : y < N) : Join (Orb f) a b x y ↔ Orb (swp f a b) x y := by
  have hg := h.swp ha hb
  have hn2 : ¬ Orb f b a := fun e => hn (h.symm hb e)
  have ab : Orb (swp f a b) a b := swp_to h hb hn2
  have ba : Orb (swp f a b) b a := hg.symm ha ab
  have one : ∀ z, Orb (swp f a b) z (f z) := fun z => by
    by_cases h1 : z = a
    · rw [h1]
      refine ab.trans ⟨1, ?_⟩
      show f (sw a b b) = f a
      rw [sw_b]
    · by_cases h2 : z = b
      · rw [h2]
        refine ba.trans ⟨1, ?_⟩
        show f (sw a b a) = f b
        rw [sw_a]
      · refine ⟨1, ?_⟩
        show f (sw a b z) = f z
        rw [sw_o h1 h2]
  have many : ∀ z u, Orb f z u → Orb (swp f a b) z u := fun z u e => by
    obtain ⟨k, rfl⟩ := e
    induction k with
    | zero => exact Orb.refl _ _
    | succ k ih => exact ih.trans (one _)
  constructor
  · rintro (e | ⟨e1, e2⟩)
    · exact many _ _ e
    · have h1 : Orb (swp f a b) a x := by
        rcases e1 with e1 | e1
        · exact many _ _ e1
        · exact ab.trans (many _ _ e1)
      have h2 : Orb (swp f a b) a y := by
        rcases e2 with e2 | e2
        · exact many _ _ e2
        · exact ab.trans (many _ _ e2)
      exact (hg.symm ha h1).trans h2
  · rintro ⟨k, e⟩
    subst e
    clear hy
    induction k with
    | zero => exact Or.inl (Orb.refl _ _)
    | succ k ih =>
      have hz := hg.it_lt hx k
      obtain ⟨z, ez⟩ : ∃ z, it (swp f a b) k x = z := ⟨_, rfl⟩
      have e2 : it (swp f a b) (k + 1) x = f (sw a b z) := by rw [← ez]; rfl
      rw [e2]
      rw [ez] at ih hz
      by_cases h1 : z = a
      · subst h1
        rw [sw_a]
        have hzb : Orb f z z := Orb.refl _ _
        rcases ih with i1 | ⟨i1, _⟩
        · exact Or.inr ⟨Or.inl (h.symm hx i1), Or.inr (Orb.step f b)⟩
        · exact Or.inr ⟨i1, Or.inr (Orb.step f b)⟩
      · by_cases h2 : z = b
        · subst h2
          rw [sw_b]
          rcases ih with i1 | ⟨i1, _⟩
          · exact Or.inr ⟨Or.inr (h.symm hx i1), Or.inl (Orb.step f a)⟩
          · exact Or.inr ⟨i1, Or.inl (Orb.step f a)⟩
        · rw [sw_o h1 h2]
          rcases ih with i1 | ⟨i1, i2⟩
          · exact Or.inl (i1.trans (Orb.step f z))
          · exact Or.inr ⟨i1, i2.imp (fun i => i.trans (Orb.step f z)) (fun i => i.trans (Orb.step f z))⟩
/-- Of one orbit, they are parted. -/
theorem orb_part (h : Prm N f) {a b : Nat} (ha : a < N) (hb : b < N) (hne : a ≠ b) (ho : Orb f a b) : ¬ Orb (swp f a b) a b := by
  have hg := h.swp ha hb
  intro hc
  obtain ⟨j, hj⟩ := hg.symm ha hc
  obtain ⟨k, ek, hmin⟩ := least ho
  have hk0 : 0 < k := by
    rcases Nat.eq_zero_or_pos k with e | e
    · subst e; exact absurd ek hne
    · exact e
  have hna : ∀ i, 0 < i → i ≤ k → it f i a ≠ a := fun i hi hik e => by
    by_cases hik2 : i = k
    · subst hik2; rw [ek] at e; exact hne e.symm
    · refine hmin (k - i) (by omega) ?_
      have : it f k a = it f (k - i) (it f i a) := by rw [← it_add, show k - i + i = k by omega]
      rw [e, ek] at this
      exact this.symm
  have key : ∀ t, ∃ i, 0 < i ∧ i ≤ k ∧ it (swp f a b) t b = it f i a := by
    intro t
    induction t with
    | zero => exact ⟨k, hk0, Nat.le_refl _, ek.symm⟩
    | succ t ih =>
      obtain ⟨i, h1, h2, e⟩ := ih
      have e2 : it (swp f a b) (t + 1) b = f (sw a b (it f i a)) := by rw [← e]; rfl
      by_cases hik : i = k
      · subst hik
        refine ⟨1, by omega, by omega, ?_⟩
        rw [e2, ek, sw_b]
        rfl
      · refine ⟨i + 1, by omega, by omega, ?_⟩
        rw [e2, sw_o (hna i h1 h2) (fun e => hmin i (by omega) e)]
        rfl
  obtain ⟨i, h1, h2, e⟩ := key j
  rw [hj] at e
  exact hna i h1 h2 e.symm
/-- How many orbits there are, when two next ones are changed. -/
theorem orb_less (h : Prm N f) {a b : Nat} (ha : a < N) (hb : b < N) (hn : ¬ Orb f a b) (k : Reps N (Orb f) r c) (k' : Reps N (Orb (swp f a b)) r' c') : c = c' + 1 := by
  obtain ⟨r2, c2, k2, e⟩ := k.join h.eqv ha hb hn
  have k3 := k2.congr (R' := Orb (swp f a b)) fun x y hx hy => orb_join h ha hb hn hx hy
  have := k3.uniq (h.swp ha hb).eqv k'
  omega
theorem orb_more (h : Prm N f) {a b : Nat} (ha : a < N) (hb : b < N) (hne : a ≠ b) (hn : Orb f a b) (k : Reps N (Orb f) r c) (k' : Reps N (Orb (swp f a b)) r' c') : c' = c + 1 := by
  have := orb_less (h.swp ha hb) ha hb (orb_part h ha hb hne hn) k' (by rw [swp_swp]; exact k)
  exact this
end Go.Proofs.Ytllkadgpkbaghaa
