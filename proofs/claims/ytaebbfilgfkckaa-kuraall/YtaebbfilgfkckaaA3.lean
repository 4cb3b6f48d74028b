/- Pure: nodes with unlike ends, and what a subdivision has of them. -/
import Derived.Test.YtaebbfilgfkckaaA2
namespace Go.Proofs.Ytaebbfilgfkckaa
open Go.RowKit Go.Sort
open Go
/-- A sum over a list. -/
def sm {α : Type} (f : α → Nat) : List α → Nat
  | [] => 0
  | x :: t => f x + sm f t
theorem sm_perm {α : Type} {f : α → Nat} {a b : List α} (h : a.Perm b) : sm f a = sm f b := by
  induction h with
  | nil => rfl
  | cons x _ ih => simp only [sm, ih]
  | swap x y l => simp only [sm]; omega
  | trans _ _ h1 h2 => exact h1.trans h2
theorem sm_map {α β : Type} (f : β → Nat) (g : α → β) : ∀ l, sm f (l.map g) = sm (fun x => f (g x)) l
  | [] => rfl
  | x :: t => by simp only [List.map_cons, sm, sm_map f g t]
theorem sm_congr {α : Type} {f g : α → Nat} : ∀ {l : List α}, (∀ x ∈ l, f x = g x) → sm f l = sm g l
  | [], _ => rfl
  | x :: t, h => by
    simp only [sm]
    rw [h x List.mem_cons_self, sm_congr fun y hy => h y (List.mem_cons_of_mem _ hy)]
theorem sm_zero {α : Type} {f : α → Nat} : ∀ {l : List α}, (∀ x ∈ l, f x = 0) → sm f l = 0
  | [], _ => rfl
  | x :: t, h => by
    simp only [sm]
    rw [h x List.mem_cons_self, sm_zero fun y hy => h y (List.mem_cons_of_mem _ hy)]
theorem sm_append {α : Type} (f : α → Nat) : ∀ a b : List α, sm f (a ++ b) = sm f a + sm f b
  | [], b => by simp [sm]
  | x :: a, b => by simp only [List.cons_append, sm, sm_append f a b]; omega
theorem perm_of_sub : ∀ (b a : List Int), b.Nodup → (∀ x ∈ b, x ∈ a) → a.length ≤ b.length → a.Perm b
  | [], a, _, _, hl => by
    have : a = [] := List.eq_nil_of_length_eq_zero (by simpa using hl)
    rw [this]
  | x :: b, a, hn, hs, hl => by
    have hx := hs x List.mem_cons_self
    refine (List.perm_cons_erase hx).trans (List.Perm.cons x (perm_of_sub b (a.erase x) (List.nodup_cons.1 hn).2 (fun y hy => ?_) ?_))
    · have : y ≠ x := fun e => (List.nodup_cons.1 hn).1 (e ▸ hy)
      exact (List.mem_erase_of_ne this).2 (hs y (List.mem_cons_of_mem _ hy))
    · rw [List.length_erase_of_mem hx]; simp at hl; omega
theorem sm_sub {h : Int → Nat} : ∀ (a b : List Int), a.Nodup → b.Nodup → (∀ x ∈ a, x ∈ b) → (∀ x ∈ b, x ∉ a → h x = 0) → sm h a = sm h b
  | [], b, _, _, _, hz => (sm_zero fun x hx => hz x hx (by simp)).symm
  | x :: a, b, hn, hb, hs, hz => by
    have hx := hs x List.mem_cons_self
    rw [sm_perm (List.perm_cons_erase hx)]
    simp only [sm]
    rw [sm_sub a (b.erase x) (List.nodup_cons.1 hn).2 (hb.erase x) (fun y hy => ?_) (fun y hy hya => ?_)]
    · have : y ≠ x := fun e => (List.nodup_cons.1 hn).1 (e ▸ hy)
      exact (List.mem_erase_of_ne this).2 (hs y (List.mem_cons_of_mem _ hy))
    · have h1 := (List.Nodup.mem_erase_iff hb).1 hy
      refine hz y h1.2 fun h2 => ?_
      rcases List.mem_cons.1 h2 with e | e
      · exact h1.1 e
      · exact hya e
section
variable {n : Nat} {pk : List Pt}
/-- Where the paths that leave a node come to. -/
def enL (pk : List Pt) (v : Nat) : List Int := (ow pk v).map fun x => endI pk x.toNat
theorem en_length (pk : List Pt) (v : Nat) : (enL pk v).length = (ow pk v).length := List.length_map ..
theorem en_mem {v : Nat} {x : Int} : x ∈ enL pk v ↔ ∃ q : Nat, q < 2 * pk.length ∧ fromL pk q = v ∧ endI pk q = x := by
  unfold enL
  rw [List.mem_map]
  constructor
  · rintro ⟨y, hy, rfl⟩
    obtain ⟨q, h1, h2, rfl⟩ := ow_mem.1 hy
    exact ⟨q, h1, h2, by rw [Int.toNat_natCast]⟩
  · rintro ⟨q, h1, h2, rfl⟩
    exact ⟨q, ow_mem.2 ⟨q, h1, h2, rfl⟩, by rw [Int.toNat_natCast]⟩
/-- From each branch node its paths come to nodes unlike each other, and never to itself. -/
def RG (n : Nat) (pk : List Pt) : Prop := ∀ v : Nat, (v : Int) ∈ brS n pk → (enL pk v).Nodup ∧ (v : Int) ∉ enL pk v
theorem RG.inj (h : RG n pk) {v q p : Nat} (hv : (v : Int) ∈ brS n pk) (hq : q < 2 * pk.length) (hp : p < 2 * pk.length) (fq : fromL pk q = v) (fp : fromL pk p = v) (e : endI pk q = endI pk p) : q = p := by
  obtain ⟨i, hi, ei⟩ := mem_iat (ow_mem.2 ⟨q, hq, fq, rfl⟩)
  obtain ⟨j, hj, ej⟩ := mem_iat (ow_mem.2 ⟨p, hp, fp, rfl⟩)
  have e1 : iat (enL pk v) i = endI pk q := by
    unfold enL
    rw [iat_map _ _ 0 hi]
    show endI pk (iat (ow pk v) i).toNat = _
    rw [ei, Int.toNat_natCast]
  have e2 : iat (enL pk v) j = endI pk p := by
    unfold enL
    rw [iat_map _ _ 0 hj]
    show endI pk (iat (ow pk v) j).toNat = _
    rw [ej, Int.toNat_natCast]
  have := iat_inj (h v hv).1 (i := i) (j := j) (by rw [en_length]; exact hi) (by rw [en_length]; exact hj) (by rw [e1, e2, e])
  rw [this, ej] at ei
  omega
/-- Two half-edges of one node with one end, or one that comes back: no such thing. -/
theorem rg_two {v q p : Nat} (hv : (v : Int) ∈ brS n pk) (hq : q < 2 * pk.length) (hp : p < 2 * pk.length) (fq : fromL pk q = v) (fp : fromL pk p = v) (e : endI pk q = endI pk p) (hne : q ≠ p) : ¬ RG n pk := fun h => hne (h.inj hv hq hp fq fp e)
theorem rg_own {v q : Nat} (hv : (v : Int) ∈ brS n pk) (hq : q < 2 * pk.length) (fq : fromL pk q = v) (e : endI pk q = v) : ¬ RG n pk := fun h => (h v hv).2 (en_mem.2 ⟨q, hq, fq, e⟩)
theorem fol_ne (h : Nat) : folL pk h ≠ [] := fun e => by have := fol_length pk h; rw [e] at this; simp at this
theorem lyR_keep {v : Nat} {P : Pt → List Int} {p : Pt} : ∀ k, P p ≠ [] → lyR pk v P k p ≠ []
  | 0, h => h
  | k + 1, h => by
    show updL _ _ _ p ≠ []
    unfold updL
    by_cases e : p = ⟨(v : Int), endI pk (iat (ow pk v) k).toNat⟩
    · rw [if_pos e]; exact fol_ne _
    · rw [if_neg e]; exact lyR_keep k h
theorem lyR_set {v : Nat} {P : Pt → List Int} : ∀ k j, j < k → lyR pk v P k ⟨(v : Int), endI pk (iat (ow pk v) j).toNat⟩ ≠ []
  | k + 1, j, hj => by
    show updL _ _ _ _ ≠ []
    unfold updL
    by_cases e : (⟨(v : Int), endI pk (iat (ow pk v) j).toNat⟩ : Pt) = ⟨(v : Int), endI pk (iat (ow pk v) k).toNat⟩
    · rw [if_pos e]; exact fol_ne _
    · rw [if_neg e]
      refine lyR_set k j ?_
      have : j ≠ k := fun h => e (by rw [h])
      omega
theorem lyB_keep {br : List Int} {p : Pt} : ∀ d i, lyB pk br i p ≠ [] → lyB pk br (i + d) p ≠ []
  | 0, _, h => h
  | d + 1, i, h => lyR_keep _ (lyB_keep d i h)
theorem wy_ne {u : Nat} (hu : (u : Int) ∈ brS n pk) {x : Int} : wyS n pk ⟨(u : Int), x⟩ ≠ [] ↔ x ∈ enL pk u := by
  constructor
  · intro h
    rcases lyB_is (es := pk) (br := brS n pk) (brS n pk).length ⟨(u : Int), x⟩ with e | ⟨q, h1, _, h3, h4⟩
    · exact absurd e h
    · exact en_mem.2 ⟨q, h1, h3, h4⟩
  · intro h
    obtain ⟨q, h1, h2, h3⟩ := en_mem.1 h
    obtain ⟨j, hj, ej⟩ := mem_iat (ow_mem.2 ⟨q, h1, h2, rfl⟩)
    obtain ⟨i, hi, ei⟩ := mem_iat hu
    have hk : lyB pk (brS n pk) (i + 1) ⟨(u : Int), x⟩ ≠ [] := by
      show lyR pk (iat (brS n pk) i).toNat _ _ _ ≠ []
      rw [ei, Int.toNat_natCast, ← h3]
      have := lyR_set (pk := pk) (v := u) (P := lyB pk (brS n pk) i) (ow pk u).length j hj
      rw [ej, Int.toNat_natCast] at this
      exact this
    have := lyB_keep ((brS n pk).length - (i + 1)) (i + 1) hk
    rw [show i + 1 + ((brS n pk).length - (i + 1)) = (brS n pk).length by omega] at this
    exact this
theorem wy_none {u : Nat} (hu : (u : Int) ∈ brS n pk) {x : Int} (h : x ∉ enL pk u) : wyS n pk ⟨(u : Int), x⟩ = [] := by
  by_cases e : wyS n pk ⟨(u : Int), x⟩ = []
  · exact e
  · exact absurd ((wy_ne hu).1 e) h
theorem wy_val (hg : RG n pk) {u q : Nat} (hu : (u : Int) ∈ brS n pk) (hq : q < 2 * pk.length) (hf : fromL pk q = u) : wyS n pk ⟨(u : Int), endI pk q⟩ = folL pk q := by
  have h := (wy_ne hu).2 (en_mem.2 ⟨q, hq, hf, rfl⟩)
  rcases lyB_is (es := pk) (br := brS n pk) (brS n pk).length ⟨(u : Int), endI pk q⟩ with e | ⟨p, h1, h2, h3, h4⟩
  · exact absurd e h
  · have := hg.inj hu h1 hq h3 hf h4
    rw [this] at h2
    exact h2
/-- Degrees of branch nodes, and who is one. -/
theorem br_deg (hm : netB n pk = true) (hk : kdS n pk ≠ 0) {v : Nat} (hv : (v : Int) ∈ brS n pk) : v < n ∧ (ow pk v).length = if kdS n pk = 5 then 4 else 3 := by
  rcases kd_three (degN pk n pk.length) n with h0 | ⟨h1, _, h3⟩ | ⟨h1, _, h3⟩
  · exact absurd h0 hk
  · unfold brS at hv
    rw [h3] at hv
    obtain ⟨x, e, h4, h5⟩ := ofD_mem.1 hv
    have hx : v = x := by omega
    subst hx
    rw [deg_all hm h4] at h5
    refine ⟨h4, ?_⟩
    rw [if_pos (show kdS n pk = 5 from h1)]; omega
  · unfold brS at hv
    rw [h3] at hv
    obtain ⟨x, e, h4, h5⟩ := ofD_mem.1 hv
    have hx : v = x := by omega
    subst hx
    rw [deg_all hm h4] at h5
    refine ⟨h4, ?_⟩
    rw [if_neg (show ¬ kdS n pk = 5 by unfold kdS; omega)]; omega
theorem br_ne2 (hm : netB n pk = true) (hk : kdS n pk ≠ 0) {v : Nat} (hv : (v : Int) ∈ brS n pk) : (ow pk v).length ≠ 2 := by
  have := (br_deg hm hk hv).2
  split at this <;> omega
theorem br_all (hm : netB n pk = true) (hk : kdS n pk ≠ 0) {v : Nat} (hv : v < n) (h2 : (ow pk v).length ≠ 2) (h0 : 0 < (ow pk v).length) : (v : Int) ∈ brS n pk := by
  obtain ⟨hd, hc⟩ := kd_cnt (D := degN pk n pk.length) (n := n) hk
  have d := hd v hv
  have e := deg_all hm hv
  rw [e] at d
  unfold dgOk at d
  rcases kd_three (degN pk n pk.length) n with h | ⟨h1, _, h3⟩ | ⟨h1, _, h3⟩
  · exact absurd h hk
  · unfold brS
    rw [h3]
    refine ofD_mem.2 ⟨v, rfl, hv, ?_⟩
    rw [e]
    have h4 : iat (degN pk n pk.length) v ≠ 3 := fun e3 => by
      have := cnt_pos hv e3
      omega
    rw [e] at h4
    omega
  · unfold brS
    rw [h3]
    refine ofD_mem.2 ⟨v, rfl, hv, ?_⟩
    rw [e]
    have h4 : iat (degN pk n pk.length) v ≠ 4 := fun e3 => by
      have := cnt_pos hv e3
      omega
    rw [e] at h4
    omega
/-- A path from a branch node comes to a branch node. -/
theorem end_br (hm : netB n pk = true) (hk : kdS n pk ≠ 0) {u q : Nat} (hu : (u : Int) ∈ brS n pk) (hq : q < 2 * pk.length) (hf : fromL pk q = u) : ∃ v : Nat, endI pk q = v ∧ (v : Int) ∈ brS n pk ∧ bk pk q < 2 * pk.length ∧ fromL pk (bk pk q) = v ∧ endI pk (bk pk q) = u ∧ (folL pk (bk pk q)).length = (folL pk q).length := by
  have hb : (ow pk (fromL pk q).toNat).length ≠ 2 := by rw [hf, Int.toNat_natCast]; exact br_ne2 hm hk hu
  obtain ⟨v, e, h1, h2, h3⟩ := end_deg hm hq hb
  obtain ⟨b1, b2, b3, b4⟩ := fol_back hm hq hb
  exact ⟨v, e, br_all hm hk h1 h2 h3, b1, by rw [b2, e], by rw [b3, hf], b4⟩
theorem en_br (hm : netB n pk = true) (hk : kdS n pk ≠ 0) {u : Nat} (hu : (u : Int) ∈ brS n pk) : ∀ x ∈ enL pk u, x ∈ brS n pk := fun x hx => by
  obtain ⟨q, h1, h2, rfl⟩ := en_mem.1 hx
  obtain ⟨v, e, h3, _⟩ := end_br hm hk hu h1 h2
  rw [e]; exact h3
theorem en_sym (hm : netB n pk = true) (hk : kdS n pk ≠ 0) {u v : Nat} (hu : (u : Int) ∈ brS n pk) (h : (v : Int) ∈ enL pk u) : (u : Int) ∈ enL pk v := by
  obtain ⟨q, h1, h2, h3⟩ := en_mem.1 h
  obtain ⟨x, e, _, b1, b2, b3, _⟩ := end_br hm hk hu h1 h2
  have : x = v := by omega
  subst this
  exact en_mem.2 ⟨_, b1, b2, b3⟩
/-- A path gone back is as long. -/
theorem wy_sym (hm : netB n pk = true) (hk : kdS n pk ≠ 0) (hg : RG n pk) {u v : Nat} (hu : (u : Int) ∈ brS n pk) (hv : (v : Int) ∈ brS n pk) : (wyS n pk ⟨(u : Int), v⟩).length = (wyS n pk ⟨(v : Int), u⟩).length := by
  by_cases h : (v : Int) ∈ enL pk u
  · obtain ⟨q, h1, h2, h3⟩ := en_mem.1 h
    obtain ⟨x, e, _, b1, b2, b3, b4⟩ := end_br hm hk hu h1 h2
    have : x = v := by omega
    subst this
    have e1 := wy_val hg hu h1 h2
    have e2 := wy_val hg hv b1 b2
    rw [h3] at e1
    rw [b3] at e2
    rw [e1, e2, b4]
  · rw [wy_none hu h, wy_none hv fun k => h (en_sym hm hk hv k)]
/-- What the document counts: each path from its lesser node. -/
def usR (n : Nat) (pk : List Pt) (u : Int) : Nat := sm (fun v => if u < v then (wyS n pk ⟨u, v⟩).length else 0) (brS n pk)
def usS (n : Nat) (pk : List Pt) : Nat := sm (usR n pk) (brS n pk)
theorem us_row (hm : netB n pk = true) (hk : kdS n pk ≠ 0) (hg : RG n pk) {u : Nat} (hu : (u : Int) ∈ brS n pk) : sm (fun x => if (u : Int) < endI pk x.toNat then (folL pk x.toNat).length else 0) (ow pk u) = usR n pk u := by
  have h1 : sm (fun v => if (u : Int) < v then (wyS n pk ⟨(u : Int), v⟩).length else 0) (enL pk u) = usR n pk u := by
    refine sm_sub _ _ (hg u hu).1 (rise_nodup (br_rise n pk)) (en_br hm hk hu) fun x _ hx => ?_
    rw [wy_none hu hx]
    simp
  rw [← h1]
  unfold enL
  rw [sm_map]
  refine sm_congr fun x hx => ?_
  obtain ⟨q, q1, q2, rfl⟩ := ow_mem.1 hx
  rw [Int.toNat_natCast, wy_val hg hu q1 q2]
end
end Go.Proofs.Ytaebbfilgfkckaa
